/- What is proved here: parts of the proof: Rge Rpb Rpo Rgv Rwo Rfm. -/
import Derived.Test.YtkecnihgjepfeaaGreatJ05
import Derived.WalkSpells
import Derived.Deep.DeepCutAuto
import Derived.Deep.QuietTactic
import Derived.BigQuiet
namespace Go.Proofs.YtkecnihgjepfeaaGreat
open Go.RowKit
set_option linter.unusedVariables false
set_option linter.unusedSimpArgs false
set_option maxHeartbeats 8000000
set_option maxRecDepth 20000
theorem row_fil {n hd:Nat} {g:Nat->Msg} {l:List Msg} (hh:hd<n) (h:∀ k,k<n->g ((hd+k) % n)=l.getD k zM):(List.range n).map g=fil n hd l:=by
 refine cel_ext (hd:=hd) (by rw [fil_len];simp) (by simpa using hh) fun k hk=>?_
 have hk' : k<n:=by simpa using hk
 rw [cel_fil l hh hk',<-h k hk']
 have hm:(hd+k) % n<n:=Nat.mod_lt _ (by omega)
 simp [cel,List.getD,hm]
structure RB (W:World) (p:Nat) (A:Option Addr) (n c:Nat) (hd sz:Int):Prop where
 lt:p<W.heap.size
 c0:W.cell? ⟨p,0,none⟩=some (.slice A n c)
 c1:W.cell? ⟨p,1,none⟩=some (.int .i64 hd)
 c2:W.cell? ⟨p,2,none⟩=some (.int .i64 sz)
 fr:∀ o,W.frozen? ⟨p,o,none⟩=false
section
variable {W W' : World} {p n c:Nat} {A:Option Addr} {hd sz:Int}
theorem MRow.ls' {q m cap:Nat} {f:Nat->Msg} {l:List Msg} (h:MRow W q m f) (hl:(List.range m).map f=l) (hc:m<=cap) (hm:cap<=maxLen):Ls W W.heap.size (.slice (some ⟨q,0,none⟩) m cap) l:=by
 rw [<-hl];exact h.ls m cap (nLR _) hc hm
end
def RP (w:World) (cs:List Msg) (hd sz x:Int) (e:Ending) (w' : World):Prop:=∃ A c,e=.returned (.tuple #[.agg #[.slice A cs.length c,.int .i64 hd,.int .i64 sz],.int .i64 x])/\Nw w.heap.size A/\Ls w' w'.heap.size (.slice A cs.length c) cs/\Below w.heap.size w w'
structure PbAt (w:World) (p q r:Nat) (A:Option Addr) (n c:Nat) (hd sz:Int) (M:Msg) (W:World):Prop where
 rb:RB W p A n c hd sz
 ms:MAt W q M.nth M.bd
 rs:RB W r none 0 0 0 0
 bel:Below w.heap.size w W
 old:w.heap.size<=p/\p<q/\q<r
section
variable {w W W' : World} {p q r n c:Nat} {A:Option Addr} {hd sz:Int} {M:Msg}
end
noncomputable def pbC (cs:List Msg) (hd sz:Int) (M:Msg):List Msg:=if puE cs hd sz M=0 then fil cs.length hd.toNat (ord cs hd.toNat sz.toNat++[M]) else []
attribute [local go_sem ↓] Go.wp_at_zero Go.wp_at_succ
structure PoAt (w:World) (p r s:Nat) (A:Option Addr) (n c:Nat) (hd sz:Int) (W:World):Prop where
 rb:RB W p A n c hd sz
 rs:RB W r none 0 0 0 0
 ms:MAt W s zM.nth zM.bd
 bel:Below w.heap.size w W
 old:w.heap.size<=p/\p<r/\r<s
section
variable {w W W' : World} {p r s n c:Nat} {A:Option Addr} {hd sz:Int}
end
def RMP (w:World) (cs:List Msg) (hd sz:Int) (X:Msg) (x:Int) (e:Ending) (w' : World):Prop:=∃ A c,e=.returned (.tuple #[.agg #[.slice A cs.length c,.int .i64 hd,.int .i64 sz],X.v,.int .i64 x])/\Nw w.heap.size A/\Ls w' w'.heap.size (.slice A cs.length c) cs/\Below w.heap.size w w'
def nwC (k:Int):List Msg:=if wi k 1 12=true then (List.range k.toNat).map (fun _=>zM) else []
def nwE (k:Int):Int:=if wi k 1 12=true then 0 else 1
theorem new_end {w:World} {o:Obj} {cs:Array Value} {t:TypeId} {k:Nat} {l:List Msg} (h:MRow ((w.alloc o).alloc (.cells cs t)) (w.alloc o).heap.size k (fun _=>zM)) (hl:l=(List.range k).map (fun _=>zM)) (hk:k<=maxLen):Ls ((w.alloc o).alloc (.cells cs t)) ((w.alloc o).alloc (.cells cs t)).heap.size (.slice (some ⟨w.heap.size+1,0,none⟩) k k) l:=by
 have e:(w.alloc o).heap.size=w.heap.size+1:=by simp
 rw [e] at h
 exact h.ls' hl.symm (nLR _) hk
theorem gnew_any (k:Int) (w:World):Calls Tryz.prog 73 #[.int .i64 k] w (RP w (nwC k) 0 0 (nwE k)):=by
 have hcs:∀ (x lo hi:Int) (k:Bool),wi x lo hi=k->Hid (∀ w,Calls Tryz.prog 108 #[.int .i64 x,.int .i64 lo,.int .i64 hi] w fun e w'=>e=.returned (.bool k)/\w=w'):=fun x lo hi k h=>Lh (fun w=>by rw [<-h];exact gwithin_any x lo hi w)
 have HB0:=Lh ((Below.refl w.heap.size w).alloc (nLR _) (.cells #[.slice none 0 0,.int .i64 0,.int .i64 0] 66))
 cases h:wi k 1 12 with
 | false=>
  have H:=hcs _ _ _ _ h
  have HC:=Lh (show nwC k=[] from if_neg (by simp [h]))
  have HE:=Lh (show nwE k=1 from if_neg (by simp [h]))
  clear hcs h
  go_enter Tryz.func73,Tryz.ntmps73
  go_wp2_with fail
  refine (H.out _).mono ?_
  rintro e w1 ⟨rfl,rfl⟩
  go_wp2
  exact bodyPost_ret (v:=.tuple #[.agg #[.slice none 0 0,.int .i64 0,.int .i64 0],.int .i64 1]) (by simp only [results,Tryz.results73];go_simp <;> rfl) rfl ⟨none,0,by rw [HC.out,HE.out];rfl,nw_none,by rw [HC.out];exact Ls.nil,HB0.out⟩
 | true=>
  have H:=hcs _ _ _ _ h
  obtain ⟨k1,k2⟩:=wi_of h
  obtain ⟨k,rfl⟩:=Int.eq_ofNat_of_zero_le (show 0<=k by omega)
  have HC:=Lh (show nwC (k:Int)=(List.range k).map (fun _=>zM) from if_pos h)
  have HE:=Lh (show nwE (k:Int)=0 from if_pos h)
  have hmk:=run_make_msgs k (by omega)
  have hlen:(nwC (k:Int)).length=k:=by rw [HC.out];simp
  have HLN:=Lh hlen
  have HM:=Lh (MRow.made (w.alloc (.cells #[.slice (some ⟨w.heap.size+1,0,none⟩) k k,.int .i64 0,.int .i64 0] 66)) k 79)
  have HKM:=Lh (show k<=maxLen by unfold maxLen;omega)
  clear hcs h hlen
  go_enter Tryz.func73,Tryz.ntmps73
  go_wp2_with fail
  refine (H.out _).mono ?_
  rintro e w1 ⟨rfl,rfl⟩
  go_wp2
  exact bodyPost_ret (v:=.tuple #[.agg #[.slice (some ⟨w.heap.size+1,0,none⟩) k k,.int .i64 0,.int .i64 0],.int .i64 0]) (by simp only [results,Tryz.results73];go_simp <;> rfl) rfl ⟨some ⟨w.heap.size+1,0,none⟩,k,by rw [HLN.out,HE.out],nw_some (by omega),by rw [HLN.out];exact new_end HM.out HC.out HKM.out,((Below.refl _ _).alloc (nLR _) _).alloc (by simp) _⟩
def Gd (l:List Msg):Prop:=(∀ M∈l,vf M=0)/\¬dupP l
section
variable {n hd:Nat} {l:List Msg}
theorem rgV_fil (h1:1<=n) (h2:n<=12) (hh:hd<n) (hl:l.length<=n) (hg:Gd l):rgV (fil n hd l) (hd:Int) (l.length:Int)=0:=by
 refine rgV_ok (nm_mk (by rw [fil_len];omega)) (fun k hk hlt=>?_) ?_ ?_
 ·rw [fil_len] at hlt
  simp only [Int.toNat_natCast] at hk ⊢
  rw [cel_fil l hh hlt,List.getD_eq_getElem?_getD,List.getElem?_eq_none hk]
  rfl
 ·simp only [Int.toNat_natCast]
  rw [ord_fil l hh hl]
  exact fe_all hg.1
 ·simp only [Int.toNat_natCast]
  rw [ord_fil l hh hl]
  exact hg.2
theorem lsF_fil (h1:1<=n) (h2:n<=12) (hh:hd<n) (hl:l.length<=n) (hg:Gd l):lsF (fil n hd l) (hd:Int) (l.length:Int)=l:=by
 unfold lsF
 rw [if_pos (rgV_fil h1 h2 hh hl hg)]
 simp only [Int.toNat_natCast]
 exact ord_fil l hh hl
theorem gd_nil:Gd []:=⟨by simp,by rintro ⟨i,j,hi,_⟩;simp at hi⟩
end
theorem nwC_fil {k:Nat} (h1:1<=k) (h2:k<=12) (hd:Nat) (hh:hd<k):nwC (k:Int)=fil k hd []/\nwE (k:Int)=0:=by
 have h:wi (k:Int) 1 12=true:=wi_true (by omega) (by omega)
 unfold nwC nwE
 rw [if_pos h,if_pos h]
 exact ⟨row_fil hh (fun j _=>by simp),rfl⟩
structure WoAt (w:World) (p r s y z:Nat) (n cap:Nat) (hd sz:Int) (X:Msg) (f:Nat->Msg) (W:World):Prop where
 po:PoAt w p r s (some ⟨z,0,none⟩) n cap hd sz W
 my:MAt W y X.nth X.bd
 row:MRow W z n f
 old:s<y/\y<z
section
variable {w W W' : World} {p r s y z n cap:Nat} {hd sz:Int} {X:Msg} {f:Nat->Msg}
end
attribute [local go_sem ↓] Go.wp_at_zero Go.wp_at_succ
theorem dup_pair (l:List Msg):¬dupP l↔l.Pairwise (fun a b=>a.id≠b.id):=by
 rw [List.pairwise_iff_getElem]
 constructor
 ·intro h i j hi hj hij e;exact h ⟨i,j,hi,hj,hij,e⟩
 ·rintro h ⟨i,j,hi,hj,hij,e⟩;exact h i j hi hj hij e
theorem gd_sub {l m:List Msg} (hs:List.Sublist m l) (hg:Gd l):Gd m:=
 ⟨fun M hM=>hg.1 M (hs.subset hM),(dup_pair m).2 (((dup_pair l).1 hg.2).sublist hs)⟩
section
variable {n hd:Nat} {l:List Msg}
end
end Go.Proofs.YtkecnihgjepfeaaGreat
