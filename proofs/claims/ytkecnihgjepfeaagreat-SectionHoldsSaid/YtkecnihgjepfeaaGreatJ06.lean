/- What is proved here: parts of the proof: Rpb Rpo Rgv Rwo Rfm Hpd. -/
import Derived.Test.YtkecnihgjepfeaaGreatJ05
import Derived.WalkSpells
import Derived.Deep.DeepCutAuto
import Derived.Deep.QuietTactic
import Derived.BigQuiet
import Derived.ProofKit
namespace Go.Proofs.YtkecnihgjepfeaaGreat
open Go.RowKit
set_option linter.unusedVariables false
set_option linter.unusedSimpArgs false
set_option maxHeartbeats 8000000
set_option maxRecDepth 20000
structure PbAt (w:World) (p q r:Nat) (A:Option Addr) (n c:Nat) (hd sz:Int) (M:Msg) (W:World):Prop where
 rb:RB W p A n c hd sz
 ms:MAt W q M.nth M.bd
 rs:RB W r none 0 0 0 0
 bel:Below w.heap.size w W
 old:w.heap.size<=p/\p<q/\q<r
section
variable {w W W' : World} {p q r n c:Nat} {A:Option Addr} {hd sz:Int} {M:Msg}
end
noncomputable def pbC (cs:List Msg) (hd sz:Int) (M:Msg):List Msg:=if puE cs hd sz M=0 then fil cs.length hd.toNat (ord cs hd.toNat sz.toNat++[M]) else []
attribute [local go_sem ↓] Go.wp_at_zero Go.wp_at_succ
structure PoAt (w:World) (p r s:Nat) (A:Option Addr) (n c:Nat) (hd sz:Int) (W:World):Prop where
 rb:RB W p A n c hd sz
 rs:RB W r none 0 0 0 0
 ms:MAt W s zM.nth zM.bd
 bel:Below w.heap.size w W
 old:w.heap.size<=p/\p<r/\r<s
section
variable {w W W' : World} {p r s n c:Nat} {A:Option Addr} {hd sz:Int}
end
def RMP (w:World) (cs:List Msg) (hd sz:Int) (X:Msg) (x:Int) (e:Ending) (w' : World):Prop:=∃ A c,e=.returned (.tuple #[.agg #[.slice A cs.length c,.int .i64 hd,.int .i64 sz],X.v,.int .i64 x])/\Nw w.heap.size A/\Ls w' w'.heap.size (.slice A cs.length c) cs/\Below w.heap.size w w'
def nwC (k:Int):List Msg:=if wi k 1 12=true then (List.range k.toNat).map (fun _=>zM) else []
def nwE (k:Int):Int:=if wi k 1 12=true then 0 else 1
theorem new_end {w:World} {o:Obj} {cs:Array Value} {t:TypeId} {k:Nat} {l:List Msg} (h:MRow ((w.alloc o).alloc (.cells cs t)) (w.alloc o).heap.size k (fun _=>zM)) (hl:l=(List.range k).map (fun _=>zM)) (hk:k<=maxLen):Ls ((w.alloc o).alloc (.cells cs t)) ((w.alloc o).alloc (.cells cs t)).heap.size (.slice (some ⟨w.heap.size+1,0,none⟩) k k) l:=by
 have e:(w.alloc o).heap.size=w.heap.size+1:=by simp
 rw [e] at h
 exact h.ls' hl.symm (nLR _) hk
theorem gnew_any (k:Int) (w:World):Calls Tryz.prog 73 #[.int .i64 k] w (RP w (nwC k) 0 0 (nwE k)):=by
 have hcs:∀ (x lo hi:Int) (k:Bool),wi x lo hi=k->Hid (∀ w,Calls Tryz.prog 108 #[.int .i64 x,.int .i64 lo,.int .i64 hi] w fun e w'=>e=.returned (.bool k)/\w=w'):=fun x lo hi k h=>Lh (fun w=>by rw [<-h];exact gwithin_any x lo hi w)
 have HB0:=Lh ((Below.refl w.heap.size w).alloc (nLR _) (.cells #[.slice none 0 0,.int .i64 0,.int .i64 0] 66))
 cases h:wi k 1 12 with
 | false=>
  have H:=hcs _ _ _ _ h
  have HC:=Lh (show nwC k=[] from if_neg (by simp [h]))
  have HE:=Lh (show nwE k=1 from if_neg (by simp [h]))
  clear hcs h
  go_enter Tryz.func73,Tryz.ntmps73
  go_wp2_with fail
  refine (H.out _).mono ?_
  rintro e w1 ⟨rfl,rfl⟩
  go_wp2
  exact bodyPost_ret (v:=.tuple #[.agg #[.slice none 0 0,.int .i64 0,.int .i64 0],.int .i64 1]) (by simp only [results,Tryz.results73];go_simp <;> rfl) rfl ⟨none,0,by rw [HC.out,HE.out];rfl,nw_none,by rw [HC.out];exact Ls.nil,HB0.out⟩
 | true=>
  have H:=hcs _ _ _ _ h
  obtain ⟨k1,k2⟩:=wi_of h
  obtain ⟨k,rfl⟩:=Int.eq_ofNat_of_zero_le (show 0<=k by omega)
  have HC:=Lh (show nwC (k:Int)=(List.range k).map (fun _=>zM) from if_pos h)
  have HE:=Lh (show nwE (k:Int)=0 from if_pos h)
  have hmk:=run_make_msgs k (by omega)
  have hlen:(nwC (k:Int)).length=k:=by rw [HC.out];simp
  have HLN:=Lh hlen
  have HM:=Lh (MRow.made (w.alloc (.cells #[.slice (some ⟨w.heap.size+1,0,none⟩) k k,.int .i64 0,.int .i64 0] 66)) k 79)
  have HKM:=Lh (show k<=maxLen by unfold maxLen;omega)
  clear hcs h hlen
  go_enter Tryz.func73,Tryz.ntmps73
  go_wp2_with fail
  refine (H.out _).mono ?_
  rintro e w1 ⟨rfl,rfl⟩
  go_wp2
  exact bodyPost_ret (v:=.tuple #[.agg #[.slice (some ⟨w.heap.size+1,0,none⟩) k k,.int .i64 0,.int .i64 0],.int .i64 0]) (by simp only [results,Tryz.results73];go_simp <;> rfl) rfl ⟨some ⟨w.heap.size+1,0,none⟩,k,by rw [HLN.out,HE.out],nw_some (by omega),by rw [HLN.out];exact new_end HM.out HC.out HKM.out,((Below.refl _ _).alloc (nLR _) _).alloc (by simp) _⟩
def Gd (l:List Msg):Prop:=(∀ M∈l,vf M=0)/\¬dupP l
section
variable {n hd:Nat} {l:List Msg}
theorem rgV_fil (h1:1<=n) (h2:n<=12) (hh:hd<n) (hl:l.length<=n) (hg:Gd l):rgV (fil n hd l) (hd:Int) (l.length:Int)=0:=by
 refine rgV_ok (nm_mk (by rw [fil_len];omega)) (fun k hk hlt=>?_) ?_ ?_
 ·rw [fil_len] at hlt
  simp only [Int.toNat_natCast] at hk ⊢
  rw [cel_fil l hh hlt,List.getD_eq_getElem?_getD,List.getElem?_eq_none hk]
  rfl
 ·simp only [Int.toNat_natCast]
  rw [ord_fil l hh hl]
  exact fe_all hg.1
 ·simp only [Int.toNat_natCast]
  rw [ord_fil l hh hl]
  exact hg.2
theorem lsF_fil (h1:1<=n) (h2:n<=12) (hh:hd<n) (hl:l.length<=n) (hg:Gd l):lsF (fil n hd l) (hd:Int) (l.length:Int)=l:=by
 unfold lsF
 rw [if_pos (rgV_fil h1 h2 hh hl hg)]
 simp only [Int.toNat_natCast]
 exact ord_fil l hh hl
theorem gd_nil:Gd []:=⟨by simp,by rintro ⟨i,j,hi,_⟩;simp at hi⟩
end
theorem nwC_fil {k:Nat} (h1:1<=k) (h2:k<=12) (hd:Nat) (hh:hd<k):nwC (k:Int)=fil k hd []/\nwE (k:Int)=0:=by
 have h:wi (k:Int) 1 12=true:=wi_true (by omega) (by omega)
 unfold nwC nwE
 rw [if_pos h,if_pos h]
 exact ⟨row_fil hh (fun j _=>by simp),rfl⟩
structure WoAt (w:World) (p r s y z:Nat) (n cap:Nat) (hd sz:Int) (X:Msg) (f:Nat->Msg) (W:World):Prop where
 po:PoAt w p r s (some ⟨z,0,none⟩) n cap hd sz W
 my:MAt W y X.nth X.bd
 row:MRow W z n f
 old:s<y/\y<z
section
variable {w W W' : World} {p r s y z n cap:Nat} {hd sz:Int} {X:Msg} {f:Nat->Msg}
end
attribute [local go_sem ↓] Go.wp_at_zero Go.wp_at_succ
theorem dup_pair (l:List Msg):¬dupP l↔l.Pairwise (fun a b=>a.id≠b.id):=by
 rw [List.pairwise_iff_getElem]
 constructor
 ·intro h i j hi hj hij e;exact h ⟨i,j,hi,hj,hij,e⟩
 ·rintro h ⟨i,j,hi,hj,hij,e⟩;exact h i j hi hj hij e
theorem gd_sub {l m:List Msg} (hs:List.Sublist m l) (hg:Gd l):Gd m:=
 ⟨fun M hM=>hg.1 M (hs.subset hM),(dup_pair m).2 (((dup_pair l).1 hg.2).sublist hs)⟩
section
variable {n hd:Nat} {l:List Msg}
end
end Go.Proofs.YtkecnihgjepfeaaGreat
namespace Go.Proofs.YtkecnihgjepfeaaGreat
set_option linter.unusedVariables false
set_option linter.unusedSimpArgs false
set_option maxHeartbeats 8000000
set_option maxRecDepth 20000
structure Du where
 dl:Int
 id:Int
def zD:Du:=⟨0,0⟩
def bef (a b:Du):Bool:=decide (a.dl<b.dl\/(a.dl=b.dl/\a.id<b.id))
theorem bef_iff {a b:Du}:bef a b=true↔a.dl<b.dl\/(a.dl=b.dl/\a.id<b.id):=by unfold bef;exact decide_eq_true_iff
theorem bef_no {a b:Du}:bef a b=false↔b.dl<a.dl\/(b.dl=a.dl/\b.id<=a.id):=by
 rw [<-Bool.not_eq_true,bef_iff];omega
theorem bef_irr (a:Du):bef a a=false:=bef_no.2 (by omega)
def ge (h:List Du) (i:Nat):Du:=h.getD i zD
def swp (h:List Du) (i k:Nat):List Du:=(h.set i (ge h k)).set k (ge h i)
theorem swp_len (h:List Du) (i k:Nat):(swp h i k).length=h.length:=by simp [swp]
def Hp (h:List Du):Prop:=∀ j,0<j->j<h.length->bef (ge h j) (ge h ((j - 1) / 2))=false
def upF (h:List Du) (i:Nat):List Du:=
 if hc:0<i/\bef (ge h i) (ge h ((i - 1) / 2))=true then upF (swp h i ((i - 1) / 2)) ((i - 1) / 2) else h
termination_by i
decreasing_by omega
def chF (h:List Du) (i:Nat):Nat:=if 2*i+2<h.length/\bef (ge h (2*i+2)) (ge h (2*i+1))=true then 2*i+2 else 2*i+1
theorem chF_lt {h:List Du} {i:Nat} (hi:2*i+1<h.length):i<chF h i/\chF h i<h.length:=by
 unfold chF
 split
 ·rename_i hc;omega
 ·omega
def dnF (h:List Du) (i:Nat):List Du:=
 if hc:2*i+1<h.length/\bef (ge h (chF h i)) (ge h i)=true then dnF (swp h i (chF h i)) (chF h i) else h
termination_by h.length - i
decreasing_by
 have:=chF_lt hc.1
 rw [swp_len]
 omega
def UpOk (h:List Du) (i:Nat):Prop:=(∀ j,0<j->j<h.length->j≠i->bef (ge h j) (ge h ((j - 1) / 2))=false)/\∀ j,0<j->j<h.length->(j - 1) / 2=i->0<i->bef (ge h j) (ge h ((i - 1) / 2))=false
def DnOk (h:List Du) (i:Nat):Prop:=(∀ j,0<j->j<h.length->(j - 1) / 2≠i->bef (ge h j) (ge h ((j - 1) / 2))=false)/\∀ j,0<j->j<h.length->(j - 1) / 2=i->0<i->bef (ge h j) (ge h ((i - 1) / 2))=false
theorem ge_take {h:List Du} {n j:Nat} (hj:j<n):ge (h.take n) j=ge h j:=by
 unfold ge
 rw [List.getD_eq_getElem?_getD,List.getD_eq_getElem?_getD,List.getElem?_take,if_pos hj]
def cuF (h:List Du) (i:Nat):List Du:=
 if i=h.length - 1 then h.take (h.length - 1)
 else if 0<i/\bef (ge ((h.take (h.length - 1)).set i (ge h (h.length - 1))) i) (ge ((h.take (h.length - 1)).set i (ge h (h.length - 1))) ((i - 1) / 2))=true then upF ((h.take (h.length - 1)).set i (ge h (h.length - 1))) i
 else dnF ((h.take (h.length - 1)).set i (ge h (h.length - 1))) i
def hpu (h:List Du) (d:Du):List Du:=upF (h++[d]) h.length
theorem ge_mem {h:List Du} {d:Du} (hd:d∈h):∃ j,j<h.length/\ge h j=d:=by
 obtain ⟨j,hj,e⟩:=List.getElem_of_mem hd
 exact ⟨j,hj,by unfold ge;rw [List.getD_eq_getElem?_getD,List.getElem?_eq_getElem hj];exact e⟩
theorem mem_ge {h:List Du} {j:Nat} (hj:j<h.length):ge h j∈h:=by
 unfold ge
 rw [List.getD_eq_getElem?_getD,List.getElem?_eq_getElem hj]
 exact List.getElem_mem hj
def snd (d:Du):Bool:=decide (0<=d.dl/\d.dl<=1073741824/\1<=d.id/\d.id<=1073741824)
def dupD (h:List Du):Prop:=∃ (i j:Nat),i<j/\j<h.length/\(ge h i).id=(ge h j).id
open Classical in
noncomputable def vaF (h:List Du):Int:=
 if 12<h.length then 2 else if ¬(∀ j,j<h.length->snd (ge h j)=true) then 1 else if dupD h then 10 else if ¬Hp h then 11 else 0
theorem vaF_zero {h:List Du} (e:vaF h=0):h.length<=12/\(∀ j,j<h.length->snd (ge h j)=true)/\¬dupD h/\Hp h:=by
 unfold vaF at e
 by_cases h1:12<h.length
 ·rw [if_pos h1] at e;exact absurd e (by decide)
 ·rw [if_neg h1] at e
  by_cases h2:∀ j,j<h.length->snd (ge h j)=true
  ·rw [if_neg (by simpa using h2)] at e
   by_cases h3:dupD h
   ·rw [if_pos h3] at e;exact absurd e (by decide)
   ·rw [if_neg h3] at e
    by_cases h4:Hp h
    ·exact ⟨by omega,h2,h3,h4⟩
    ·rw [if_pos h4] at e;exact absurd e (by decide)
  ·rw [if_pos h2] at e;exact absurd e (by decide)
theorem vaF_ok {h:List Du} (h1:h.length<=12) (h2:∀ j,j<h.length->snd (ge h j)=true) (h3:¬dupD h) (h4:Hp h):vaF h=0:=by
 unfold vaF
 rw [if_neg (by omega),if_neg (by simpa using h2),if_neg h3,if_neg (by simpa using h4)]
theorem dupD_iff (h:List Du):¬dupD h↔(h.map Du.id).Nodup:=by
 rw [List.nodup_iff_pairwise_ne,List.pairwise_map,List.pairwise_iff_getElem]
 have e:∀ i (hi:i<h.length),ge h i=h[i]:=fun i hi=>by unfold ge;rw [List.getD_eq_getElem?_getD,List.getElem?_eq_getElem hi];rfl
 constructor
 ·intro k i j hi hj hij he;exact k ⟨i,j,hij,hj,by rw [e i hi,e j hj];exact he⟩
 ·rintro k ⟨i,j,hij,hj,he⟩;exact k i j (by omega) hj hij (by rw [<-e i (by omega),<-e j hj];exact he)
theorem snd_iff (h:List Du):(∀ j,j<h.length->snd (ge h j)=true)↔∀ d∈h,snd d=true:=
 ⟨fun k d hd=>by obtain ⟨j,hj,rfl⟩:=ge_mem hd;exact k j hj,fun k j hj=>k _ (mem_ge hj)⟩
end Go.Proofs.YtkecnihgjepfeaaGreat
