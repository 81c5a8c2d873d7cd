/- What is proved here: slices.Clone of messages: a row of the call's own that reads the same; ring.PushBack by a contract; ring.PushFront by a contract; (plain) a ring and two results in blocks of the call's own; ring.New by a contract; (plain) a ring that is filled with valid messages of different IDs is valid; what pushes onto it give. -/
import Derived.Test.YtncgbldcjfbknaaGreatJ06
import Derived.WalkSpells
namespace Go.Proofs.YtncgbldcjfbknaaGreat
open Go.RowKit
set_option linter.unusedVariables false
def ClP (w:World) (l:List Msg) (e:Ending) (w' : World):Prop:=∃ q cap,e=.returned (.slice (some ⟨q,0,none⟩) l.length cap)∧l.length≤cap∧cap≤maxLen∧w.heap.size≤q∧MRow w' q l.length (fun i=>l.getD i zM)∧Below w.heap.size w w'
theorem MRow.of_own {W:World} {base q n cap:Nat} {e:TypeId} {l:List Msg} (h:W.ownsRow base e 7 (.slice (some ⟨q,0,none⟩) n cap) n (lcs l)):MRow W q n (fun i=>l.getD i zM):=by
 refine ⟨?_,fun k hk j hj=>?_,fun j=>World.ownsRow.frozenAt h j⟩
 ·rcases h.2 with ⟨hv,_⟩ | ⟨g',cap',cur,hv,_,hh,_⟩
  ·cases hv
  ·cases hv;exact (Array.getElem?_eq_some_iff.1 hh).1
 ·have hl:k<l.length:=by have:=h.1;rw [lcs_len] at this;omega
  have hj7:j<(l[k]).l.length:=hj
  have:=h.cells (g:=q) rfl (k*7+j) ((l[k]).l[j]) (by rw [lcs_at l k j hl hj];exact List.getElem?_eq_getElem hj7)
  rw [add_mk,Nat.zero_add] at this
  rw [this]
  simp [List.getD,hl]
theorem clone_end {w w1:World} {l:List Msg} {v1:Value} {o:Obj} {e:TypeId} (hown:w1.ownsRow w.heap.size e 7 v1 (0+l.length) ([]++lcs l)) (hg:(w.alloc o).grownBy w1 (Value.ownBlock (.slice (some ⟨w.heap.size,0,none⟩) 0 0))) (h1:1≤l.length):ClP w l (.returned v1) w1:=by
 rw [Nat.zero_add,List.nil_append] at hown
 obtain ⟨A,cap,rfl⟩:=own_form hown
 have hb:Below w.heap.size w w1:=(((Below.refl _ _).alloc (Nat.le_refl _) o)).grown hg (by simp) (fun k hk=>by simp [Value.ownBlock] at hk;omega)
 rcases hown.2 with ⟨hv,h0⟩ | ⟨g,cap',cur,hv,hgb,_,hl,hm,_⟩
 ·omega
 ·injection hv with e1 e2 e3
  subst e1;subst e3
  exact ⟨g,cap,rfl,hl,hm,hgb,MRow.of_own hown,hb⟩
set_option maxHeartbeats 2000000 in
theorem clone_any (A:Option Addr) (n c:Nat) (l:List Msg) (w:World) (hv:Ls w w.heap.size (.slice A n c) l) (h1:1≤n) (h2:n≤1000) :
  Calls Tryz.prog 104 #[.slice A n c] w (ClP w l):=by
 obtain ⟨rfl,hm1,hm2⟩:=hv.len
 obtain ⟨i0,hi0,hz0⟩:=Option.map_eq_some_iff.1 info_msg
 simp only [Prod.mk.injEq] at hz0
 obtain ⟨b,o,rfl,hb,hc⟩:=hv.rd.2 (by omega)
 have HI:=Lh hi0
 have HZ:=Lh hz0
 have HV:=Lh hv
 have heq:∀ W,(binOp .eql 25 (.slice (some ⟨b,o,none⟩) l.length c) (.slice none 0 0)).run Tryz.prog W=.ok (.bool false) W:=fun W=>Lib.run_eql_slice_nil W _ _ _ _ _ _ _ Tryz.underlying25
 clear hv hi0 hz0 hb hc
 go_enter Tryz.func104,Tryz.ntmps104
 go_wp2_with (at_builtin;refine wpList_append_rd _ rfl (.tmp 5) (.tmp 6) 25 rfl w.heap.size 56 i0 _ 7 64 Tryz.underlying25 HI.out HZ.out.1 HZ.out.2.1 HZ.out.2.2 rfl (by omega) (.slice (some ⟨w.heap.size,0,none⟩) 0 0) 0 [] rfl (World.ownsRow_made w #[] 0 (Nat.le_refl _) (Nat.zero_le _) rfl) w.heap.size (some ⟨b,o,none⟩) l.length c (lcs l) rfl (HV.out.alloc (Nat.le_refl _) _).rd (lcs_one l) (by unfold maxLen;omega) (by omega) (by simp) ?_;intro v1 w1 hown1 hg1 hat1)
 have HP:=Lh (clone_end hown1 hg1 h1)
 clear hown1 hg1 hat1
 go_wp2
 go_ret
 exact HP.out
structure PbAt (w:World) (p q r:Nat) (A:Option Addr) (n c:Nat) (hd sz:Int) (M:Msg) (W:World):Prop where
 rb:RB W p A n c hd sz
 ms:MAt W q M.nth M.bd
 rs:RB W r none 0 0 0 0
 bel:Below w.heap.size w W
 old:w.heap.size≤p∧p<q∧q<r
section
variable {w W W' : World} {p q r n c:Nat} {A:Option Addr} {hd sz:Int} {M:Msg}
theorem PbAt.below (h:PbAt w p q r A n c hd sz M W) (hb:Below W.heap.size W W'):PbAt w p q r A n c hd sz M W':=
 ⟨h.rb.below hb h.rb.lt,h.ms.below hb h.ms.1,h.rs.below hb h.rs.lt,h.bel.trans (hb.mono h.bel.size),h.old⟩
theorem PbAt.drew (h:PbAt w p q r A n c hd sz M W):PbAt w p q r A n c hd sz M W.drew:=⟨h.rb.drew,h.ms,h.rs.drew,h.bel.drew,h.old⟩
theorem PbAt.setA (h:PbAt w p q r A n c hd sz M W) (A' : Option Addr) (n' c' : Nat):PbAt w p q r A' n' c' hd sz M (W.setCell ⟨p,0,none⟩ (.slice A' n' c')):=
 ⟨h.rb.setA A' n' c',h.ms.other (p:=⟨p,0,none⟩) (show p≠q by have:=h.old;omega) _,h.rs.other (a:=⟨p,0,none⟩) (show p≠r by have:=h.old;omega) _,h.bel.setCell (p:=⟨p,0,none⟩) h.old.1 _,h.old⟩
theorem PbAt.setH (h:PbAt w p q r A n c hd sz M W) (x:Int):PbAt w p q r A n c x sz M (W.setCell ⟨p,1,none⟩ (.int .i64 x)):=
 ⟨h.rb.setH x,h.ms.other (p:=⟨p,1,none⟩) (show p≠q by have:=h.old;omega) _,h.rs.other (a:=⟨p,1,none⟩) (show p≠r by have:=h.old;omega) _,h.bel.setCell (p:=⟨p,1,none⟩) h.old.1 _,h.old⟩
theorem PbAt.setS (h:PbAt w p q r A n c hd sz M W) (x:Int):PbAt w p q r A n c hd x M (W.setCell ⟨p,2,none⟩ (.int .i64 x)):=
 ⟨h.rb.setS x,h.ms.other (p:=⟨p,2,none⟩) (show p≠q by have:=h.old;omega) _,h.rs.other (a:=⟨p,2,none⟩) (show p≠r by have:=h.old;omega) _,h.bel.setCell (p:=⟨p,2,none⟩) h.old.1 _,h.old⟩
theorem PbAt.sets (h:PbAt w p q r A n c hd sz M W) {b:Nat} (hb:r<b) (m:Nat) (vs:List Value):PbAt w p q r A n c hd sz M (W.setCells b m vs):=
 ⟨h.rb.sets (by have:=h.old;omega) m vs,h.ms.sets (by have:=h.old;omega) m vs,h.rs.sets (by omega) m vs,sets_below (by have:=h.old;omega) vs m W h.bel,h.old⟩
theorem PbAt.sets7 (h:PbAt w p q r A n c hd sz M W) {b:Nat} (hb:r<b) (m:Nat) (X:Msg):PbAt w p q r A n c hd sz M (((((((W.setCell ⟨b,m,none⟩ (.int .i64 X.id)).setCell ⟨b,m+1,none⟩ (.int .i64 X.rt)).setCell ⟨b,m+2,none⟩ (.int .i64 X.ep)).setCell ⟨b,m+3,none⟩ (.int .i64 X.ct)).setCell ⟨b,m+4,none⟩ (.int .i64 X.gn)).setCell ⟨b,m+5,none⟩ (.int .i64 X.st)).setCell ⟨b,m+6,none⟩ (.string X.bd)):=h.sets hb m X.l
theorem PbAt.facts (h:PbAt w p q r A n c hd sz M W):(W.cell? ⟨p,0,none⟩=some (.slice A n c)∧W.cell? ⟨p,1,none⟩=some (.int .i64 hd)∧W.cell? ⟨p,2,none⟩=some (.int .i64 sz)∧W.frozen? ⟨p,0,none⟩=false∧W.frozen? ⟨p,1,none⟩=false∧W.frozen? ⟨p,2,none⟩=false∧p<W.heap.size)∧(W.cell? ⟨q,0,none⟩=some (.int .i64 M.id)∧W.cell? ⟨q,1,none⟩=some (.int .i64 M.rt)∧W.cell? ⟨q,2,none⟩=some (.int .i64 M.ep)∧W.cell? ⟨q,3,none⟩=some (.int .i64 M.ct)∧W.cell? ⟨q,4,none⟩=some (.int .i64 M.gn)∧W.cell? ⟨q,5,none⟩=some (.int .i64 M.st)∧W.cell? ⟨q,6,none⟩=some (.string M.bd))∧(W.cell? ⟨r,0,none⟩=some (.slice none 0 0)∧W.cell? ⟨r,1,none⟩=some (.int .i64 0)∧W.cell? ⟨r,2,none⟩=some (.int .i64 0)∧W.frozen? ⟨r,0,none⟩=false∧W.frozen? ⟨r,1,none⟩=false∧W.frozen? ⟨r,2,none⟩=false∧r<W.heap.size):=
 ⟨h.rb.facts,h.ms.facts.1,h.rs.facts⟩
theorem PbAt.start (w:World) (A:Option Addr) (n c:Nat) (hd sz:Int) (M:Msg) (t u:TypeId):PbAt w w.heap.size (w.heap.size+1) (w.heap.size+1+1) A n c hd sz M (((w.alloc (.cells #[.slice A n c,.int .i64 hd,.int .i64 sz] t)).alloc (.cells M.cs u)).alloc (.cells #[.slice none 0 0,.int .i64 0,.int .i64 0] t)):=by
 have h:=MAt.fresh (f:=M.nth) (w.alloc (.cells #[.slice A n c,.int .i64 hd,.int .i64 sz] t)) M.id M.rt M.ep M.ct M.gn M.st M.bd u rfl rfl rfl rfl rfl rfl
 have e:(w.alloc (.cells #[.slice A n c,.int .i64 hd,.int .i64 sz] t)).heap.size=w.heap.size+1:=by simp
 have e2:((w.alloc (.cells #[.slice A n c,.int .i64 hd,.int .i64 sz] t)).alloc (.cells M.cs u)).heap.size=w.heap.size+1+1:=by simp
 rw [e] at h
 have k:=RB.fresh ((w.alloc (.cells #[.slice A n c,.int .i64 hd,.int .i64 sz] t)).alloc (.cells M.cs u)) none 0 0 0 0 t
 rw [e2] at k
 exact ⟨((RB.fresh w A n c hd sz t).alloc _).alloc _,h.alloc _,k,(((Below.refl _ _).alloc (Nat.le_refl _) _).alloc (by omega) _).alloc (by omega) _,Nat.le_refl _,Nat.lt_succ_self _,Nat.lt_succ_self _⟩
theorem PbAt.s10 (h:PbAt w p q r A n c hd sz M W):(W.cell? ⟨p,0,none⟩=some (.slice A n c)∧W.cell? ⟨p,1,none⟩=some (.int .i64 hd)∧W.cell? ⟨p,2,none⟩=some (.int .i64 sz)∧W.cell? ⟨q,0,none⟩=some (.int .i64 M.id)∧W.cell? ⟨q,1,none⟩=some (.int .i64 M.rt)∧W.cell? ⟨q,2,none⟩=some (.int .i64 M.ep)∧W.cell? ⟨q,3,none⟩=some (.int .i64 M.ct)∧W.cell? ⟨q,4,none⟩=some (.int .i64 M.gn)∧W.cell? ⟨q,5,none⟩=some (.int .i64 M.st)∧W.cell? ⟨q,6,none⟩=some (.string M.bd)):=
 ⟨h.rb.c0,h.rb.c1,h.rb.c2,h.ms.facts.1⟩
theorem PbAt.result (h:PbAt w p q r A n c hd sz M W) (A' : Option Addr) (n' c' : Nat) (x y:Int):Below w.heap.size w (((W.setCell ⟨r,0,none⟩ (.slice A' n' c')).setCell ⟨r,1,none⟩ (.int .i64 x)).setCell ⟨r,2,none⟩ (.int .i64 y)):=by
 have hr:w.heap.size≤r:=by have:=h.old;omega
 exact ((h.bel.setCell (p:=⟨r,0,none⟩) hr _).setCell (p:=⟨r,1,none⟩) hr _).setCell (p:=⟨r,2,none⟩) hr _
end
theorem MRow.set3 {W:World} {q n r:Nat} {f:Nat→Msg} (h:MRow W q n f) (hr:r≠q) (x y z:Value):MRow (((W.setCell ⟨r,0,none⟩ x).setCell ⟨r,1,none⟩ y).setCell ⟨r,2,none⟩ z) q n f:=
 ((h.other (p:=⟨r,0,none⟩) hr x).other (p:=⟨r,1,none⟩) hr y).other (p:=⟨r,2,none⟩) hr z
theorem MRow.put7n {W:World} {q n:Nat} {f:Nat→Msg} (h:MRow W q n f) {k:Nat} (hk:k<n) (M:Msg):MRow (((((((W.setCell ⟨q,k*7,none⟩ (.int .i64 M.id)).setCell ⟨q,k*7+1,none⟩ (.int .i64 M.rt)).setCell ⟨q,k*7+2,none⟩ (.int .i64 M.ep)).setCell ⟨q,k*7+3,none⟩ (.int .i64 M.ct)).setCell ⟨q,k*7+4,none⟩ (.int .i64 M.gn)).setCell ⟨q,k*7+5,none⟩ (.int .i64 M.st)).setCell ⟨q,k*7+6,none⟩ (.string M.bd)) q n (fun i=>if i=k then M else f i):=h.put hk M
noncomputable def pbC (cs:List Msg) (hd sz:Int) (M:Msg):List Msg:=if puE cs hd sz M=0 then fil cs.length hd.toNat (ord cs hd.toNat sz.toNat++[M]) else []
noncomputable def ifE (x a:Int):Int:=if x=0 then a else 0
attribute [local go_sem ↓] Go.wp_at_zero Go.wp_at_succ
set_option maxHeartbeats 4000000 in
set_option maxRecDepth 20000 in
theorem pback_any (A:Option Addr) (n c:Nat) (cs:List Msg) (hd sz:Int) (M:Msg) (w:World) (hv:Ls w w.heap.size (.slice A n c) cs) :
  Calls Tryz.prog 54 #[.agg #[.slice A n c,.int .i64 hd,.int .i64 sz],M.v] w (RP w (pbC cs hd sz M) (ifE (puE cs hd sz M) hd) (ifE (puE cs hd sz M) (sz+1)) (puE cs hd sz M)):=by
 obtain ⟨rfl,_,_⟩:=hv.len
 have HV:=Lh hv
 have HP:=Lh (fun w1 (h:Ls w1 w1.heap.size (.slice A cs.length c) cs)=>pusherr_any A cs.length c cs hd sz M w1 h)
 clear hv
 by_cases h0:puE cs hd sz M=0
 ·have HC:=Lh (show pbC cs hd sz M=fil cs.length hd.toNat (ord cs hd.toNat sz.toNat++[M]) from if_pos h0)
  rw [h0] at HP ⊢
  have HE1:=Lh (show ifE 0 hd=hd from if_pos rfl)
  have HE2:=Lh (show ifE 0 (sz+1)=sz+1 from if_pos rfl)
  obtain ⟨hg,_,hne,_⟩:=puE_zero h0
  obtain ⟨hn,hz,_,_⟩:=rgV_zero hg
  obtain ⟨⟨n1,n2⟩,⟨k1,k2⟩,⟨s1,s2⟩⟩:=nm_of hn
  obtain ⟨hd,rfl⟩:=Int.eq_ofNat_of_zero_le k1
  obtain ⟨sz,rfl⟩:=Int.eq_ofNat_of_zero_le s1
  simp only [Int.toNat_natCast] at HC hz
  have hpb:=push_back_cells (cs:=cs) (hd:=hd) (sz:=sz) (by omega) (by omega) hz M
  obtain ⟨m,hm⟩:∃ m,m=(hd+sz) % cs.length:=⟨_,rfl⟩
  have hml:m<cs.length:=by rw [hm];exact Nat.mod_lt _ (by omega)
  have hmi:((hd:Int)+(sz:Int)) % (cs.length:Int)=(m:Int):=by rw [hm];simp
  rw [←hm] at hpb
  have HPB:=Lh (hpb.trans HC.out.symm)
  have HPL:=Lh (fun A' c' w=>place_any A' cs.length c' hd sz sz (by omega) (by omega) (by omega) (by omega) (by omega) (by omega) w)
  rw [hmi] at HPL
  have HCL:=Lh (fun w1 (h:Ls w1 w1.heap.size (.slice A cs.length c) cs)=>clone_any A cs.length c cs w1 h (by omega) (by omega))
  have HCS:=Lh (fil_len cs.length hd (ord cs hd sz++[M]))
  rw [←HC.out] at HCS
  clear h0 hg hne hn hz hm hmi hpb HC
  generalize pbC cs hd sz M=ds at*
  have hs1:(sz:Int)+1≤100:=by omega
  have hml' : (m:Int)<(cs.length:Int):=by omega
  go_enter Tryz.func54,Tryz.ntmps54
  go_wp2_with fail
  have HS:=Lh (PbAt.start w A cs.length c hd sz M 27 56)
  obtain ⟨p,hp⟩:∃ p,p=w.heap.size:=⟨_,rfl⟩
  obtain ⟨q,hq⟩:∃ q,q=w.heap.size+1:=⟨_,rfl⟩
  obtain ⟨r,hr⟩:∃ r,r=w.heap.size+1+1:=⟨_,rfl⟩
  rw [←hr,←hq,←hp] at HS ⊢
  clear hp hq hr
  refine (HP.out _ (HV.out.up HS.out.bel)).mono ?_
  rintro e w1 ⟨rfl,hb⟩
  have HS1:=Lh (HS.out.below hb)
  obtain ⟨⟨r0,r1,r2,r3,r4,r5,hpl⟩,_,_⟩:=HS1.out.facts
  clear hb HS
  go_wp2_with fail
  refine (HCL.out _ (HV.out.up HS1.out.bel)).mono ?_
  rintro e w2 ⟨z,cap,rfl,hcl,hcm,hzl,hrow,hb⟩
  have HZR:=Lh (Nat.lt_of_lt_of_le HS1.out.rs.lt hzl)
  have HS2:=Lh (HS1.out.below hb)
  have HCP:=Lh (And.intro hcl hcm)
  have HRW:=Lh hrow
  clear hb r0 r1 r2 r3 r4 r5 hpl hcl hcm hzl hrow HS1
  obtain ⟨⟨r0,r1,r2,r3,r4,r5,hpl⟩,_,_⟩:=HS2.out.facts
  go_wp2_with fail
  have HS3:=Lh (HS2.out.setA (some ⟨z,0,none⟩) cs.length cap)
  have HRW3:=Lh (HRW.out.other (p:=⟨p,0,none⟩) (show p≠z by have:=HS2.out.old;have:=HZR.out;omega) (.slice (some ⟨z,0,none⟩) cs.length cap))
  generalize w2.setCell ⟨p,0,none⟩ (.slice (some ⟨z,0,none⟩) cs.length cap)=w3 at*
  clear r0 r1 r2 r3 r4 r5 hpl HS2 HRW
  have HSA:=Lh HS3.out.drew.s10
  go_region_held3 (fun W=>W.cell? ⟨p,0,none⟩=some (.slice (some ⟨z,0,none⟩) cs.length cap)∧W.cell? ⟨p,1,none⟩=some (.int .i64 hd)∧W.cell? ⟨p,2,none⟩=some (.int .i64 sz)∧W.cell? ⟨q,0,none⟩=some (.int .i64 M.id)∧W.cell? ⟨q,1,none⟩=some (.int .i64 M.rt)∧W.cell? ⟨q,2,none⟩=some (.int .i64 M.ep)∧W.cell? ⟨q,3,none⟩=some (.int .i64 M.ct)∧W.cell? ⟨q,4,none⟩=some (.int .i64 M.gn)∧W.cell? ⟨q,5,none⟩=some (.int .i64 M.st)∧W.cell? ⟨q,6,none⟩=some (.string M.bd))
   (first | with_reducible exact HSA.out | with_reducible exact HSB.out | with_reducible exact HSC.out)
   (first
   | (go_at_call 105;refine (HPL.out _ _ _).mono ?_;rintro e w4 ⟨rfl,hb⟩;have HS4:=Lh (HS3.out.drew.below hb);have HRW4:=Lh (HRW3.out.drew.below hb HRW3.out.1);have HSB:=Lh HS4.out.s10;have HSC:=Lh ((HS4.out.sets7 HZR.out (m*7) M).s10);obtain ⟨y0,y1,y2,y3,y4,y5,y6⟩:=HRW4.out.free (m*7);obtain ⟨x0,x1,x2,x3,x4,x5,x6⟩:=HRW4.out.c7 hml;clear hb))
  have HS5:=Lh (HS4.out.sets7 HZR.out (m*7) M)
  have HRW5:=Lh (HRW4.out.put7n hml M)
  clear y0 y1 y2 y3 y4 y5 y6 x0 x1 x2 x3 x4 x5 x6 HSA HSB HSC
  generalize (((((((w4.setCell ⟨z,m*7,none⟩ (.int .i64 M.id)).setCell ⟨z,m*7+1,none⟩ (.int .i64 M.rt)).setCell ⟨z,m*7+2,none⟩ (.int .i64 M.ep)).setCell ⟨z,m*7+3,none⟩ (.int .i64 M.ct)).setCell ⟨z,m*7+4,none⟩ (.int .i64 M.gn)).setCell ⟨z,m*7+5,none⟩ (.int .i64 M.st)).setCell ⟨z,m*7+6,none⟩ (.string M.bd))=w5 at*
  obtain ⟨⟨r0,r1,r2,r3,r4,r5,hpl⟩,_,⟨t0,t1,t2,t3,t4,t5,hrl⟩⟩:=HS5.out.facts
  have hpr:p≠r:=by have:=HS5.out.old;omega
  have hrp:r≠p:=fun e=>hpr e.symm
  have HL:=Lh (((HRW5.out.other (p:=⟨p,2,none⟩) (show p≠z by have:=HS5.out.old;have:=HZR.out;omega) (.int .i64 ((sz:Int)+1))).set3 (r:=r) (by have:=HZR.out;omega) (.slice (some ⟨z,0,none⟩) cs.length cap) (.int .i64 hd) (.int .i64 ((sz:Int)+1))).ls' HPB.out HCP.out.1 HCP.out.2)
  have HB:=Lh ((HS5.out.setS ((sz:Int)+1)).result (some ⟨z,0,none⟩) cs.length cap hd ((sz:Int)+1))
  go_wp2
  exact bodyPost_ret (v:=.tuple #[.agg #[.slice (some ⟨z,0,none⟩) cs.length cap,.int .i64 hd,.int .i64 ((sz:Int)+1)],.int .i64 0]) (by simp only [results,Tryz.results54];go_simp <;> rfl) rfl ⟨some ⟨z,0,none⟩,cap,by rw [HCS.out,HE1.out,HE2.out],nw_some (by have:=HS5.out.old;have:=HZR.out;omega),by rw [HCS.out];exact HL.out,HB.out⟩
 ·have HC:=Lh (show pbC cs hd sz M=[] from if_neg h0)
  have HE1:=Lh (show ifE (puE cs hd sz M) hd=0 from if_neg h0)
  have HE2:=Lh (show ifE (puE cs hd sz M) (sz+1)=0 from if_neg h0)
  have hne:(puE cs hd sz M != 0)=true:=bne_iff_ne.2 h0
  generalize puE cs hd sz M=x at*
  generalize pbC cs hd sz M=ds at*
  clear h0
  go_enter Tryz.func54,Tryz.ntmps54
  go_wp2_with fail
  have HS:=Lh (PbAt.start w A cs.length c hd sz M 27 56)
  obtain ⟨p,hp⟩:∃ p,p=w.heap.size:=⟨_,rfl⟩
  obtain ⟨q,hq⟩:∃ q,q=w.heap.size+1:=⟨_,rfl⟩
  obtain ⟨r,hr⟩:∃ r,r=w.heap.size+1+1:=⟨_,rfl⟩
  rw [←hr,←hq,←hp] at HS ⊢
  clear hp hq hr
  refine (HP.out _ (HV.out.up HS.out.bel)).mono ?_
  rintro e w1 ⟨rfl,hb⟩
  have HS1:=Lh (HS.out.below hb)
  obtain ⟨_,_,⟨t0,t1,t2,t3,t4,t5,hrl⟩⟩:=HS1.out.facts
  have HB:=Lh (HS1.out.result none 0 0 0 0)
  clear hb HS
  go_wp2
  exact bodyPost_ret (v:=.tuple #[.agg #[.slice none 0 0,.int .i64 0,.int .i64 0],.int .i64 x]) (by simp only [results,Tryz.results54];go_simp <;> rfl) rfl ⟨none,0,by rw [HC.out,HE1.out,HE2.out];rfl,nw_none,by rw [HC.out];exact Ls.nil,HB.out⟩
noncomputable def pfC (cs:List Msg) (hd sz:Int) (M:Msg):List Msg:=if puE cs hd sz M=0 then fil cs.length ((hd.toNat+(cs.length - 1)) % cs.length) (M::ord cs hd.toNat sz.toNat) else []
noncomputable def pfH (cs:List Msg) (hd sz:Int) (M:Msg):Int:=if puE cs hd sz M=0 then (((hd.toNat+(cs.length - 1)) % cs.length:Nat):Int) else 0
set_option maxHeartbeats 4000000 in
set_option maxRecDepth 20000 in
theorem pfront_any (A:Option Addr) (n c:Nat) (cs:List Msg) (hd sz:Int) (M:Msg) (w:World) (hv:Ls w w.heap.size (.slice A n c) cs) :
  Calls Tryz.prog 55 #[.agg #[.slice A n c,.int .i64 hd,.int .i64 sz],M.v] w (RP w (pfC cs hd sz M) (pfH cs hd sz M) (ifE (puE cs hd sz M) (sz+1)) (puE cs hd sz M)):=by
 obtain ⟨rfl,_,_⟩:=hv.len
 have HV:=Lh hv
 have HP:=Lh (fun w1 (h:Ls w1 w1.heap.size (.slice A cs.length c) cs)=>pusherr_any A cs.length c cs hd sz M w1 h)
 clear hv
 by_cases h0:puE cs hd sz M=0
 ·have HC:=Lh (show pfC cs hd sz M=fil cs.length ((hd.toNat+(cs.length - 1)) % cs.length) (M::ord cs hd.toNat sz.toNat) from if_pos h0)
  have HE1':=Lh (show pfH cs hd sz M=(((hd.toNat+(cs.length - 1)) % cs.length:Nat):Int) from if_pos h0)
  rw [h0] at HP ⊢
  have HE2:=Lh (show ifE 0 (sz+1)=sz+1 from if_pos rfl)
  obtain ⟨hg,_,hne,_⟩:=puE_zero h0
  obtain ⟨hn,hz,_,_⟩:=rgV_zero hg
  obtain ⟨⟨n1,n2⟩,⟨k1,k2⟩,⟨s1,s2⟩⟩:=nm_of hn
  obtain ⟨hd,rfl⟩:=Int.eq_ofNat_of_zero_le k1
  obtain ⟨sz,rfl⟩:=Int.eq_ofNat_of_zero_le s1
  simp only [Int.toNat_natCast] at HC hz HE1'
  have hpb:=push_front_cells (cs:=cs) (hd:=hd) (sz:=sz) (by omega) (by omega) hz M
  obtain ⟨m,hm⟩:∃ m,m=(hd+(cs.length - 1)) % cs.length:=⟨_,rfl⟩
  have hml:m<cs.length:=by rw [hm];exact Nat.mod_lt _ (by omega)
  have hmi:((hd:Int)+((cs.length:Int) - 1)) % (cs.length:Int)=(m:Int):=by rw [hm,show (cs.length:Int) - 1=((cs.length - 1:Nat):Int) by omega];simp
  rw [←hm] at hpb HC HE1'
  have HE1:=HE1'
  clear HE1'
  have HPB:=Lh (hpb.trans HC.out.symm)
  have HPL:=Lh (fun A' c' w=>place_any A' cs.length c' hd sz ((cs.length:Int) - 1) (by omega) (by omega) (by omega) (by omega) (by omega) (by omega) w)
  rw [hmi] at HPL
  have HCL:=Lh (fun w1 (h:Ls w1 w1.heap.size (.slice A cs.length c) cs)=>clone_any A cs.length c cs w1 h (by omega) (by omega))
  have HCS:=Lh (fil_len cs.length m (M::ord cs hd sz))
  rw [←HC.out] at HCS
  clear h0 hg hne hn hz hm hmi hpb HC
  generalize pfC cs hd sz M=ds at*
  generalize pfH cs hd sz M=hx at*
  have hs1:(sz:Int)+1≤100:=by omega
  have hml' : (m:Int)<(cs.length:Int):=by omega
  go_enter Tryz.func55,Tryz.ntmps55
  go_wp2_with fail
  have HS:=Lh (PbAt.start w A cs.length c hd sz M 27 56)
  obtain ⟨p,hp⟩:∃ p,p=w.heap.size:=⟨_,rfl⟩
  obtain ⟨q,hq⟩:∃ q,q=w.heap.size+1:=⟨_,rfl⟩
  obtain ⟨r,hr⟩:∃ r,r=w.heap.size+1+1:=⟨_,rfl⟩
  rw [←hr,←hq,←hp] at HS ⊢
  clear hp hq hr
  refine (HP.out _ (HV.out.up HS.out.bel)).mono ?_
  rintro e w1 ⟨rfl,hb⟩
  have HS1:=Lh (HS.out.below hb)
  obtain ⟨⟨r0,r1,r2,r3,r4,r5,hpl⟩,_,_⟩:=HS1.out.facts
  clear hb HS
  go_wp2_with fail
  refine (HCL.out _ (HV.out.up HS1.out.bel)).mono ?_
  rintro e w2 ⟨z,cap,rfl,hcl,hcm,hzl,hrow,hb⟩
  have HZR:=Lh (Nat.lt_of_lt_of_le HS1.out.rs.lt hzl)
  have HS2:=Lh (HS1.out.below hb)
  have HCP:=Lh (And.intro hcl hcm)
  have HRW:=Lh hrow
  clear hb r0 r1 r2 r3 r4 r5 hpl hcl hcm hzl hrow HS1
  obtain ⟨⟨r0,r1,r2,r3,r4,r5,hpl⟩,_,_⟩:=HS2.out.facts
  go_wp2_with fail
  have HS3:=Lh (HS2.out.setA (some ⟨z,0,none⟩) cs.length cap)
  have HRW3:=Lh (HRW.out.other (p:=⟨p,0,none⟩) (show p≠z by have:=HS2.out.old;have:=HZR.out;omega) (.slice (some ⟨z,0,none⟩) cs.length cap))
  clear r0 r1 r2 r3 r4 r5 hpl HS2 HRW
  refine (HPL.out _ _ _).mono ?_
  rintro e w4 ⟨rfl,hb⟩
  have HS4:=Lh ((HS3.out.below hb).setH (m:Int))
  have HRW4:=Lh ((HRW3.out.below hb HRW3.out.1).other (p:=⟨p,1,none⟩) (show p≠z by have:=HS3.out.old;have:=HZR.out;omega) (.int .i64 (m:Int)))
  obtain ⟨⟨r0,r1,r2,r3,r4,r5,hpl⟩,⟨u0,u1,u2,u3,u4,u5,u6⟩,⟨t0,t1,t2,t3,t4,t5,hrl⟩⟩:=(HS3.out.below hb).facts
  obtain ⟨y0,y1,y2,y3,y4,y5,y6⟩:=(HRW3.out.below hb HRW3.out.1).free (m*7)
  obtain ⟨x0,x1,x2,x3,x4,x5,x6⟩:=(HRW3.out.below hb HRW3.out.1).c7 hml
  have hpr:p≠r:=by have:=HS4.out.old;omega
  have hqp:q≠p:=by have:=HS4.out.old;omega
  have hpq:p≠q:=fun e=>hqp e.symm
  have hzp:z≠p:=by have:=HS4.out.old;have:=HZR.out;omega
  have hpz:p≠z:=fun e=>hzp e.symm
  have hzq:z≠q:=by have:=HS4.out.old;have:=HZR.out;omega
  have hzr:z≠r:=by have:=HZR.out;omega
  clear hb
  have HS5:=Lh ((HS4.out.sets7 HZR.out (m*7) M).setS ((sz:Int)+1))
  have HL:=Lh (((HRW4.out.put7n hml M).other (p:=⟨p,2,none⟩) hpz (.int .i64 ((sz:Int)+1))).set3 (r:=r) (fun e=>hzr e.symm) (.slice (some ⟨z,0,none⟩) cs.length cap) (.int .i64 (m:Int)) (.int .i64 ((sz:Int)+1)))
  have HL:=Lh (HL.out.ls' HPB.out HCP.out.1 HCP.out.2)
  have HB:=Lh (HS5.out.result (some ⟨z,0,none⟩) cs.length cap (m:Int) ((sz:Int)+1))
  go_wp2
  exact bodyPost_ret (v:=.tuple #[.agg #[.slice (some ⟨z,0,none⟩) cs.length cap,.int .i64 (m:Int),.int .i64 ((sz:Int)+1)],.int .i64 0]) (by simp only [results,Tryz.results55];go_simp <;> rfl) rfl ⟨some ⟨z,0,none⟩,cap,by rw [HCS.out,HE1.out,HE2.out],nw_some (by have:=HS5.out.old;have:=HZR.out;omega),by rw [HCS.out];exact HL.out,HB.out⟩
 ·have HC:=Lh (show pfC cs hd sz M=[] from if_neg h0)
  have HE1:=Lh (show pfH cs hd sz M=0 from if_neg h0)
  have HE2:=Lh (show ifE (puE cs hd sz M) (sz+1)=0 from if_neg h0)
  have hne:(puE cs hd sz M != 0)=true:=bne_iff_ne.2 h0
  generalize puE cs hd sz M=x at*
  generalize pfC cs hd sz M=ds at*
  generalize pfH cs hd sz M=hx at*
  clear h0
  go_enter Tryz.func55,Tryz.ntmps55
  go_wp2_with fail
  have HS:=Lh (PbAt.start w A cs.length c hd sz M 27 56)
  obtain ⟨p,hp⟩:∃ p,p=w.heap.size:=⟨_,rfl⟩
  obtain ⟨q,hq⟩:∃ q,q=w.heap.size+1:=⟨_,rfl⟩
  obtain ⟨r,hr⟩:∃ r,r=w.heap.size+1+1:=⟨_,rfl⟩
  rw [←hr,←hq,←hp] at HS ⊢
  clear hp hq hr
  refine (HP.out _ (HV.out.up HS.out.bel)).mono ?_
  rintro e w1 ⟨rfl,hb⟩
  have HS1:=Lh (HS.out.below hb)
  obtain ⟨_,_,⟨t0,t1,t2,t3,t4,t5,hrl⟩⟩:=HS1.out.facts
  have HB:=Lh (HS1.out.result none 0 0 0 0)
  clear hb HS
  go_wp2
  exact bodyPost_ret (v:=.tuple #[.agg #[.slice none 0 0,.int .i64 0,.int .i64 0],.int .i64 x]) (by simp only [results,Tryz.results55];go_simp <;> rfl) rfl ⟨none,0,by rw [HC.out,HE1.out,HE2.out];rfl,nw_none,by rw [HC.out];exact Ls.nil,HB.out⟩
structure PoAt (w:World) (p r s:Nat) (A:Option Addr) (n c:Nat) (hd sz:Int) (W:World):Prop where
 rb:RB W p A n c hd sz
 rs:RB W r none 0 0 0 0
 ms:MAt W s zM.nth zM.bd
 bel:Below w.heap.size w W
 old:w.heap.size≤p∧p<r∧r<s
section
variable {w W W' : World} {p r s n c:Nat} {A:Option Addr} {hd sz:Int}
theorem PoAt.below (h:PoAt w p r s A n c hd sz W) (hb:Below W.heap.size W W'):PoAt w p r s A n c hd sz W':=
 ⟨h.rb.below hb h.rb.lt,h.rs.below hb h.rs.lt,h.ms.below hb h.ms.1,h.bel.trans (hb.mono h.bel.size),h.old⟩
theorem PoAt.drew (h:PoAt w p r s A n c hd sz W):PoAt w p r s A n c hd sz W.drew:=⟨h.rb.drew,h.rs.drew,h.ms,h.bel.drew,h.old⟩
theorem PoAt.alloc (h:PoAt w p r s A n c hd sz W) (o:Obj):PoAt w p r s A n c hd sz (W.alloc o):=h.below ((Below.refl _ _).alloc (Nat.le_refl _) o)
theorem PoAt.setA (h:PoAt w p r s A n c hd sz W) (A' : Option Addr) (n' c' : Nat):PoAt w p r s A' n' c' hd sz (W.setCell ⟨p,0,none⟩ (.slice A' n' c')):=
 ⟨h.rb.setA A' n' c',h.rs.other (a:=⟨p,0,none⟩) (show p≠r by have:=h.old;omega) _,h.ms.other (p:=⟨p,0,none⟩) (show p≠s by have:=h.old;omega) _,h.bel.setCell (p:=⟨p,0,none⟩) h.old.1 _,h.old⟩
theorem PoAt.setH (h:PoAt w p r s A n c hd sz W) (x:Int):PoAt w p r s A n c x sz (W.setCell ⟨p,1,none⟩ (.int .i64 x)):=
 ⟨h.rb.setH x,h.rs.other (a:=⟨p,1,none⟩) (show p≠r by have:=h.old;omega) _,h.ms.other (p:=⟨p,1,none⟩) (show p≠s by have:=h.old;omega) _,h.bel.setCell (p:=⟨p,1,none⟩) h.old.1 _,h.old⟩
theorem PoAt.setS (h:PoAt w p r s A n c hd sz W) (x:Int):PoAt w p r s A n c hd x (W.setCell ⟨p,2,none⟩ (.int .i64 x)):=
 ⟨h.rb.setS x,h.rs.other (a:=⟨p,2,none⟩) (show p≠r by have:=h.old;omega) _,h.ms.other (p:=⟨p,2,none⟩) (show p≠s by have:=h.old;omega) _,h.bel.setCell (p:=⟨p,2,none⟩) h.old.1 _,h.old⟩
theorem PoAt.sets7 (h:PoAt w p r s A n c hd sz W) {b:Nat} (hb:s<b) (m:Nat) (X:Msg):PoAt w p r s A n c hd sz (((((((W.setCell ⟨b,m,none⟩ (.int .i64 X.id)).setCell ⟨b,m+1,none⟩ (.int .i64 X.rt)).setCell ⟨b,m+2,none⟩ (.int .i64 X.ep)).setCell ⟨b,m+3,none⟩ (.int .i64 X.ct)).setCell ⟨b,m+4,none⟩ (.int .i64 X.gn)).setCell ⟨b,m+5,none⟩ (.int .i64 X.st)).setCell ⟨b,m+6,none⟩ (.string X.bd)):=
 ⟨h.rb.sets (by have:=h.old;omega) m X.l,h.rs.sets (by have:=h.old;omega) m X.l,h.ms.sets (by omega) m X.l,sets_below (by have:=h.old;omega) X.l m W h.bel,h.old⟩
theorem MAt.sets7 {q b:Nat} {f:Nat→Int} {t:ByteArray} (h:MAt W q f t) (hb:b≠q) (m:Nat) (X:Msg):MAt (((((((W.setCell ⟨b,m,none⟩ (.int .i64 X.id)).setCell ⟨b,m+1,none⟩ (.int .i64 X.rt)).setCell ⟨b,m+2,none⟩ (.int .i64 X.ep)).setCell ⟨b,m+3,none⟩ (.int .i64 X.ct)).setCell ⟨b,m+4,none⟩ (.int .i64 X.gn)).setCell ⟨b,m+5,none⟩ (.int .i64 X.st)).setCell ⟨b,m+6,none⟩ (.string X.bd)) q f t:=h.sets hb m X.l
theorem PoAt.facts (h:PoAt w p r s A n c hd sz W):(W.cell? ⟨p,0,none⟩=some (.slice A n c)∧W.cell? ⟨p,1,none⟩=some (.int .i64 hd)∧W.cell? ⟨p,2,none⟩=some (.int .i64 sz)∧W.frozen? ⟨p,0,none⟩=false∧W.frozen? ⟨p,1,none⟩=false∧W.frozen? ⟨p,2,none⟩=false∧p<W.heap.size)∧(W.cell? ⟨r,0,none⟩=some (.slice none 0 0)∧W.cell? ⟨r,1,none⟩=some (.int .i64 0)∧W.cell? ⟨r,2,none⟩=some (.int .i64 0)∧W.frozen? ⟨r,0,none⟩=false∧W.frozen? ⟨r,1,none⟩=false∧W.frozen? ⟨r,2,none⟩=false∧r<W.heap.size)∧((W.cell? ⟨s,0,none⟩=some (.int .i64 0)∧W.cell? ⟨s,1,none⟩=some (.int .i64 0)∧W.cell? ⟨s,2,none⟩=some (.int .i64 0)∧W.cell? ⟨s,3,none⟩=some (.int .i64 0)∧W.cell? ⟨s,4,none⟩=some (.int .i64 0)∧W.cell? ⟨s,5,none⟩=some (.int .i64 0)∧W.cell? ⟨s,6,none⟩=some (.string ByteArray.empty))∧W.frozen? ⟨s,0,none⟩=false∧W.frozen? ⟨s,1,none⟩=false∧W.frozen? ⟨s,2,none⟩=false∧W.frozen? ⟨s,3,none⟩=false∧W.frozen? ⟨s,4,none⟩=false∧W.frozen? ⟨s,5,none⟩=false∧W.frozen? ⟨s,6,none⟩=false∧s<W.heap.size):=
 ⟨h.rb.facts,h.rs.facts,h.ms.facts.1,h.ms.2.2.2 0 (by omega),h.ms.2.2.2 1 (by omega),h.ms.2.2.2 2 (by omega),h.ms.2.2.2 3 (by omega),h.ms.2.2.2 4 (by omega),h.ms.2.2.2 5 (by omega),h.ms.2.2.2 6 (by omega),h.ms.1⟩
theorem PoAt.start (w:World) (A:Option Addr) (n c:Nat) (hd sz:Int) (t u:TypeId):PoAt w w.heap.size (w.heap.size+1) (w.heap.size+1+1) A n c hd sz (((w.alloc (.cells #[.slice A n c,.int .i64 hd,.int .i64 sz] t)).alloc (.cells #[.slice none 0 0,.int .i64 0,.int .i64 0] t)).alloc (.cells #[.int .i64 0,.int .i64 0,.int .i64 0,.int .i64 0,.int .i64 0,.int .i64 0,.string ByteArray.empty] u)):=by
 have e:(w.alloc (.cells #[.slice A n c,.int .i64 hd,.int .i64 sz] t)).heap.size=w.heap.size+1:=by simp
 have e2:((w.alloc (.cells #[.slice A n c,.int .i64 hd,.int .i64 sz] t)).alloc (.cells #[.slice none 0 0,.int .i64 0,.int .i64 0] t)).heap.size=w.heap.size+1+1:=by simp
 have k:=RB.fresh (w.alloc (.cells #[.slice A n c,.int .i64 hd,.int .i64 sz] t)) none 0 0 0 0 t
 have h:=MAt.fresh (f:=zM.nth) ((w.alloc (.cells #[.slice A n c,.int .i64 hd,.int .i64 sz] t)).alloc (.cells #[.slice none 0 0,.int .i64 0,.int .i64 0] t)) 0 0 0 0 0 0 ByteArray.empty u rfl rfl rfl rfl rfl rfl
 rw [e] at k
 rw [e2] at h
 exact ⟨((RB.fresh w A n c hd sz t).alloc _).alloc _,k.alloc _,h,(((Below.refl _ _).alloc (Nat.le_refl _) _).alloc (by omega) _).alloc (by omega) _,Nat.le_refl _,Nat.lt_succ_self _,Nat.lt_succ_self _⟩
theorem PoAt.end1 (h:PoAt w p r s A n c hd sz W) (x y z:Value) (X:Msg):Below w.heap.size w ((((((((((W.setCell ⟨r,0,none⟩ x).setCell ⟨r,1,none⟩ y).setCell ⟨r,2,none⟩ z).setCell ⟨s,0,none⟩ (.int .i64 X.id)).setCell ⟨s,1,none⟩ (.int .i64 X.rt)).setCell ⟨s,2,none⟩ (.int .i64 X.ep)).setCell ⟨s,3,none⟩ (.int .i64 X.ct)).setCell ⟨s,4,none⟩ (.int .i64 X.gn)).setCell ⟨s,5,none⟩ (.int .i64 X.st)).setCell ⟨s,6,none⟩ (.string X.bd)):=by
 have hr:w.heap.size≤r:=by have:=h.old;omega
 have hs:w.heap.size≤s:=by have:=h.old;omega
 exact below7 (((h.bel.setCell (p:=⟨r,0,none⟩) hr _).setCell (p:=⟨r,1,none⟩) hr _).setCell (p:=⟨r,2,none⟩) hr _) hs _ _ _ _ _ _ _
theorem MRow.lit7 {q m b:Nat} {f:Nat→Msg} (h:MRow W q m f) (hb:b≠q) (X:Msg):MRow (((((((W.setCell ⟨b,0,none⟩ (.int .i64 X.id)).setCell ⟨b,1,none⟩ (.int .i64 X.rt)).setCell ⟨b,2,none⟩ (.int .i64 X.ep)).setCell ⟨b,3,none⟩ (.int .i64 X.ct)).setCell ⟨b,4,none⟩ (.int .i64 X.gn)).setCell ⟨b,5,none⟩ (.int .i64 X.st)).setCell ⟨b,6,none⟩ (.string X.bd)) q m f:=
 ((((((h.other (p:=⟨b,0,none⟩) hb _).other (p:=⟨b,1,none⟩) hb _).other (p:=⟨b,2,none⟩) hb _).other (p:=⟨b,3,none⟩) hb _).other (p:=⟨b,4,none⟩) hb _).other (p:=⟨b,5,none⟩) hb _).other (p:=⟨b,6,none⟩) hb _
end
def RMP (w:World) (cs:List Msg) (hd sz:Int) (X:Msg) (x:Int) (e:Ending) (w' : World):Prop:=∃ A c,e=.returned (.tuple #[.agg #[.slice A cs.length c,.int .i64 hd,.int .i64 sz],X.v,.int .i64 x])∧Nw w.heap.size A∧Ls w' w'.heap.size (.slice A cs.length c) cs∧Below w.heap.size w w'
def nwC (k:Int):List Msg:=if wi k 1 12=true then (List.range k.toNat).map (fun _=>zM) else []
def nwE (k:Int):Int:=if wi k 1 12=true then 0 else 1
theorem new_end {w:World} {o:Obj} {cs:Array Value} {t:TypeId} {k:Nat} {l:List Msg} (h:MRow ((w.alloc o).alloc (.cells cs t)) (w.alloc o).heap.size k (fun _=>zM)) (hl:l=(List.range k).map (fun _=>zM)) (hk:k≤maxLen):Ls ((w.alloc o).alloc (.cells cs t)) ((w.alloc o).alloc (.cells cs t)).heap.size (.slice (some ⟨w.heap.size+1,0,none⟩) k k) l:=by
 have e:(w.alloc o).heap.size=w.heap.size+1:=by simp
 rw [e] at h
 exact h.ls' hl.symm (Nat.le_refl _) hk
set_option maxHeartbeats 2000000 in
theorem gnew_any (k:Int) (w:World):Calls Tryz.prog 71 #[.int .i64 k] w (RP w (nwC k) 0 0 (nwE k)):=by
 have hcs:∀ (x lo hi:Int) (k:Bool),wi x lo hi=k→Hid (∀ w,Calls Tryz.prog 121 #[.int .i64 x,.int .i64 lo,.int .i64 hi] w fun e w'=>e=.returned (.bool k)∧w=w'):=fun x lo hi k h=>Lh (fun w=>by rw [←h];exact gwithin_any x lo hi w)
 have HB0:=Lh ((Below.refl w.heap.size w).alloc (Nat.le_refl _) (.cells #[.slice none 0 0,.int .i64 0,.int .i64 0] 27))
 cases h:wi k 1 12 with
 | false=>
  have H:=hcs _ _ _ _ h
  have HC:=Lh (show nwC k=[] from if_neg (by simp [h]))
  have HE:=Lh (show nwE k=1 from if_neg (by simp [h]))
  clear hcs h
  go_enter Tryz.func71,Tryz.ntmps71
  go_wp2_with fail
  refine (H.out _).mono ?_
  rintro e w1 ⟨rfl,rfl⟩
  go_wp2
  exact bodyPost_ret (v:=.tuple #[.agg #[.slice none 0 0,.int .i64 0,.int .i64 0],.int .i64 1]) (by simp only [results,Tryz.results71];go_simp <;> rfl) rfl ⟨none,0,by rw [HC.out,HE.out];rfl,nw_none,by rw [HC.out];exact Ls.nil,HB0.out⟩
 | true=>
  have H:=hcs _ _ _ _ h
  obtain ⟨k1,k2⟩:=wi_of h
  obtain ⟨k,rfl⟩:=Int.eq_ofNat_of_zero_le (show 0≤k by omega)
  have HC:=Lh (show nwC (k:Int)=(List.range k).map (fun _=>zM) from if_pos h)
  have HE:=Lh (show nwE (k:Int)=0 from if_pos h)
  have hmk:=run_make_msgs k (by omega)
  have hlen:(nwC (k:Int)).length=k:=by rw [HC.out];simp
  have HLN:=Lh hlen
  have HM:=Lh (MRow.made (w.alloc (.cells #[.slice (some ⟨w.heap.size+1,0,none⟩) k k,.int .i64 0,.int .i64 0] 27)) k 56)
  have HKM:=Lh (show k≤maxLen by unfold maxLen;omega)
  clear hcs h hlen
  go_enter Tryz.func71,Tryz.ntmps71
  go_wp2_with fail
  refine (H.out _).mono ?_
  rintro e w1 ⟨rfl,rfl⟩
  go_wp2
  exact bodyPost_ret (v:=.tuple #[.agg #[.slice (some ⟨w.heap.size+1,0,none⟩) k k,.int .i64 0,.int .i64 0],.int .i64 0]) (by simp only [results,Tryz.results71];go_simp <;> rfl) rfl ⟨some ⟨w.heap.size+1,0,none⟩,k,by rw [HLN.out,HE.out],nw_some (by omega),by rw [HLN.out];exact new_end HM.out HC.out HKM.out,((Below.refl _ _).alloc (Nat.le_refl _) _).alloc (by simp) _⟩
def Gd (l:List Msg):Prop:=(∀ M∈l,vf M=0)∧¬dupP l
section
variable {n hd:Nat} {l:List Msg}
theorem rgV_fil (h1:1≤n) (h2:n≤12) (hh:hd<n) (hl:l.length≤n) (hg:Gd l):rgV (fil n hd l) (hd:Int) (l.length:Int)=0:=by
 refine rgV_ok (nm_mk (by rw [fil_len];omega)) (fun k hk hlt=>?_) ?_ ?_
 ·rw [fil_len] at hlt
  simp only [Int.toNat_natCast] at hk ⊢
  rw [cel_fil l hh hlt,List.getD_eq_getElem?_getD,List.getElem?_eq_none hk]
  rfl
 ·simp only [Int.toNat_natCast]
  rw [ord_fil l hh hl]
  exact fe_all hg.1
 ·simp only [Int.toNat_natCast]
  rw [ord_fil l hh hl]
  exact hg.2
theorem lsF_fil (h1:1≤n) (h2:n≤12) (hh:hd<n) (hl:l.length≤n) (hg:Gd l):lsF (fil n hd l) (hd:Int) (l.length:Int)=l:=by
 unfold lsF
 rw [if_pos (rgV_fil h1 h2 hh hl hg)]
 simp only [Int.toNat_natCast]
 exact ord_fil l hh hl
theorem puE_fil (h1:1≤n) (h2:n≤12) (hh:hd<n) (hl:l.length<n) (hg:Gd l) {M:Msg} (hM:vf M=0) (hi:∀ N∈l,N.id≠M.id):puE (fil n hd l) (hd:Int) (l.length:Int) M=0:=by
 unfold puE
 rw [if_neg (by simpa using rgV_fil h1 h2 hh (by omega) hg),if_neg (by simpa using hM),if_neg (by rw [fil_len];omega)]
 have e:ord (fil n hd l) (hd:Int).toNat (l.length:Int).toNat=l:=by simp only [Int.toNat_natCast];exact ord_fil l hh (by omega)
 refine if_neg (fun h=>?_)
 rw [e] at h
 obtain ⟨N,hN,e⟩:=(ixF_ge l M.id).1 h
 exact hi N hN e
theorem pbC_fil (h1:1≤n) (h2:n≤12) (hh:hd<n) (hl:l.length<n) (hg:Gd l) {M:Msg} (hM:vf M=0) (hi:∀ N∈l,N.id≠M.id):pbC (fil n hd l) (hd:Int) (l.length:Int) M=fil n hd (l++[M]):=by
 unfold pbC
 rw [if_pos (puE_fil h1 h2 hh hl hg hM hi)]
 simp only [Int.toNat_natCast]
 rw [ord_fil l hh (by omega),fil_len]
theorem pfC_fil (h1:1≤n) (h2:n≤12) (hh:hd<n) (hl:l.length<n) (hg:Gd l) {M:Msg} (hM:vf M=0) (hi:∀ N∈l,N.id≠M.id):pfC (fil n hd l) (hd:Int) (l.length:Int) M=fil n ((hd+(n - 1)) % n) (M::l)∧pfH (fil n hd l) (hd:Int) (l.length:Int) M=((hd+(n - 1)) % n:Nat):=by
 unfold pfC pfH
 rw [if_pos (puE_fil h1 h2 hh hl hg hM hi),if_pos (puE_fil h1 h2 hh hl hg hM hi)]
 simp only [Int.toNat_natCast]
 rw [ord_fil l hh (by omega),fil_len]
 exact ⟨rfl,rfl⟩
theorem gd_nil:Gd []:=⟨by simp,by rintro ⟨i,j,hi,_⟩;simp at hi⟩
theorem gd_back (hg:Gd l) {M:Msg} (hM:vf M=0) (hi:∀ N∈l,N.id≠M.id):Gd (l++[M]):=by
 refine ⟨fun N hN=>?_,?_⟩
 ·rcases List.mem_append.1 hN with h | h
  ·exact hg.1 N h
  ·rw [List.mem_singleton.1 h];exact hM
 ·rintro ⟨i,j,h1,h2,hij,e⟩
  have hj:j<l.length+1:=by simpa using h2
  have hil:i<l.length:=by omega
  rw [List.getElem_append_left hil] at e
  by_cases hjl:j<l.length
  ·rw [List.getElem_append_left hjl] at e
   exact hg.2 ⟨i,j,hil,hjl,hij,e⟩
  ·obtain rfl:j=l.length:=by omega
   simp at e
   exact hi _ (List.getElem_mem hil) e
theorem gd_front (hg:Gd l) {M:Msg} (hM:vf M=0) (hi:∀ N∈l,N.id≠M.id):Gd (M::l):=by
 refine ⟨fun N hN=>?_,?_⟩
 ·rcases List.mem_cons.1 hN with h | h
  ·rw [h];exact hM
  ·exact hg.1 N h
 ·rintro ⟨i,j,h1,h2,hij,e⟩
  obtain ⟨j,rfl⟩:∃ k,j=k+1:=⟨j - 1,by omega⟩
  have hj:j<l.length:=by simpa using h2
  cases i with
  | zero=>exact hi _ (List.getElem_mem hj) (by simpa using e.symm)
  | succ i=>exact hg.2 ⟨i,j,by omega,hj,by omega,by simpa using e⟩
end
theorem nwC_fil {k:Nat} (h1:1≤k) (h2:k≤12) (hd:Nat) (hh:hd<k):nwC (k:Int)=fil k hd []∧nwE (k:Int)=0:=by
 have h:wi (k:Int) 1 12=true:=wi_true (by omega) (by omega)
 unfold nwC nwE
 rw [if_pos h,if_pos h]
 exact ⟨row_fil hh (fun j _=>by simp),rfl⟩
end Go.Proofs.YtncgbldcjfbknaaGreat
