/- What is proved here: parts of the proof: Ssa Shl Sral Srva Qsf Drg. -/
import Derived.Test.YtkecnihgjepfeaaGreatJ23
namespace Go.Proofs.YtkecnihgjepfeaaGreat
open Go.RowKit
set_option linter.unusedVariables false
set_option linter.unusedSimpArgs false
set_option maxHeartbeats 8000000
set_option maxRecDepth 20000
def frS (k:Nat):Sh:=⟨false,0,0,nwC k,0,0,[],[]⟩
theorem fr_va {k:Nat} (h1:1<=k) (h2:k<=12):shV (frS k)=0:=by
 obtain ⟨e1,e2⟩:=nwC_fil h1 h2 0 (by omega)
 have r:rgV (fil k 0 []) (0:Int) (0:Int)=0:=rgV_fil (l:=[]) (hd:=0) h1 h2 (by omega) (by simp) gd_nil
 unfold shV
 rw [if_neg (fun g=>g (by show rgV (nwC k) 0 0=0;rw [e1];exact r)),if_neg (fun g=>g ((tbV_iff [] []).2 TbOk.nil)),if_neg (show ¬(frS k).lv=true from fun h=>by cases h)]
 exact if_neg (show ¬((0:Int)≠0\/(0:Int)≠0\/(0:Int)<(0:Int)+(([]:List Le).length:Int)) by simp)
def SrSh (S:Sh):Prop:=(∃ V:Vs,V.Ok/\S=V.sh)\/∃ k:Nat,1<=k/\k<=12/\S=frS k
def CapAt (b1 b2:Nat) (ep lim:Int) (W:World):Prop:=W.cell? ⟨b1,0,none⟩=some (.int .i64 ep)/\W.cell? ⟨b2,0,none⟩=some (.int .i64 lim)/\b1<W.heap.size/\b2<W.heap.size
section
variable {V:Vs} {mx:Nat} {f:Msg->Bool} {i:Nat}
end
theorem Ls.grownR {W W' : World} {B n c:Nat} {A:Option Addr} {l:List Msg} (h:Ls W B (.slice A n c) l) (hB:B<=W.heap.size) {row:Option Nat} (hg:W.grownBy W' row) (ho:∀ q,row=some q->OffB q n A):Ls W' B (.slice A n c) l:=by
 obtain ⟨h1,h2,h3⟩:=h.len
 subst h1
 refine ⟨A,c,rfl,h2,h3,h.rd.1,fun hn=>?_⟩
 obtain ⟨b,o,e,hb,hc⟩:=h.rd.2 hn
 exact ⟨b,o,e,hb,fun j u hu=>(hg.cell_far ⟨b,o+j,none⟩ (Nat.lt_of_lt_of_le hb hB) (fun e'=>ho b e'.symm hn _ e rfl)).trans (hc j u hu)⟩
theorem El.grownR {W W' : World} {B n c:Nat} {A:Option Addr} {l:List Le} (h:El W B (.slice A n c) l) (hB:B<=W.heap.size) {row:Option Nat} (hg:W.grownBy W' row) (ho:∀ q,row=some q->OffB q n A):El W' B (.slice A n c) l:=by
 obtain ⟨h1,h2,h3⟩:=h.len
 subst h1
 refine ⟨A,c,rfl,h2,h3,h.rd.1,fun hn=>?_⟩
 obtain ⟨b,o,e,hb,hc⟩:=h.rd.2 hn
 exact ⟨b,o,e,hb,fun j u hu=>(hg.cell_far ⟨b,o+j,none⟩ (Nat.lt_of_lt_of_le hb hB) (fun e'=>ho b e'.symm hn _ e rfl)).trans (hc j u hu)⟩
theorem Dl.grownR {W W' : World} {B n c:Nat} {A:Option Addr} {l:List Du} (h:Dl W B (.slice A n c) l) (hB:B<=W.heap.size) {row:Option Nat} (hg:W.grownBy W' row) (ho:∀ q,row=some q->OffB q n A):Dl W' B (.slice A n c) l:=by
 obtain ⟨h1,h2,h3⟩:=h.len
 subst h1
 refine ⟨A,c,rfl,h2,h3,h.rd.1,fun hn=>?_⟩
 obtain ⟨b,o,e,hb,hc⟩:=h.rd.2 hn
 exact ⟨b,o,e,hb,fun j u hu=>(hg.cell_far ⟨b,o+j,none⟩ (Nat.lt_of_lt_of_le hb hB) (fun e'=>ho b e'.symm hn _ e rfl)).trans (hc j u hu)⟩
structure PullAt (w:World) (p r B:Nat) (S:Sh) (D:Sx) (A0:Option Addr) (c0:Nat) (L:List Msg) (lv:Value) (T:List Msg) (W:World):Prop where
 sa:SAt w p S D W
 rs:SB8 W r zS zX
 l0:Ls W B (.slice A0 L.length c0) L
 o0:OffB p L.length A0
 own:W.ownsRow B 79 7 lv T.length (lcs T)
 dj:∀ q,lv.ownBlock=some q->SOff S D q
 dr:D.nw (r+1)
 ne:p<r/\r<B/\B<=W.heap.size
section
variable {w W W' : World} {p r B c0:Nat} {S:Sh} {D:Sx} {A0:Option Addr} {L T:List Msg} {lv:Value}
end
theorem Ls.upz {W W' : World} {L:List Msg} {v:Value} (h:Ls W W.heap.size v L) (hb:Below W.heap.size W W'):Ls W' W'.heap.size v L:=(h.below hb).more hb.size
structure AlAt (w:World) (p B:Nat) (S:Sh) (D:Sx) (L T:List Msg) (r4 r5 r7:Option Value) (W:World):Prop where
 sa:SAt w p S D W
 f4:∀ v,r4=some v->Ls W W.heap.size v L
 f5:∀ v,r5=some v->W.ownsRow B 79 7 v L.length (lcs L)
 f7:∀ v,r7=some v->Ls W W.heap.size v T
 z:W.ownsRow B 79 7 (.slice none 0 0) 0 []
 pb:p<B/\B<=W.heap.size
 off:∀ q,B<=q->SOff S D q
section
variable {w W W' : World} {p B:Nat} {S:Sh} {D:Sx} {L T:List Msg} {r4 r5 r7:Option Value} {v:Value}
end
structure VaAt (w:World) (p:Nat) (S:Sh) (D:Sx) (v:Value) (L:List Msg) (W:World):Prop where
 sa:SAt w p S D W
 ls:Ls W W.heap.size v L
theorem sfree_any (k:Nat) (w:World) (h1:1<=k) (h2:k<=12) :
  Calls Tryz.prog 44 #[.int .i64 (k:Int)] w (SE w (frS k) 0):=by
 have R0:=Lh (SB8.zero w 72)
 have B0:=Lh ((Below.refl w.heap.size w).alloc (nLR _) (.cells #[.bool false,.int .i64 0,.int .i64 0,.slice none 0 0,.int .i64 0,.int .i64 0,.slice none 0 0,.slice none 0 0] 72))
 have HN:=Lh (fun W=>gnew_any (k:Int) W)
 have hnl:(nwC (k:Int)).length=k:=by rw [(nwC_fil h1 h2 0 (by omega)).1,fil_len]
 rw [(nwC_fil h1 h2 0 (by omega)).2] at HN
 obtain ⟨S,hS⟩:∃ S,S=frS k:=⟨_,rfl⟩
 have HS:=Lh (show S=⟨false,0,0,nwC k,0,0,[],[]⟩ from hS)
 rw [<-hS]
 clear hS
 generalize nwC (k:Int)=cs at*
 go_enter Tryz.func44,Tryz.ntmps44
 go_wp2_with fail
 obtain ⟨r,hr⟩:∃ r,r=w.heap.size:=⟨_,rfl⟩
 have HRW:=Lh (show w.heap.size<=r by omega)
 rw [<-hr]
 rw [<-hr] at R0
 clear hr
 generalize (w.alloc (.cells #[.bool false,.int .i64 0,.int .i64 0,.slice none 0 0,.int .i64 0,.int .i64 0,.slice none 0 0,.slice none 0 0] 72))=w1 at*
 refine (HN.out _).mono ?_
 rintro e w2 ⟨A,c,rfl,hnw,hl,hb⟩
 have B2:=Lh (btr B0.out hb)
 have R2:=Lh (R0.out.up hb)
 have L2:=Lh hl
 have N2:=Lh (nw_low hnw (show r+1<=_ from R0.out.lt))
 clear hb hl hnw
 rw [hnl] at L2 ⊢
 have HF:=Lh (show SE w S 0 (.returned (.tuple #[.agg #[.bool false,.int .i64 0,.int .i64 0,.slice A k c,.int .i64 0,.int .i64 0,.slice none 0 0,.slice none 0 0],.int .i64 0])) ((((((((((w2.setCell ⟨r,0,none⟩ (.bool false)).setCell ⟨r,1,none⟩ (.int .i64 0)).setCell ⟨r,2,none⟩ (.int .i64 0)).setCell ⟨r,3,none⟩ (.slice A k c)).setCell ⟨r,4,none⟩ (.int .i64 0)).setCell ⟨r,5,none⟩ (.int .i64 0)).setCell ⟨r,6,none⟩ (.slice none 0 0)).setCell ⟨r,7,none⟩ (.slice none 0 0)).alloc (.cells #[.slice A k c,.int .i64 0,.int .i64 0] 66))) from by
  rw [HS.out]
  subst hnl
  exact ⟨⟨A,c,none,0,none,0⟩,rfl,⟨nw_low N2.out (by have:=HRW.out;omega),nw_none,nw_none⟩,(SR.sets (S:=⟨false,0,0,cs,0,0,[],[]⟩) (D:=⟨A,c,none,0,none,0⟩) ⟨offb_nw N2.out (Nat.lt_succ_self r),offb_none,offb_none⟩ (Sh.l8 ⟨false,0,0,cs,0,0,[],[]⟩ ⟨A,c,none,0,none,0⟩) 0 w2 ⟨L2.out,El.nil,Dl.nil⟩).up ((Below.refl _ _).alloc (nLR _) _),bal (set8s_below HRW.out B2.out ⟨false,0,0,cs,0,0,[],[]⟩ ⟨A,c,none,0,none,0⟩) _⟩)
 obtain ⟨⟨r0,r1,r2,r3,r4,r5,r6,r7,rl⟩,⟨g0,g1,g2,g3,g4,g5,g6,g7⟩⟩:=R2.out.all
 clear hnl
 go_wp2
 exact bodyPost_ret (v:=.tuple #[.agg #[.bool false,.int .i64 0,.int .i64 0,.slice A k c,.int .i64 0,.int .i64 0,.slice none 0 0,.slice none 0 0],.int .i64 0]) (by simp only [results,Tryz.results44];go_simp <;> rfl) rfl HF.out
structure DSX (w:World) (p q:Nat) (d:Dd) (X:Dx) (W:World):Prop where
 da:DAt w p d X W
 c0:W.cell? ⟨q,0,none⟩=some (.int .i64 0)
 c1:W.cell? ⟨q,1,none⟩=some (.int .i64 0)
 c2:W.cell? ⟨q,2,none⟩=some (.int .i64 0)
 fr:∀ o,W.frozen? ⟨q,o,none⟩=false
 lt:q<W.heap.size
 old:w.heap.size<=q
end Go.Proofs.YtkecnihgjepfeaaGreat
