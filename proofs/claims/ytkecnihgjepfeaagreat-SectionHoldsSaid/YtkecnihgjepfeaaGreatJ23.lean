/- What is proved here: parts of the proof: Srva Qsf Drg Bdn Drs Agd. -/
import Derived.Test.YtkecnihgjepfeaaGreatJ22
namespace Go.Proofs.YtkecnihgjepfeaaGreat
open Go.RowKit
set_option linter.unusedVariables false
set_option linter.unusedSimpArgs false
set_option maxHeartbeats 8000000
set_option maxRecDepth 20000
structure VaAt (w:World) (p:Nat) (S:Sh) (D:Sx) (v:Value) (L:List Msg) (W:World):Prop where
 sa:SAt w p S D W
 ls:Ls W W.heap.size v L
theorem sfree_any (k:Nat) (w:World) (h1:1<=k) (h2:k<=12) :
  Calls Tryz.prog 44 #[.int .i64 (k:Int)] w (SE w (frS k) 0):=by
 have R0:=Lh (SB8.zero w 72)
 have B0:=Lh ((Below.refl w.heap.size w).alloc (nLR _) (.cells #[.bool false,.int .i64 0,.int .i64 0,.slice none 0 0,.int .i64 0,.int .i64 0,.slice none 0 0,.slice none 0 0] 72))
 have HN:=Lh (fun W=>gnew_any (k:Int) W)
 have hnl:(nwC (k:Int)).length=k:=by rw [(nwC_fil h1 h2 0 (by omega)).1,fil_len]
 rw [(nwC_fil h1 h2 0 (by omega)).2] at HN
 obtain ⟨S,hS⟩:∃ S,S=frS k:=⟨_,rfl⟩
 have HS:=Lh (show S=⟨false,0,0,nwC k,0,0,[],[]⟩ from hS)
 rw [<-hS]
 clear hS
 generalize nwC (k:Int)=cs at*
 go_enter Tryz.func44,Tryz.ntmps44
 go_wp2_with fail
 obtain ⟨r,hr⟩:∃ r,r=w.heap.size:=⟨_,rfl⟩
 have HRW:=Lh (show w.heap.size<=r by omega)
 rw [<-hr]
 rw [<-hr] at R0
 clear hr
 generalize (w.alloc (.cells #[.bool false,.int .i64 0,.int .i64 0,.slice none 0 0,.int .i64 0,.int .i64 0,.slice none 0 0,.slice none 0 0] 72))=w1 at*
 refine (HN.out _).mono ?_
 rintro e w2 ⟨A,c,rfl,hnw,hl,hb⟩
 have B2:=Lh (btr B0.out hb)
 have R2:=Lh (R0.out.up hb)
 have L2:=Lh hl
 have N2:=Lh (nw_low hnw (show r+1<=_ from R0.out.lt))
 clear hb hl hnw
 rw [hnl] at L2 ⊢
 have HF:=Lh (show SE w S 0 (.returned (.tuple #[.agg #[.bool false,.int .i64 0,.int .i64 0,.slice A k c,.int .i64 0,.int .i64 0,.slice none 0 0,.slice none 0 0],.int .i64 0])) ((((((((((w2.setCell ⟨r,0,none⟩ (.bool false)).setCell ⟨r,1,none⟩ (.int .i64 0)).setCell ⟨r,2,none⟩ (.int .i64 0)).setCell ⟨r,3,none⟩ (.slice A k c)).setCell ⟨r,4,none⟩ (.int .i64 0)).setCell ⟨r,5,none⟩ (.int .i64 0)).setCell ⟨r,6,none⟩ (.slice none 0 0)).setCell ⟨r,7,none⟩ (.slice none 0 0)).alloc (.cells #[.slice A k c,.int .i64 0,.int .i64 0] 66))) from by
  rw [HS.out]
  subst hnl
  exact ⟨⟨A,c,none,0,none,0⟩,rfl,⟨nw_low N2.out (by have:=HRW.out;omega),nw_none,nw_none⟩,(SR.sets (S:=⟨false,0,0,cs,0,0,[],[]⟩) (D:=⟨A,c,none,0,none,0⟩) ⟨offb_nw N2.out (Nat.lt_succ_self r),offb_none,offb_none⟩ (Sh.l8 ⟨false,0,0,cs,0,0,[],[]⟩ ⟨A,c,none,0,none,0⟩) 0 w2 ⟨L2.out,El.nil,Dl.nil⟩).up ((Below.refl _ _).alloc (nLR _) _),bal (set8s_below HRW.out B2.out ⟨false,0,0,cs,0,0,[],[]⟩ ⟨A,c,none,0,none,0⟩) _⟩)
 obtain ⟨⟨r0,r1,r2,r3,r4,r5,r6,r7,rl⟩,⟨g0,g1,g2,g3,g4,g5,g6,g7⟩⟩:=R2.out.all
 clear hnl
 go_wp2
 exact bodyPost_ret (v:=.tuple #[.agg #[.bool false,.int .i64 0,.int .i64 0,.slice A k c,.int .i64 0,.int .i64 0,.slice none 0 0,.slice none 0 0],.int .i64 0]) (by simp only [results,Tryz.results44];go_simp <;> rfl) rfl HF.out
structure DSX (w:World) (p q:Nat) (d:Dd) (X:Dx) (W:World):Prop where
 da:DAt w p d X W
 c0:W.cell? ⟨q,0,none⟩=some (.int .i64 0)
 c1:W.cell? ⟨q,1,none⟩=some (.int .i64 0)
 c2:W.cell? ⟨q,2,none⟩=some (.int .i64 0)
 fr:∀ o,W.frozen? ⟨q,o,none⟩=false
 lt:q<W.heap.size
 old:w.heap.size<=q
theorem bel_drewN {B:Nat} {a w:World} (h:Below B a w) (n:Nat):Below B a (w.drewN n):=⟨h.os,h.tape,h.output,h.size,h.block⟩
structure TwD (w:World) (p q:Nat) (d:Dd) (X Y:Dx) (W:World):Prop where
 a:Db10 W p d X
 b:Db10 W q d Y
 ra:DR W W.heap.size d X
 rb:DR W W.heap.size d Y
 bel:Below w.heap.size w W
section
variable {w W W' : World} {p q:Nat} {d:Dd} {X Y:Dx}
end
def SpB10 (W:World) (r:Nat) (s:Sp):Prop:=(W.cell? ⟨r,0,none⟩=some (.int .i64 s.lo)/\W.cell? ⟨r,1,none⟩=some (.int .i64 s.hi)/\W.cell? ⟨r,2,none⟩=some (.int .i64 s.sh))/\r<W.heap.size
theorem SpB10.start (w:World) (s:Sp) (t:TypeId):SpB10 (w.alloc (.cells #[.int .i64 s.lo,.int .i64 s.hi,.int .i64 s.sh] t)) w.heap.size s:=
 ⟨⟨by simp [go_sem],by simp [go_sem],by simp [go_sem]⟩,by simp⟩
structure Dh10 (W:World) (p:Nat) (d:Dd) (X:Dx):Prop where
 db:Db10 W p d X
 dr:DR W W.heap.size d X
structure Ah10 (w:World) (p q:Nat) (d:Dd) (X:Dx) (e:Ed) (W:World):Prop where
 da:DAt w p d X W
 eb:EB W q e
section
variable {w W W' : World} {p q:Nat} {d:Dd} {X:Dx} {e:Ed}
end
structure Ai10 (w:World) (p q r1 r2 r3 r4:Nat) (d:Dd) (X:Dx) (e:Ed) (D:Dd) (Y Z:Dx) (S:Sp) (W:World):Prop where
 ah:Ah10 w p q d X e W
 a:Dh10 W r1 D Y
 b:Dh10 W r2 D Z
 s:SpB10 W r3 S
 t:SpB10 W r4 S
abbrev C10 (p r1 r2 r3 r4:Nat) (d:Dd) (X:Dx) (D:Dd) (Y Z:Dx) (S:Sp) (W:World):Prop:=
 (W.cell? ⟨p,0,none⟩=some (.int .i64 d.vn)/\W.cell? ⟨p,1,none⟩=some (.slice X.A d.l.length X.c)/\W.cell? ⟨p,2,none⟩=some (.slice X.A2 d.F.length X.c2))/\
 (W.cell? ⟨r1,0,none⟩=some (.int .i64 D.vn)/\W.cell? ⟨r1,1,none⟩=some (.slice Y.A D.l.length Y.c)/\W.cell? ⟨r1,2,none⟩=some (.slice Y.A2 D.F.length Y.c2))/\
 (W.cell? ⟨r2,0,none⟩=some (.int .i64 D.vn)/\W.cell? ⟨r2,1,none⟩=some (.slice Z.A D.l.length Z.c)/\W.cell? ⟨r2,2,none⟩=some (.slice Z.A2 D.F.length Z.c2))/\
 (W.cell? ⟨r3,0,none⟩=some (.int .i64 S.lo)/\W.cell? ⟨r3,1,none⟩=some (.int .i64 S.hi)/\W.cell? ⟨r3,2,none⟩=some (.int .i64 S.sh))/\
 (W.cell? ⟨r4,0,none⟩=some (.int .i64 S.lo)/\W.cell? ⟨r4,1,none⟩=some (.int .i64 S.hi)/\W.cell? ⟨r4,2,none⟩=some (.int .i64 S.sh))
section
variable {w W W' : World} {p q r1 r2 r3 r4:Nat} {d D:Dd} {X Y Z:Dx} {e:Ed} {S:Sp}
end
end Go.Proofs.YtkecnihgjepfeaaGreat
