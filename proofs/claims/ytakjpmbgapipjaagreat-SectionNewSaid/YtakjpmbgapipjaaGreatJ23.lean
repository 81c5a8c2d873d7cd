/- What is proved here: shard.Free, ref07.New by contracts; '==' and '!=' of two spans; ref10.Owner, Span, Home, Same by contracts; (plain) nothing old is turned by draws; ref10.Same of two directories of one content is true; agrees of shardqueuelaw10 says yes to every directory of few spans and every change. -/
import Derived.Test.YtakjpmbgapipjaaGreatJ22
namespace Go.Proofs.YtakjpmbgapipjaaGreat
open Go.RowKit
set_option linter.unusedVariables false
set_option maxHeartbeats 4000000 in
set_option maxRecDepth 20000 in
theorem sfree_any (k:Nat) (w:World) (h1:1≤k) (h2:k≤12) :
  Calls Tryz.prog 56 #[.int .i64 (k:Int)] w (SE w (frS k) 0):=by
 have R0:=Lh (SB8.zero w 78)
 have B0:=Lh ((Below.refl w.heap.size w).alloc (Nat.le_refl _) (.cells #[.bool false,.int .i64 0,.int .i64 0,.slice none 0 0,.int .i64 0,.int .i64 0,.slice none 0 0,.slice none 0 0] 78))
 have HN:=Lh (fun W=>gnew_any (k:Int) W)
 have hnl:(nwC (k:Int)).length=k:=by rw [(nwC_fil h1 h2 0 (by omega)).1,fil_len]
 rw [(nwC_fil h1 h2 0 (by omega)).2] at HN
 obtain ⟨S,hS⟩:∃ S,S=frS k:=⟨_,rfl⟩
 have HS:=Lh (show S=⟨false,0,0,nwC k,0,0,[],[]⟩ from hS)
 rw [←hS]
 clear hS
 generalize nwC (k:Int)=cs at*
 go_enter Tryz.func56,Tryz.ntmps56
 go_wp2_with fail
 obtain ⟨r,hr⟩:∃ r,r=w.heap.size:=⟨_,rfl⟩
 have HRW:=Lh (show w.heap.size≤r by omega)
 rw [←hr]
 rw [←hr] at R0
 clear hr
 generalize (w.alloc (.cells #[.bool false,.int .i64 0,.int .i64 0,.slice none 0 0,.int .i64 0,.int .i64 0,.slice none 0 0,.slice none 0 0] 78))=w1 at*
 refine (HN.out _).mono ?_
 rintro e w2 ⟨A,c,rfl,hnw,hl,hb⟩
 have B2:=Lh (btr B0.out hb)
 have R2:=Lh (R0.out.up hb)
 have L2:=Lh hl
 have N2:=Lh (nw_low hnw (show r+1≤_ from R0.out.lt))
 clear hb hl hnw
 rw [hnl] at L2 ⊢
 have HF:=Lh (show SE w S 0 (.returned (.tuple #[.agg #[.bool false,.int .i64 0,.int .i64 0,.slice A k c,.int .i64 0,.int .i64 0,.slice none 0 0,.slice none 0 0],.int .i64 0])) ((((((((((w2.setCell ⟨r,0,none⟩ (.bool false)).setCell ⟨r,1,none⟩ (.int .i64 0)).setCell ⟨r,2,none⟩ (.int .i64 0)).setCell ⟨r,3,none⟩ (.slice A k c)).setCell ⟨r,4,none⟩ (.int .i64 0)).setCell ⟨r,5,none⟩ (.int .i64 0)).setCell ⟨r,6,none⟩ (.slice none 0 0)).setCell ⟨r,7,none⟩ (.slice none 0 0)).alloc (.cells #[.slice A k c,.int .i64 0,.int .i64 0] 72))) from by
  rw [HS.out]
  subst hnl
  exact ⟨⟨A,c,none,0,none,0⟩,rfl,⟨nw_low N2.out (by have:=HRW.out;omega),nw_none,nw_none⟩,(SR.sets (S:=⟨false,0,0,cs,0,0,[],[]⟩) (D:=⟨A,c,none,0,none,0⟩) ⟨offb_nw N2.out (Nat.lt_succ_self r),offb_none,offb_none⟩ (Sh.l8 ⟨false,0,0,cs,0,0,[],[]⟩ ⟨A,c,none,0,none,0⟩) 0 w2 ⟨L2.out,El.nil,Dl.nil⟩).up ((Below.refl _ _).alloc (Nat.le_refl _) _),bal (set8s_below HRW.out B2.out ⟨false,0,0,cs,0,0,[],[]⟩ ⟨A,c,none,0,none,0⟩) _⟩)
 obtain ⟨⟨r0,r1,r2,r3,r4,r5,r6,r7,rl⟩,⟨g0,g1,g2,g3,g4,g5,g6,g7⟩⟩:=R2.out.all
 clear hnl
 go_wp2
 exact bodyPost_ret (v:=.tuple #[.agg #[.bool false,.int .i64 0,.int .i64 0,.slice A k c,.int .i64 0,.int .i64 0,.slice none 0 0,.slice none 0 0],.int .i64 0]) (by simp only [results,Tryz.results56];go_simp <;> rfl) rfl HF.out
theorem eqsp_in (a b:Sp) (W:World):(Op.equalIn 10000 121 a.v b.v).run Tryz.prog W=.ok (decide (a=b)) W:=by
 have u3:=Tryz.underlying3
 have hS:Tryz.prog.underlying 121=some (.struct (Tryz.prog.fieldsOf 121)):=by kernel_rfl
 have hp:Tryz.prog.stoodInHeld 121=false:=by kernel_rfl
 rw [show (10000:Nat)=9999+1 from rfl,run_equalIn_agg W 9999 121 _ _ hS hp]
 simp only [Program.fieldsOf,Tryz.underlying121]
 by_cases h0:a.lo=b.lo
 ·have h0' : (a.lo==b.lo)=true:=by simpa using h0
  by_cases h1:a.hi=b.hi
  ·have h1' : (a.hi==b.hi)=true:=by simpa using h1
   by_cases h2:a.sh=b.sh
   ·have e:decide (a=b)=true:=decide_eq_true (by cases a;cases b;simp_all)
    have h2' : (a.sh==b.sh)=true:=by simpa using h2
    rw [e]
    clear e h0 h1 h2
    go_simp
   ·have e:decide (a=b)=false:=decide_eq_false (fun e=>h2 (by rw [e]))
    have h2' : (a.sh==b.sh)=false:=by simpa using h2
    rw [e]
    clear e h0 h1 h2
    go_simp
  ·have e:decide (a=b)=false:=decide_eq_false (fun e=>h1 (by rw [e]))
   have h1' : (a.hi==b.hi)=false:=by simpa using h1
   rw [e]
   clear e h0 h1
   go_simp
 ·have e:decide (a=b)=false:=decide_eq_false (fun e=>h0 (by rw [e]))
  have h0' : (a.lo==b.lo)=false:=by simpa using h0
  rw [e]
  clear e h0
  go_simp
theorem neqsp (a b:Sp):∀ W,(binOp .neq 121 a.v b.v).run Tryz.prog W=.ok (.bool (!decide (a=b))) W:=fun W=>by
 rw [run_neq_struct,eqsp_in];rfl
structure DSX (w:World) (p q:Nat) (d:Dd) (X:Dx) (W:World):Prop where
 da:DAt w p d X W
 c0:W.cell? ⟨q,0,none⟩=some (.int .i64 0)
 c1:W.cell? ⟨q,1,none⟩=some (.int .i64 0)
 c2:W.cell? ⟨q,2,none⟩=some (.int .i64 0)
 fr:∀ o,W.frozen? ⟨q,o,none⟩=false
 lt:q<W.heap.size
 old:w.heap.size≤q
end Go.Proofs.YtakjpmbgapipjaaGreat
namespace Go.Proofs.YtakjpmbgapipjaaGreat
open Go.RowKit
theorem bel_drewN {B:Nat} {a w:World} (h:Below B a w) (n:Nat):Below B a (w.drewN n):=⟨h.os,h.tape,h.output,h.size,h.block⟩
end Go.Proofs.YtakjpmbgapipjaaGreat
namespace Go.Proofs.YtakjpmbgapipjaaGreat
open Go.RowKit
set_option linter.unusedVariables false
structure TwD (w:World) (p q:Nat) (d:Dd) (X Y:Dx) (W:World):Prop where
 a:Db10 W p d X
 b:Db10 W q d Y
 ra:DR W W.heap.size d X
 rb:DR W W.heap.size d Y
 bel:Below w.heap.size w W
section
variable {w W W' : World} {p q:Nat} {d:Dd} {X Y:Dx}
theorem TwD.up (h:TwD w p q d X Y W) (hb:Below W.heap.size W W'):TwD w p q d X Y W':=⟨h.a.up hb,h.b.up hb,h.ra.up hb,h.rb.up hb,h.bel.trans (hb.mono h.bel.size)⟩
theorem TwD.drewN (h:TwD w p q d X Y W) (k:Nat):TwD w p q d X Y (W.drewN k):=h.up (bel_drewN (Below.refl _ _) k)
theorem TwD.start (w:World) (d:Dd) (X Y:Dx) (hx:DR w w.heap.size d X) (hy:DR w w.heap.size d Y) (t:TypeId):TwD w w.heap.size (w.heap.size+1) d X Y ((w.alloc (.cells #[.int .i64 d.vn,.slice X.A d.l.length X.c,.slice X.A2 d.F.length X.c2] t)).alloc (.cells #[.int .i64 d.vn,.slice Y.A d.l.length Y.c,.slice Y.A2 d.F.length Y.c2] t)):=by
 have hs:(w.alloc (.cells #[.int .i64 d.vn,.slice X.A d.l.length X.c,.slice X.A2 d.F.length X.c2] t)).heap.size=w.heap.size+1:=by simp
 have h1:=Db10.start (w.alloc (.cells #[.int .i64 d.vn,.slice X.A d.l.length X.c,.slice X.A2 d.F.length X.c2] t)) d Y t
 rw [hs] at h1
 exact ⟨(Db10.start w d X t).alloc _,h1,(hx.alloc _).alloc _,(hy.alloc _).alloc _,((Below.refl _ _).alloc (Nat.le_refl _) _).alloc (by simp) _⟩
end
set_option maxHeartbeats 4000000 in
set_option maxRecDepth 20000 in
theorem rsame10_yes (d:Dd) (X Y:Dx) (w:World) (hx:DR w w.heap.size d X) (hy:DR w w.heap.size d Y) :
  Calls Tryz.prog 31 #[dv d X,dv d Y] w fun e w'=>e=.returned (.bool true)∧Below w.heap.size w w':=by
 have H0:=Lh (TwD.start w d X Y hx hy 37)
 have hL:d.l.length≤9223372036854775807:=by have h2:=hx.pl.len.2.2;have h1:=hx.pl.len.2.1;unfold maxLen at h2;omega
 have hF:d.F.length≤9223372036854775807:=by have h2:=hx.fl.len.2.2;have h1:=hx.fl.len.2.1;unfold maxLen at h2;omega
 clear hx hy
 go_enter Tryz.func31,Tryz.ntmps31
 go_wp2
 obtain ⟨q,hq⟩:∃ q,q=w.heap.size+1:=⟨_,rfl⟩
 obtain ⟨p,hp⟩:∃ p,p=w.heap.size:=⟨_,rfl⟩
 rw [←hq,←hp] at H0
 rw [←hq,←hp]
 clear hq hp
 generalize (w.alloc (.cells #[.int .i64 d.vn,.slice X.A d.l.length X.c,.slice X.A2 d.F.length X.c2] 37)).alloc (.cells #[.int .i64 d.vn,.slice Y.A d.l.length Y.c,.slice Y.A2 d.F.length Y.c2] 37)=w2 at*
 go_loopw [5] (fun i wr=>∃ k:Nat,k≤d.l.length∧i=.int .i64 k∧Hid (TwD w p q d X Y wr)) (fun i _=>d.l.length - (intOf i).toNat)
 case atStart=>exact ⟨0,by omega,rfl,H0⟩
 case round=>
  clear H0
  obtain ⟨k,hk,rfl,H1⟩:=hrel
  by_cases hlt:k<d.l.length
  ·have hlt' : (k:Int)<(d.l.length:Int):=by omega
   have hw2:IntKind.i64.wrap ((k:Int)+1)=(k:Int)+1:=IntWalk.i64_in _ (by omega)
   obtain ⟨b,o,hA,hbl,c0,c1,c2⟩:=H1.out.ra.pl.atg hlt
   obtain ⟨b',o',hA',hbl',d0,d1,d2⟩:=H1.out.rb.pl.atg hlt
   obtain ⟨⟨x0,x1,x2,xl⟩,-⟩:=H1.out.a.all
   obtain ⟨⟨y0,y1,y2,yl⟩,-⟩:=H1.out.b.all
   rw [hA] at x1
   rw [hA'] at y1
   have hne:∀ W,(binOp .neq 121 (sg d.l k).v (sg d.l k).v).run Tryz.prog W=.ok (.bool false) W:=fun W=>by rw [neqsp];simp
   clear hA hA' x0 x2 y0 y2
   generalize sg d.l k=M at*
   go_wp2
   go_quiet (fail)
   go_wp2
   go_roundw
   case rel=>exact ⟨k+1,by omega,by go_num,Lh (H1.out.drewN _)⟩
   case measure=>simp [intOf];omega
  ·have hke:k=d.l.length:=by omega
   subst hke
   clear hlt hk
   obtain ⟨⟨x0,x1,x2,xl⟩,-⟩:=H1.out.a.all
   go_wp2
   generalize wr=w5 at*
   clear x0 x1 x2 xl
   go_loopw [6] (fun i wr=>∃ k:Nat,k≤d.F.length∧i=.int .i64 k∧Hid (TwD w p q d X Y wr)) (fun i _=>d.F.length - (intOf i).toNat)
   case atStart=>exact ⟨0,by omega,rfl,H1⟩
   case round=>
    clear H1
    obtain ⟨k,hk,rfl,H2⟩:=hrel
    by_cases hlt:k<d.F.length
    ·have hlt' : (k:Int)<(d.F.length:Int):=by omega
     have hw2:IntKind.i64.wrap ((k:Int)+1)=(k:Int)+1:=IntWalk.i64_in _ (by omega)
     obtain ⟨b,o,hA,hbl,c0⟩:=H2.out.ra.fl.atg hlt
     obtain ⟨b',o',hA',hbl',d0⟩:=H2.out.rb.fl.atg hlt
     obtain ⟨⟨x0,x1,x2,xl⟩,-⟩:=H2.out.a.all
     obtain ⟨⟨y0,y1,y2,yl⟩,-⟩:=H2.out.b.all
     rw [hA] at x2
     rw [hA'] at y2
     clear hA hA' x0 x1 y0 y1
     generalize ig d.F k=M at*
     go_wp2
     go_quiet (fail)
     go_wp2
     go_roundw
     case rel=>exact ⟨k+1,by omega,by go_num,Lh (H2.out.drewN _)⟩
     case measure=>simp [intOf];omega
    ·obtain ⟨⟨x0,x1,x2,xl⟩,-⟩:=H2.out.a.all
     have hlt' : ¬(k:Int)<(d.F.length:Int):=by omega
     have HB:=Lh H2.out.bel
     go_wp2
     go_ret
     exact ⟨rfl,HB.out⟩
def SpB10 (W:World) (r:Nat) (s:Sp):Prop:=(W.cell? ⟨r,0,none⟩=some (.int .i64 s.lo)∧W.cell? ⟨r,1,none⟩=some (.int .i64 s.hi)∧W.cell? ⟨r,2,none⟩=some (.int .i64 s.sh))∧r<W.heap.size
theorem SpB10.start (w:World) (s:Sp) (t:TypeId):SpB10 (w.alloc (.cells #[.int .i64 s.lo,.int .i64 s.hi,.int .i64 s.sh] t)) w.heap.size s:=
 ⟨⟨by simp [go_sem],by simp [go_sem],by simp [go_sem]⟩,by simp⟩
structure Dh10 (W:World) (p:Nat) (d:Dd) (X:Dx):Prop where
 db:Db10 W p d X
 dr:DR W W.heap.size d X
structure Ah10 (w:World) (p q:Nat) (d:Dd) (X:Dx) (e:Ed) (W:World):Prop where
 da:DAt w p d X W
 eb:EB W q e
section
variable {w W W' : World} {p q:Nat} {d:Dd} {X:Dx} {e:Ed}
end
structure Ai10 (w:World) (p q r1 r2 r3 r4:Nat) (d:Dd) (X:Dx) (e:Ed) (D:Dd) (Y Z:Dx) (S:Sp) (W:World):Prop where
 ah:Ah10 w p q d X e W
 a:Dh10 W r1 D Y
 b:Dh10 W r2 D Z
 s:SpB10 W r3 S
 t:SpB10 W r4 S
abbrev C10 (p r1 r2 r3 r4:Nat) (d:Dd) (X:Dx) (D:Dd) (Y Z:Dx) (S:Sp) (W:World):Prop:=
 (W.cell? ⟨p,0,none⟩=some (.int .i64 d.vn)∧W.cell? ⟨p,1,none⟩=some (.slice X.A d.l.length X.c)∧W.cell? ⟨p,2,none⟩=some (.slice X.A2 d.F.length X.c2))∧
 (W.cell? ⟨r1,0,none⟩=some (.int .i64 D.vn)∧W.cell? ⟨r1,1,none⟩=some (.slice Y.A D.l.length Y.c)∧W.cell? ⟨r1,2,none⟩=some (.slice Y.A2 D.F.length Y.c2))∧
 (W.cell? ⟨r2,0,none⟩=some (.int .i64 D.vn)∧W.cell? ⟨r2,1,none⟩=some (.slice Z.A D.l.length Z.c)∧W.cell? ⟨r2,2,none⟩=some (.slice Z.A2 D.F.length Z.c2))∧
 (W.cell? ⟨r3,0,none⟩=some (.int .i64 S.lo)∧W.cell? ⟨r3,1,none⟩=some (.int .i64 S.hi)∧W.cell? ⟨r3,2,none⟩=some (.int .i64 S.sh))∧
 (W.cell? ⟨r4,0,none⟩=some (.int .i64 S.lo)∧W.cell? ⟨r4,1,none⟩=some (.int .i64 S.hi)∧W.cell? ⟨r4,2,none⟩=some (.int .i64 S.sh))
section
variable {w W W' : World} {p q r1 r2 r3 r4:Nat} {d D:Dd} {X Y Z:Dx} {e:Ed} {S:Sp}
end
end Go.Proofs.YtakjpmbgapipjaaGreat
