/- What is proved here: parts of the proof: Gro Sho Shn Lpl Lre Lex. -/
import Derived.Test.YtkecnihgjepfeaaGreatJ17
import Derived.Deep.LoopGhost
namespace Go.Proofs.YtkecnihgjepfeaaGreat
open Go.RowKit
set_option linter.unusedVariables false
set_option linter.unusedSimpArgs false
set_option maxHeartbeats 8000000
set_option maxRecDepth 20000
theorem bal {a w:World} (h:Below a.heap.size a w) (o:Obj):Below a.heap.size a (w.alloc o):=h.alloc h.size o
theorem bst {a w:World} (h:Below a.heap.size a w) {p:Addr} (hp:a.heap.size<=p.block) (v:Value):Below a.heap.size a (w.setCell p v):=h.setCell hp v
theorem bdr {a w:World} (h:Below a.heap.size a w):Below a.heap.size a w.drew:=h.drew
theorem btr {a b c:World} (h:Below a.heap.size a b) (k:Below b.heap.size b c):Below a.heap.size a c:=h.trans (k.mono h.size)
section
variable {wr w4:World} {A4:Option Addr} {k c4 lo x m:Nat} {hd z:Int} {X:Msg} {l:List Msg}
end
structure RvAt (w:World) (p:Nat) (A:Option Addr) (k c hd:Nat) (L:List Msg) (AL:Option Addr) (cL:Nat) (W:World):Prop where
 rb:RB W p A k c hd L.length
 ls:Ls W W.heap.size (.slice A k c) (fil k hd L)
 la:Ls W W.heap.size (.slice AL L.length cL) L
 bel:Below w.heap.size w W
 old:w.heap.size<=p
def RMQ (w0 w:World) (cs:List Msg) (hd sz:Int) (X:Msg) (x:Int) (e:Ending) (w' : World):Prop:=∃ A c,e=.returned (.tuple #[.agg #[.slice A cs.length c,.int .i64 hd,.int .i64 sz],X.v,.int .i64 x])/\Nw w.heap.size A/\Ls w' w'.heap.size (.slice A cs.length c) cs/\Below w.heap.size w w'/\Below w0.heap.size w0 w'
def LsQ (w0:World) (l:List Msg) (w:World) (e:Ending) (w' : World):Prop:=∃ A c,e=.returned (.slice A l.length c)/\Nw w.heap.size A/\Ls w' w'.heap.size (.slice A l.length c) l/\Below w.heap.size w w'/\Below w0.heap.size w0 w'
theorem ex_nums {S:Sh} {b:Bool} (h:exS S b=0):1<=S.cs.length/\S.cs.length<=12/\0<=S.sz/\S.sz<=12/\S.l.length<=12/\S.h.length<=12:=by
 obtain ⟨-,V,k,rfl⟩:=vs_ex h
 have h1:=k.room
 have h2:=k.tb.len
 have h3:=k.tb.hlen
 have h4:=k.n1
 have h5:=k.n2
 have h6:V.sh.cs.length=V.n:=fil_len _ _ _
 have h7:V.sh.sz=(V.L.length:Int):=rfl
 have h8:V.sh.l=V.l:=rfl
 have h9:V.sh.h=V.h:=rfl
 rw [h6,h7,h8,h9]
 omega
noncomputable def neE (k lo hi:Int):Int:=if nwE k≠0 then nwE k else if spB lo hi=true then 0 else 1
noncomputable def neS (k lo hi:Int):Sh:=if neE k lo hi=0 then ⟨true,lo,hi,nwC k,0,0,[],[]⟩ else zS
abbrev z8 (W:World) (r:Nat):World:=((((((((W.setCell ⟨r,0,none⟩ (.bool false)).setCell ⟨r,1,none⟩ (.int .i64 0)).setCell ⟨r,2,none⟩ (.int .i64 0)).setCell ⟨r,3,none⟩ (.slice none 0 0)).setCell ⟨r,4,none⟩ (.int .i64 0)).setCell ⟨r,5,none⟩ (.int .i64 0)).setCell ⟨r,6,none⟩ (.slice none 0 0)).setCell ⟨r,7,none⟩ (.slice none 0 0))
theorem se_zeroA {w w' : World} {x:Int} {r:Nat} (hr:w.heap.size<=r) (hb:Below w.heap.size w w') (o:Obj):SE w zS x (.returned (.tuple #[.agg #[.bool false,.int .i64 0,.int .i64 0,.slice none 0 0,.int .i64 0,.int .i64 0,.slice none 0 0,.slice none 0 0],.int .i64 x])) ((z8 w' r).alloc o):=
 ⟨zX,rfl,zX_nw _,SR.zero,bal (set8s_below hr hb zS zX) o⟩
theorem snew_any (k lo hi:Int) (w:World) :
  Calls Tryz.prog 45 #[.int .i64 k,.int .i64 lo,.int .i64 hi] w (SE w (neS k lo hi) (neE k lo hi)):=by
 have R0:=Lh (SB8.zero w 72)
 have B0:=Lh ((Below.refl w.heap.size w).alloc (nLR _) (.cells #[.bool false,.int .i64 0,.int .i64 0,.slice none 0 0,.int .i64 0,.int .i64 0,.slice none 0 0,.slice none 0 0] 72))
 have HN:=Lh (fun W=>gnew_any k W)
 have HSP:=Lh (fun W=>sspan_any lo hi W)
 go_enter Tryz.func45,Tryz.ntmps45
 go_wp2_with fail
 obtain ⟨r,hr⟩:∃ r,r=w.heap.size:=⟨_,rfl⟩
 have HRW:=Lh (show w.heap.size<=r by omega)
 rw [<-hr]
 rw [<-hr] at R0
 clear hr
 generalize w.alloc (.cells #[.bool false,.int .i64 0,.int .i64 0,.slice none 0 0,.int .i64 0,.int .i64 0,.slice none 0 0,.slice none 0 0] 72)=w1 at*
 refine (HN.out _).mono ?_
 rintro e w2 ⟨A,c,rfl,hnw,hl,hb⟩
 have B2:=Lh (btr B0.out hb)
 have R2:=Lh (R0.out.up hb)
 have L2:=Lh hl
 have N2:=Lh (nw_low hnw (show r+1<=_ from R0.out.lt))
 have HRL:=Lh (show r<w2.heap.size from Nat.lt_of_lt_of_le R0.out.lt hb.size)
 clear hb hl hnw
 by_cases h1:nwE k=0
 ·have HX1:=Lh h1
  rw [h1]
  clear h1
  have hrl:=HRL.out
  go_wp2_with fail
  refine (HSP.out _).mono ?_
  rintro e w3 ⟨rfl,rfl⟩
  obtain ⟨r0,r1,r2,r3,r4,r5,r6,r7,rl⟩:=R2.out.facts
  obtain ⟨f0,f1,f2,f3,f4,f5,f6,f7⟩:=R2.out.free
  cases h2:spB lo hi with
  | true=>
   have hE:neE k lo hi=0:=by unfold neE;rw [if_neg (fun g=>g HX1.out),if_pos h2]
   have hS:neS k lo hi=⟨true,lo,hi,nwC k,0,0,[],[]⟩:=if_pos hE
   have HF:=Lh (show SE w (neS k lo hi) (neE k lo hi) (.returned (.tuple #[.agg #[.bool true,.int .i64 lo,.int .i64 hi,.slice A (nwC k).length c,.int .i64 0,.int .i64 0,.slice none 0 0,.slice none 0 0],.int .i64 0])) (((((((((w2.setCell ⟨r,0,none⟩ (.bool true)).setCell ⟨r,1,none⟩ (.int .i64 lo)).setCell ⟨r,2,none⟩ (.int .i64 hi)).setCell ⟨r,3,none⟩ (.slice A (nwC k).length c)).setCell ⟨r,4,none⟩ (.int .i64 0)).setCell ⟨r,5,none⟩ (.int .i64 0)).setCell ⟨r,6,none⟩ (.slice none 0 0)).setCell ⟨r,7,none⟩ (.slice none 0 0)).alloc (.cells #[.slice A (nwC k).length c,.int .i64 0,.int .i64 0] 66)) from by
    rw [hE,hS]
    exact ⟨⟨A,c,none,0,none,0⟩,rfl,⟨nw_low N2.out (by have:=HRW.out;omega),nw_none,nw_none⟩,(SR.sets (S:=⟨true,lo,hi,nwC k,0,0,[],[]⟩) (D:=⟨A,c,none,0,none,0⟩) ⟨offb_nw N2.out (Nat.lt_succ_self r),offb_none,offb_none⟩ (Sh.l8 ⟨true,lo,hi,nwC k,0,0,[],[]⟩ ⟨A,c,none,0,none,0⟩) 0 w2 ⟨L2.out,El.nil,Dl.nil⟩).up ((Below.refl _ _).alloc (nLR _) _),bal (set8s_below HRW.out B2.out ⟨true,lo,hi,nwC k,0,0,[],[]⟩ ⟨A,c,none,0,none,0⟩) _⟩)
   clear hE hS
   go_wp2
   exact bodyPost_ret (v:=.tuple #[.agg #[.bool true,.int .i64 lo,.int .i64 hi,.slice A (nwC k).length c,.int .i64 0,.int .i64 0,.slice none 0 0,.slice none 0 0],.int .i64 0]) (by simp only [results,Tryz.results45];go_simp <;> rfl) rfl HF.out
  | false=>
   have hE:neE k lo hi=1:=by unfold neE;rw [if_neg (fun g=>g HX1.out),if_neg (by simp [h2])]
   have hS:neS k lo hi=zS:=if_neg (by rw [hE];decide)
   have HF:=Lh (show SE w (neS k lo hi) (neE k lo hi) (.returned (.tuple #[.agg #[.bool false,.int .i64 0,.int .i64 0,.slice none 0 0,.int .i64 0,.int .i64 0,.slice none 0 0,.slice none 0 0],.int .i64 1])) ((z8 w2 r).alloc (.cells #[.slice A (nwC k).length c,.int .i64 0,.int .i64 0] 66)) from by
    rw [hE,hS]
    exact se_zeroA HRW.out B2.out _)
   clear hE hS
   go_wp2
   exact bodyPost_ret (v:=.tuple #[.agg #[.bool false,.int .i64 0,.int .i64 0,.slice none 0 0,.int .i64 0,.int .i64 0,.slice none 0 0,.slice none 0 0],.int .i64 1]) (by simp only [results,Tryz.results45];go_simp <;> rfl) rfl HF.out
 ·have hE:neE k lo hi=nwE k:=if_pos h1
  have hS:neS k lo hi=zS:=if_neg (by rw [hE];exact h1)
  have hne:(nwE k != 0)=true:=bne_iff_ne.2 h1
  obtain ⟨r0,r1,r2,r3,r4,r5,r6,r7,rl⟩:=R2.out.facts
  obtain ⟨f0,f1,f2,f3,f4,f5,f6,f7⟩:=R2.out.free
  have HF:=Lh (show SE w (neS k lo hi) (neE k lo hi) (.returned (.tuple #[.agg #[.bool false,.int .i64 0,.int .i64 0,.slice none 0 0,.int .i64 0,.int .i64 0,.slice none 0 0,.slice none 0 0],.int .i64 (nwE k)])) ((z8 w2 r).alloc (.cells #[.slice A (nwC k).length c,.int .i64 0,.int .i64 0] 66)) from by
   rw [hE,hS]
   exact se_zeroA HRW.out B2.out _)
  clear hE hS h1
  have hrl:=HRL.out
  generalize nwE k=x at*
  go_wp2
  exact bodyPost_ret (v:=.tuple #[.agg #[.bool false,.int .i64 0,.int .i64 0,.slice none 0 0,.int .i64 0,.int .i64 0,.slice none 0 0,.slice none 0 0],.int .i64 x]) (by simp only [results,Tryz.results45];go_simp <;> rfl) rfl HF.out
structure Bs2 (l:List Le) (x:Int) (lo hi:Nat):Prop where
 lo_:∀ j (hj:j<l.length),j<lo->l[j].id<x
 hi_:∀ j (hj:j<l.length),hi<=j->x<=l[j].id
def ElV (w:World) (l:List Le) (e:Ending) (w' : World):Prop:=∃ A c,e=.returned (.slice A l.length c)/\Nw w.heap.size A/\El w' w'.heap.size (.slice A l.length c) l/\Below w.heap.size w w'
abbrev RMs (W:World) (r:Nat) (M:Msg):Prop:=W.cell? ⟨r,0,none⟩=some (.int .i64 M.id)/\W.cell? ⟨r,1,none⟩=some (.int .i64 M.rt)/\W.cell? ⟨r,2,none⟩=some (.int .i64 M.ep)/\W.cell? ⟨r,3,none⟩=some (.int .i64 M.ct)/\W.cell? ⟨r,4,none⟩=some (.int .i64 M.gn)/\W.cell? ⟨r,5,none⟩=some (.int .i64 M.st)/\W.cell? ⟨r,6,none⟩=some (.string M.bd)/\W.frozen? ⟨r,0,none⟩=false/\W.frozen? ⟨r,1,none⟩=false/\W.frozen? ⟨r,2,none⟩=false/\W.frozen? ⟨r,3,none⟩=false/\W.frozen? ⟨r,4,none⟩=false/\W.frozen? ⟨r,5,none⟩=false/\W.frozen? ⟨r,6,none⟩=false/\r<W.heap.size
structure RlW (w:World) (p r s:Nat) (A:Option Addr) (c:Nat) (l:List Le) (A2:Option Addr) (c2:Nat) (h:List Du) (W:World):Prop where
 va:VaA w p A c l A2 c2 h W
 rt:RT W r none 0 0 none 0 0
 rm:RMs W s zM
 ne:w.heap.size<=p/\p<r/\r<s
section
variable {w W W' : World} {p r s c c2:Nat} {A A2:Option Addr} {l:List Le} {h:List Du}
end
structure ExW (w:World) (p r:Nat) (A:Option Addr) (c:Nat) (l:List Le) (A2:Option Addr) (c2:Nat) (h:List Du) (W:World):Prop where
 va:VaA w p A c l A2 c2 h W
 rt:RT W r none 0 0 none 0 0
 ne:w.heap.size<=p/\p<r
section
variable {w W W' : World} {p r c c2:Nat} {A A2:Option Addr} {l:List Le} {h:List Du}
end
end Go.Proofs.YtkecnihgjepfeaaGreat
