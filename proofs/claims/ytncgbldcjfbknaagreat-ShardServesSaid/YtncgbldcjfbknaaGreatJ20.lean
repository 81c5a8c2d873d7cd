/- What is proved here: ref07.epochs, limits, times, visibilities by contracts; (plain) counter stripes, lists of them in memory, what Begin, End, Quiet, Same and Sum come to; (plain) a slice that reads as a list of numbers; (plain) lists of spans and of numbers that lie in memory, directories; Qm. -/
import Derived.Test.YtncgbldcjfbknaaGreatJ16
import Derived.Test.YtncgbldcjfbknaaGreatJ01
namespace Go.Proofs.YtncgbldcjfbknaaGreat
open Go.RowKit
set_option linter.unusedVariables false
theorem repochs_any (n:Int) (w:World):Calls Tryz.prog 123 #[.int .i64 n] w fun e w'=>e=.returned (.bool (wi n 0 65536))∧w' = w:=by
 by_cases h1:0≤n
 ·have HX:=Lh (show wi n 0 65536=decide (n≤65536) by unfold wi;simp [h1])
  go_enter Tryz.func123,Tryz.ntmps123
  go_wp2
  go_ret
  exact ⟨by rw [HX.out];rfl,rfl⟩
 ·have HX:=Lh (show wi n 0 65536=false from wi_low (by omega))
  go_enter Tryz.func123,Tryz.ntmps123
  go_wp2
  go_ret
  exact ⟨by rw [HX.out];rfl,rfl⟩
theorem rlimits_any (n:Int) (w:World):Calls Tryz.prog 124 #[.int .i64 n] w fun e w'=>e=.returned (.bool (wi n 1 8))∧w' = w:=by
 by_cases h1:1≤n
 ·have HX:=Lh (show wi n 1 8=decide (n≤8) by unfold wi;simp [h1])
  go_enter Tryz.func124,Tryz.ntmps124
  go_wp2
  go_ret
  exact ⟨by rw [HX.out];rfl,rfl⟩
 ·have HX:=Lh (show wi n 1 8=false from wi_low (by omega))
  go_enter Tryz.func124,Tryz.ntmps124
  go_wp2
  go_ret
  exact ⟨by rw [HX.out];rfl,rfl⟩
theorem rtimes_any (n:Int) (w:World):Calls Tryz.prog 129 #[.int .i64 n] w fun e w'=>e=.returned (.bool (wi n 0 1073741824))∧w' = w:=by
 by_cases h1:0≤n
 ·have HX:=Lh (show wi n 0 1073741824=decide (n≤1073741824) by unfold wi;simp [h1])
  go_enter Tryz.func129,Tryz.ntmps129
  go_wp2
  go_ret
  exact ⟨by rw [HX.out];rfl,rfl⟩
 ·have HX:=Lh (show wi n 0 1073741824=false from wi_low (by omega))
  go_enter Tryz.func129,Tryz.ntmps129
  go_wp2
  go_ret
  exact ⟨by rw [HX.out];rfl,rfl⟩
theorem rvis_any (n:Int) (w:World):Calls Tryz.prog 133 #[.int .i64 n] w fun e w'=>e=.returned (.bool (wi n 0 1000))∧w' = w:=by
 by_cases h1:0≤n
 ·have HX:=Lh (show wi n 0 1000=decide (n≤1000) by unfold wi;simp [h1])
  go_enter Tryz.func133,Tryz.ntmps133
  go_wp2
  go_ret
  exact ⟨by rw [HX.out];rfl,rfl⟩
 ·have HX:=Lh (show wi n 0 1000=false from wi_low (by omega))
  go_enter Tryz.func133,Tryz.ntmps133
  go_wp2
  go_ret
  exact ⟨by rw [HX.out];rfl,rfl⟩
structure St where
 sq:Int
 ep:Int
 rd:Int
 ls:Int
deriving DecidableEq
abbrev zSt:St:=⟨0,0,0,0⟩
def tg (l:List St) (k:Nat):St:=l.getD k zSt
def St.l (d:St):List Value:=[.int .i64 d.sq,.int .i64 d.ep,.int .i64 d.rd,.int .i64 d.ls]
abbrev St.v (d:St):Value:=.agg #[.int .i64 d.sq,.int .i64 d.ep,.int .i64 d.rd,.int .i64 d.ls]
def tcs (l:List St):List Value:=l.flatMap St.l
def Tl (w:World) (B:Nat) (v:Value) (l:List St):Prop:=∃ A c,v=.slice A l.length c∧l.length≤c∧c≤maxLen∧Rd w B 4 A l.length (tcs l)
section
variable {w w' : World} {B B' : Nat} {v:Value} {l:List St} {A:Option Addr} {n c:Nat}
end
def Ns (w:World) (B:Nat) (v:Value) (zs:List Int):Prop:=∃ A c,v=.slice A zs.length c∧zs.length≤c∧c≤maxLen∧Rd w B 1 A zs.length (zs.map i64v)∧∀ z∈zs,-9223372036854775808≤z∧z≤9223372036854775807
section
variable {w w' : World} {B B' : Nat} {v:Value} {zs:List Int}
theorem Ns.nil:Ns w B (.slice none 0 0) []:=⟨none,0,rfl,Nat.le_refl _,Nat.zero_le _,Rd.nil none,by simp⟩
theorem Ns.parts {A:Option Addr} {n c:Nat} (h:Ns w B (.slice A n c) zs):n=zs.length∧n≤c∧c≤maxLen∧Rd w B 1 A n (zs.map i64v)∧∀ z∈zs,-9223372036854775808≤z∧z≤9223372036854775807:=by
 obtain ⟨A',c',e,hl,hm,h,hz⟩:=h
 injection e with e1 e2 e3
 subst e1;subst e2;subst e3
 exact ⟨rfl,hl,hm,h,hz⟩
theorem Ns.of_cells {a:Addr} {l c:Nat} {zs:List Int} (hl:l≤c) (hm:c≤maxLen) (hz:zs.length=c) (hc:∀ i,i<zs.length→w.cell? (a.add i)=some (.int .i64 (zs.getD i 0))) (hw:∀ n∈zs,(Lit.int .i64 n).wf=true) :
  ∃ ys,Ns w w.heap.size (.slice (some a) l c) ys:=by
 have hlen:(zs.take l).length=l:=by simp;omega
 refine ⟨zs.take l,some a,c,by rw [hlen],by omega,hm,⟨by simp,fun hn=>?_⟩,fun z hz'=>?_⟩
 ·rw [hlen] at hn
  obtain ⟨b,o,spot⟩:=a
  have h0:=hc 0 (by omega)
  have hspot:spot=none:=by simpa [Addr.add] using World.cell?_spot h0
  subst hspot
  refine ⟨b,o,rfl,World.block_lt_of_cell? w ⟨b,o,none⟩ (by simpa [Addr.add] using h0),fun j u hu=>?_⟩
  simp only [List.getElem?_map,Option.map_eq_some_iff] at hu
  obtain ⟨x,hx,rfl⟩:=hu
  obtain ⟨hj,rfl⟩:=List.getElem?_eq_some_iff.1 hx
  have hj' : j<zs.length:=by simp at hj;omega
  have h:=hc j hj'
  rw [add_mk] at h
  rw [h]
  simp [i64v,List.getD,hj']
 ·have:=hw z (List.mem_of_mem_take hz')
  simp only [Lit.wf,Bool.and_eq_true,decide_eq_true_eq] at this
  exact this
end
def Sp.l (d:Sp):List Value:=[.int .i64 d.lo,.int .i64 d.hi,.int .i64 d.sh]
abbrev Sp.v (d:Sp):Value:=.agg #[.int .i64 d.lo,.int .i64 d.hi,.int .i64 d.sh]
def scs (l:List Sp):List Value:=l.flatMap Sp.l
def ics (F:List Int):List Value:=F.map i64v
def Pl (w:World) (B:Nat) (v:Value) (l:List Sp):Prop:=∃ A c,v=.slice A l.length c∧l.length≤c∧c≤maxLen∧Rd w B 3 A l.length (scs l)
section
variable {w w' : World} {B B' : Nat} {v:Value} {l:List Sp} {A:Option Addr} {n c:Nat}
end
def Fl (w:World) (B:Nat) (v:Value) (l:List Int):Prop:=∃ A c,v=.slice A l.length c∧l.length≤c∧c≤maxLen∧Rd w B 1 A l.length (ics l)
section
variable {w w' : World} {B B' : Nat} {v:Value} {l:List Int} {A:Option Addr} {n c:Nat}
end
structure Dx where
 A:Option Addr
 c:Nat
 A2:Option Addr
 c2:Nat
def zDx:Dx:=⟨none,0,none,0⟩
structure DR (W:World) (B:Nat) (d:Dd) (X:Dx):Prop where
 pl:Pl W B (.slice X.A d.l.length X.c) d.l
 fl:Fl W B (.slice X.A2 d.F.length X.c2) d.F
section
variable {W W' : World} {B B' p:Nat} {d:Dd} {X:Dx}
structure DOff (d:Dd) (X:Dx) (p:Nat):Prop where
 o1:∀ a,X.A=some a→0<d.l.length→a.block≠p
 o2:∀ a,X.A2=some a→0<d.F.length→a.block≠p
def Dx.nw (X:Dx) (lo:Nat):Prop:=Nw lo X.A∧Nw lo X.A2
end
structure Db10 (W:World) (p:Nat) (d:Dd) (X:Dx):Prop where
 c0:W.cell? ⟨p,0,none⟩=some (.int .i64 d.vn)
 c1:W.cell? ⟨p,1,none⟩=some (.slice X.A d.l.length X.c)
 c2:W.cell? ⟨p,2,none⟩=some (.slice X.A2 d.F.length X.c2)
 fr:∀ o,W.frozen? ⟨p,o,none⟩=false
 lt:p<W.heap.size
section
variable {W W' : World} {p:Nat} {d:Dd} {X:Dx}
end
structure DAt (w:World) (p:Nat) (d:Dd) (X:Dx) (W:World):Prop where
 db:Db10 W p d X
 dr:DR W W.heap.size d X
 off:DOff d X p
 bel:Below w.heap.size w W
 old:w.heap.size≤p
section
variable {w W W' : World} {p:Nat} {d:Dd} {X:Dx}
abbrev K3 (p:Nat) (d:Dd) (X:Dx) (W:World):Prop:=W.cell? ⟨p,0,none⟩=some (.int .i64 d.vn)∧W.cell? ⟨p,1,none⟩=some (.slice X.A d.l.length X.c)∧W.cell? ⟨p,2,none⟩=some (.slice X.A2 d.F.length X.c2)
end
end Go.Proofs.YtncgbldcjfbknaaGreat
/- Plain: slots and arenas in memory. -/
namespace Go.Proofs.YtncgbldcjfbknaaGreat
open Go.RowKit
set_option linter.unusedVariables false
structure So where
 ow:Int
 sh:Sh
structure Sl where
 ow:Int
 sh:Sh
 sx:Sx
def Sl.so (s:Sl):So:=⟨s.ow,s.sh⟩
def Sl.l (s:Sl):List Value:=[.int .i64 s.ow,.bool s.sh.lv,.int .i64 s.sh.lo,.int .i64 s.sh.hi,.slice s.sx.A s.sh.cs.length s.sx.c,.int .i64 s.sh.hd,.int .i64 s.sh.sz,.slice s.sx.A2 s.sh.l.length s.sx.c2,.slice s.sx.A3 s.sh.h.length s.sx.c3]
abbrev Sl.v (s:Sl):Value:=.agg #[.int .i64 s.ow,.bool s.sh.lv,.int .i64 s.sh.lo,.int .i64 s.sh.hi,.slice s.sx.A s.sh.cs.length s.sx.c,.int .i64 s.sh.hd,.int .i64 s.sh.sz,.slice s.sx.A2 s.sh.l.length s.sx.c2,.slice s.sx.A3 s.sh.h.length s.sx.c3]
def qcs (l:List Sl):List Value:=l.flatMap Sl.l
def Ql (w:World) (B:Nat) (v:Value) (l:List Sl):Prop:=∃ A c,v=.slice A l.length c∧l.length≤c∧c≤maxLen∧Rd w B 9 A l.length (qcs l)
section
variable {w w' : World} {B B' : Nat} {v:Value} {l:List Sl} {A:Option Addr} {n c:Nat}
abbrev Q9 (W:World) (b o:Nat) (s:Sl):Prop:=W.cell? ⟨b,o,none⟩=some (.int .i64 s.ow)∧W.cell? ⟨b,o+1,none⟩=some (.bool s.sh.lv)∧W.cell? ⟨b,o+2,none⟩=some (.int .i64 s.sh.lo)∧W.cell? ⟨b,o+3,none⟩=some (.int .i64 s.sh.hi)∧W.cell? ⟨b,o+4,none⟩=some (.slice s.sx.A s.sh.cs.length s.sx.c)∧W.cell? ⟨b,o+5,none⟩=some (.int .i64 s.sh.hd)∧W.cell? ⟨b,o+6,none⟩=some (.int .i64 s.sh.sz)∧W.cell? ⟨b,o+7,none⟩=some (.slice s.sx.A2 s.sh.l.length s.sx.c2)∧W.cell? ⟨b,o+8,none⟩=some (.slice s.sx.A3 s.sh.h.length s.sx.c3)
end
structure Ar where
 sl:List So
 st:List St
 ow:Int
 cap:Int
 dl:List Msg
 dir:Dd
 ep:Int
 ck:Int
 ni:Int
def zA:Ar:=⟨[],[],0,0,[],zD10,0,0,0⟩
structure Ax where
 A:Option Addr
 c:Nat
 q:List Sl
 A2:Option Addr
 c2:Nat
 A3:Option Addr
 c3:Nat
 D:Dx
def zAx:Ax:=⟨none,0,[],none,0,none,0,zDx⟩
abbrev acl (a:Ar) (Y:Ax):Array Value:=#[.slice Y.A a.sl.length Y.c,.slice Y.A2 a.st.length Y.c2,.int .i64 a.ow,.int .i64 a.cap,.slice Y.A3 a.dl.length Y.c3,.int .i64 a.dir.vn,.slice Y.D.A a.dir.l.length Y.D.c,.slice Y.D.A2 a.dir.F.length Y.D.c2,.int .i64 a.ep,.int .i64 a.ck,.int .i64 a.ni]
structure AR (W:World) (B:Nat) (a:Ar) (Y:Ax):Prop where
 ql:Ql W B (.slice Y.A a.sl.length Y.c) Y.q
 so:Y.q.map Sl.so=a.sl
 sr:∀ s∈Y.q,SR W B s.sh s.sx
 tl:Tl W B (.slice Y.A2 a.st.length Y.c2) a.st
 ls:Ls W B (.slice Y.A3 a.dl.length Y.c3) a.dl
 dr:DR W B a.dir Y.D
structure AOff (a:Ar) (Y:Ax) (p:Nat):Prop where
 o1:OffB p a.sl.length Y.A
 os:∀ s∈Y.q,SOff s.sh s.sx p
 o2:OffB p a.st.length Y.A2
 o3:OffB p a.dl.length Y.A3
 o4:DOff a.dir Y.D p
structure Ax.nw (Y:Ax) (lo:Nat):Prop where
 n1:Nw lo Y.A
 ns:∀ s∈Y.q,s.sx.nw lo
 n2:Nw lo Y.A2
 n3:Nw lo Y.A3
 n4:Y.D.nw lo
section
variable {W W' : World} {B B' p lo lo' : Nat} {a:Ar} {Y:Ax}
end
abbrev K11 (p:Nat) (a:Ar) (Y:Ax) (W:World):Prop:=
 W.cell? ⟨p,0,none⟩=some (.slice Y.A a.sl.length Y.c)∧W.cell? ⟨p,1,none⟩=some (.slice Y.A2 a.st.length Y.c2)∧W.cell? ⟨p,2,none⟩=some (.int .i64 a.ow)∧W.cell? ⟨p,3,none⟩=some (.int .i64 a.cap)∧W.cell? ⟨p,4,none⟩=some (.slice Y.A3 a.dl.length Y.c3)∧W.cell? ⟨p,5,none⟩=some (.int .i64 a.dir.vn)∧W.cell? ⟨p,6,none⟩=some (.slice Y.D.A a.dir.l.length Y.D.c)∧W.cell? ⟨p,7,none⟩=some (.slice Y.D.A2 a.dir.F.length Y.D.c2)∧W.cell? ⟨p,8,none⟩=some (.int .i64 a.ep)∧W.cell? ⟨p,9,none⟩=some (.int .i64 a.ck)∧W.cell? ⟨p,10,none⟩=some (.int .i64 a.ni)
structure QB (W:World) (p:Nat) (a:Ar) (Y:Ax):Prop where
 k:K11 p a Y W
 fr:∀ o,W.frozen? ⟨p,o,none⟩=false
 lt:p<W.heap.size
abbrev set11 (W:World) (p:Nat) (a:Ar) (Y:Ax):World:=((((((((((W.setCell ⟨p,0,none⟩ (.slice Y.A a.sl.length Y.c)).setCell ⟨p,1,none⟩ (.slice Y.A2 a.st.length Y.c2)).setCell ⟨p,2,none⟩ (.int .i64 a.ow)).setCell ⟨p,3,none⟩ (.int .i64 a.cap)).setCell ⟨p,4,none⟩ (.slice Y.A3 a.dl.length Y.c3)).setCell ⟨p,5,none⟩ (.int .i64 a.dir.vn)).setCell ⟨p,6,none⟩ (.slice Y.D.A a.dir.l.length Y.D.c)).setCell ⟨p,7,none⟩ (.slice Y.D.A2 a.dir.F.length Y.D.c2)).setCell ⟨p,8,none⟩ (.int .i64 a.ep)).setCell ⟨p,9,none⟩ (.int .i64 a.ck)).setCell ⟨p,10,none⟩ (.int .i64 a.ni)
section
variable {W W' : World} {p g:Nat} {a:Ar} {Y:Ax}
end
end Go.Proofs.YtncgbldcjfbknaaGreat
