/- What is proved here: parts of the proof: Jl Vs Gse Qss Ast Jp. -/
import Derived.Test.YtkecnihgjepfeaaGreatJ31
/- Plain: lockers, where they lie, and their boxes; what locker's functions give. -/
namespace Go.Proofs.YtkecnihgjepfeaaGreat
open Go.RowKit
set_option linter.unusedVariables false
set_option linter.unusedSimpArgs false
set_option maxHeartbeats 8000000
set_option maxRecDepth 20000
structure Lk where
 cs:List Int
 ph:Int
 hv:Int
 tr:Int
 wt:Int
def zK:Lk:=⟨[],0,0,0,0⟩
abbrev lv (l:Lk) (A:Option Addr) (c:Nat):Value:=.agg #[.slice A l.cs.length c,.int .i64 l.ph,.int .i64 l.hv,.int .i64 l.tr,.int .i64 l.wt]
abbrev lcl (l:Lk) (A:Option Addr) (c:Nat):Array Value:=#[.slice A l.cs.length c,.int .i64 l.ph,.int .i64 l.hv,.int .i64 l.tr,.int .i64 l.wt]
abbrev K5l (W:World) (q:Nat) (l:Lk) (A:Option Addr) (c:Nat):Prop:=W.cell? ⟨q,0,none⟩=some (.slice A l.cs.length c)/\W.cell? ⟨q,1,none⟩=some (.int .i64 l.ph)/\W.cell? ⟨q,2,none⟩=some (.int .i64 l.hv)/\W.cell? ⟨q,3,none⟩=some (.int .i64 l.tr)/\W.cell? ⟨q,4,none⟩=some (.int .i64 l.wt)
structure LB (W:World) (q:Nat) (l:Lk) (A:Option Addr) (c:Nat):Prop where
 k:K5l W q l A c
 fr:∀ o,W.frozen? ⟨q,o,none⟩=false
 lt:q<W.heap.size
abbrev set5 (W:World) (q:Nat) (l:Lk) (A:Option Addr) (c:Nat):World:=(((((W.setCell ⟨q,0,none⟩ (.slice A l.cs.length c)).setCell ⟨q,1,none⟩ (.int .i64 l.ph)).setCell ⟨q,2,none⟩ (.int .i64 l.hv)).setCell ⟨q,3,none⟩ (.int .i64 l.tr)).setCell ⟨q,4,none⟩ (.int .i64 l.wt))
section
variable {W W' : World} {q g:Nat} {l m:Lk} {A A' : Option Addr} {c c' : Nat}
theorem LB.keep (h:LB W q l A c) (hc:∀ o,W'.cell? ⟨q,o,none⟩=W.cell? ⟨q,o,none⟩) (hf:∀ o,W'.frozen? ⟨q,o,none⟩=W.frozen? ⟨q,o,none⟩) (hs:W.heap.size<=W'.heap.size):LB W' q l A c:=by
 obtain ⟨⟨k0,k1,k2,k3,k4⟩,fr,lt⟩:=h
 exact ⟨⟨(hc 0).trans k0,(hc 1).trans k1,(hc 2).trans k2,(hc 3).trans k3,(hc 4).trans k4⟩,fun o=>(hf o).trans (fr o),Nat.lt_of_lt_of_le lt hs⟩
theorem LB.up (h:LB W q l A c) (hb:Below W.heap.size W W'):LB W' q l A c:=h.keep (fun o=>hb.cell (p:=⟨q,o,none⟩) h.lt) (fun o=>hb.frozen (p:=⟨q,o,none⟩) h.lt) hb.size
theorem LB.alloc (h:LB W q l A c) (o:Obj):LB (W.alloc o) q l A c:=h.up ((Below.refl _ _).alloc (nLR _) o)
theorem LB.other (h:LB W q l A c) {x:Addr} (hne:x.block≠q) (v:Value):LB (W.setCell x v) q l A c:=
 h.keep (fun o=>World.cell?_setCell_other W x ⟨q,o,none⟩ v (fun e=>hne (by rw [e]))) (fun o=>by simp [go_sem]) (by simp)
theorem LB.start (w:World) (l:Lk) (A:Option Addr) (c:Nat) (t:TypeId):LB (w.alloc (.cells (lcl l A c) t)) w.heap.size l A c:=
 ⟨⟨by simp [go_sem],by simp [go_sem],by simp [go_sem],by simp [go_sem],by simp [go_sem]⟩,fun o=>by simp [go_sem],by simp⟩
theorem LB.set (h:LB W q l A c) (m:Lk) (A' : Option Addr) (c' : Nat):LB (set5 W q m A' c') q m A' c':=by
 obtain ⟨⟨k0,k1,k2,k3,k4⟩,fr,lt⟩:=h
 exact ⟨⟨by simp [go_sem,k0],by simp [go_sem,k1],by simp [go_sem,k2],by simp [go_sem,k3],by simp [go_sem,k4]⟩,fun o=>by simp [go_sem,fr o],by simp [lt]⟩
theorem LB.setA (h:LB W q l A c) (A' : Option Addr) (c' : Nat):LB (W.setCell ⟨q,0,none⟩ (.slice A' l.cs.length c')) q l A' c':=by
 obtain ⟨⟨k0,k1,k2,k3,k4⟩,fr,lt⟩:=h
 exact ⟨⟨by simp [go_sem,k0],by simp [go_sem,k1],by simp [go_sem,k2],by simp [go_sem,k3],by simp [go_sem,k4]⟩,fun o=>by simp [go_sem,fr o],by simp [lt]⟩
theorem LB.setP (h:LB W q l A c) (x:Int):LB (W.setCell ⟨q,1,none⟩ (.int .i64 x)) q ⟨l.cs,x,l.hv,l.tr,l.wt⟩ A c:=by
 obtain ⟨⟨k0,k1,k2,k3,k4⟩,fr,lt⟩:=h
 exact ⟨⟨by simp [go_sem,k0],by simp [go_sem,k1],by simp [go_sem,k2],by simp [go_sem,k3],by simp [go_sem,k4]⟩,fun o=>by simp [go_sem,fr o],by simp [lt]⟩
theorem LB.setH (h:LB W q l A c) (x:Int):LB (W.setCell ⟨q,2,none⟩ (.int .i64 x)) q ⟨l.cs,l.ph,x,l.tr,l.wt⟩ A c:=by
 obtain ⟨⟨k0,k1,k2,k3,k4⟩,fr,lt⟩:=h
 exact ⟨⟨by simp [go_sem,k0],by simp [go_sem,k1],by simp [go_sem,k2],by simp [go_sem,k3],by simp [go_sem,k4]⟩,fun o=>by simp [go_sem,fr o],by simp [lt]⟩
theorem LB.setT (h:LB W q l A c) (x:Int):LB (W.setCell ⟨q,3,none⟩ (.int .i64 x)) q ⟨l.cs,l.ph,l.hv,x,l.wt⟩ A c:=by
 obtain ⟨⟨k0,k1,k2,k3,k4⟩,fr,lt⟩:=h
 exact ⟨⟨by simp [go_sem,k0],by simp [go_sem,k1],by simp [go_sem,k2],by simp [go_sem,k3],by simp [go_sem,k4]⟩,fun o=>by simp [go_sem,fr o],by simp [lt]⟩
theorem LB.setW (h:LB W q l A c) (x:Int):LB (W.setCell ⟨q,4,none⟩ (.int .i64 x)) q ⟨l.cs,l.ph,l.hv,l.tr,x⟩ A c:=by
 obtain ⟨⟨k0,k1,k2,k3,k4⟩,fr,lt⟩:=h
 exact ⟨⟨by simp [go_sem,k0],by simp [go_sem,k1],by simp [go_sem,k2],by simp [go_sem,k3],by simp [go_sem,k4]⟩,fun o=>by simp [go_sem,fr o],by simp [lt]⟩
theorem LB.free (h:LB W q l A c):W.frozen? ⟨q,0,none⟩=false/\W.frozen? ⟨q,1,none⟩=false/\W.frozen? ⟨q,2,none⟩=false/\W.frozen? ⟨q,3,none⟩=false/\W.frozen? ⟨q,4,none⟩=false:=⟨h.fr 0,h.fr 1,h.fr 2,h.fr 3,h.fr 4⟩
theorem set5_size (W:World) (q:Nat) (l:Lk) (A:Option Addr) (c:Nat):(set5 W q l A c).heap.size=W.heap.size:=by simp
theorem set5_below {B:Nat} {w:World} (h:Below B w W) (hb:B<=q) (l:Lk) (A:Option Addr) (c:Nat):Below B w (set5 W q l A c):=
 ((((h.setCell (p:=⟨q,0,none⟩) hb _).setCell (p:=⟨q,1,none⟩) hb _).setCell (p:=⟨q,2,none⟩) hb _).setCell (p:=⟨q,3,none⟩) hb _).setCell (p:=⟨q,4,none⟩) hb _
theorem Fl.offb {A:Option Addr} {n c B:Nat} {l:List Int} (h:Fl W B (.slice A n c) l) {p:Addr} (ho:OffB p.block n A) (v:Value):Fl (W.setCell p v) B (.slice A n c) l:=h.offp (fun a e h0=>ho h0 a e) v
theorem Fl.set5 {n B:Nat} {x:List Int} (h:Fl W B (.slice A' n c') x) (ho:OffB q n A') (l:Lk) (A:Option Addr) (c:Nat):Fl (set5 W q l A c) B (.slice A' n c') x:=
 ((((h.offb (p:=⟨q,0,none⟩) ho _).offb (p:=⟨q,1,none⟩) ho _).offb (p:=⟨q,2,none⟩) ho _).offb (p:=⟨q,3,none⟩) ho _).offb (p:=⟨q,4,none⟩) ho _
theorem Fl.set11 {n B p:Nat} {x:List Int} (h:Fl W B (.slice A' n c') x) (ho:OffB p n A') (a:Ar) (Y:Ax):Fl (set11 W p a Y) B (.slice A' n c') x:=
 ((((((((((h.offb (p:=⟨p,0,none⟩) ho _).offb (p:=⟨p,1,none⟩) ho _).offb (p:=⟨p,2,none⟩) ho _).offb (p:=⟨p,3,none⟩) ho _).offb (p:=⟨p,4,none⟩) ho _).offb (p:=⟨p,5,none⟩) ho _).offb (p:=⟨p,6,none⟩) ho _).offb (p:=⟨p,7,none⟩) ho _).offb (p:=⟨p,8,none⟩) ho _).offb (p:=⟨p,9,none⟩) ho _).offb (p:=⟨p,10,none⟩) ho _
theorem AR.set5 {B:Nat} {a:Ar} {Y:Ax} (h:AR W B a Y) (ho:AOff a Y q) (l:Lk) (A:Option Addr) (c:Nat):AR (set5 W q l A c) B a Y:=
 ((((h.offp (q:=⟨q,0,none⟩) ho _).offp (q:=⟨q,1,none⟩) ho _).offp (q:=⟨q,2,none⟩) ho _).offp (q:=⟨q,3,none⟩) ho _).offp (q:=⟨q,4,none⟩) ho _
theorem LB.set11 {p:Nat} (h:LB W q l A c) (hp:p≠q) (a:Ar) (Y:Ax):LB (set11 W p a Y) q l A c:=
 ((((((((((h.other (x:=⟨p,0,none⟩) hp _).other (x:=⟨p,1,none⟩) hp _).other (x:=⟨p,2,none⟩) hp _).other (x:=⟨p,3,none⟩) hp _).other (x:=⟨p,4,none⟩) hp _).other (x:=⟨p,5,none⟩) hp _).other (x:=⟨p,6,none⟩) hp _).other (x:=⟨p,7,none⟩) hp _).other (x:=⟨p,8,none⟩) hp _).other (x:=⟨p,9,none⟩) hp _).other (x:=⟨p,10,none⟩) hp _
theorem QB.set5 {p:Nat} {a:Ar} {Y:Ax} (h:QB W p a Y) (hp:q≠p) (l:Lk) (A:Option Addr) (c:Nat):QB (set5 W q l A c) p a Y:=
 ((((h.other (x:=⟨q,0,none⟩) hp _).other (x:=⟨q,1,none⟩) hp _).other (x:=⟨q,2,none⟩) hp _).other (x:=⟨q,3,none⟩) hp _).other (x:=⟨q,4,none⟩) hp _
end
def LE (w:World) (l:Lk) (x:Int) (e:Ending) (w' : World):Prop:=∃ A c,e=.returned (.tuple #[lv l A c,.int .i64 x])/\Nw w.heap.size A/\Fl w' w'.heap.size (.slice A l.cs.length c) l.cs/\Below w.heap.size w w'
def SE13 (w:World) (a:Ar) (l:Lk) (x:Int) (e:Ending) (w' : World):Prop:=∃ Y A c,e=.returned (.tuple #[av a Y,lv l A c,.int .i64 x])/\Y.nw w.heap.size/\Nw w.heap.size A/\AR w' w'.heap.size a Y/\Fl w' w'.heap.size (.slice A l.cs.length c) l.cs/\Below w.heap.size w w'
def SE13o (A:Option Addr) (w:World) (a:Ar) (l:Lk) (x:Int) (e:Ending) (w' : World):Prop:=∃ Y A' c,e=.returned (.tuple #[av a Y,lv l A' c,.int .i64 x])/\Y.nw w.heap.size/\(∀ lo,Nw lo A->Nw lo A')/\AR w' w'.heap.size a Y/\Fl w' w'.heap.size (.slice A' l.cs.length c) l.cs/\Below w.heap.size w w'
def ctF (cs:List Int) (i:Int):Int:=if 0<=i/\i<cs.length then ig cs i.toNat else -1
def pzL (l:Lk):Lk:=⟨l.cs,if l.wt - 1=0 then 0 else l.ph,l.hv,l.tr,l.wt - 1⟩
def boL (l:Lk):Lk:=⟨l.cs,2,l.hv,l.tr+1,min (l.tr+1) 3⟩
def frE (l:Lk):Int:=if l.ph=3 then 0 else 7
def frL (l:Lk):Lk:=if l.ph=3 then ⟨l.cs,4,l.hv,l.tr,l.wt⟩ else zK
def aqL (l:Lk) (b:Bool):Lk:=if b=true then ⟨l.cs,if l.hv+1=l.cs.length then 3 else l.ph,l.hv+1,l.tr,l.wt⟩ else if 0<l.hv then ⟨l.cs,1,l.hv,l.tr,l.wt⟩ else l
def gbL (l:Lk):Lk:=if 0<l.hv - 1 then ⟨l.cs,l.ph,l.hv - 1,l.tr,l.wt⟩ else if l.ph=4 then ⟨l.cs,5,l.hv - 1,l.tr,l.wt⟩ else boL ⟨l.cs,l.ph,l.hv - 1,l.tr,l.wt⟩
def aqE (a:Ar) (l:Lk) (t:Int):Int:=lkE a.sl.length (ctF l.cs l.hv) t
def aqR (a:Ar) (l:Lk) (t:Int):Lk:=if aqE a l t=0 then aqL l (tlB a (ctF l.cs l.hv) t) else zK
def gbE (a:Ar) (l:Lk) (t:Int):Int:=owE a (ctF l.cs (l.hv - 1)) t
def gbR (a:Ar) (l:Lk) (t:Int):Lk:=if gbE a l t=0 then gbL l else zK
def stE13 (a:Ar) (l:Lk) (t:Int):Int:=if l.ph=0 then aqE a l t else if l.ph=1\/l.ph=4 then gbE a l t else if l.ph=2 then 0 else 7
def stA13 (a:Ar) (l:Lk) (t:Int):Ar:=if l.ph=0 then tlA a (ctF l.cs l.hv) t else if l.ph=1\/l.ph=4 then ulA a (ctF l.cs (l.hv - 1)) t else if l.ph=2 then a else zA
def stL13 (a:Ar) (l:Lk) (t:Int):Lk:=if l.ph=0 then aqR a l t else if l.ph=1\/l.ph=4 then gbR a l t else if l.ph=2 then pzL l else zK
def Lk.sm (l:Lk):Prop:=(-9<=l.hv/\l.hv<=9)/\(-9<=l.tr/\l.tr<=1000000)/\(-9<=l.wt/\l.wt<=9)/\l.cs.length<=9
end Go.Proofs.YtkecnihgjepfeaaGreat
/- Plain: snapshots and their boxes; what snapshot's functions and the words' functions of an arena give. -/
namespace Go.Proofs.YtkecnihgjepfeaaGreat
open Go.RowKit
set_option linter.unusedVariables false
set_option linter.unusedSimpArgs false
set_option maxHeartbeats 8000000
set_option maxRecDepth 20000
structure Sn where
 ph:Int
 ep:Int
 ck:Int
 sp:Int
def zSn:Sn:=⟨0,0,0,0⟩
abbrev Sn.v (s:Sn):Value:=.agg #[.int .i64 s.ph,.int .i64 s.ep,.int .i64 s.ck,.int .i64 s.sp]
abbrev Sn.cl (s:Sn):Array Value:=#[.int .i64 s.ph,.int .i64 s.ep,.int .i64 s.ck,.int .i64 s.sp]
abbrev K4n (W:World) (q:Nat) (s:Sn):Prop:=W.cell? ⟨q,0,none⟩=some (.int .i64 s.ph)/\W.cell? ⟨q,1,none⟩=some (.int .i64 s.ep)/\W.cell? ⟨q,2,none⟩=some (.int .i64 s.ck)/\W.cell? ⟨q,3,none⟩=some (.int .i64 s.sp)
structure NB (W:World) (q:Nat) (s:Sn):Prop where
 k:K4n W q s
 fr:∀ o,W.frozen? ⟨q,o,none⟩=false
 lt:q<W.heap.size
abbrev set4n (W:World) (q:Nat) (s:Sn):World:=(((W.setCell ⟨q,0,none⟩ (.int .i64 s.ph)).setCell ⟨q,1,none⟩ (.int .i64 s.ep)).setCell ⟨q,2,none⟩ (.int .i64 s.ck)).setCell ⟨q,3,none⟩ (.int .i64 s.sp)
section
variable {W W' : World} {q g:Nat} {s t:Sn}
theorem NB.keep (h:NB W q s) (hc:∀ o,W'.cell? ⟨q,o,none⟩=W.cell? ⟨q,o,none⟩) (hf:∀ o,W'.frozen? ⟨q,o,none⟩=W.frozen? ⟨q,o,none⟩) (hs:W.heap.size<=W'.heap.size):NB W' q s:=by
 obtain ⟨⟨k0,k1,k2,k3⟩,fr,lt⟩:=h
 exact ⟨⟨(hc 0).trans k0,(hc 1).trans k1,(hc 2).trans k2,(hc 3).trans k3⟩,fun o=>(hf o).trans (fr o),Nat.lt_of_lt_of_le lt hs⟩
theorem NB.up (h:NB W q s) (hb:Below W.heap.size W W'):NB W' q s:=h.keep (fun o=>hb.cell (p:=⟨q,o,none⟩) h.lt) (fun o=>hb.frozen (p:=⟨q,o,none⟩) h.lt) hb.size
theorem NB.start (w:World) (s:Sn) (t:TypeId):NB (w.alloc (.cells s.cl t)) w.heap.size s:=
 ⟨⟨by simp [go_sem],by simp [go_sem],by simp [go_sem],by simp [go_sem]⟩,fun o=>by simp [go_sem],by simp⟩
theorem NB.free (h:NB W q s):W.frozen? ⟨q,0,none⟩=false/\W.frozen? ⟨q,1,none⟩=false/\W.frozen? ⟨q,2,none⟩=false/\W.frozen? ⟨q,3,none⟩=false:=⟨h.fr 0,h.fr 1,h.fr 2,h.fr 3⟩
theorem set4n_below {B:Nat} {w:World} (h:Below B w W) (hb:B<=q) (s:Sn):Below B w (set4n W q s):=
 (((h.setCell (p:=⟨q,0,none⟩) hb _).setCell (p:=⟨q,1,none⟩) hb _).setCell (p:=⟨q,2,none⟩) hb _).setCell (p:=⟨q,3,none⟩) hb _
end
def NR (w:World) (s:Sn) (e:Ending) (w' : World):Prop:=e=.returned s.v/\Below w.heap.size w w'
def NE (w:World) (s:Sn) (x:Int) (e:Ending) (w' : World):Prop:=e=.returned (.tuple #[s.v,.int .i64 x])/\Below w.heap.size w w'
def bgN (s:Sn) (x:Int):Sn:=⟨1,x,s.ck,s.sp⟩
def stN (s:Sn) (x n:Int):Sn:=⟨2,s.ep,x,n⟩
def cmN (s:Sn) (x:Int):Sn:=if x=s.ep then ⟨3,s.ep,s.ck,s.sp⟩ else bgN s x
def nsN (ep ck:Int) (s:Sn) (n:Int):Sn:=if s.ph=0 then bgN s ep else if s.ph=1 then stN s ck n else if s.ph=2 then cmN s ep else zSn
def nsE (s:Sn):Int:=if s.ph=0\/s.ph=1\/s.ph=2 then 0 else if s.ph=3 then 7 else 1
def Ar.words (a:Ar) (ep ck ni:Int):Ar:=⟨a.sl,a.st,a.ow,a.cap,a.dl,a.dir,ep,ck,ni⟩
end Go.Proofs.YtkecnihgjepfeaaGreat
/- Plain: sections and outcomes, where their lists lie, their cells. -/
namespace Go.Proofs.YtkecnihgjepfeaaGreat
open Go.RowKit
set_option linter.unusedVariables false
set_option linter.unusedSimpArgs false
set_option maxHeartbeats 8000000
set_option maxRecDepth 20000
structure Hs where
 S:Sh
 D:Sx
def Hs.l (h:Hs):List Value:=[.bool h.S.lv,.int .i64 h.S.lo,.int .i64 h.S.hi,.slice h.D.A h.S.cs.length h.D.c,.int .i64 h.S.hd,.int .i64 h.S.sz,.slice h.D.A2 h.S.l.length h.D.c2,.slice h.D.A3 h.S.h.length h.D.c3]
def hcs (l:List Hs):List Value:=l.flatMap Hs.l
theorem hcs_cons (d:Hs) (l:List Hs):hcs (d::l)=d.l++hcs l:=rfl
theorem hcs_len (l:List Hs):(hcs l).length=l.length*8:=by
 induction l with
 | nil=>rfl
 | cons d l ih=>rw [hcs_cons,List.length_append,ih];simp [Hs.l];omega
def edl (e:Ed):List Value:=[.int .i64 e.kd,.int .i64 e.fr,.int .i64 e.to,.int .i64 e.md]
def edcs (l:List Ed):List Value:=l.flatMap edl
def shRows (S:Sh) (D:Sx):List Rw15:=[⟨7,D.A,S.cs.length,lcs S.cs⟩,⟨8,D.A2,S.l.length,ecs S.l⟩,⟨2,D.A3,S.h.length,dcs S.h⟩]
def hRows (A:Option Addr) (q:List Hs):List Rw15:=⟨8,A,q.length,hcs q⟩::q.flatMap (fun h=>shRows h.S h.D)
abbrev Cp (n c:Nat):Prop:=n<=c/\c<=maxLen
def ShCap (S:Sh) (D:Sx):Prop:=Cp S.cs.length D.c/\Cp S.l.length D.c2/\Cp S.h.length D.c3
section
variable {W:World} {B:Nat} {S:Sh} {D:Sx}
theorem SR.rr (h:SR W B S D):RR W B (shRows S D)/\ShCap S D:=by
 refine ⟨fun r hr=>?_,h.ls.len.2,h.el.len.2,h.dl.len.2⟩
 simp only [shRows,List.mem_cons,List.not_mem_nil,or_false] at hr
 rcases hr with rfl | rfl | rfl
 ·exact h.ls.rd
 ·exact h.el.rd
 ·exact h.dl.rd
theorem SR.of_rr (h:RR W B (shRows S D)) (hc:ShCap S D):SR W B S D:=
 ⟨⟨D.A,D.c,rfl,hc.1.1,hc.1.2,h ⟨7,D.A,S.cs.length,lcs S.cs⟩ (by simp [shRows])⟩,⟨D.A2,D.c2,rfl,hc.2.1.1,hc.2.1.2,h ⟨8,D.A2,S.l.length,ecs S.l⟩ (by simp [shRows])⟩,⟨D.A3,D.c3,rfl,hc.2.2.1,hc.2.2.2,h ⟨2,D.A3,S.h.length,dcs S.h⟩ (by simp [shRows])⟩⟩
end
structure Ou where
 sh:List Sh
 dc:Int
 dl:List Msg
 od:List Int
 ca:List Msg
 ed:List Ed
structure Oux where
 q:List Hs
 A:Option Addr
 c:Nat
 Ad:Option Addr
 cd:Nat
 Ao:Option Addr
 co:Nat
 Ac:Option Addr
 cc:Nat
 Ae:Option Addr
 ce:Nat
structure Se where
 ph:Int
 at_:Int
 lk:Lk
 sn:Sn
 sh:List Sh
 dc:Int
 dl:List Msg
 st:List St
 dir:Dd
 o:Ou
 lim:Int
 ca:List Msg
structure Sex where
 Al:Option Addr
 cl:Nat
 q:List Hs
 A:Option Addr
 c:Nat
 Ad:Option Addr
 cd:Nat
 At:Option Addr
 ct:Nat
 D:Dx
 o:Oux
 Ac:Option Addr
 cc:Nat
def zOu:Ou:=⟨[],0,[],[],[],[]⟩
def zOux:Oux:=⟨[],none,0,none,0,none,0,none,0,none,0⟩
def zSe:Se:=⟨0,0,zK,zSn,[],0,[],[],zD10,zOu,0,[]⟩
def zSex:Sex:=⟨none,0,[],none,0,none,0,none,0,zDx,zOux,none,0⟩
def Ou.rows (o:Ou) (X:Oux):List Rw15:=hRows X.A X.q++[⟨7,X.Ad,o.dl.length,lcs o.dl⟩,⟨1,X.Ao,o.od.length,ics o.od⟩,⟨7,X.Ac,o.ca.length,lcs o.ca⟩,⟨4,X.Ae,o.ed.length,edcs o.ed⟩]
def Se.rows (s:Se) (X:Sex):List Rw15:=⟨1,X.Al,s.lk.cs.length,ics s.lk.cs⟩::(hRows X.A X.q++([⟨7,X.Ad,s.dl.length,lcs s.dl⟩,⟨4,X.At,s.st.length,tcs s.st⟩,⟨3,X.D.A,s.dir.l.length,scs s.dir.l⟩,⟨1,X.D.A2,s.dir.F.length,ics s.dir.F⟩,⟨7,X.Ac,s.ca.length,lcs s.ca⟩]++s.o.rows X.o))
abbrev ouv (o:Ou) (X:Oux):Value:=.agg #[.slice X.A o.sh.length X.c,.int .i64 o.dc,.slice X.Ad o.dl.length X.cd,.slice X.Ao o.od.length X.co,.slice X.Ac o.ca.length X.cc,.slice X.Ae o.ed.length X.ce]
abbrev sev (s:Se) (X:Sex):Value:=.agg #[.int .i64 s.ph,.int .i64 s.at_,.slice X.Al s.lk.cs.length X.cl,.int .i64 s.lk.ph,.int .i64 s.lk.hv,.int .i64 s.lk.tr,.int .i64 s.lk.wt,.int .i64 s.sn.ph,.int .i64 s.sn.ep,.int .i64 s.sn.ck,.int .i64 s.sn.sp,.slice X.A s.sh.length X.c,.int .i64 s.dc,.slice X.Ad s.dl.length X.cd,.slice X.At s.st.length X.ct,.int .i64 s.dir.vn,.slice X.D.A s.dir.l.length X.D.c,.slice X.D.A2 s.dir.F.length X.D.c2,.slice X.o.A s.o.sh.length X.o.c,.int .i64 s.o.dc,.slice X.o.Ad s.o.dl.length X.o.cd,.slice X.o.Ao s.o.od.length X.o.co,.slice X.o.Ac s.o.ca.length X.o.cc,.slice X.o.Ae s.o.ed.length X.o.ce,.int .i64 s.lim,.slice X.Ac s.ca.length X.cc]
structure Oux.Ok (o:Ou) (X:Oux):Prop where
 q:X.q.map Hs.S=o.sh
 qc:∀ h∈X.q,ShCap h.S h.D
 c:Cp o.sh.length X.c/\Cp o.dl.length X.cd/\Cp o.od.length X.co/\Cp o.ca.length X.cc/\Cp o.ed.length X.ce
structure Sex.Ok (s:Se) (X:Sex):Prop where
 q:X.q.map Hs.S=s.sh
 qc:∀ h∈X.q,ShCap h.S h.D
 c:Cp s.lk.cs.length X.cl/\Cp s.sh.length X.c/\Cp s.dl.length X.cd/\Cp s.st.length X.ct/\Cp s.dir.l.length X.D.c/\Cp s.dir.F.length X.D.c2/\Cp s.ca.length X.cc
 o:X.o.Ok s.o
structure OuR (W:World) (B:Nat) (o:Ou) (X:Oux):Prop where
 r:RR W B (o.rows X)
 ok:X.Ok o
structure SeR (W:World) (B:Nat) (s:Se) (X:Sex):Prop where
 r:RR W B (s.rows X)
 ok:X.Ok s
section
variable {W W' : World} {B B' g:Nat} {s:Se} {X:Sex} {o:Ou} {Y:Oux}
theorem SeR.below (h:SeR W B s X) (hb:Below B W W'):SeR W' B s X:=⟨h.r.below hb,h.ok⟩
theorem SeR.more (h:SeR W B s X) (hB:B<=B'):SeR W B' s X:=⟨h.r.more hB,h.ok⟩
theorem SeR.up (h:SeR W W.heap.size s X) (hb:Below W.heap.size W W'):SeR W' W'.heap.size s X:=⟨h.r.up hb,h.ok⟩
theorem SeR.grown (h:SeR W W.heap.size s X) (hg:W.grownBy W' (some g)) (ho:ROff (s.rows X) g):SeR W' W'.heap.size s X:=⟨h.r.grown hg ho,h.ok⟩
theorem SeR.stN {p k:Nat} {vs:List Value} (h:SeR W B s X) (ho:ROff (s.rows X) p):SeR (stN15 W p k vs) B s X:=⟨h.r.stN ho k,h.ok⟩
theorem OuR.below (h:OuR W B o Y) (hb:Below B W W'):OuR W' B o Y:=⟨h.r.below hb,h.ok⟩
theorem OuR.more (h:OuR W B o Y) (hB:B<=B'):OuR W B' o Y:=⟨h.r.more hB,h.ok⟩
theorem OuR.up (h:OuR W W.heap.size o Y) (hb:Below W.heap.size W W'):OuR W' W'.heap.size o Y:=⟨h.r.up hb,h.ok⟩
theorem OuR.grown (h:OuR W W.heap.size o Y) (hg:W.grownBy W' (some g)) (ho:ROff (o.rows Y) g):OuR W' W'.heap.size o Y:=⟨h.r.grown hg ho,h.ok⟩
theorem cp0:Cp 0 0:=⟨nLR _,Nat.zero_le _⟩
theorem zOux_ok:zOux.Ok zOu:=⟨rfl,fun h hh=>absurd hh (by simp [zOux]),cp0,cp0,cp0,cp0,cp0⟩
theorem zSex_ok:zSex.Ok zSe:=⟨rfl,fun h hh=>absurd hh (by simp [zSex]),⟨cp0,cp0,cp0,cp0,cp0,cp0,cp0⟩,zOux_ok⟩
theorem zSe_rows:zSe.rows zSex=[⟨1,none,0,[]⟩,⟨8,none,0,[]⟩,⟨7,none,0,[]⟩,⟨4,none,0,[]⟩,⟨3,none,0,[]⟩,⟨1,none,0,[]⟩,⟨7,none,0,[]⟩,⟨8,none,0,[]⟩,⟨7,none,0,[]⟩,⟨1,none,0,[]⟩,⟨7,none,0,[]⟩,⟨4,none,0,[]⟩]:=rfl
theorem SeR.zero:SeR W B zSe zSex:=by
 refine ⟨fun r hr=>?_,zSex_ok⟩
 rw [zSe_rows] at hr
 simp only [List.mem_cons,List.not_mem_nil,or_false] at hr
 rcases hr with rfl | rfl | rfl | rfl | rfl | rfl | rfl | rfl | rfl | rfl | rfl | rfl <;> exact Rd.nil none
theorem SeR.lock (h:SeR W B s X):Fl W B (.slice X.Al s.lk.cs.length X.cl) s.lk.cs:=⟨X.Al,X.cl,rfl,h.ok.c.1.1,h.ok.c.1.2,h.r ⟨1,X.Al,s.lk.cs.length,ics s.lk.cs⟩ (by simp [Se.rows])⟩
theorem SeR.dead (h:SeR W B s X):Ls W B (.slice X.Ad s.dl.length X.cd) s.dl:=⟨X.Ad,X.cd,rfl,h.ok.c.2.2.1.1,h.ok.c.2.2.1.2,h.r ⟨7,X.Ad,s.dl.length,lcs s.dl⟩ (by simp [Se.rows])⟩
theorem SeR.stripes (h:SeR W B s X):Tl W B (.slice X.At s.st.length X.ct) s.st:=⟨X.At,X.ct,rfl,h.ok.c.2.2.2.1.1,h.ok.c.2.2.2.1.2,h.r ⟨4,X.At,s.st.length,tcs s.st⟩ (by simp [Se.rows])⟩
theorem SeR.dr (h:SeR W B s X):DR W B s.dir X.D:=⟨⟨X.D.A,X.D.c,rfl,h.ok.c.2.2.2.2.1.1,h.ok.c.2.2.2.2.1.2,h.r ⟨3,X.D.A,s.dir.l.length,scs s.dir.l⟩ (by simp [Se.rows])⟩,⟨X.D.A2,X.D.c2,rfl,h.ok.c.2.2.2.2.2.1.1,h.ok.c.2.2.2.2.2.1.2,h.r ⟨1,X.D.A2,s.dir.F.length,ics s.dir.F⟩ (by simp [Se.rows])⟩⟩
theorem SeR.carry (h:SeR W B s X):Ls W B (.slice X.Ac s.ca.length X.cc) s.ca:=⟨X.Ac,X.cc,rfl,h.ok.c.2.2.2.2.2.2.1,h.ok.c.2.2.2.2.2.2.2,h.r ⟨7,X.Ac,s.ca.length,lcs s.ca⟩ (by simp [Se.rows])⟩
theorem SeR.out (h:SeR W B s X):OuR W B s.o X.o:=⟨h.r.sub (fun r hr=>by simp only [Se.rows,List.mem_cons,List.mem_append];exact .inr (.inr (.inr hr))),h.ok.o⟩
theorem SeR.shards (h:SeR W B s X):RR W B (hRows X.A X.q):=h.r.sub (fun r hr=>by simp only [Se.rows,List.mem_cons,List.mem_append];exact .inr (.inl hr))
theorem OuR.dead (h:OuR W B o Y):Ls W B (.slice Y.Ad o.dl.length Y.cd) o.dl:=⟨Y.Ad,Y.cd,rfl,h.ok.c.2.1.1,h.ok.c.2.1.2,h.r ⟨7,Y.Ad,o.dl.length,lcs o.dl⟩ (by simp [Ou.rows])⟩
theorem OuR.order (h:OuR W B o Y):Fl W B (.slice Y.Ao o.od.length Y.co) o.od:=⟨Y.Ao,Y.co,rfl,h.ok.c.2.2.1.1,h.ok.c.2.2.1.2,h.r ⟨1,Y.Ao,o.od.length,ics o.od⟩ (by simp [Ou.rows])⟩
theorem OuR.carry (h:OuR W B o Y):Ls W B (.slice Y.Ac o.ca.length Y.cc) o.ca:=⟨Y.Ac,Y.cc,rfl,h.ok.c.2.2.2.1.1,h.ok.c.2.2.2.1.2,h.r ⟨7,Y.Ac,o.ca.length,lcs o.ca⟩ (by simp [Ou.rows])⟩
theorem OuR.shards (h:OuR W B o Y):RR W B (hRows Y.A Y.q):=h.r.sub (fun r hr=>by simp only [Ou.rows,List.mem_append];exact .inl hr)
theorem hrows_at {A:Option Addr} {q:List Hs} {k:Nat} (h:RR W B (hRows A q)) (hk:k<q.length) (hc:∀ x∈q,ShCap x.S x.D):(∃ b o,A=some ⟨b,o,none⟩/\b<B/\∀ j u,q[k].l[j]? = some u->W.cell? ⟨b,o+(k*8+j),none⟩=some u)/\SR W B q[k].S q[k].D:=by
 refine ⟨?_,SR.of_rr (h.sub fun r hr=>?_) (hc _ (List.getElem_mem hk))⟩
 ·obtain ⟨b,o,e,hb,hcell⟩:=(h ⟨8,A,q.length,hcs q⟩ (by simp [hRows])).2 (show 0<q.length by omega)
  refine ⟨b,o,e,hb,fun j u hu=>hcell _ _ ?_⟩
  show (hcs q)[k*8+j]? = some u
  have hj:j<q[k].l.length:=(List.getElem?_eq_some_iff.1 hu).1
  clear hcell e hb h hc
  induction q generalizing k with
  | nil=>simp at hk
  | cons d q ih=>
   cases k with
   | zero=>rw [hcs_cons,Nat.zero_mul,Nat.zero_add,List.getElem?_append_left (show j<d.l.length from hj)];exact hu
   | succ k=>
    have hl:d.l.length=8:=rfl
    rw [hcs_cons,List.getElem?_append_right (by rw [hl];omega),hl,show (k+1)*8+j - 8=k*8+j by omega]
    exact ih (by simpa using hk) (by simpa using hu) (by simpa using hj)
 ·simp only [hRows,List.mem_cons,List.mem_flatMap]
  exact .inr ⟨q[k],List.getElem_mem hk,hr⟩
end
end Go.Proofs.YtkecnihgjepfeaaGreat
namespace Go.Proofs.YtkecnihgjepfeaaGreat
open Go.RowKit
set_option linter.unusedVariables false
set_option linter.unusedSimpArgs false
set_option maxHeartbeats 8000000
set_option maxRecDepth 20000
theorem Ci12.start3 {w:World} {a:Ar} {Y:Ax} (har:AR w w.heap.size a Y) (B:_):Ci12 w w.heap.size (w.heap.size+2) a Y (((w.alloc (.cells #[.slice Y.A a.sl.length Y.c,.slice Y.A2 a.st.length Y.c2,.int .i64 a.ow,.int .i64 a.cap,.slice Y.A3 a.dl.length Y.c3,.int .i64 a.dir.vn,.slice Y.D.A a.dir.l.length Y.D.c,.slice Y.D.A2 a.dir.F.length Y.D.c2,.int .i64 a.ep,.int .i64 a.ck,.int .i64 a.ni] 36)).alloc B).alloc (.cells #[.slice none 0 0,.slice none 0 0,.int .i64 0,.int .i64 0,.slice none 0 0,.int .i64 0,.slice none 0 0,.slice none 0 0,.int .i64 0,.int .i64 0,.int .i64 0] 36)):=by
 have h1:=QB.start ((w.alloc (.cells #[.slice Y.A a.sl.length Y.c,.slice Y.A2 a.st.length Y.c2,.int .i64 a.ow,.int .i64 a.cap,.slice Y.A3 a.dl.length Y.c3,.int .i64 a.dir.vn,.slice Y.D.A a.dir.l.length Y.D.c,.slice Y.D.A2 a.dir.F.length Y.D.c2,.int .i64 a.ep,.int .i64 a.ck,.int .i64 a.ni] 36)).alloc B) zA zAx 36
 rw [show ((w.alloc (.cells #[.slice Y.A a.sl.length Y.c,.slice Y.A2 a.st.length Y.c2,.int .i64 a.ow,.int .i64 a.cap,.slice Y.A3 a.dl.length Y.c3,.int .i64 a.dir.vn,.slice Y.D.A a.dir.l.length Y.D.c,.slice Y.D.A2 a.dir.F.length Y.D.c2,.int .i64 a.ep,.int .i64 a.ck,.int .i64 a.ni] 36)).alloc B).heap.size=w.heap.size+2 by simp] at h1
 have b2:Below w.heap.size w (((w.alloc (.cells #[.slice Y.A a.sl.length Y.c,.slice Y.A2 a.st.length Y.c2,.int .i64 a.ow,.int .i64 a.cap,.slice Y.A3 a.dl.length Y.c3,.int .i64 a.dir.vn,.slice Y.D.A a.dir.l.length Y.D.c,.slice Y.D.A2 a.dir.F.length Y.D.c2,.int .i64 a.ep,.int .i64 a.ck,.int .i64 a.ni] 36)).alloc B).alloc (.cells #[.slice none 0 0,.slice none 0 0,.int .i64 0,.int .i64 0,.slice none 0 0,.int .i64 0,.slice none 0 0,.slice none 0 0,.int .i64 0,.int .i64 0,.int .i64 0] 36)):=(((Below.refl _ _).alloc (nLR _) _).alloc (by simp) _).alloc (by simp;omega) _
 exact ⟨((QB.start w a Y _).alloc _).alloc _,h1,har.below b2,⟨nLR _,by omega⟩,b2⟩
theorem st_app_set (s:St) (X:List Value) (k:Nat) (v:Value):(s.l++X).set (4+k) v=s.l++X.set k v:=by
 rw [List.set_append_right _ _ (by rw [St.l_len];omega),St.l_len,Nat.add_sub_cancel_left]
theorem tcs_set (l:List St) (i:Nat) (s:St) (h:i<l.length):(((((tcs l).set (i*4) (.int .i64 s.sq)).set (i*4+1) (.int .i64 s.ep)).set (i*4+2) (.int .i64 s.rd)).set (i*4+3) (.int .i64 s.ls))=tcs (l.set i s):=by
 induction l generalizing i with
 | nil=>simp at h
 | cons u l ih=>
  cases i with
  | zero=>rfl
  | succ i=>
   have h' : i<l.length:=by simpa using h
   have e:∀ k,(i+1)*4+k=4+(i*4+k):=fun k=>by omega
   have e0:(i+1)*4=4+i*4:=by omega
   rw [tcs_cons,List.set_cons_succ,tcs_cons,<-ih i h',e 1,e 2,e 3,e0,st_app_set,st_app_set,st_app_set,st_app_set]
structure Kx (w:World) (p r b b2:Nat) (a:Ar) (Y:Ax) (cs:List Value) (W:World):Prop where
 pb:QB W p a Y
 rb:QB W r zA zAx
 ro:Rb W b (qcs Y.q)
 r2:Rb W b2 cs
 sr:∀ t∈Y.q,SR W W.heap.size t.sh t.sx
 ls:Ls W W.heap.size (.slice Y.A3 a.dl.length Y.c3) a.dl
 dr:DR W W.heap.size a.dir Y.D
 bel:Below w.heap.size w W
theorem Kx.step {w W:World} {p r b b2:Nat} {a:Ar} {Y:Ax} {cs:List Value} (h:Kx w p r b b2 a Y cs W) (n:w.heap.size<=b2/\b2≠b/\b2≠p/\b2≠r) (o1:∀ t∈Y.q,SOff t.sh t.sx b2) (o3:OffB b2 a.dl.length Y.A3) (o4:DOff a.dir Y.D b2) {j:Nat} (hj:j<cs.length) (v:Value):Kx w p r b b2 a Y (cs.set j v) (W.setCell ⟨b2,j,none⟩ v):=
 ⟨h.pb.other (x:=⟨b2,j,none⟩) (show b2≠p from n.2.2.1) v,h.rb.other (x:=⟨b2,j,none⟩) (show b2≠r from n.2.2.2) v,h.ro.other (a:=⟨b2,j,none⟩) (show b2≠b from n.2.1) v,h.r2.set hj v,fun t ht=>((h.sr t ht).offp (p:=⟨b2,j,none⟩) (o1 t ht) v).more (by simp),(h.ls.offp (p:=⟨b2,j,none⟩) o3 v).more (by simp),(h.dr.offp (q:=⟨b2,j,none⟩) o4 v).more (by simp),h.bel.setCell (p:=⟨b2,j,none⟩) n.1 v⟩
abbrev sets4 (W:World) (b o:Nat) (s:St):World:=(((W.setCell ⟨b,o,none⟩ (.int .i64 s.sq)).setCell ⟨b,o+1,none⟩ (.int .i64 s.ep)).setCell ⟨b,o+2,none⟩ (.int .i64 s.rd)).setCell ⟨b,o+3,none⟩ (.int .i64 s.ls)
def Ar.setSt (a:Ar) (i:Nat) (s:St):Ar:=⟨a.sl,a.st.set i s,a.ow,a.cap,a.dl,a.dir,a.ep,a.ck,a.ni⟩
theorem QB.setSt {W:World} {p:Nat} {a:Ar} {Y:Ax} (h:QB W p a Y) (i:Nat) (s:St):QB W p (a.setSt i s) Y:=by
 obtain ⟨⟨y0,y1,y2,y3,y4,y5,y6,y7,y8,y9,y10⟩,fr,lt⟩:=h
 exact ⟨⟨y0,by rw [show (a.setSt i s).st.length=a.st.length from List.length_set];exact y1,y2,y3,y4,y5,y6,y7,y8,y9,y10⟩,fr,lt⟩
theorem Cb12.stripe {w W:World} {p r b p' r' : Nat} {a:Ar} {Y:Ax} (h:Cb12 w p r b a Y W) (hS:Sr12 p' r' b a Y W) (hn:Y.nw (r+1)) {i:Nat} (hi:i<a.st.length):∃ b2,Y.A2=some ⟨b2,0,none⟩/\b2<W.heap.size/\(W.cell? ⟨b2,i*4,none⟩=some (.int .i64 (tg a.st i).sq)/\W.cell? ⟨b2,i*4+1,none⟩=some (.int .i64 (tg a.st i).ep)/\W.cell? ⟨b2,i*4+2,none⟩=some (.int .i64 (tg a.st i).rd)/\W.cell? ⟨b2,i*4+3,none⟩=some (.int .i64 (tg a.st i).ls))/\(∀ o,W.frozen? ⟨b2,o,none⟩=false)/\∀ s,Cb12 w p r b (a.setSt i s) Y (sets4 W b2 (i*4) s):=by
 obtain ⟨b2,e2,hc2,hr2,hne2,o1,o3,o4⟩:=hS (by omega)
 have hne:=h.ne
 have hlo:r+1<=b2:=hn.n2 _ e2
 have htg:(tg a.st i).l=(a.st[i]).l:=by unfold tg;rw [List.getD_eq_getElem?_getD,List.getElem?_eq_getElem hi];rfl
 have g:∀ j u,j<4->(tg a.st i).l[j]? = some u->W.cell? ⟨b2,i*4+j,none⟩=some u:=fun j u hj hu=>hr2.c _ u (by rw [tcs_at a.st i j hi hj,<-htg];exact hu)
 refine ⟨b2,e2,hr2.lt,⟨g 0 _ (by omega) rfl,g 1 _ (by omega) rfl,g 2 _ (by omega) rfl,g 3 _ (by omega) rfl⟩,hr2.f,fun s=>?_⟩
 have n4:w.heap.size<=b2/\b2≠b/\b2≠p/\b2≠r:=⟨by omega,hne2.1,by omega,by omega⟩
 have k0:Kx w p r b b2 a Y (tcs a.st) W:=⟨h.pb,h.rb,h.ro,hr2,fun t ht=>(h.sr t ht).1,h.ls.1,h.dr.1,h.bel⟩
 have hlen:=tcs_len a.st
 have k4:=(((k0.step n4 o1 o3 o4 (j:=i*4) (by omega) (.int .i64 s.sq)).step n4 o1 o3 o4 (j:=i*4+1) (by rw [List.length_set];omega) (.int .i64 s.ep)).step n4 o1 o3 o4 (j:=i*4+2) (by rw [List.length_set,List.length_set];omega) (.int .i64 s.rd)).step n4 o1 o3 o4 (j:=i*4+3) (by rw [List.length_set,List.length_set,List.length_set];omega) (.int .i64 s.ls)
 rw [tcs_set a.st i s hi] at k4
 have el:(a.setSt i s).st.length=a.st.length:=List.length_set
 refine ⟨k4.pb.setSt i s,k4.rb,k4.ro,h.ea,h.ec,h.so,fun t ht=>⟨k4.sr t ht,(h.sr t ht).2⟩,⟨?_,by rw [el];exact h.tl.2.1,by rw [el];exact h.tl.2.2.1,by rw [el];exact h.tl.2.2.2⟩,⟨k4.ls,h.ls.2⟩,⟨k4.dr,h.dr.2⟩,h.ne,k4.bel⟩
 rw [e2]
 refine ⟨_,Y.c2,rfl,by rw [el];exact hc2.1,hc2.2,?_,fun _=>⟨b2,0,rfl,k4.r2.lt,fun j u hu=>by rw [Nat.zero_add];exact k4.r2.c j u hu⟩⟩
 show (tcs (a.st.set i s)).length=(a.setSt i s).st.length*4
 rw [tcs_len];rfl
theorem YT.far11 {W:World} {p q:Nat} {s:St} (h:YT W q s) (hpq:p≠q) (a:Ar) (Y:Ax):YT (set11 W p a Y) q s:=by
 obtain ⟨⟨t0,t1,t2,t3⟩,tl⟩:=h
 have n:∀ i j,(⟨p,i,none⟩:Addr)≠⟨q,j,none⟩:=fun i j e=>hpq (congrArg Addr.block e)
 have g:∀ i v,W.cell? ⟨q,i,none⟩=some v->(set11 W p a Y).cell? ⟨q,i,none⟩=some v:=fun i v h=>by
  show World.cell? (set11 W p a Y) _=_
  unfold set11
  rw [World.cell?_setCell_other _ _ _ _ (n 10 i),World.cell?_setCell_other _ _ _ _ (n 9 i),World.cell?_setCell_other _ _ _ _ (n 8 i),World.cell?_setCell_other _ _ _ _ (n 7 i),World.cell?_setCell_other _ _ _ _ (n 6 i),World.cell?_setCell_other _ _ _ _ (n 5 i),World.cell?_setCell_other _ _ _ _ (n 4 i),World.cell?_setCell_other _ _ _ _ (n 3 i),World.cell?_setCell_other _ _ _ _ (n 2 i),World.cell?_setCell_other _ _ _ _ (n 1 i),World.cell?_setCell_other _ _ _ _ (n 0 i)]
  exact h
 exact ⟨⟨g 0 _ t0,g 1 _ t1,g 2 _ t2,g 3 _ t3⟩,by rw [set11_size];exact tl⟩
def ssA (a:Ar) (k t:Int) (s:St):Ar:=if slE a k t=0 then a.setSt k.toNat s else zA
theorem sl_nat {a:Ar} {k t:Int} (h:slE a k t=0):k=(k.toNat:Int)/\k.toNat<a.sl.length/\k.toNat<a.st.length:=by
 unfold slE at h
 by_cases hb:islB a k=true
 ·have:=wi_of hb;omega
 ·rw [if_neg hb] at h;exact absurd h (by decide)
theorem qcs_put (Q:List Sl) (i:Nat) (x:Int) (S0 S:Sh) (D E:Sx) (h:Q[i]? = some ⟨x,S0,D⟩):(((((((((qcs Q).set (i*9+1) (.bool S.lv)).set (i*9+2) (.int .i64 S.lo)).set (i*9+3) (.int .i64 S.hi)).set (i*9+4) (.slice E.A S.cs.length E.c)).set (i*9+5) (.int .i64 S.hd)).set (i*9+6) (.int .i64 S.sz)).set (i*9+7) (.slice E.A2 S.l.length E.c2)).set (i*9+8) (.slice E.A3 S.h.length E.c3))=qcs (Q.set i ⟨x,S,E⟩):=by
 induction Q generalizing i with
 | nil=>simp at h
 | cons s Q ih=>
  cases i with
  | zero=>
   simp only [List.getElem?_cons_zero,Option.some.injEq] at h
   subst h
   rfl
  | succ i=>
   simp only [List.getElem?_cons_succ] at h
   have e:∀ k,(i+1)*9+k=9+(i*9+k):=fun k=>by omega
   rw [qcs_cons,List.set_cons_succ,qcs_cons,<-ih i h,e 1,e 2,e 3,e 4,e 5,e 6,e 7,e 8,sl_app_set,sl_app_set,sl_app_set,sl_app_set,sl_app_set,sl_app_set,sl_app_set,sl_app_set]
def Ar.setSh (a:Ar) (k:Nat) (S:Sh):Ar:=⟨a.sl.set k ⟨(og a.sl k).ow,S⟩,a.st,a.ow,a.cap,a.dl,a.dir,a.ep,a.ck,a.ni⟩
section
variable {w W:World} {p r b:Nat} {a:Ar} {Y:Ax}
theorem Cb12.put (h:Cb12 w p r b a Y W) {i:Nat} {x:Int} {S S0:Sh} {D E:Sx} (hi:Y.q[i]? = some ⟨x,S0,D⟩) (hr:SR W W.heap.size S E) (hn:E.nw (b+1)):Cb12 w p r b (a.setSh i S) ⟨Y.A,Y.c,Y.q.set i ⟨x,S,E⟩,Y.A2,Y.c2,Y.A3,Y.c3,Y.D⟩ (sets8 W b (i*9) S E):=by
 have hne:=h.ne
 have hl:=(List.getElem?_eq_some_iff.1 hi).1
 have hls:(a.setSh i S).sl.length=a.sl.length:=by simp [Ar.setSh]
 have ht:∀ t∈Y.q.set i ⟨x,S,E⟩,t∈Y.q\/t=⟨x,S,E⟩:=fun t ht=>by
  rcases List.mem_or_eq_of_mem_set ht with h1 | h1
  ·exact .inl h1
  ·exact .inr h1
 have h2:=h.ro.sets8 (o:=i*9) (S:=S) (E:=E) (by rw [qcs_len];omega)
 rw [qcs_put Y.q i x S0 S D E hi] at h2
 have hq:QB (sets8 W b (i*9) S E) p a Y:=h.pb.keep (fun o=>sets8_far (show p≠b by omega)) (fun o=>sets8_frozen _) (show W.heap.size<=(sets8 W b (i*9) S E).heap.size by simp)
 have hq2:QB (sets8 W b (i*9) S E) p (a.setSh i S) ⟨Y.A,Y.c,Y.q.set i ⟨x,S,E⟩,Y.A2,Y.c2,Y.A3,Y.c3,Y.D⟩:=by
  obtain ⟨⟨k0,k1,k2,k3,k4,k5,k6,k7,k8,k9,k10⟩,fr,lt⟩:=hq
  exact ⟨⟨by rw [hls];exact k0,k1,k2,k3,k4,k5,k6,k7,k8,k9,k10⟩,fr,lt⟩
 refine ⟨hq2,h.rb.keep (fun o=>sets8_far (show r≠b by omega)) (fun o=>sets8_frozen _) (show W.heap.size<=(sets8 W b (i*9) S E).heap.size by simp),h2,h.ea,by rw [hls];exact h.ec,?_,fun t hm=>?_,⟨h.tl.1.sets8 h.tl.2.1,h.tl.2⟩,⟨h.ls.1.sets8 h.ls.2.1,h.ls.2⟩,⟨h.dr.1.sets8 h.dr.2.1,h.dr.2⟩,h.ne,sets8_below h.bel (by omega)⟩
 ·show (Y.q.set i ⟨x,S,E⟩).map Sl.so=a.sl.set i ⟨(og a.sl i).ow,S⟩
  have e:(Y.q.map Sl.so)[i]? = some (Sl.so ⟨x,S0,D⟩):=by rw [List.getElem?_map,hi];rfl
  rw [h.so] at e
  have e2:(og a.sl i).ow=x:=by simp [og,List.getD,e,Sl.so]
  rw [List.map_set,h.so,e2]
  rfl
 ·rcases ht t hm with h1 | rfl
  ·exact ⟨(h.sr t h1).1.sets8 (h.sr t h1).2.1,(h.sr t h1).2⟩
  ·exact ⟨hr.sets8 (hn.off (Nat.lt_succ_self b)),hn.off (Nat.lt_succ_self b),hn.off (by omega),hn.off (by omega)⟩
end
theorem jcell_any (l:Lk) (A:Option Addr) (c:Nat) (i:Int) (w:World) (hf:Fl w w.heap.size (.slice A l.cs.length c) l.cs):Calls Tryz.prog 151 #[lv l A c,.int .i64 i] w fun e w'=>e=.returned (.int .i64 (ctF l.cs i))/\Below w.heap.size w w':=by
 have HB:=Lh (LB.start w l A c 45)
 have HW:=Lh ((Below.refl w.heap.size w).alloc (nLR _) (.cells #[.slice A l.cs.length c,.int .i64 l.ph,.int .i64 l.hv,.int .i64 l.tr,.int .i64 l.wt] 45))
 obtain ⟨p,hp⟩:∃ p,p=w.heap.size:=⟨_,rfl⟩
 have HPP:=Lh hp
 by_cases h1:i<0
 ·have HX:=Lh (show ctF l.cs i = -1 from if_neg (by omega))
  clear hp hf
  go_enter Tryz.func151,Tryz.ntmps151
  go_wp2
  go_ret
  exact ⟨by rw [HX.out];rfl,HW.out⟩
 ·by_cases h2:(l.cs.length:Int)<=i
  ·have HX:=Lh (show ctF l.cs i = -1 from if_neg (by omega))
   clear hp hf
   go_enter Tryz.func151,Tryz.ntmps151
   obtain ⟨y0,y1,y2,y3,y4⟩:=HB.out.k
   have yl:=HB.out.lt
   go_wp2
   go_ret
   exact ⟨by rw [HX.out];rfl,HW.out⟩
  ·obtain ⟨n,rfl⟩:∃ n:Nat,i=n:=⟨i.toNat,by omega⟩
   have hn:n<l.cs.length:=by omega
   have HX:=Lh (show ctF l.cs (n:Int)=ig l.cs n from by unfold ctF;rw [if_pos (by omega)];rfl)
   have HF:=Lh (hf.alloc (nLR _) (.cells #[.slice A l.cs.length c,.int .i64 l.ph,.int .i64 l.hv,.int .i64 l.tr,.int .i64 l.wt] 45))
   clear hp hf
   obtain ⟨b,o,rfl,hb,hc⟩:=HF.out.atg hn
   go_enter Tryz.func151,Tryz.ntmps151
   obtain ⟨y0,y1,y2,y3,y4⟩:=HB.out.k
   have yl:=HB.out.lt
   clear hb
   go_wp2
   go_ret
   exact ⟨by rw [HX.out];rfl,HW.out⟩
def LV (w:World) (l:Lk) (A:Option Addr) (c:Nat) (e:Ending) (w' : World):Prop:=e=.returned (lv l A c)/\Below w.heap.size w w'
structure Jb (w:World) (p r:Nat) (l m:Lk) (A A' : Option Addr) (c c' : Nat) (W:World):Prop where
 pb:LB W p l A c
 rb:LB W r m A' c'
 ne:w.heap.size<=p/\p<r
 bel:Below w.heap.size w W
section
variable {w W W' : World} {p r:Nat} {l m:Lk} {A A' : Option Addr} {c c' : Nat}
theorem Jb.start (w:World) (l:Lk) (A:Option Addr) (c:Nat):Jb w w.heap.size (w.heap.size+1) l zK A none c 0 ((w.alloc (.cells #[.slice A l.cs.length c,.int .i64 l.ph,.int .i64 l.hv,.int .i64 l.tr,.int .i64 l.wt] 45)).alloc (.cells #[.slice none 0 0,.int .i64 0,.int .i64 0,.int .i64 0,.int .i64 0] 45)):=by
 have h1:=LB.start (w.alloc (.cells #[.slice A l.cs.length c,.int .i64 l.ph,.int .i64 l.hv,.int .i64 l.tr,.int .i64 l.wt] 45)) zK none 0 45
 rw [show (w.alloc (.cells #[.slice A l.cs.length c,.int .i64 l.ph,.int .i64 l.hv,.int .i64 l.tr,.int .i64 l.wt] 45)).heap.size=w.heap.size+1 by simp] at h1
 exact ⟨(LB.start w l A c _).alloc _,h1,⟨nLR _,Nat.lt_succ_self _⟩,((Below.refl _ _).alloc (nLR _) _).alloc (by simp) _⟩
theorem Jb.setP (h:Jb w p r l m A A' c c' W) (x:Int):Jb w p r ⟨l.cs,x,l.hv,l.tr,l.wt⟩ m A A' c c' (W.setCell ⟨p,1,none⟩ (.int .i64 x)):=⟨h.pb.setP x,h.rb.other (x:=⟨p,1,none⟩) (Nat.ne_of_lt h.ne.2) _,h.ne,h.bel.setCell (p:=⟨p,1,none⟩) h.ne.1 _⟩
theorem Jb.setT (h:Jb w p r l m A A' c c' W) (x:Int):Jb w p r ⟨l.cs,l.ph,l.hv,x,l.wt⟩ m A A' c c' (W.setCell ⟨p,3,none⟩ (.int .i64 x)):=⟨h.pb.setT x,h.rb.other (x:=⟨p,3,none⟩) (Nat.ne_of_lt h.ne.2) _,h.ne,h.bel.setCell (p:=⟨p,3,none⟩) h.ne.1 _⟩
theorem Jb.setW (h:Jb w p r l m A A' c c' W) (x:Int):Jb w p r ⟨l.cs,l.ph,l.hv,l.tr,x⟩ m A A' c c' (W.setCell ⟨p,4,none⟩ (.int .i64 x)):=⟨h.pb.setW x,h.rb.other (x:=⟨p,4,none⟩) (Nat.ne_of_lt h.ne.2) _,h.ne,h.bel.setCell (p:=⟨p,4,none⟩) h.ne.1 _⟩
theorem Jb.setA (h:Jb w p r l m A A' c c' W) (x:Option Addr) (y:Nat):Jb w p r l m x A' y c' (W.setCell ⟨p,0,none⟩ (.slice x l.cs.length y)):=⟨h.pb.setA x y,h.rb.other (x:=⟨p,0,none⟩) (Nat.ne_of_lt h.ne.2) _,h.ne,h.bel.setCell (p:=⟨p,0,none⟩) h.ne.1 _⟩
theorem Jb.below (h:Jb w p r l m A A' c c' W) (hb:Below W.heap.size W W'):Jb w p r l m A A' c c' W':=⟨h.pb.up hb,h.rb.up hb,h.ne,h.bel.trans (hb.mono h.bel.size)⟩
theorem Jb.out (h:Jb w p r l m A A' c c' W):LV w l A c (.returned (lv l A c)) (set5 W r l A c):=⟨rfl,set5_below h.bel (by have:=h.ne;omega) l A c⟩
end
theorem jpause_any (l:Lk) (A:Option Addr) (c:Nat) (w:World) (hs:l.sm):Calls Tryz.prog 131 #[lv l A c] w (LV w (pzL l) A c):=by
 have H0:=Lh (Jb.start w l A c)
 obtain ⟨p,hp⟩:∃ p,p=w.heap.size:=⟨_,rfl⟩
 obtain ⟨r,hr⟩:∃ r,r=w.heap.size+1:=⟨_,rfl⟩
 have HPP:=Lh (And.intro hp hr)
 rw [<-hr] at H0
 have H0:=Lh (show Jb w p r l zK A none c 0 _ from by rw [hp];exact H0.out)
 have hw:IntKind.i64.wrap (l.wt - 1)=l.wt - 1:=IntWalk.i64_in _ (by have:=hs.2.2;omega)
 obtain ⟨x,hx⟩:∃ x,x=l.wt - 1:=⟨_,rfl⟩
 obtain ⟨M,hM⟩:∃ M,M=pzL l:=⟨_,rfl⟩
 have HM:=Lh (show M=⟨l.cs,if x=0 then 0 else l.ph,l.hv,l.tr,x⟩ from by rw [hM,hx];rfl)
 rw [<-hM]
 rw [<-hx] at hw
 have HX:=Lh hx
 have hw2:IntKind.i64.wrap (l.wt - 1)=x:=by rw [<-hx];exact hw
 clear hp hr hs hM hx hw
 go_enter Tryz.func131,Tryz.ntmps131
 go_upto_region 1 with (fail)
 rw [<-HPP.out.2,<-HPP.out.1]
 generalize ((w.alloc (.cells #[.slice A l.cs.length c,.int .i64 l.ph,.int .i64 l.hv,.int .i64 l.tr,.int .i64 l.wt] 45)).alloc (.cells #[.slice none 0 0,.int .i64 0,.int .i64 0,.int .i64 0,.int .i64 0] 45))=w1 at*
 obtain ⟨y0,y1,y2,y3,y4⟩:=H0.out.pb.k
 have yl:=H0.out.pb.lt
 obtain ⟨f0,f1,f2,f3,f4⟩:=H0.out.pb.free
 obtain ⟨r0,r1,r2,r3,r4⟩:=H0.out.rb.k
 have rl:=H0.out.rb.lt
 obtain ⟨g0,g1,g2,g3,g4⟩:=H0.out.rb.free
 have hpr:¬p=r:=by have:=H0.out.ne;omega
 have hrp:¬r=p:=fun e=>hpr e.symm
 go_upto_region 2 with (fail)
 clear y0 y1 y2 y3 y4 yl f0 f1 f2 f3 f4 r0 r1 r2 r3 r4 rl g0 g1 g2 g3 g4 hpr hrp
 have H1:=Lh (H0.out.setW x)
 clear H0 hw2
 generalize (w1.setCell ⟨p,4,none⟩ (.int .i64 x))=w2 at*
 obtain ⟨y0,y1,y2,y3,y4⟩:=H1.out.pb.k
 have yl:=H1.out.pb.lt
 obtain ⟨f0,f1,f2,f3,f4⟩:=H1.out.pb.free
 obtain ⟨r0,r1,r2,r3,r4⟩:=H1.out.rb.k
 have rl:=H1.out.rb.lt
 obtain ⟨g0,g1,g2,g3,g4⟩:=H1.out.rb.free
 have hpr:¬p=r:=by have:=H1.out.ne;omega
 have hrp:¬r=p:=fun e=>hpr e.symm
 by_cases h0:x=0
 ·have HM:=Lh (show M=⟨l.cs,0,l.hv,l.tr,x⟩ from by rw [HM.out,if_pos h0])
  have hb:(x==0)=true:=by simp [h0]
  clear h0
  go_upto_region 4 with (fail)
  clear y0 y1 y2 y3 y4 yl f0 f1 f2 f3 f4 r0 r1 r2 r3 r4 rl g0 g1 g2 g3 g4 hpr hrp
  have H2:=Lh (H1.out.setP 0)
  rw [<-HM.out] at H2
  generalize (w2.setCell ⟨p,1,none⟩ (.int .i64 0))=w3 at*
  have HF:=Lh H2.out.out
  obtain ⟨y0,y1,y2,y3,y4⟩:=H2.out.pb.k
  have yl:=H2.out.pb.lt
  obtain ⟨f0,f1,f2,f3,f4⟩:=H2.out.pb.free
  obtain ⟨r0,r1,r2,r3,r4⟩:=H2.out.rb.k
  have rl:=H2.out.rb.lt
  obtain ⟨g0,g1,g2,g3,g4⟩:=H2.out.rb.free
  have hpr:¬p=r:=by have:=H2.out.ne;omega
  have hrp:¬r=p:=fun e=>hpr e.symm
  clear H1 H2
  go_wp2
  exact bodyPost_ret (v:=lv M A c) (by simp only [results,Tryz.results131];go_simp <;> rfl) rfl HF.out
 ·have HM:=Lh (show M=⟨l.cs,l.ph,l.hv,l.tr,x⟩ from by rw [HM.out,if_neg h0])
  have hb:(M.wt==0)=false:=by rw [HM.out];simp [h0]
  rw [<-HM.out] at H1
  clear h0
  clear y0 y1 y2 y3 y4 yl f0 f1 f2 f3 f4 r0 r1 r2 r3 r4 rl g0 g1 g2 g3 g4 hpr hrp
  have HF:=Lh H1.out.out
  obtain ⟨y0,y1,y2,y3,y4⟩:=H1.out.pb.k
  have yl:=H1.out.pb.lt
  obtain ⟨f0,f1,f2,f3,f4⟩:=H1.out.pb.free
  obtain ⟨r0,r1,r2,r3,r4⟩:=H1.out.rb.k
  have rl:=H1.out.rb.lt
  obtain ⟨g0,g1,g2,g3,g4⟩:=H1.out.rb.free
  have hpr:¬p=r:=by have:=H1.out.ne;omega
  have hrp:¬r=p:=fun e=>hpr e.symm
  clear H1
  go_wp2
  exact bodyPost_ret (v:=lv M A c) (by simp only [results,Tryz.results131];go_simp <;> rfl) rfl HF.out
end Go.Proofs.YtkecnihgjepfeaaGreat
