/- What is proved here: Rqfp; ring.without by a contract; Rqbp; ring.Remove by a contract; shardqueueref03.Index by one contract. -/
import Derived.Test.YtncgbldcjfbknaaGreatJ07
import Derived.Deep.DeepCutAuto
/- Plain: boxes of a ring and of a message behind stores; what PopFront returns. -/
namespace Go.Proofs.YtncgbldcjfbknaaGreat
open Go.RowKit
set_option linter.unusedVariables false
theorem RB.set3 {W:World} {p r n c:Nat} {A:Option Addr} {hd sz:Int} (h:RB W p A n c hd sz) (hr:r≠p) (x y z:Value):RB (((W.setCell ⟨r,0,none⟩ x).setCell ⟨r,1,none⟩ y).setCell ⟨r,2,none⟩ z) p A n c hd sz:=
 ((h.other (a:=⟨r,0,none⟩) hr x).other (a:=⟨r,1,none⟩) hr y).other (a:=⟨r,2,none⟩) hr z
theorem RB.lit7 {W:World} {p b n c:Nat} {A:Option Addr} {hd sz:Int} (h:RB W p A n c hd sz) (hb:b≠p) (X:Msg):RB (((((((W.setCell ⟨b,0,none⟩ (.int .i64 X.id)).setCell ⟨b,1,none⟩ (.int .i64 X.rt)).setCell ⟨b,2,none⟩ (.int .i64 X.ep)).setCell ⟨b,3,none⟩ (.int .i64 X.ct)).setCell ⟨b,4,none⟩ (.int .i64 X.gn)).setCell ⟨b,5,none⟩ (.int .i64 X.st)).setCell ⟨b,6,none⟩ (.string X.bd)) p A n c hd sz:=
 ((((((h.other (a:=⟨b,0,none⟩) hb _).other (a:=⟨b,1,none⟩) hb _).other (a:=⟨b,2,none⟩) hb _).other (a:=⟨b,3,none⟩) hb _).other (a:=⟨b,4,none⟩) hb _).other (a:=⟨b,5,none⟩) hb _).other (a:=⟨b,6,none⟩) hb _
theorem MAt.set3 {W:World} {q r:Nat} {f:Nat→Int} {t:ByteArray} (h:MAt W q f t) (hr:r≠q) (x y z:Value):MAt (((W.setCell ⟨r,0,none⟩ x).setCell ⟨r,1,none⟩ y).setCell ⟨r,2,none⟩ z) q f t:=
 ((h.other (p:=⟨r,0,none⟩) hr x).other (p:=⟨r,1,none⟩) hr y).other (p:=⟨r,2,none⟩) hr z
theorem MAt.lit7 {W:World} {q b:Nat} {f:Nat→Int} {t:ByteArray} (h:MAt W q f t) (hb:b≠q) (X:Msg):MAt (((((((W.setCell ⟨b,0,none⟩ (.int .i64 X.id)).setCell ⟨b,1,none⟩ (.int .i64 X.rt)).setCell ⟨b,2,none⟩ (.int .i64 X.ep)).setCell ⟨b,3,none⟩ (.int .i64 X.ct)).setCell ⟨b,4,none⟩ (.int .i64 X.gn)).setCell ⟨b,5,none⟩ (.int .i64 X.st)).setCell ⟨b,6,none⟩ (.string X.bd)) q f t:=
 ((((((h.other (p:=⟨b,0,none⟩) hb _).other (p:=⟨b,1,none⟩) hb _).other (p:=⟨b,2,none⟩) hb _).other (p:=⟨b,3,none⟩) hb _).other (p:=⟨b,4,none⟩) hb _).other (p:=⟨b,5,none⟩) hb _).other (p:=⟨b,6,none⟩) hb _
theorem MAt.drew' {W:World} {q:Nat} {f:Nat→Int} {t:ByteArray} (h:MAt W q f t):MAt W.drew q f t:=h
theorem s10_of {W:World} {p y n c:Nat} {A:Option Addr} {hd sz:Int} {M:Msg} (h:RB W p A n c hd sz) (k:MAt W y M.nth M.bd):(W.cell? ⟨p,0,none⟩=some (.slice A n c)∧W.cell? ⟨p,1,none⟩=some (.int .i64 hd)∧W.cell? ⟨p,2,none⟩=some (.int .i64 sz)∧W.cell? ⟨y,0,none⟩=some (.int .i64 M.id)∧W.cell? ⟨y,1,none⟩=some (.int .i64 M.rt)∧W.cell? ⟨y,2,none⟩=some (.int .i64 M.ep)∧W.cell? ⟨y,3,none⟩=some (.int .i64 M.ct)∧W.cell? ⟨y,4,none⟩=some (.int .i64 M.gn)∧W.cell? ⟨y,5,none⟩=some (.int .i64 M.st)∧W.cell? ⟨y,6,none⟩=some (.string M.bd)):=
 ⟨h.c0,h.c1,h.c2,k.facts.1⟩
attribute [local go_sem ↓] Go.wp_at_zero Go.wp_at_succ
end Go.Proofs.YtncgbldcjfbknaaGreat
namespace Go.Proofs.YtncgbldcjfbknaaGreat
open Go.RowKit
set_option linter.unusedVariables false
def WoP (w:World) (cs:List Msg) (hd sz:Int) (X:Msg) (e:Ending) (w' : World):Prop:=∃ A c,e=.returned (.tuple #[.agg #[.slice A cs.length c,.int .i64 hd,.int .i64 sz],X.v])∧Nw w.heap.size A∧Ls w' w'.heap.size (.slice A cs.length c) cs∧Below w.heap.size w w'
structure WoAt (w:World) (p r s y z:Nat) (n cap:Nat) (hd sz:Int) (X:Msg) (f:Nat→Msg) (W:World):Prop where
 po:PoAt w p r s (some ⟨z,0,none⟩) n cap hd sz W
 my:MAt W y X.nth X.bd
 row:MRow W z n f
 old:s<y∧y<z
section
variable {w W W' : World} {p r s y z n cap:Nat} {hd sz:Int} {X:Msg} {f:Nat→Msg}
theorem WoAt.below (h:WoAt w p r s y z n cap hd sz X f W) (hb:Below W.heap.size W W'):WoAt w p r s y z n cap hd sz X f W':=⟨h.po.below hb,h.my.below hb h.my.1,h.row.below hb h.row.1,h.old⟩
theorem WoAt.drew (h:WoAt w p r s y z n cap hd sz X f W):WoAt w p r s y z n cap hd sz X f W.drew:=⟨h.po.drew,h.my,h.row,h.old⟩
theorem WoAt.put (h:WoAt w p r s y z n cap hd sz X f W) {k:Nat} (hk:k<n) (M:Msg):WoAt w p r s y z n cap hd sz X (fun i=>if i=k then M else f i) (((((((W.setCell ⟨z,k*7,none⟩ (.int .i64 M.id)).setCell ⟨z,k*7+1,none⟩ (.int .i64 M.rt)).setCell ⟨z,k*7+2,none⟩ (.int .i64 M.ep)).setCell ⟨z,k*7+3,none⟩ (.int .i64 M.ct)).setCell ⟨z,k*7+4,none⟩ (.int .i64 M.gn)).setCell ⟨z,k*7+5,none⟩ (.int .i64 M.st)).setCell ⟨z,k*7+6,none⟩ (.string M.bd)):=
 ⟨h.po.sets7 (by have:=h.old;omega) (k*7) M,h.my.sets7 (by have:=h.old;omega) (k*7) M,h.row.put7n hk M,h.old⟩
theorem WoAt.put0 (h:WoAt w p r s y z n cap hd sz X f W) {k:Nat} (hk:k<n):WoAt w p r s y z n cap hd sz X (fun i=>if i=k then zM else f i) (((((((W.setCell ⟨z,k*7,none⟩ (.int .i64 0)).setCell ⟨z,k*7+1,none⟩ (.int .i64 0)).setCell ⟨z,k*7+2,none⟩ (.int .i64 0)).setCell ⟨z,k*7+3,none⟩ (.int .i64 0)).setCell ⟨z,k*7+4,none⟩ (.int .i64 0)).setCell ⟨z,k*7+5,none⟩ (.int .i64 0)).setCell ⟨z,k*7+6,none⟩ (.string ⟨#[]⟩)):=h.put hk zM
theorem WoAt.s3 (h:WoAt w p r s y z n cap hd sz X f W):W.cell? ⟨p,0,none⟩=some (.slice (some ⟨z,0,none⟩) n cap)∧W.cell? ⟨p,1,none⟩=some (.int .i64 hd)∧W.cell? ⟨p,2,none⟩=some (.int .i64 sz):=⟨h.po.rb.c0,h.po.rb.c1,h.po.rb.c2⟩
theorem WoAt.s10 (h:WoAt w p r s y z n cap hd sz X f W) {k:Nat} (hk:k<n) {M:Msg} (e:f k=M):W.cell? ⟨p,0,none⟩=some (.slice (some ⟨z,0,none⟩) n cap)∧W.cell? ⟨p,1,none⟩=some (.int .i64 hd)∧W.cell? ⟨p,2,none⟩=some (.int .i64 sz)∧W.cell? ⟨z,k*7,none⟩=some (.int .i64 M.id)∧W.cell? ⟨z,k*7+1,none⟩=some (.int .i64 M.rt)∧W.cell? ⟨z,k*7+2,none⟩=some (.int .i64 M.ep)∧W.cell? ⟨z,k*7+3,none⟩=some (.int .i64 M.ct)∧W.cell? ⟨z,k*7+4,none⟩=some (.int .i64 M.gn)∧W.cell? ⟨z,k*7+5,none⟩=some (.int .i64 M.st)∧W.cell? ⟨z,k*7+6,none⟩=some (.string M.bd):=by
 subst e;exact ⟨h.po.rb.c0,h.po.rb.c1,h.po.rb.c2,h.row.c7 hk⟩
theorem PoAt.lit7 {A:Option Addr} {c:Nat} (h:PoAt w p r s A n c hd sz W) {b:Nat} (hb:s<b) (M:Msg):PoAt w p r s A n c hd sz (((((((W.setCell ⟨b,0,none⟩ (.int .i64 M.id)).setCell ⟨b,1,none⟩ (.int .i64 M.rt)).setCell ⟨b,2,none⟩ (.int .i64 M.ep)).setCell ⟨b,3,none⟩ (.int .i64 M.ct)).setCell ⟨b,4,none⟩ (.int .i64 M.gn)).setCell ⟨b,5,none⟩ (.int .i64 M.st)).setCell ⟨b,6,none⟩ (.string M.bd)):=
 ⟨h.rb.lit7 (by have:=h.old;omega) M,(by
  have hr:b≠r:=by have:=h.old;omega
  exact h.rs.lit7 hr M),h.ms.lit7 (by omega) M,below7 h.bel (by have:=h.old;omega) _ _ _ _ _ _ _,h.old⟩
theorem MAt.congr {q:Nat} {f g:Nat→Int} {t:ByteArray} (h:MAt W q f t) (e:∀ j,j<6→f j=g j):MAt W q g t:=
 ⟨h.1,fun j hj=>by rw [←e j hj];exact h.2.1 j hj,h.2.2⟩
theorem MAt.own7 {q:Nat} {f:Nat→Int} {t:ByteArray} (h:MAt W q f t) (M:Msg):MAt (((((((W.setCell ⟨q,0,none⟩ (.int .i64 M.id)).setCell ⟨q,1,none⟩ (.int .i64 M.rt)).setCell ⟨q,2,none⟩ (.int .i64 M.ep)).setCell ⟨q,3,none⟩ (.int .i64 M.ct)).setCell ⟨q,4,none⟩ (.int .i64 M.gn)).setCell ⟨q,5,none⟩ (.int .i64 M.st)).setCell ⟨q,6,none⟩ (.string M.bd)) q M.nth M.bd:=
 ((((((((h.put 0 (by omega) M.id).put 1 (by omega) M.rt).put 2 (by omega) M.ep).put 3 (by omega) M.ct).put 4 (by omega) M.gn).put 5 (by omega) M.st).body M.bd)).congr fun j hj=>by
  match j,hj with
  | 0,_=>rfl
  | 1,_=>rfl
  | 2,_=>rfl
  | 3,_=>rfl
  | 4,_=>rfl
  | 5,_=>rfl
theorem C7.drew {b m:Nat} {M:Msg} (h:C7 W b m M):C7 W.drew b m M:=h
theorem sc_of {A:Option Addr} {c b m:Nat} {M:Msg} (h:PoAt w p r s A n c hd sz W) (k:C7 W b m M):W.cell? ⟨p,0,none⟩=some (.slice A n c)∧W.cell? ⟨p,1,none⟩=some (.int .i64 hd)∧W.cell? ⟨p,2,none⟩=some (.int .i64 sz)∧W.cell? ⟨b,m,none⟩=some (.int .i64 M.id)∧W.cell? ⟨b,m+1,none⟩=some (.int .i64 M.rt)∧W.cell? ⟨b,m+2,none⟩=some (.int .i64 M.ep)∧W.cell? ⟨b,m+3,none⟩=some (.int .i64 M.ct)∧W.cell? ⟨b,m+4,none⟩=some (.int .i64 M.gn)∧W.cell? ⟨b,m+5,none⟩=some (.int .i64 M.st)∧W.cell? ⟨b,m+6,none⟩=some (.string M.bd):=⟨h.rb.c0,h.rb.c1,h.rb.c2,k⟩
theorem C7.up {A:Option Addr} {c b m:Nat} {M:Msg} (k:C7 W b m M) (h:PoAt w p r s A n c hd sz W) (hb:b<w.heap.size) (o:Obj):C7 (W.alloc o) b m M:=
 C7.below k ((Below.refl W.heap.size W).alloc (Nat.le_refl _) o) (Nat.lt_of_lt_of_le hb h.bel.size)
theorem C7.lit7 {b m q:Nat} {M:Msg} (k:C7 W b m M) (hb:b≠q) (X:Msg):C7 (((((((W.setCell ⟨q,0,none⟩ (.int .i64 X.id)).setCell ⟨q,1,none⟩ (.int .i64 X.rt)).setCell ⟨q,2,none⟩ (.int .i64 X.ep)).setCell ⟨q,3,none⟩ (.int .i64 X.ct)).setCell ⟨q,4,none⟩ (.int .i64 X.gn)).setCell ⟨q,5,none⟩ (.int .i64 X.st)).setCell ⟨q,6,none⟩ (.string X.bd)) b m M:=by
 have e:∀ o,(((((((W.setCell ⟨q,0,none⟩ (.int .i64 X.id)).setCell ⟨q,1,none⟩ (.int .i64 X.rt)).setCell ⟨q,2,none⟩ (.int .i64 X.ep)).setCell ⟨q,3,none⟩ (.int .i64 X.ct)).setCell ⟨q,4,none⟩ (.int .i64 X.gn)).setCell ⟨q,5,none⟩ (.int .i64 X.st)).setCell ⟨q,6,none⟩ (.string X.bd)).cell? ⟨b,o,none⟩=W.cell? ⟨b,o,none⟩:=fun o=>sets_far (W:=W) (q:=q) (p:=⟨b,o,none⟩) hb 0 X.l
 obtain ⟨c0,c1,c2,c3,c4,c5,c6⟩:=k
 exact ⟨(e _).trans c0,(e _).trans c1,(e _).trans c2,(e _).trans c3,(e _).trans c4,(e _).trans c5,(e _).trans c6⟩
theorem MAt.fr {q:Nat} {f:Nat→Int} {t:ByteArray} (h:MAt W q f t):W.frozen? ⟨q,0,none⟩=false∧W.frozen? ⟨q,1,none⟩=false∧W.frozen? ⟨q,2,none⟩=false∧W.frozen? ⟨q,3,none⟩=false∧W.frozen? ⟨q,4,none⟩=false∧W.frozen? ⟨q,5,none⟩=false∧W.frozen? ⟨q,6,none⟩=false:=⟨h.2.2.2 0 (by omega),h.2.2.2 1 (by omega),h.2.2.2 2 (by omega),h.2.2.2 3 (by omega),h.2.2.2 4 (by omega),h.2.2.2 5 (by omega),h.2.2.2 6 (by omega)⟩
theorem WoAt.at2 (h:WoAt w p r s y z n cap hd sz X f W) {j k:Nat} (hj:j<n) (hk:k<n):C7 W z (j*7) (f j)∧C7 W z (k*7) (f k)∧(W.frozen? ⟨z,k*7,none⟩=false∧W.frozen? ⟨z,k*7+1,none⟩=false∧W.frozen? ⟨z,k*7+2,none⟩=false∧W.frozen? ⟨z,k*7+3,none⟩=false∧W.frozen? ⟨z,k*7+4,none⟩=false∧W.frozen? ⟨z,k*7+5,none⟩=false∧W.frozen? ⟨z,k*7+6,none⟩=false)∧p<W.heap.size∧z<W.heap.size∧z≠p∧p≠z:=
 ⟨h.row.c7 hj,h.row.c7 hk,h.row.free _,h.po.rb.lt,h.row.1,by have:=h.old;have:=h.po.old;omega,by have:=h.old;have:=h.po.old;omega⟩
end
attribute [local go_sem ↓] Go.wp_at_zero Go.wp_at_succ
set_option maxHeartbeats 8000000 in
set_option maxRecDepth 20000 in
theorem without_any (A:Option Addr) (n c:Nat) (cs:List Msg) (hd sz x:Nat) (w:World) (hv:Ls w w.heap.size (.slice A n c) cs) (hn:nmB cs.length hd sz=true) (hz:∀ k,sz≤k→k<cs.length→cel cs hd k=zM) (hx:x<sz) :
  Calls Tryz.prog 147 #[.agg #[.slice A n c,.int .i64 hd,.int .i64 sz],.int .i64 x] w (WoP w (fil cs.length hd ((ord cs hd sz).eraseIdx x)) hd ((sz:Int) - 1) (cel cs hd x)):=by
 obtain ⟨rfl,_,_⟩:=hv.len
 have HV:=Lh hv
 obtain ⟨⟨n1,n2⟩,⟨k1,k2⟩,⟨s1,s2⟩⟩:=nm_of hn
 have hn0:0<cs.length:=by omega
 have HNW:=Lh (fun (g:Nat→Msg)=>without_cells (cs:=cs) (hd:=hd) (sz:=sz) (x:=x) (g:=g) (by omega) hx (by omega) hz)
 have HZF:=Lh hz
 have HCS:=Lh (fil_len cs.length hd ((ord cs hd sz).eraseIdx x))
 obtain ⟨m,hm⟩:∃ m,m=(hd+x) % cs.length:=⟨_,rfl⟩
 have hml:m<cs.length:=by rw [hm];exact Nat.mod_lt _ hn0
 have hmi:((hd:Int)+(x:Int)) % (cs.length:Int)=(m:Int):=by rw [hm];simp
 have HX:=Lh (cel_get hn0 m hm hml)
 have HPL:=Lh (fun w=>place_any A cs.length c hd sz x (by omega) (by omega) (by omega) (by omega) (by omega) (by omega) w)
 rw [hmi] at HPL
 have HCL:=Lh (fun w1 (h:Ls w1 w1.heap.size (.slice A cs.length c) cs)=>clone_any A cs.length c cs w1 h (by omega) (by omega))
 have hml' : (m:Int)<(cs.length:Int):=by omega
 clear hv hn hz hm hmi
 go_enter Tryz.func147,Tryz.ntmps147
 go_wp2_with fail
 have HS:=Lh (show PoAt w w.heap.size (w.heap.size+1) (w.heap.size+1+1) A cs.length c hd sz (((w.alloc (.cells #[.slice A cs.length c,.int .i64 hd,.int .i64 sz] 27)).alloc (.cells #[.slice none 0 0,.int .i64 0,.int .i64 0] 27)).alloc (.cells #[.int .i64 0,.int .i64 0,.int .i64 0,.int .i64 0,.int .i64 0,.int .i64 0,.string ⟨#[]⟩] 56)) from PoAt.start w A cs.length c hd sz 27 56)
 obtain ⟨p,hp⟩:∃ p,p=w.heap.size:=⟨_,rfl⟩
 obtain ⟨r,hr⟩:∃ r,r=w.heap.size+1:=⟨_,rfl⟩
 obtain ⟨s,hs⟩:∃ s,s=w.heap.size+1+1:=⟨_,rfl⟩
 generalize ((w.alloc (.cells #[.slice A cs.length c,.int .i64 hd,.int .i64 sz] 27)).alloc (.cells #[.slice none 0 0,.int .i64 0,.int .i64 0] 27)).alloc (.cells #[.int .i64 0,.int .i64 0,.int .i64 0,.int .i64 0,.int .i64 0,.int .i64 0,.string ⟨#[]⟩] 56)=w0 at*
 rw [←hs,←hr,←hp] at HS ⊢
 clear hp hr hs
 go_goals
 go_cut [6] (fun s6 wx=>∃ y,s6=.pointer (some ⟨y,0,none⟩)∧PoAt w p r s A cs.length c hd sz wx∧MAt wx y (cel cs hd x).nth (cel cs hd x).bd∧s<y)
 case first=>
  obtain ⟨b,o,rfl,hbb,hc⟩:=(HV.out.below HS.out.bel).at_ hml
  rw [←HX.out]
  generalize cs[m]=X at*
  have hbw:b<w0.heap.size:=Nat.lt_of_lt_of_le hbb HS.out.bel.size
  have HC7:=Lh hc
  have HSZ:=Lh (HS.out.alloc (.cells #[.int .i64 0,.int .i64 0,.int .i64 0,.int .i64 0,.int .i64 0,.int .i64 0,.string ⟨#[]⟩] 56))
  have HCZ:=Lh (C7.below HC7.out ((Below.refl w0.heap.size w0).alloc (Nat.le_refl _) (.cells #[.int .i64 0,.int .i64 0,.int .i64 0,.int .i64 0,.int .i64 0,.int .i64 0,.string ⟨#[]⟩] 56)) hbw)
  have HYZ:=Lh (show MAt (w0.alloc (.cells #[.int .i64 0,.int .i64 0,.int .i64 0,.int .i64 0,.int .i64 0,.int .i64 0,.string ⟨#[]⟩] 56)) w0.heap.size zM.nth zM.bd from MAt.fresh (f:=zM.nth) w0 0 0 0 0 0 0 ByteArray.empty 56 rfl rfl rfl rfl rfl rfl)
  have HSA:=Lh (sc_of HS.out.drew (C7.drew HC7.out))
  have HSB:=Lh (sc_of HSZ.out.drew (C7.drew HCZ.out))
  have HY0:=Lh (show s<w0.heap.size from HS.out.ms.1)
  clear hc
  have HBY:=Lh (show b<w.heap.size from hbb)
  clear hbb
  have HT1:=Lh (fun w4 (hb:Below w0.drew.heap.size w0.drew w4)=>And.intro (PoAt.below (W:=w0) HS.out (drew_below hb)) (C7.below (W:=w0) HC7.out (drew_below hb) hbw))
  have HT2:=Lh (fun w4 (hb:Below (w0.alloc (.cells #[.int .i64 0,.int .i64 0,.int .i64 0,.int .i64 0,.int .i64 0,.int .i64 0,.string ⟨#[]⟩] 56)).drew.heap.size (w0.alloc (.cells #[.int .i64 0,.int .i64 0,.int .i64 0,.int .i64 0,.int .i64 0,.int .i64 0,.string ⟨#[]⟩] 56)).drew w4)=>And.intro (PoAt.below (W:=w0.alloc (.cells #[.int .i64 0,.int .i64 0,.int .i64 0,.int .i64 0,.int .i64 0,.int .i64 0,.string ⟨#[]⟩] 56)) HSZ.out (drew_below hb)) (And.intro (C7.below (W:=w0.alloc (.cells #[.int .i64 0,.int .i64 0,.int .i64 0,.int .i64 0,.int .i64 0,.int .i64 0,.string ⟨#[]⟩] 56)) HCZ.out (drew_below hb) (show b<(w0.alloc (.cells #[.int .i64 0,.int .i64 0,.int .i64 0,.int .i64 0,.int .i64 0,.int .i64 0,.string ⟨#[]⟩] 56)).heap.size by simp;omega)) (MAt.below HYZ.out (drew_below hb) HYZ.out.1)))
  have HSY:=HY0
  have HBN:=Lh (show b≠w0.heap.size by omega)
  go_region_held3 (fun W=>W.cell? ⟨p,0,none⟩=some (.slice (some ⟨b,o,none⟩) cs.length c)∧W.cell? ⟨p,1,none⟩=some (.int .i64 hd)∧W.cell? ⟨p,2,none⟩=some (.int .i64 sz)∧W.cell? ⟨b,o+m*7,none⟩=some (.int .i64 X.id)∧W.cell? ⟨b,o+m*7+1,none⟩=some (.int .i64 X.rt)∧W.cell? ⟨b,o+m*7+2,none⟩=some (.int .i64 X.ep)∧W.cell? ⟨b,o+m*7+3,none⟩=some (.int .i64 X.ct)∧W.cell? ⟨b,o+m*7+4,none⟩=some (.int .i64 X.gn)∧W.cell? ⟨b,o+m*7+5,none⟩=some (.int .i64 X.st)∧W.cell? ⟨b,o+m*7+6,none⟩=some (.string X.bd))
   (first | with_reducible exact HSA.out | with_reducible exact HSB.out | with_reducible exact HSC.out | with_reducible exact HSD.out | with_reducible exact HSE.out)
   (first
   | (go_at_call 105;refine (HPL.out _).mono ?_;rintro e w4 ⟨rfl,hb⟩;obtain ⟨hs4,hc4⟩:=HT1.out _ hb;have HS4:=Lh hs4;have HSC:=Lh (sc_of hs4 hc4);have HSD:=Lh (sc_of (hs4.alloc (.cells #[.int .i64 0,.int .i64 0,.int .i64 0,.int .i64 0,.int .i64 0,.int .i64 0,.string ⟨#[]⟩] 56)) (C7.up hc4 hs4 HBY.out (.cells #[.int .i64 0,.int .i64 0,.int .i64 0,.int .i64 0,.int .i64 0,.int .i64 0,.string ⟨#[]⟩] 56)));have HSE:=Lh (sc_of (hs4.alloc (.cells X.cs 56)) (C7.up hc4 hs4 HBY.out (.cells X.cs 56)));clear hb hs4 hc4)
   | (go_at_call 105;refine (HPL.out _).mono ?_;rintro e w4 ⟨rfl,hb⟩;obtain ⟨hs4,hc4,hy4⟩:=HT2.out _ hb;have HS4:=Lh hs4;have HY4:=Lh hy4;obtain ⟨z0,z1,z2,z3,z4,z5,z6⟩:=HY4.out.facts.1;obtain ⟨g0,g1,g2,g3,g4,g5,g6⟩:=HY4.out.fr;have HSC:=Lh (sc_of hs4 hc4);have hyl:=HY4.out.1;have HSE:=Lh (sc_of (hs4.lit7 (b:=w0.heap.size) HSY.out X) (C7.lit7 hc4 HBN.out X));clear hb hs4 hy4 hc4))
  all_goals first
   | (have HQ:=Lh (HY4.out.own7 X);have HR:=Lh (HS4.out.lit7 (b:=w0.heap.size) HSY.out X);go_wp2_with fail;go_meet;have hX:=HX.out;subst hX;exact ⟨w0.heap.size,rfl,HR.out,HQ.out,HSY.out⟩)
   | (have HQ:=Lh (MAt.fresh (f:=X.nth) w4 X.id X.rt X.ep X.ct X.gn X.st X.bd 56 rfl rfl rfl rfl rfl rfl);have HR:=Lh (HS4.out.alloc (.cells X.cs 56));have HU:=Lh (show s<w4.heap.size from HS4.out.ms.1);go_wp2_with fail;go_meet;have hX:=HX.out;subst hX;exact ⟨w4.heap.size,rfl,HR.out,HQ.out,HU.out⟩)
 case rest=>
  obtain ⟨y,rfl,hpo,hmy,hsy⟩:=hcut
  have HPO:=Lh hpo
  have HMY:=Lh hmy
  have HSY:=Lh hsy
  obtain ⟨⟨r0,r1,r2,r3,r4,r5,hpl⟩,_,_⟩:=HPO.out.facts
  clear hpo hmy hsy HS HPL HX
  generalize cel cs hd x=X at*
  go_wp2_with fail
  refine (HCL.out _ (HV.out.up HPO.out.bel)).mono ?_
  rintro e w2 ⟨z,cap,rfl,hcl,hcm,hzl,hrow,hb⟩
  have HZY:=Lh (Nat.lt_of_lt_of_le HMY.out.1 hzl)
  have HCP:=Lh (And.intro hcl hcm)
  have HPZ:=Lh (show p≠z by have:=HPO.out.old;have:=HSY.out;have:=HZY.out;omega)
  have HPY:=Lh (show p≠y by have:=HPO.out.old;have:=HSY.out;omega)
  have HW2:=Lh (WoAt.mk (f:=fun i=>cs.getD i zM) (((HPO.out.below hb).setA (some ⟨z,0,none⟩) cs.length cap).setS ((sz:Int) - 1)) (((HMY.out.below hb HMY.out.1).other (p:=⟨p,0,none⟩) HPY.out (.slice (some ⟨z,0,none⟩) cs.length cap)).other (p:=⟨p,2,none⟩) HPY.out (.int .i64 ((sz:Int) - 1))) ((hrow.other (p:=⟨p,0,none⟩) HPZ.out (.slice (some ⟨z,0,none⟩) cs.length cap)).other (p:=⟨p,2,none⟩) HPZ.out (.int .i64 ((sz:Int) - 1))) ⟨HSY.out,HZY.out⟩)
  have HP2:=Lh (HPO.out.below hb)
  clear r0 r1 r2 r3 r4 r5 hpl
  obtain ⟨⟨r0,r1,r2,r3,r4,r5,hpl⟩,_,_⟩:=HP2.out.facts
  clear hb hcl hcm hzl hrow HPO HMY
  have hs100:(sz:Int)≤12:=by omega
  go_wp2
  generalize (w2.setCell ⟨p,0,none⟩ (.slice (some ⟨z,0,none⟩) cs.length cap)).setCell ⟨p,2,none⟩ (.int .i64 ((sz:Int) - 1))=w3 at*
  clear r0 r1 r2 r3 r4 r5 hpl HP2
  go_loopw [1] (fun i wr=>∃ (j:Nat) (f:Nat→Msg),x≤j∧j+1≤sz∧i=.int .i64 j∧WoAt w p r s y z cs.length cap hd ((sz:Int) - 1) X f wr∧∀ k,k<cs.length→f ((hd+k) % cs.length)=if x≤k∧k<j then cel cs hd (k+1) else cel cs hd k) (fun i _=>sz - (intOf i).toNat)
  case atStart=>exact ⟨x,_,Nat.le_refl _,hx,rfl,HW2.out,fun k hk=>by rw [if_neg (by omega)];rfl⟩
  case round=>
   obtain ⟨j,f,hxj,hjs,rfl,hw,hf⟩:=hrel
   have HW:=Lh hw
   have HF:=Lh hf
   obtain ⟨r0,r1,r2⟩:=hw.s3
   have hpl:=hw.po.rb.lt
   have HSA:=Lh hw.drew.s3
   clear hw hf
   by_cases hlt:(j:Int)<(sz:Int) - 1
   ·obtain ⟨m1,hm1⟩:∃ m1,m1=(hd+j) % cs.length:=⟨_,rfl⟩
    obtain ⟨m2,hm2⟩:∃ m2,m2=(hd+(j+1)) % cs.length:=⟨_,rfl⟩
    have hl1:m1<cs.length:=by rw [hm1];exact Nat.mod_lt _ hn0
    have hl2:m2<cs.length:=by rw [hm2];exact Nat.mod_lt _ hn0
    have hi1:((hd:Int)+(j:Int)) % (cs.length:Int)=(m1:Int):=by rw [hm1];simp
    have hi2:((hd:Int)+((j:Int)+1)) % (cs.length:Int)=(m2:Int):=by rw [hm2,show (j:Int)+1=((j+1:Nat):Int) by omega];simp
    have hl1' : (m1:Int)<(cs.length:Int):=by omega
    have hl2' : (m2:Int)<(cs.length:Int):=by omega
    have hj12:(j:Int)≤12:=by omega
    have hjw:IntKind.i64.wrap ((j:Int)+1)=(j:Int)+1:=IntWalk.i64_in _ (by omega)
    have HQ1:=Lh (fun w=>place_any (some ⟨z,0,none⟩) cs.length cap hd ((sz:Int) - 1) j (by omega) (by omega) (by omega) (by omega) (by omega) (by omega) w)
    have HQ2:=Lh (fun w=>place_any (some ⟨z,0,none⟩) cs.length cap hd ((sz:Int) - 1) ((j:Int)+1) (by omega) (by omega) (by omega) (by omega) (by omega) (by omega) w)
    rw [hi1] at HQ1
    rw [hi2] at HQ2
    have HFM:=Lh (show ∀ k,k<cs.length→(fun i=>if i=m1 then f m2 else f i) ((hd+k) % cs.length)=if x≤k∧k<j+1 then cel cs hd (k+1) else cel cs hd k from fun k hk=>by
     by_cases e:k=j
     ·subst e
      show (if (hd+k) % cs.length=m1 then f m2 else f ((hd+k) % cs.length))=_
      rw [if_pos hm1.symm,hm2,HF.out (k+1) (by omega),if_neg (by omega),if_pos (by omega)]
     ·show (if (hd+k) % cs.length=m1 then f m2 else f ((hd+k) % cs.length))=_
      rw [if_neg (fun h=>e (mod_inj hk (by omega) (h.trans hm1))),HF.out k hk]
      by_cases h2:x≤k∧k<j
      ·rw [if_pos h2,if_pos (by omega)]
      ·rw [if_neg h2,if_neg (by omega)])
    have HL1:=Lh hl1
    have HL2:=Lh hl2
    clear hm1 hm2 hi1 hi2
    have hz0:(0:Int)≤(j:Int)+1:=by omega
    have HSA2:=Lh (HW.out.drew.s10 HL2.out rfl)
    go_wp2
    go_region_held3 (fun W=>W.cell? ⟨p,0,none⟩=some (.slice (some ⟨z,0,none⟩) cs.length cap)∧W.cell? ⟨p,1,none⟩=some (.int .i64 hd)∧W.cell? ⟨p,2,none⟩=some (.int .i64 ((sz:Int) - 1))∧W.cell? ⟨z,m2*7,none⟩=some (.int .i64 (f m2).id)∧W.cell? ⟨z,m2*7+1,none⟩=some (.int .i64 (f m2).rt)∧W.cell? ⟨z,m2*7+2,none⟩=some (.int .i64 (f m2).ep)∧W.cell? ⟨z,m2*7+3,none⟩=some (.int .i64 (f m2).ct)∧W.cell? ⟨z,m2*7+4,none⟩=some (.int .i64 (f m2).gn)∧W.cell? ⟨z,m2*7+5,none⟩=some (.int .i64 (f m2).st)∧W.cell? ⟨z,m2*7+6,none⟩=some (.string (f m2).bd))
     (first | with_reducible exact HSA2.out | with_reducible exact HSB.out | with_reducible exact HSC.out | with_reducible exact HSD.out)
     (first
     | (go_at_call 105;(first | (with_reducible refine (HQ1.out _).mono ?_) | (with_reducible refine (HQ2.out _).mono ?_));rintro e w5 ⟨rfl,hb⟩;have HW5:=Lh (HW4.out.below hb);have HSC:=Lh (HW5.out.s10 HL2.out rfl);have HSD:=Lh ((HW5.out.put HL1.out (f m2)).s10 HL2.out (show (if m2=m1 then f m2 else f m2)=f m2 by split <;> rfl));obtain ⟨⟨d0,d1,d2,d3,d4,d5,d6⟩,⟨e0,e1,e2,e3,e4,e5,e6⟩,⟨g0,g1,g2,g3,g4,g5,g6⟩,q0,q1,q2,q3⟩:=HW5.out.at2 HL2.out HL1.out;clear hb)
     | (go_at_call 105;(first | (with_reducible refine (HQ1.out _).mono ?_) | (with_reducible refine (HQ2.out _).mono ?_));rintro e w4 ⟨rfl,hb⟩;have HW4:=Lh (HW.out.drew.below hb);have HSB:=Lh (HW4.out.s10 HL2.out rfl);obtain ⟨⟨a0,a1,a2,a3,a4,a5,a6⟩,_,_,q0,q1,q2,q3⟩:=HW4.out.at2 HL2.out HL1.out;clear hb))
    all_goals
     have HW6:=Lh (HW5.out.put HL1.out (f m2))
     clear d0 d1 d2 d3 d4 d5 d6 e0 e1 e2 e3 e4 e5 e6 g0 g1 g2 g3 g4 g5 g6 a0 a1 a2 a3 a4 a5 a6 HSA HSB HSC HSD
     go_wp2
     go_roundw
     case rel=>exact ⟨j+1,_,by omega,by omega,by go_num,HW6.out,HFM.out⟩
     case measure=>simp [intOf];omega
   ·have hjz:j+1=sz:=by omega
    obtain ⟨m1,hm1⟩:∃ m1,m1=(hd+j) % cs.length:=⟨_,rfl⟩
    have hl1:m1<cs.length:=by rw [hm1];exact Nat.mod_lt _ hn0
    have hi1:((hd:Int)+((sz:Int) - 1)) % (cs.length:Int)=(m1:Int):=by rw [hm1,show (sz:Int) - 1=(j:Int) by omega];simp
    have hl1' : (m1:Int)<(cs.length:Int):=by omega
    have HQ1:=Lh (fun w=>place_any (some ⟨z,0,none⟩) cs.length cap hd ((sz:Int) - 1) ((sz:Int) - 1) (by omega) (by omega) (by omega) (by omega) (by omega) (by omega) w)
    rw [hi1] at HQ1
    have HFM:=Lh (HNW.out (fun i=>if i=m1 then zM else f i) (fun k hk=>by
     show (if (hd+k) % cs.length=m1 then zM else f ((hd+k) % cs.length))=_
     by_cases e:k=j
     ·subst e
      rw [if_pos hm1.symm,if_neg (by omega),if_neg (by omega)]
     ·rw [if_neg (fun h=>e (mod_inj hk (by omega) (h.trans hm1))),HF.out k hk]
      by_cases h2:x≤k∧k<j
      ·rw [if_pos h2,if_neg (by omega),if_pos (by omega)]
      ·rw [if_neg h2]
       by_cases h3:k<x
       ·rw [if_pos h3]
       ·rw [if_neg h3,if_neg (by omega)]
        exact HZF.out k (by omega) hk))
    have HL1:=Lh hl1
    clear hm1 hi1
    go_wp2
    go_region_held3 (fun W=>W.cell? ⟨p,0,none⟩=some (.slice (some ⟨z,0,none⟩) cs.length cap)∧W.cell? ⟨p,1,none⟩=some (.int .i64 hd)∧W.cell? ⟨p,2,none⟩=some (.int .i64 ((sz:Int) - 1)))
     (first | with_reducible exact HSA.out | with_reducible exact HSC.out | with_reducible exact HSD.out)
     (first
     | (go_at_call 105;(with_reducible refine (HQ1.out _).mono ?_);rintro e w5 ⟨rfl,hb⟩;have HW5:=Lh (HW.out.drew.below hb);have HSC:=Lh HW5.out.s3;have HSD:=Lh ((HW5.out.put0 HL1.out).s3);obtain ⟨_,⟨e0,e1,e2,e3,e4,e5,e6⟩,⟨g0,g1,g2,g3,g4,g5,g6⟩,q0,q1,q2,q3⟩:=HW5.out.at2 HL1.out HL1.out;clear hb))
    have HW6:=Lh (HW5.out.put0 HL1.out)
    generalize (((((((w5.setCell ⟨z,m1*7,none⟩ (.int .i64 0)).setCell ⟨z,m1*7+1,none⟩ (.int .i64 0)).setCell ⟨z,m1*7+2,none⟩ (.int .i64 0)).setCell ⟨z,m1*7+3,none⟩ (.int .i64 0)).setCell ⟨z,m1*7+4,none⟩ (.int .i64 0)).setCell ⟨z,m1*7+5,none⟩ (.int .i64 0)).setCell ⟨z,m1*7+6,none⟩ (.string ⟨#[]⟩))=w6 at*
    clear e0 e1 e2 e3 e4 e5 e6 g0 g1 g2 g3 g4 g5 g6 r0 r1 r2 hpl HSA HSC HSD
    obtain ⟨⟨r0,r1,r2,r3,r4,r5,hpl⟩,⟨t0,t1,t2,t3,t4,t5,hrl⟩,⟨⟨v0,v1,v2,v3,v4,v5,v6⟩,f0,f1,f2,f3,f4,f5,f6,hsl⟩⟩:=HW6.out.po.facts
    have hrs:r≠s:=by have:=HW6.out.po.old;omega
    have hsr:s≠r:=fun e=>hrs e.symm
    have HRP:=Lh (show r≠p by have:=HW6.out.po.old;omega)
    have HSP:=Lh (show s≠p by have:=HW6.out.po.old;omega)
    have HRY:=Lh (show r≠y by have:=HW6.out.po.old;have:=HW6.out.old;omega)
    have HSY:=Lh (show s≠y by have:=HW6.out.old;omega)
    have HSA:=Lh (s10_of HW6.out.po.rb.drew (MAt.drew' HW6.out.my))
    have HSB:=Lh (s10_of (HW6.out.po.rb.set3 HRP.out (.slice (some ⟨z,0,none⟩) cs.length cap) (.int .i64 hd) (.int .i64 ((sz:Int) - 1))).drew (MAt.drew' (HW6.out.my.set3 HRY.out (.slice (some ⟨z,0,none⟩) cs.length cap) (.int .i64 hd) (.int .i64 ((sz:Int) - 1)))))
    have HSC:=Lh (s10_of (HW6.out.po.rb.lit7 HSP.out X).drew (MAt.drew' (HW6.out.my.lit7 HSY.out X)))
    have HSD:=Lh (s10_of ((HW6.out.po.rb.set3 HRP.out (.slice (some ⟨z,0,none⟩) cs.length cap) (.int .i64 hd) (.int .i64 ((sz:Int) - 1))).lit7 HSP.out X).drew (MAt.drew' ((HW6.out.my.set3 HRY.out (.slice (some ⟨z,0,none⟩) cs.length cap) (.int .i64 hd) (.int .i64 ((sz:Int) - 1))).lit7 HSY.out X)))
    have HSE:=Lh (s10_of ((HW6.out.po.rb.lit7 HSP.out X).set3 HRP.out (.slice (some ⟨z,0,none⟩) cs.length cap) (.int .i64 hd) (.int .i64 ((sz:Int) - 1))).drew (MAt.drew' ((HW6.out.my.lit7 HSY.out X).set3 HRY.out (.slice (some ⟨z,0,none⟩) cs.length cap) (.int .i64 hd) (.int .i64 ((sz:Int) - 1)))))
    go_wp2
    go_region_held3 (fun W=>W.cell? ⟨p,0,none⟩=some (.slice (some ⟨z,0,none⟩) cs.length cap)∧W.cell? ⟨p,1,none⟩=some (.int .i64 hd)∧W.cell? ⟨p,2,none⟩=some (.int .i64 ((sz:Int) - 1))∧W.cell? ⟨y,0,none⟩=some (.int .i64 X.id)∧W.cell? ⟨y,1,none⟩=some (.int .i64 X.rt)∧W.cell? ⟨y,2,none⟩=some (.int .i64 X.ep)∧W.cell? ⟨y,3,none⟩=some (.int .i64 X.ct)∧W.cell? ⟨y,4,none⟩=some (.int .i64 X.gn)∧W.cell? ⟨y,5,none⟩=some (.int .i64 X.st)∧W.cell? ⟨y,6,none⟩=some (.string X.bd))
     (first | with_reducible exact HSA.out | with_reducible exact HSB.out | with_reducible exact HSC.out | with_reducible exact HSD.out | with_reducible exact HSE.out)
     ((fail))
    have HL:=Lh ((((HW6.out.row.set3 (r:=r) (show r≠z by have:=HW6.out.po.old;have:=HW6.out.old;omega) (.slice (some ⟨z,0,none⟩) cs.length cap) (.int .i64 hd) (.int .i64 ((sz:Int) - 1))).lit7 (b:=s) (show s≠z by have:=HW6.out.old;omega) X).drew).ls' HFM.out HCP.out.1 HCP.out.2)
    have HB:=Lh (Below.drew (HW6.out.po.end1 (.slice (some ⟨z,0,none⟩) cs.length cap) (.int .i64 hd) (.int .i64 ((sz:Int) - 1)) X))
    clear HSA HSB HSC HSD HSE
    go_wp2
    exact bodyPost_ret (v:=.tuple #[.agg #[.slice (some ⟨z,0,none⟩) cs.length cap,.int .i64 hd,.int .i64 ((sz:Int) - 1)],X.v]) (by simp only [results,Tryz.results147];go_simp <;> rfl) rfl ⟨some ⟨z,0,none⟩,cap,by rw [HCS.out],nw_some (by have:=HW6.out.po.old;have:=HW6.out.old;omega),by rw [HCS.out];exact HL.out,HB.out⟩
end Go.Proofs.YtncgbldcjfbknaaGreat
/- Plain: what PopBack returns; lists behind stores. -/
namespace Go.Proofs.YtncgbldcjfbknaaGreat
open Go.RowKit
set_option linter.unusedVariables false
theorem Ls.off3 {W:World} {B lo n c r:Nat} {A:Option Addr} {l:List Msg} (h:Ls W B (.slice A n c) l) (hA:Nw lo A) (hr:r<lo) (x y z:Value):Ls (((W.setCell ⟨r,0,none⟩ x).setCell ⟨r,1,none⟩ y).setCell ⟨r,2,none⟩ z) B (.slice A n c) l:=
 ((h.off hA (p:=⟨r,0,none⟩) hr x).off hA (p:=⟨r,1,none⟩) hr y).off hA (p:=⟨r,2,none⟩) hr z
theorem Ls.off7 {W:World} {B lo n c q:Nat} {A:Option Addr} {l:List Msg} (h:Ls W B (.slice A n c) l) (hA:Nw lo A) (hr:q<lo) (X:Msg):Ls (((((((W.setCell ⟨q,0,none⟩ (.int .i64 X.id)).setCell ⟨q,1,none⟩ (.int .i64 X.rt)).setCell ⟨q,2,none⟩ (.int .i64 X.ep)).setCell ⟨q,3,none⟩ (.int .i64 X.ct)).setCell ⟨q,4,none⟩ (.int .i64 X.gn)).setCell ⟨q,5,none⟩ (.int .i64 X.st)).setCell ⟨q,6,none⟩ (.string X.bd)) B (.slice A n c) l:=
 ((((((h.off hA (p:=⟨q,0,none⟩) hr _).off hA (p:=⟨q,1,none⟩) hr _).off hA (p:=⟨q,2,none⟩) hr _).off hA (p:=⟨q,3,none⟩) hr _).off hA (p:=⟨q,4,none⟩) hr _).off hA (p:=⟨q,5,none⟩) hr _).off hA (p:=⟨q,6,none⟩) hr _
theorem PoAt.all {w W:World} {p r s n c:Nat} {A:Option Addr} {hd sz:Int} (h:PoAt w p r s A n c hd sz W) (A' : Option Addr) (n' c' : Nat) (x y:Int):PoAt w p r s A' n' c' x y (((W.setCell ⟨p,0,none⟩ (.slice A' n' c')).setCell ⟨p,1,none⟩ (.int .i64 x)).setCell ⟨p,2,none⟩ (.int .i64 y)):=((h.setA A' n' c').setH x).setS y
attribute [local go_sem ↓] Go.wp_at_zero Go.wp_at_succ
end Go.Proofs.YtncgbldcjfbknaaGreat
namespace Go.Proofs.YtncgbldcjfbknaaGreat
open Go.RowKit
set_option linter.unusedVariables false
noncomputable def rmE (cs:List Msg) (hd sz id:Int):Int:=if rgV cs hd sz≠0 then rgV cs hd sz else if ixF (ord cs hd.toNat sz.toNat) id<0 then 4 else 0
noncomputable def rmC (cs:List Msg) (hd sz id:Int):List Msg:=if rmE cs hd sz id=0 then fil cs.length hd.toNat ((ord cs hd.toNat sz.toNat).eraseIdx (ixF (ord cs hd.toNat sz.toNat) id).toNat) else []
noncomputable def rmM (cs:List Msg) (hd sz id:Int):Msg:=if rmE cs hd sz id=0 then cel cs hd.toNat (ixF (ord cs hd.toNat sz.toNat) id).toNat else zM
attribute [local go_sem ↓] Go.wp_at_zero Go.wp_at_succ
set_option maxHeartbeats 4000000 in
set_option maxRecDepth 20000 in
theorem remove_any (A:Option Addr) (n c:Nat) (cs:List Msg) (hd sz id:Int) (w:World) (hv:Ls w w.heap.size (.slice A n c) cs) :
  Calls Tryz.prog 94 #[.agg #[.slice A n c,.int .i64 hd,.int .i64 sz],.int .i64 id] w (RMP w (rmC cs hd sz id) (ifE (rmE cs hd sz id) hd) (ifE (rmE cs hd sz id) (sz - 1)) (rmM cs hd sz id) (rmE cs hd sz id)):=by
 obtain ⟨rfl,_,_⟩:=hv.len
 have HV:=Lh hv
 have HG:=Lh (fun w1 (h:Ls w1 w1.heap.size (.slice A cs.length c) cs)=>gvalid_any A cs.length c cs hd sz w1 h)
 clear hv
 by_cases h0:rgV cs hd sz=0
 ·obtain ⟨hn,hz,_,_⟩:=rgV_zero h0
  obtain ⟨⟨n1,n2⟩,⟨k1,k2⟩,⟨s1,s2⟩⟩:=nm_of hn
  obtain ⟨hd,rfl⟩:=Int.eq_ofNat_of_zero_le k1
  obtain ⟨sz,rfl⟩:=Int.eq_ofNat_of_zero_le s1
  simp only [Int.toNat_natCast] at hz
  have HO:=Lh (fun w1 (h:Ls w1 w1.heap.size (.slice A cs.length c) cs)=>ordered_any A cs.length c cs hd sz w1 h hn)
  rw [h0] at HG
  rcases ixF_cases (ord cs hd sz) id with ⟨hi,_⟩ | ⟨x,hx,hi,_,_⟩
  ·have hE:rmE cs hd sz id=4:=by unfold rmE;rw [if_neg (by simpa using h0),if_pos (by simp only [Int.toNat_natCast];rw [hi];decide)]
   have HC:=Lh (show rmC cs hd sz id=[] from if_neg (by rw [hE];decide))
   have HE3:=Lh (show rmM cs hd sz id=zM from if_neg (by rw [hE];decide))
   have HE1:=Lh (show ifE 4 (hd:Int)=0 from if_neg (by decide))
   have HE2:=Lh (show ifE 4 ((sz:Int) - 1)=0 from if_neg (by decide))
   have HI:=Lh hi
   rw [hE]
   clear h0 hn hz hi hE n1 n2 k1 k2 s1 s2
   generalize rmC cs hd sz id=ds at*
   generalize rmM cs hd sz id=Y at*
   go_enter Tryz.func94,Tryz.ntmps94
   go_wp2_with fail
   have HS:=Lh (PoAt.start w A cs.length c hd sz 27 56)
   obtain ⟨p,hp⟩:∃ p,p=w.heap.size:=⟨_,rfl⟩
   obtain ⟨r,hr⟩:∃ r,r=w.heap.size+1:=⟨_,rfl⟩
   obtain ⟨s,hs⟩:∃ s,s=w.heap.size+1+1:=⟨_,rfl⟩
   rw [←hs,←hr,←hp] at HS ⊢
   clear hp hr hs
   refine (HG.out _ (HV.out.up HS.out.bel)).mono ?_
   rintro e w1 ⟨rfl,hb⟩
   have HS1:=Lh (HS.out.below hb)
   obtain ⟨⟨r0,r1,r2,r3,r4,r5,hpl⟩,_,_⟩:=HS1.out.facts
   clear hb HS
   go_wp2_with fail
   refine (HO.out _ (HV.out.up HS1.out.bel)).mono ?_
   rintro e w2 ⟨v,rfl,hnw,hl,hb⟩
   obtain ⟨A3,c3,rfl,_,_⟩:=hl.form
   have HL2:=Lh hl
   have HS2:=Lh (HS1.out.below hb)
   clear hb hl hnw r0 r1 r2 r3 r4 r5 hpl
   go_wp2_with fail
   refine (find_any _ _ _ _ id _ HL2.out).mono ?_
   rintro e w3 ⟨rfl,hb⟩
   have HS3:=Lh (HS2.out.below hb)
   obtain ⟨_,⟨t0,t1,t2,t3,t4,t5,hrl⟩,⟨⟨v0,v1,v2,v3,v4,v5,v6⟩,f0,f1,f2,f3,f4,f5,f6,hsl⟩⟩:=HS3.out.facts
   have hrs:r≠s:=by have:=HS3.out.old;omega
   have hsr:s≠r:=fun e=>hrs e.symm
   have HB:=Lh (HS3.out.end1 (.slice none 0 0) (.int .i64 0) (.int .i64 0) zM)
   rw [HI.out]
   clear hb
   go_wp2
   exact bodyPost_ret (v:=.tuple #[.agg #[.slice none 0 0,.int .i64 0,.int .i64 0],.agg #[.int .i64 0,.int .i64 0,.int .i64 0,.int .i64 0,.int .i64 0,.int .i64 0,.string ByteArray.empty],.int .i64 4]) (by simp only [results,Tryz.results94];go_simp <;> rfl) rfl ⟨none,0,by rw [HC.out,HE1.out,HE2.out,HE3.out];rfl,nw_none,by rw [HC.out];exact Ls.nil,HB.out⟩
  ·rw [ord_len] at hx
   have hE:rmE cs hd sz id=0:=by unfold rmE;rw [if_neg (by simpa using h0),if_neg (by simp only [Int.toNat_natCast];rw [hi];omega)]
   have hC:rmC cs hd sz id=fil cs.length hd ((ord cs hd sz).eraseIdx x):=by unfold rmC;rw [if_pos hE];simp only [Int.toNat_natCast];rw [hi,Int.toNat_natCast]
   have hM:rmM cs hd sz id=cel cs hd x:=by unfold rmM;rw [if_pos hE];simp only [Int.toNat_natCast];rw [hi,Int.toNat_natCast]
   have HE1:=Lh (show ifE 0 (hd:Int)=hd from if_pos rfl)
   have HE2:=Lh (show ifE 0 ((sz:Int) - 1)=(sz:Int) - 1 from if_pos rfl)
   have HI:=Lh hi
   have HWO:=Lh (fun w1 (h:Ls w1 w1.heap.size (.slice A cs.length c) cs)=>without_any A cs.length c cs hd sz x w1 h hn hz hx)
   rw [←hC,←hM] at HWO
   rw [hE]
   have hs1:(sz:Int)≤12:=by omega
   have hx12:(x:Int)≤12:=by omega
   have hx0:(0:Int)≤(x:Int):=by omega
   clear h0 hn hz hi hE hC hM n1 n2 k1 k2 s1 s2
   generalize rmC cs hd sz id=ds at*
   generalize rmM cs hd sz id=X at*
   go_enter Tryz.func94,Tryz.ntmps94
   go_wp2_with fail
   have HS:=Lh (PoAt.start w A cs.length c hd sz 27 56)
   obtain ⟨p,hp⟩:∃ p,p=w.heap.size:=⟨_,rfl⟩
   obtain ⟨r,hr⟩:∃ r,r=w.heap.size+1:=⟨_,rfl⟩
   obtain ⟨s,hs⟩:∃ s,s=w.heap.size+1+1:=⟨_,rfl⟩
   rw [←hs,←hr,←hp] at HS ⊢
   clear hp hr hs
   refine (HG.out _ (HV.out.up HS.out.bel)).mono ?_
   rintro e w1 ⟨rfl,hb⟩
   have HS1:=Lh (HS.out.below hb)
   obtain ⟨⟨r0,r1,r2,r3,r4,r5,hpl⟩,_,_⟩:=HS1.out.facts
   clear hb HS
   go_wp2_with fail
   refine (HO.out _ (HV.out.up HS1.out.bel)).mono ?_
   rintro e w2 ⟨v,rfl,hnw,hl,hb⟩
   obtain ⟨A3,c3,rfl,_,_⟩:=hl.form
   have HL2:=Lh hl
   have HS2:=Lh (HS1.out.below hb)
   clear hb hl hnw r0 r1 r2 r3 r4 r5 hpl
   go_wp2_with fail
   refine (find_any _ _ _ _ id _ HL2.out).mono ?_
   rintro e w3 ⟨rfl,hb⟩
   have HS3:=Lh (HS2.out.below hb)
   rw [HI.out]
   clear hb HS1 HS2
   obtain ⟨⟨r0,r1,r2,r3,r4,r5,hpl⟩,_,_⟩:=HS3.out.facts
   go_wp2_with fail
   have HS1:=HS3
   refine (HWO.out _ (HV.out.up HS1.out.bel)).mono ?_
   rintro e w2 ⟨A2,c2,rfl,hnw,hl2,hb⟩
   have HS2:=Lh (HS1.out.below hb)
   have HL2:=Lh hl2
   clear r0 r1 r2 r3 r4 r5 hpl
   obtain ⟨⟨r0,r1,r2,r3,r4,r5,hpl⟩,_,_⟩:=HS2.out.facts
   have HS3:=Lh ((HS2.out.all A2 ds.length c2 hd ((sz:Int) - 1)).alloc (.cells X.cs 56))
   have HY3:=Lh (MAt.fresh (f:=X.nth) (((w2.setCell ⟨p,0,none⟩ (.slice A2 ds.length c2)).setCell ⟨p,1,none⟩ (.int .i64 hd)).setCell ⟨p,2,none⟩ (.int .i64 ((sz:Int) - 1))) X.id X.rt X.ep X.ct X.gn X.st X.bd 56 rfl rfl rfl rfl rfl rfl)
   have HE:(((w2.setCell ⟨p,0,none⟩ (.slice A2 ds.length c2)).setCell ⟨p,1,none⟩ (.int .i64 hd)).setCell ⟨p,2,none⟩ (.int .i64 ((sz:Int) - 1))).heap.size=w2.heap.size:=by simp
   rw [HE] at HY3
   have HNW:=Lh hnw
   have HYS:=Lh (show s<w2.heap.size from HS2.out.ms.1)
   have HS1L:=Lh (And.intro HS1.out.rb.lt (And.intro HS1.out.rs.lt HS1.out.ms.1))
   have HL3:=Lh ((((HL2.out.off hnw (p:=⟨p,0,none⟩) HS1.out.rb.lt (.slice A2 ds.length c2)).off hnw (p:=⟨p,1,none⟩) HS1.out.rb.lt (.int .i64 hd)).off hnw (p:=⟨p,2,none⟩) HS1.out.rb.lt (.int .i64 ((sz:Int) - 1))).alloc (by simp) (.cells X.cs 56))
   clear hb hl2 HE hnw
   go_wp2
   generalize (((w2.setCell ⟨p,0,none⟩ (.slice A2 ds.length c2)).setCell ⟨p,1,none⟩ (.int .i64 hd)).setCell ⟨p,2,none⟩ (.int .i64 ((sz:Int) - 1))).alloc (.cells X.cs 56)=w5 at*
   have HS5:=HS3
   have HY5:=HY3
   have HB5:=Lh (show w2.heap.size≤w5.heap.size from Nat.le_of_lt HY5.out.1)
   obtain ⟨y,hy⟩:∃ y,y=w2.heap.size:=⟨_,rfl⟩
   rw [←hy] at HY5 HYS ⊢
   clear hy r0 r1 r2 r3 r4 r5 hpl HS3 HY3
   obtain ⟨⟨r0,r1,r2,r3,r4,r5,hpl⟩,⟨t0,t1,t2,t3,t4,t5,hrl⟩,⟨⟨v0,v1,v2,v3,v4,v5,v6⟩,f0,f1,f2,f3,f4,f5,f6,hsl⟩⟩:=HS5.out.facts
   have hrs:r≠s:=by have:=HS5.out.old;omega
   have hsr:s≠r:=fun e=>hrs e.symm
   have HRP:=Lh (show r≠p by have:=HS5.out.old;omega)
   have HSP:=Lh (show s≠p by have:=HS5.out.old;omega)
   have HRY:=Lh (show r≠y by have:=HS5.out.old;have:=HYS.out;omega)
   have HSY:=Lh (show s≠y by have:=HYS.out;omega)
   have HSA:=Lh (s10_of HS5.out.rb.drew (MAt.drew' HY5.out))
   have HSB:=Lh (s10_of (HS5.out.rb.set3 HRP.out (.slice A2 ds.length c2) (.int .i64 hd) (.int .i64 ((sz:Int) - 1))).drew (MAt.drew' (HY5.out.set3 HRY.out (.slice A2 ds.length c2) (.int .i64 hd) (.int .i64 ((sz:Int) - 1)))))
   have HSC:=Lh (s10_of (HS5.out.rb.lit7 HSP.out X).drew (MAt.drew' (HY5.out.lit7 HSY.out X)))
   have HSD:=Lh (s10_of ((HS5.out.rb.set3 HRP.out (.slice A2 ds.length c2) (.int .i64 hd) (.int .i64 ((sz:Int) - 1))).lit7 HSP.out X).drew (MAt.drew' ((HY5.out.set3 HRY.out (.slice A2 ds.length c2) (.int .i64 hd) (.int .i64 ((sz:Int) - 1))).lit7 HSY.out X)))
   have HSE:=Lh (s10_of ((HS5.out.rb.lit7 HSP.out X).set3 HRP.out (.slice A2 ds.length c2) (.int .i64 hd) (.int .i64 ((sz:Int) - 1))).drew (MAt.drew' ((HY5.out.lit7 HSY.out X).set3 HRY.out (.slice A2 ds.length c2) (.int .i64 hd) (.int .i64 ((sz:Int) - 1)))))
   go_region_held3 (fun W=>W.cell? ⟨p,0,none⟩=some (.slice A2 ds.length c2)∧W.cell? ⟨p,1,none⟩=some (.int .i64 hd)∧W.cell? ⟨p,2,none⟩=some (.int .i64 ((sz:Int) - 1))∧W.cell? ⟨y,0,none⟩=some (.int .i64 X.id)∧W.cell? ⟨y,1,none⟩=some (.int .i64 X.rt)∧W.cell? ⟨y,2,none⟩=some (.int .i64 X.ep)∧W.cell? ⟨y,3,none⟩=some (.int .i64 X.ct)∧W.cell? ⟨y,4,none⟩=some (.int .i64 X.gn)∧W.cell? ⟨y,5,none⟩=some (.int .i64 X.st)∧W.cell? ⟨y,6,none⟩=some (.string X.bd))
    (first | with_reducible exact HSA.out | with_reducible exact HSB.out | with_reducible exact HSC.out | with_reducible exact HSD.out | with_reducible exact HSE.out)
    ((fail))
   have HL:=Lh ((((HL3.out.off3 HNW.out HS1L.out.2.1 (.slice A2 ds.length c2) (.int .i64 hd) (.int .i64 ((sz:Int) - 1))).off7 HNW.out HS1L.out.2.2 X).drew).more (show w2.heap.size≤(((((((((((w5.setCell ⟨r,0,none⟩ (.slice A2 ds.length c2)).setCell ⟨r,1,none⟩ (.int .i64 hd)).setCell ⟨r,2,none⟩ (.int .i64 ((sz:Int) - 1))).setCell ⟨s,0,none⟩ (.int .i64 X.id)).setCell ⟨s,1,none⟩ (.int .i64 X.rt)).setCell ⟨s,2,none⟩ (.int .i64 X.ep)).setCell ⟨s,3,none⟩ (.int .i64 X.ct)).setCell ⟨s,4,none⟩ (.int .i64 X.gn)).setCell ⟨s,5,none⟩ (.int .i64 X.st)).setCell ⟨s,6,none⟩ (.string X.bd))).drew.heap.size from by simpa using HB5.out))
   have HB:=Lh (Below.drew (HS5.out.end1 (.slice A2 ds.length c2) (.int .i64 hd) (.int .i64 ((sz:Int) - 1)) X))
   clear HSA HSB HSC HSD HSE
   go_wp2
   exact bodyPost_ret (v:=.tuple #[.agg #[(.slice A2 ds.length c2),(.int .i64 hd),(.int .i64 ((sz:Int) - 1))],X.v,.int .i64 0]) (by simp only [results,Tryz.results94];go_simp <;> rfl) rfl ⟨A2,c2,by rw [HE1.out,HE2.out],nw_low HNW.out HS1.out.bel.size,HL.out,HB.out⟩
 ·have hE:rmE cs hd sz id=rgV cs hd sz:=if_pos h0
  have HC:=Lh (show rmC cs hd sz id=[] from if_neg (by rw [hE];exact h0))
  have HE1:=Lh (show ifE (rgV cs hd sz) hd=0 from if_neg h0)
  have HE2:=Lh (show ifE (rgV cs hd sz) (sz - 1)=0 from if_neg h0)
  have HE3:=Lh (show rmM cs hd sz id=zM from if_neg (by rw [hE];exact h0))
  have hne:(rgV cs hd sz != 0)=true:=bne_iff_ne.2 h0
  rw [hE]
  clear hE
  generalize rgV cs hd sz=x at*
  generalize rmC cs hd sz id=ds at*
  generalize rmM cs hd sz id=Y at*
  clear h0
  go_enter Tryz.func94,Tryz.ntmps94
  go_wp2_with fail
  have HS:=Lh (PoAt.start w A cs.length c hd sz 27 56)
  obtain ⟨p,hp⟩:∃ p,p=w.heap.size:=⟨_,rfl⟩
  obtain ⟨r,hr⟩:∃ r,r=w.heap.size+1:=⟨_,rfl⟩
  obtain ⟨s,hs⟩:∃ s,s=w.heap.size+1+1:=⟨_,rfl⟩
  rw [←hs,←hr,←hp] at HS ⊢
  clear hp hr hs
  refine (HG.out _ (HV.out.up HS.out.bel)).mono ?_
  rintro e w1 ⟨rfl,hb⟩
  have HS1:=Lh (HS.out.below hb)
  obtain ⟨_,⟨t0,t1,t2,t3,t4,t5,hrl⟩,⟨⟨v0,v1,v2,v3,v4,v5,v6⟩,f0,f1,f2,f3,f4,f5,f6,hsl⟩⟩:=HS1.out.facts
  have hrs:r≠s:=by have:=HS1.out.old;omega
  have hsr:s≠r:=fun e=>hrs e.symm
  have HB:=Lh (HS1.out.end1 (.slice none 0 0) (.int .i64 0) (.int .i64 0) zM)
  clear hb HS
  go_wp2
  exact bodyPost_ret (v:=.tuple #[.agg #[.slice none 0 0,.int .i64 0,.int .i64 0],.agg #[.int .i64 0,.int .i64 0,.int .i64 0,.int .i64 0,.int .i64 0,.int .i64 0,.string ByteArray.empty],.int .i64 x]) (by simp only [results,Tryz.results94];go_simp <;> rfl) rfl ⟨none,0,by rw [HC.out,HE1.out,HE2.out,HE3.out];rfl,nw_none,by rw [HC.out];exact Ls.nil,HB.out⟩
theorem rindex_any (A:Option Addr) (n c:Nat) (l:List Msg) (id:Int) (w:World) (B:Nat) (hv:Ls w B (.slice A n c) l) :
  Calls Tryz.prog 28 #[.slice A n c,.int .i64 id] w fun e w'=>e=.returned (.int .i64 (ixF l id))∧w=w':=by
 obtain ⟨rfl,hm1,hm2⟩:=hv.len
 have hL:l.length≤9223372036854775807:=by unfold maxLen at hm2;omega
 have HV:=Lh hv
 clear hv hm1 hm2
 go_enter Tryz.func28,Tryz.ntmps28
 go_wp2
 go_loop [5] (fun i=>∃ k:Nat,k≤l.length∧i=.int .i64 k∧∀ j (hj:j<l.length),j<k→l[j].id≠id) (fun i=>l.length - (intOf i).toNat)
 case atStart=>exact ⟨0,by omega,rfl,fun j _ h=>absurd h (by omega)⟩
 case round=>
  obtain ⟨k,hk,rfl,hno⟩:=hrel
  have HN:=Lh hno
  clear hno
  by_cases hlt:k<l.length
  ·obtain ⟨b,o,rfl,hb,c0,-⟩:=HV.out.at_ hlt
   by_cases he:l[k].id=id
   ·have HR:=Lh (ixF_hit hlt he HN.out)
    have hd:(l[k].id==id)=true:=by simpa using he
    clear he
    go_wp2
    go_ret
    exact ⟨by rw [HR.out];rfl,rfl⟩
   ·have hd:(l[k].id==id)=false:=by simpa using he
    have HE:=Lh he
    clear he
    go_wp2
    go_round
    case rel=>exact ⟨k+1,by omega,by go_num,fun j hj h=>by
     by_cases e:j=k
     ·subst e;exact HE.out
     ·exact HN.out j hj (by omega)⟩
    case measure=>simp [intOf];omega
  ·have HR:=Lh (ixF_none (id:=id) (fun j hj=>HN.out j hj (by omega)))
   go_wp2
   go_ret
   exact ⟨by rw [HR.out];rfl,rfl⟩
end Go.Proofs.YtncgbldcjfbknaaGreat
