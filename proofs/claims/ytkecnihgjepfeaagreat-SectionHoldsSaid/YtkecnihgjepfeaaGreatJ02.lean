/- What is proved here: parts of the proof: Mem Msg Mzd Grd Mdd Lsd. -/
import Derived.Below
import Derived.Laws.OwnMore
import Derived.Deep.Draws
import Derived.Maps.AppendAt
import Derived.Lib.SlBytesRow
import Derived.Lib.AppendStr
import Derived.Lib.Hide
import Derived.OwnWalk
import Derived.Test.YtkecnihgjepfeaaGreatRows
import Derived.WalkKit
import Derived.Outline
import Derived.IntWalk
import Derived.Laws.BitsAllLaws
import Derived.Laws.BitsLemmas
import Derived.Laws.Bits128
import Derived.Lib.ConvBytes
import Derived.Deep.AppendLies
import Derived.Deep.MidRow
namespace Go.Proofs.YtkecnihgjepfeaaGreat
open Go.RowKit
set_option linter.unusedVariables false
set_option linter.unusedSimpArgs false
set_option maxHeartbeats 8000000
set_option maxRecDepth 20000
theorem sIA {α:Type _} (l:List α) (i:Nat) (a:α):l.toArray.setIfInBounds i a=(l.set i a).toArray:=List.setIfInBounds_toArray l i a
theorem sIB {α:Type _} {x:α} {xs:List α} {a:α}:(x::xs).set 0 a=a::xs:=List.set_cons_zero
theorem sIC {α:Type _} {x:α} {xs:List α} {i:Nat} {a:α}:(x::xs).set (i+1) a=x::xs.set i a:=List.set_cons_succ
theorem nLR (n:Nat):n<=n:=Nat.le_refl n
def oct (x:UInt8):Value:=.int .u8 (x.toNat:Int)
theorem add_mk (b o j:Nat):(⟨b,o,none⟩:Addr).add j=⟨b,o+j,none⟩:=by unfold Addr.add;split <;> simp_all
def Rd (w:World) (B size:Nat) (A:Option Addr) (n:Nat) (xs:List Value):Prop:=
 xs.length=n*size/\(0<n->∃ b o,A=some ⟨b,o,none⟩/\b<B/\∀ j u,xs[j]? = some u->w.cell? ⟨b,o+j,none⟩=some u)
section
variable {w w' : World} {B B' size n:Nat} {A:Option Addr} {xs:List Value}
theorem Rd.nil (A:Option Addr):Rd w B size A 0 []:=⟨by simp,fun h=>absurd h (by omega)⟩
theorem Rd.keep (h:Rd w B size A n xs) (hk:∀ p:Addr,p.block<B->w'.cell? p=w.cell? p):Rd w' B size A n xs:=
 ⟨h.1,fun hn=>by
  obtain ⟨b,o,e,hb,hc⟩:=h.2 hn
  exact ⟨b,o,e,hb,fun j u hu=>(hk _ hb).trans (hc j u hu)⟩⟩
theorem Rd.more (h:Rd w B size A n xs) (hB:B<=B'):Rd w B' size A n xs:=
 ⟨h.1,fun hn=>by
  obtain ⟨b,o,e,hb,hc⟩:=h.2 hn
  exact ⟨b,o,e,by omega,hc⟩⟩
theorem Rd.below (h:Rd w B size A n xs) (hb:Below B w w'):Rd w' B size A n xs:=h.keep fun _ hp=>hb.cell hp
theorem Rd.alloc (h:Rd w B size A n xs) (hB:B<=w.heap.size) (o:Obj):Rd (w.alloc o) B size A n xs:=h.keep fun p hp=>World.cell?_alloc_lt w o p (by omega)
theorem Rd.setCell (h:Rd w B size A n xs) {p:Addr} (hB:B<=p.block) (u:Value):Rd (w.setCell p u) B size A n xs:=
 h.keep fun q hq=>World.cell?_setCell_other w p q u (fun e=>by subst e;omega)
theorem Rd.of_own {base:Nat} {e:TypeId} {c:Nat} (h:w.ownsRow base e size (.slice A n c) n xs):Rd w w.heap.size size A n xs:=by
 refine ⟨h.1,fun hn=>?_⟩
 rcases h.2 with ⟨hv,h0⟩ | ⟨g,cap,cur,hv,_,hh,_⟩
 ·omega
 ·injection hv with hA _ _
  subst hA
  exact ⟨g,0,rfl,(Array.getElem?_eq_some_iff.1 hh).1,fun j u hu=>by have:=h.cells (g:=g) rfl j u hu;rwa [add_mk] at this⟩
theorem own_low {base base' : Nat} {e:TypeId} {v:Value} (h:w.ownsRow base e size v n xs) (hb:base'<=base):w.ownsRow base' e size v n xs:=
 ⟨h.1,h.2.imp_right fun ⟨g,cap,cur,hv,hg,r⟩=>⟨g,cap,cur,hv,Nat.le_trans hb hg,r⟩⟩
theorem own_form {base:Nat} {e:TypeId} {v:Value} (h:w.ownsRow base e size v n xs):∃ A c,v=.slice A n c:=by
 rcases h.2 with ⟨rfl,rfl⟩ | ⟨g,cap,_,rfl,_⟩
 ·exact ⟨none,0,rfl⟩
 ·exact ⟨_,cap,rfl⟩
end
def Bs (w:World) (B:Nat) (v:Value) (bs:List UInt8):Prop:=∃ A c,v=.slice A bs.length c/\bs.length<=c/\c<=maxLen/\Rd w B 1 A bs.length (bs.map oct)
section
variable {w w' : World} {B B' : Nat} {v:Value} {bs:List UInt8}
end
section
variable {P:Program} (w:World)
theorem run_append_empty (base:Nat) (t ty e:TypeId) (i:TypeInfo) (size:Nat) (ht:P.underlying t=some (.slice e)) (hi:P.info? e=some i)
  (v:Value) (n:Nat) (xs:List Value) (hown:w.ownsRow base e size v n xs) (c:Nat):(Builtin.append_ #[t,t] ty #[v,.slice none 0 c]).run P w=.ok v w:=by
 rcases hown.2 with ⟨rfl,rfl⟩ | ⟨g,cap,cur,rfl,_,_,hnc,_⟩
 ·simp [Builtin.append_,run_underlying ht,sizeOf,typeInfo,hi,Builtin.lenOf,Builtin.firstCells]
 ·simp [Builtin.append_,run_underlying ht,sizeOf,typeInfo,hi,Builtin.lenOf,Builtin.firstCells,hnc,storeCells]
theorem run_append_rd (base:Nat) (t ty e:TypeId) (i:TypeInfo) (z:Value) (size bytes:Nat) (ht:P.underlying t=some (.slice e)) (hi:P.info? e=some i) (hz:i.zero=some z)
  (hsize:i.size=size) (hby:i.bytes=bytes) (hzs:z.cells.size=size) (hsz:0<size)
  (v:Value) (n:Nat) (xs:List Value) (hown:w.ownsRow base e size v n xs)
  (B:Nat) (A:Option Addr) (m c:Nat) (news:List Value) (hr:Rd w B size A m news) (h1:∀ u∈news,u.oneCell' = true)
  (h63:n+m<=maxLen) (hbytes:(n+m)*bytes<=140737488355328) (hbase:base<=w.heap.size) :
  ∃ v' w',(Builtin.append_ #[t,t] ty #[v,.slice A m c]).run P w=.ok v' w'/\w'.ownsRow base e size v' (n+m) (xs++news)/\w.grownBy w' v.ownBlock/\
   (v'.ownBlock=v.ownBlock\/v'.ownBlock=some w.heap.size):=by
 rcases A with _ | ad
 ·have hm:m=0:=by
   rcases Nat.eq_zero_or_pos m with h0 | h0
   ·exact h0
   ·obtain ⟨b,o,h,_⟩:=hr.2 h0
    cases h
  subst hm
  have hn:news=[]:=List.eq_nil_of_length_eq_zero (by simpa using hr.1)
  subst hn
  exact ⟨v,w,run_append_empty w base t ty e i size ht hi v n xs hown c,by simpa using hown,World.grownBy.refl w _,.inl rfl⟩
 ·have hcells:∀ j u,news[j]? = some u->w.cell? (ad.add j)=some u:=by
   intro j u hu
   rcases Nat.eq_zero_or_pos m with h0 | h0
   ·subst h0
    have hn:news=[]:=List.eq_nil_of_length_eq_zero (by simpa using hr.1)
    subst hn
    simp at hu
   ·obtain ⟨b,o,h,_,hc⟩:=hr.2 h0
    injection h with h
    subst h
    rw [add_mk]
    exact hc j u hu
  obtain ⟨v',w',hrun,h2,h3,_,h5⟩:=run_append_own_at (P:=P) w base t ty e i z size bytes ht hi hz hsize hby hzs hsz v n xs hown ad m c news hr.1 hcells h1 h63 hbytes hbase
  exact ⟨v',w',hrun,h2,h3,h5⟩
theorem wp_append_rd {o:Oper} {a:Act} {K:Act->World->Prop} {Q:Exit->Act->World->Prop} (s x:Operand) (t:TypeId)
  (ho:o.op=.call { callee:=.builtin .append,args:=#[s,x],argTypes:=#[t,t] })
  (base:Nat) (e:TypeId) (i:TypeInfo) (z:Value) (size bytes:Nat) (ht:P.underlying t=some (.slice e)) (hi:P.info? e=some i) (hz:i.zero=some z)
  (hsize:i.size=size) (hby:i.bytes=bytes) (hzs:z.cells.size=size) (hsz:0<size)
  (v:Value) (n:Nat) (xs:List Value) (hs:a.eval s=v) (hown:w.ownsRow base e size v n xs)
  (B:Nat) (A:Option Addr) (m c:Nat) (news:List Value) (hx:a.eval x=.slice A m c) (hr:Rd w B size A m news) (h1:∀ u∈news,u.oneCell' = true)
  (h63:n+m<=maxLen) (hbytes:(n+m)*bytes<=140737488355328) (hbase:base<=w.heap.size)
  (h:∀ v' w',w'.ownsRow base e size v' (n+m) (xs++news)->w.grownBy w' v.ownBlock->(v'.ownBlock=v.ownBlock\/v'.ownBlock=some w.heap.size)->K (a.put o.dst v') w'):o.wp P a w K Q:=by
 obtain ⟨v',w',hrun,h2,h3,h4⟩:=run_append_rd (P:=P) w base t o.type e i z size bytes ht hi hz hsize hby hzs hsz v n xs hown B A m c news hr h1 h63 hbytes hbase
 unfold Oper.wp execOp
 simp only [ho,resolve,invoke,builtin,Sem.run_bind,Sem.run_pure,Result.andThen_ok,List.map_toArray,List.map_cons,List.map_nil,hs,hx,hrun]
 exact h v' w' h2 h3 h4
theorem wpList_append_rd {ops:Array Oper} {rest:List Oper} {o:Oper} {a:Act} {Q:Exit->Act->World->Prop} (hgd:o.guard=none) (s x:Operand) (t:TypeId)
  (ho:o.op=.call { callee:=.builtin .append,args:=#[s,x],argTypes:=#[t,t] })
  (base:Nat) (e:TypeId) (i:TypeInfo) (z:Value) (size bytes:Nat) (ht:P.underlying t=some (.slice e)) (hi:P.info? e=some i) (hz:i.zero=some z)
  (hsize:i.size=size) (hby:i.bytes=bytes) (hzs:z.cells.size=size) (hsz:0<size)
  (v:Value) (n:Nat) (xs:List Value) (hs:a.eval s=v) (hown:w.ownsRow base e size v n xs)
  (B:Nat) (A:Option Addr) (m c:Nat) (news:List Value) (hx:a.eval x=.slice A m c) (hr:Rd w B size A m news) (h1:∀ u∈news,u.oneCell' = true)
  (h63:n+m<=maxLen) (hbytes:(n+m)*bytes<=140737488355328) (hbase:base<=w.heap.size)
  (h:∀ v' w',w'.ownsRow base e size v' (n+m) (xs++news)->w.grownBy w' v.ownBlock->(v'.ownBlock=v.ownBlock\/v'.ownBlock=some w.heap.size)->wpList P ops Q rest (a.put o.dst v') w'):wpList P ops Q (o::rest) a w:=
 wpList_plain hgd fun _ hK=>wp_append_rd w s x t ho base e i z size bytes ht hi hz hsize hby hzs hsz v n xs hs hown B A m c news hx hr h1 h63 hbytes hbase fun v' w' h2 h3 h4=>hK _ _ (h v' w' h2 h3 h4)
end
theorem Lh {p:Prop} (h:p):Hid p:=Lib.hid h
structure Msg where
 id:Int
 rt:Int
 ep:Int
 ct:Int
 gn:Int
 st:Int
 bd:ByteArray
abbrev Msg.v (M:Msg):Value:=.agg #[.int .i64 M.id,.int .i64 M.rt,.int .i64 M.ep,.int .i64 M.ct,.int .i64 M.gn,.int .i64 M.st,.string M.bd]
abbrev Msg.cs (M:Msg):Array Value:=#[.int .i64 M.id,.int .i64 M.rt,.int .i64 M.ep,.int .i64 M.ct,.int .i64 M.gn,.int .i64 M.st,.string M.bd]
def wi (n lo hi:Int):Bool:=decide (lo<=n/\n<=hi)
theorem wi_true {n lo hi:Int} (h1:lo<=n) (h2:n<=hi):wi n lo hi=true:=decide_eq_true ⟨h1,h2⟩
theorem wi_low {n lo hi:Int} (h1:n<lo):wi n lo hi=false:=decide_eq_false (by omega)
theorem wi_high {n lo hi:Int} (h1:hi<n):wi n lo hi=false:=decide_eq_false (by omega)
theorem wi_of {n lo hi:Int} (h:wi n lo hi=true):lo<=n/\n<=hi:=of_decide_eq_true h
theorem within_any (n lo hi:Int) (w:World):Calls Tryz.prog 188 #[.int .i64 n,.int .i64 lo,.int .i64 hi] w fun e w'=>e=.returned (.bool (wi n lo hi))/\w=w':=by
 by_cases h1:lo<=n
 ·by_cases h2:n<=hi
  ·have H:=Lh (wi_true h1 h2)
   go_enter Tryz.func188,Tryz.ntmps188
   go_wp2
   go_ret
   exact ⟨by rw [H.out];rfl,rfl⟩
  ·have H:=Lh (wi_high (lo:=lo) (show hi<n by omega))
   go_enter Tryz.func188,Tryz.ntmps188
   go_wp2
   go_ret
   exact ⟨by rw [H.out];rfl,rfl⟩
 ·have H:=Lh (wi_low (hi:=hi) (show n<lo by omega))
  go_enter Tryz.func188,Tryz.ntmps188
  go_wp2
  go_ret
  exact ⟨by rw [H.out];rfl,rfl⟩
def hv (M:Msg):Bool:=wi M.id 1 1073741824&&(wi M.rt 0 65535&&(wi M.ep 0 65536&&(wi M.ct 0 8&&(wi M.gn M.ct 65536&&wi M.st 0 1073741824))))
theorem hasnums_any (M:Msg) (w:World):Calls Tryz.prog 169 #[M.v] w fun e w'=>e=.returned (.bool (hv M))/\Below w.heap.size w w':=by
 obtain ⟨i,r,p,c,g,s,b⟩:=M
 have HB:=Lh ((Below.refl w.heap.size w).alloc (nLR _) (.cells #[.int .i64 i,.int .i64 r,.int .i64 p,.int .i64 c,.int .i64 g,.int .i64 s,.string b] 79))
 have hcs:∀ (x lo hi:Int) (k:Bool),wi x lo hi=k->Hid (∀ w,Calls Tryz.prog 188 #[.int .i64 x,.int .i64 lo,.int .i64 hi] w fun e w'=>e=.returned (.bool k)/\w=w'):=fun x lo hi k h=>Lh (fun w=>by rw [<-h];exact within_any x lo hi w)
 show Calls _ _ #[.agg #[.int .i64 i,.int .i64 r,.int .i64 p,.int .i64 c,.int .i64 g,.int .i64 s,.string b]] _ _
 have hf:∀ k,hv ⟨i,r,p,c,g,s,b⟩=k->∀ e:Ending,e=.returned (.bool k)->e=.returned (.bool (hv ⟨i,r,p,c,g,s,b⟩)):=fun k h e he=>by rw [h];exact he
 cases h0:wi i 1 1073741824 with
 | false=>
  have H0:=hcs _ _ _ _ h0
  have HF:=Lh (hf false (by simp [hv,h0]))
  clear hcs hf h0
  go_enter Tryz.func169,Tryz.ntmps169
  go_wp2_with fail
  refine (H0.out _).mono ?_
  rintro e w1 ⟨rfl,rfl⟩
  go_wp2
  go_ret
  exact ⟨HF.out _ rfl,HB.out⟩
 | true=>
  have H0:=hcs _ _ _ _ h0
  cases h1:wi r 0 65535 with
  | false=>
   have H1:=hcs _ _ _ _ h1
   have HF:=Lh (hf false (by simp [hv,h0,h1]))
   clear hcs hf h0 h1
   go_enter Tryz.func169,Tryz.ntmps169
   go_wp2_with fail
   refine (H0.out _).mono ?_
   rintro e w1 ⟨rfl,rfl⟩
   go_wp2_with fail
   refine (H1.out _).mono ?_
   rintro e w1 ⟨rfl,rfl⟩
   go_wp2
   go_ret
   exact ⟨HF.out _ rfl,HB.out⟩
  | true=>
   have H1:=hcs _ _ _ _ h1
   cases h2:wi p 0 65536 with
   | false=>
    have H2:=hcs _ _ _ _ h2
    have HF:=Lh (hf false (by simp [hv,h0,h1,h2]))
    clear hcs hf h0 h1 h2
    go_enter Tryz.func169,Tryz.ntmps169
    go_wp2_with fail
    refine (H0.out _).mono ?_
    rintro e w1 ⟨rfl,rfl⟩
    go_wp2_with fail
    refine (H1.out _).mono ?_
    rintro e w1 ⟨rfl,rfl⟩
    go_wp2_with fail
    refine (H2.out _).mono ?_
    rintro e w1 ⟨rfl,rfl⟩
    go_wp2
    go_ret
    exact ⟨HF.out _ rfl,HB.out⟩
   | true=>
    have H2:=hcs _ _ _ _ h2
    cases h3:wi c 0 8 with
    | false=>
     have H3:=hcs _ _ _ _ h3
     have HF:=Lh (hf false (by simp [hv,h0,h1,h2,h3]))
     clear hcs hf h0 h1 h2 h3
     go_enter Tryz.func169,Tryz.ntmps169
     go_wp2_with fail
     refine (H0.out _).mono ?_
     rintro e w1 ⟨rfl,rfl⟩
     go_wp2_with fail
     refine (H1.out _).mono ?_
     rintro e w1 ⟨rfl,rfl⟩
     go_wp2_with fail
     refine (H2.out _).mono ?_
     rintro e w1 ⟨rfl,rfl⟩
     go_wp2_with fail
     refine (H3.out _).mono ?_
     rintro e w1 ⟨rfl,rfl⟩
     go_wp2
     go_ret
     exact ⟨HF.out _ rfl,HB.out⟩
    | true=>
     have H3:=hcs _ _ _ _ h3
     cases h4:wi g c 65536 with
     | false=>
      have H4:=hcs _ _ _ _ h4
      have HF:=Lh (hf false (by simp [hv,h0,h1,h2,h3,h4]))
      clear hcs hf h0 h1 h2 h3 h4
      go_enter Tryz.func169,Tryz.ntmps169
      go_wp2_with fail
      refine (H0.out _).mono ?_
      rintro e w1 ⟨rfl,rfl⟩
      go_wp2_with fail
      refine (H1.out _).mono ?_
      rintro e w1 ⟨rfl,rfl⟩
      go_wp2_with fail
      refine (H2.out _).mono ?_
      rintro e w1 ⟨rfl,rfl⟩
      go_wp2_with fail
      refine (H3.out _).mono ?_
      rintro e w1 ⟨rfl,rfl⟩
      go_wp2_with fail
      refine (H4.out _).mono ?_
      rintro e w1 ⟨rfl,rfl⟩
      go_wp2
      go_ret
      exact ⟨HF.out _ rfl,HB.out⟩
     | true=>
      have H4:=hcs _ _ _ _ h4
      cases h5:wi s 0 1073741824 with
      | false=>
       have H5:=hcs _ _ _ _ h5
       have HF:=Lh (hf false (by simp [hv,h0,h1,h2,h3,h4,h5]))
       clear hcs hf h0 h1 h2 h3 h4 h5
       go_enter Tryz.func169,Tryz.ntmps169
       go_wp2_with fail
       refine (H0.out _).mono ?_
       rintro e w1 ⟨rfl,rfl⟩
       go_wp2_with fail
       refine (H1.out _).mono ?_
       rintro e w1 ⟨rfl,rfl⟩
       go_wp2_with fail
       refine (H2.out _).mono ?_
       rintro e w1 ⟨rfl,rfl⟩
       go_wp2_with fail
       refine (H3.out _).mono ?_
       rintro e w1 ⟨rfl,rfl⟩
       go_wp2_with fail
       refine (H4.out _).mono ?_
       rintro e w1 ⟨rfl,rfl⟩
       go_wp2_with fail
       refine (H5.out _).mono ?_
       rintro e w1 ⟨rfl,rfl⟩
       go_wp2
       go_ret
       exact ⟨HF.out _ rfl,HB.out⟩
      | true=>
       have H5:=hcs _ _ _ _ h5
       have HF:=Lh (hf true (by simp [hv,h0,h1,h2,h3,h4,h5]))
       clear hcs hf h0 h1 h2 h3 h4 h5
       go_enter Tryz.func169,Tryz.ntmps169
       go_wp2_with fail
       refine (H0.out _).mono ?_
       rintro e w1 ⟨rfl,rfl⟩
       go_wp2_with fail
       refine (H1.out _).mono ?_
       rintro e w1 ⟨rfl,rfl⟩
       go_wp2_with fail
       refine (H2.out _).mono ?_
       rintro e w1 ⟨rfl,rfl⟩
       go_wp2_with fail
       refine (H3.out _).mono ?_
       rintro e w1 ⟨rfl,rfl⟩
       go_wp2_with fail
       refine (H4.out _).mono ?_
       rintro e w1 ⟨rfl,rfl⟩
       go_wp2_with fail
       refine (H5.out _).mono ?_
       rintro e w1 ⟨rfl,rfl⟩
       go_wp2
       go_ret
       exact ⟨HF.out _ rfl,HB.out⟩
def vf (M:Msg):Int:=if hv M=true then (if (16:Int)<(M.bd.size:Int) then 2 else 0) else 1
theorem validate_any (M:Msg) (w:World):Calls Tryz.prog 157 #[M.v] w fun e w'=>e=.returned (.int .i64 (vf M))/\Below w.heap.size w w':=by
 have HC:=Lh (fun w=>hasnums_any M w)
 have HB:=Lh ((Below.refl w.heap.size w).alloc (nLR _) (.cells M.cs 79))
 have hf:∀ k,vf M=k->∀ e:Ending,e=.returned (.int .i64 k)->e=.returned (.int .i64 (vf M)):=fun k h e he=>by rw [h];exact he
 cases h:hv M with
 | false=>
  rw [h] at HC
  have HF:=Lh (hf 1 (by simp [vf,h]))
  clear h hf
  go_enter Tryz.func157,Tryz.ntmps157
  go_wp2_with fail
  refine (HC.out _).mono ?_
  rintro e w1 ⟨rfl,hb⟩
  have HB1:=Lh (HB.out.trans (hb.mono HB.out.size))
  clear hb
  go_wp2
  go_ret
  exact ⟨HF.out _ rfl,HB1.out⟩
 | true=>
  rw [h] at HC
  by_cases h6:(16:Int)<(M.bd.size:Int)
  ·have HF:=Lh (hf 2 (by simp [vf,h];omega))
   clear h hf
   go_enter Tryz.func157,Tryz.ntmps157
   go_wp2_with fail
   refine (HC.out _).mono ?_
   rintro e w1 ⟨rfl,hb⟩
   have hc:=hb.cell (p:=⟨w.heap.size,6,none⟩) (by simp)
   have HB1:=Lh (HB.out.trans (hb.mono HB.out.size))
   clear hb
   go_wp2
   go_ret
   exact ⟨HF.out _ rfl,HB1.out⟩
  ·have HF:=Lh (hf 0 (by simp [vf,h];omega))
   clear h hf
   go_enter Tryz.func157,Tryz.ntmps157
   go_wp2_with fail
   refine (HC.out _).mono ?_
   rintro e w1 ⟨rfl,hb⟩
   have hc:=hb.cell (p:=⟨w.heap.size,6,none⟩) (by simp)
   have HB1:=Lh (HB.out.trans (hb.mono HB.out.size))
   clear hb
   go_wp2
   go_ret
   exact ⟨HF.out _ rfl,HB1.out⟩
def zM:Msg:=⟨0,0,0,0,0,0,ByteArray.empty⟩
theorem vf_ok {M:Msg} (h:vf M=0):(1<=M.id/\M.id<=1073741824)/\(0<=M.rt/\M.rt<=65535)/\(0<=M.ep/\M.ep<=65536)/\(0<=M.ct/\M.ct<=8)/\(M.ct<=M.gn/\M.gn<=65536)/\(0<=M.st/\M.st<=1073741824)/\M.bd.size<=16:=by
 unfold vf at h
 by_cases hh:hv M=true
 ·rw [if_pos hh] at h
  by_cases h6:(16:Int)<(M.bd.size:Int)
  ·rw [if_pos h6] at h;omega
  ·unfold hv at hh
   simp only [Bool.and_eq_true] at hh
   obtain ⟨h0,h1,h2,h3,h4,h5⟩:=hh
   exact ⟨wi_of h0,wi_of h1,wi_of h2,wi_of h3,wi_of h4,wi_of h5,by omega⟩
 ·rw [if_neg hh] at h;omega
def groups:Nat->Nat->List UInt8
 | 0,n=>[UInt8.ofNat n]
 | f+1,n=>if n<128 then [UInt8.ofNat n] else UInt8.ofNat (n % 128+128)::groups f (n / 128)
def MAt (w:World) (g:Nat) (f:Nat->Int) (b:ByteArray):Prop:=
 g<w.heap.size/\(∀ j,j<6->w.cell? ⟨g,j,none⟩=some (.int .i64 (f j)))/\w.cell? ⟨g,6,none⟩=some (.string b)/\∀ o,o<7->w.frozen? ⟨g,o,none⟩=false
section
variable {w w' : World} {g B:Nat} {f:Nat->Int} {b:ByteArray}
def NAt (w:World) (g:Nat) (f:Nat->Int):Prop:=
 g<w.heap.size/\(∀ j,j<6->w.cell? ⟨g,j,none⟩=some (.int .i64 (f j)))/\∀ o,o<6->w.frozen? ⟨g,o,none⟩=false
end
theorem below_drewN {B:Nat} {a w:World} (h:Below B a w) (n:Nat):Below B a (w.drewN n):=⟨h.os,h.tape,h.output,h.size,h.block⟩
def Msg.l (M:Msg):List Value:=[.int .i64 M.id,.int .i64 M.rt,.int .i64 M.ep,.int .i64 M.ct,.int .i64 M.gn,.int .i64 M.st,.string M.bd]
theorem Msg.l_len (M:Msg):M.l.length=7:=rfl
def lcs (l:List Msg):List Value:=l.flatMap Msg.l
theorem lcs_cons (M:Msg) (l:List Msg):lcs (M::l)=M.l++lcs l:=rfl
theorem lcs_app (l m:List Msg):lcs (l++m)=lcs l++lcs m:=by simp [lcs]
theorem lcs_len (l:List Msg):(lcs l).length=l.length*7:=by
 induction l with
 | nil=>rfl
 | cons M l ih=>rw [lcs_cons,List.length_append,ih,Msg.l_len];simp;omega
theorem lcs_drop (l:List Msg) (k:Nat):(lcs l).drop (k*7)=lcs (l.drop k):=by
 induction k generalizing l with
 | zero=>simp
 | succ k ih=>
  cases l with
  | nil=>simp [lcs]
  | cons M l=>
   rw [lcs_cons,List.drop_succ_cons,<-ih,show (k+1)*7=M.l.length+k*7 by rw [Msg.l_len];omega,List.drop_append,List.drop_eq_nil_of_le (by omega)]
   simp
theorem lcs_take (l:List Msg) (k:Nat):(lcs l).take (k*7)=lcs (l.take k):=by
 induction k generalizing l with
 | zero=>simp [lcs]
 | succ k ih=>
  cases l with
  | nil=>simp [lcs]
  | cons M l=>
   rw [lcs_cons,List.take_succ_cons,lcs_cons,<-ih,show (k+1)*7=M.l.length+k*7 by rw [Msg.l_len];omega,List.take_append,List.take_of_length_le (by omega)]
   simp
theorem lcs_at (l:List Msg) (k j:Nat) (hk:k<l.length) (hj:j<7):(lcs l)[k*7+j]? = l[k].l[j]?:=by
 have h:=lcs_drop l k
 have e:(lcs l)[k*7+j]? = ((lcs l).drop (k*7))[j]?:=by rw [List.getElem?_drop]
 rw [e,h,List.drop_eq_getElem_cons hk,lcs_cons,List.getElem?_append_left (by rw [Msg.l_len];exact hj)]
theorem Msg.l_one (M:Msg):∀ u∈M.l,u.oneCell' = true:=by
 intro u hu
 simp only [Msg.l,List.mem_cons,List.not_mem_nil,or_false] at hu
 rcases hu with rfl | rfl | rfl | rfl | rfl | rfl | rfl <;> rfl
theorem lcs_one (l:List Msg):∀ u∈lcs l,u.oneCell' = true:=by
 intro u hu
 obtain ⟨M,_,h⟩:=List.mem_flatMap.1 hu
 simp only [Msg.l,List.mem_cons,List.not_mem_nil,or_false] at h
 rcases h with rfl | rfl | rfl | rfl | rfl | rfl | rfl <;> rfl
def Ls (w:World) (B:Nat) (v:Value) (l:List Msg):Prop:=∃ A c,v=.slice A l.length c/\l.length<=c/\c<=maxLen/\Rd w B 7 A l.length (lcs l)
abbrev C7 (W:World) (b m:Nat) (M:Msg):Prop:=W.cell? ⟨b,m,none⟩=some (.int .i64 M.id)/\W.cell? ⟨b,m+1,none⟩=some (.int .i64 M.rt)/\W.cell? ⟨b,m+2,none⟩=some (.int .i64 M.ep)/\W.cell? ⟨b,m+3,none⟩=some (.int .i64 M.ct)/\W.cell? ⟨b,m+4,none⟩=some (.int .i64 M.gn)/\W.cell? ⟨b,m+5,none⟩=some (.int .i64 M.st)/\W.cell? ⟨b,m+6,none⟩=some (.string M.bd)
theorem C7.below {B:Nat} {W W' : World} {b m:Nat} {M:Msg} (h:C7 W b m M) (hb:Below B W W') (hl:b<B):C7 W' b m M:=by
 obtain ⟨c0,c1,c2,c3,c4,c5,c6⟩:=h
 exact ⟨(hb.cell (p:=⟨b,m,none⟩) hl).trans c0,(hb.cell (p:=⟨b,m+1,none⟩) hl).trans c1,(hb.cell (p:=⟨b,m+2,none⟩) hl).trans c2,(hb.cell (p:=⟨b,m+3,none⟩) hl).trans c3,(hb.cell (p:=⟨b,m+4,none⟩) hl).trans c4,(hb.cell (p:=⟨b,m+5,none⟩) hl).trans c5,(hb.cell (p:=⟨b,m+6,none⟩) hl).trans c6⟩
section
variable {w w' : World} {B B' : Nat} {v:Value} {l:List Msg} {A:Option Addr} {n c:Nat}
theorem Ls.nil:Ls w B (.slice none 0 0) []:=⟨none,0,rfl,nLR _,Nat.zero_le _,Rd.nil none⟩
theorem Ls.keep (h:Ls w B v l) (hk:∀ p:Addr,p.block<B->w'.cell? p=w.cell? p):Ls w' B v l:=by
 obtain ⟨A,c,e,hl,hm,h⟩:=h;exact ⟨A,c,e,hl,hm,h.keep hk⟩
theorem Ls.more (h:Ls w B v l) (hB:B<=B'):Ls w B' v l:=by
 obtain ⟨A,c,e,hl,hm,h⟩:=h;exact ⟨A,c,e,hl,hm,h.more hB⟩
theorem Ls.below (h:Ls w B v l) (hb:Below B w w'):Ls w' B v l:=h.keep fun _ hp=>hb.cell hp
theorem Ls.drewN (h:Ls w B v l) (k:Nat):Ls (w.drewN k) B v l:=h
theorem Ls.drew (h:Ls w B v l):Ls w.drew B v l:=h
theorem Ls.alloc (h:Ls w B v l) (hB:B<=w.heap.size) (o:Obj):Ls (w.alloc o) B v l:=h.keep fun p hp=>World.cell?_alloc_lt w o p (by omega)
theorem Ls.len (h:Ls w B (.slice A n c) l):n=l.length/\n<=c/\c<=maxLen:=by
 obtain ⟨A',c',e,hl,hm,h⟩:=h
 injection e with e1 e2 e3
 subst e2;subst e3
 exact ⟨rfl,hl,hm⟩
theorem Ls.rd (h:Ls w B (.slice A n c) l):Rd w B 7 A n (lcs l):=by
 obtain ⟨A',c',e,hl,hm,h⟩:=h
 injection e with e1 e2 e3
 subst e1;subst e2
 exact h
theorem Ls.form (h:Ls w B v l):∃ A c,v=.slice A l.length c/\l.length<=c/\c<=maxLen:=by
 obtain ⟨A,c,e,hl,hm,_⟩:=h;exact ⟨A,c,e,hl,hm⟩
theorem Ls.of_own {base:Nat} {e:TypeId} {n:Nat} (h:w.ownsRow base e 7 v n (lcs l)):Ls w w.heap.size v l:=by
 have hl:n=l.length:=by have:=h.1;rw [lcs_len] at this;omega
 subst hl
 rcases h.2 with ⟨hv,h0⟩ | ⟨g,cap,cur,hv,_,_,hl,hm,_⟩
 ·subst hv;exact ⟨none,0,by rw [h0],by omega,Nat.zero_le _,by rw [show l=[] from List.length_eq_zero_iff.1 h0];exact Rd.nil _⟩
 ·subst hv;exact ⟨_,cap,rfl,hl,hm,Rd.of_own h⟩
theorem Ls.at_ {k:Nat} (h:Ls w B (.slice A n c) l) (hk:k<l.length):∃ b o,A=some ⟨b,o,none⟩/\b<B/\(w.cell? ⟨b,o+k*7,none⟩=some (.int .i64 l[k].id)/\w.cell? ⟨b,o+k*7+1,none⟩=some (.int .i64 l[k].rt)/\w.cell? ⟨b,o+k*7+2,none⟩=some (.int .i64 l[k].ep)/\w.cell? ⟨b,o+k*7+3,none⟩=some (.int .i64 l[k].ct)/\w.cell? ⟨b,o+k*7+4,none⟩=some (.int .i64 l[k].gn)/\w.cell? ⟨b,o+k*7+5,none⟩=some (.int .i64 l[k].st)/\w.cell? ⟨b,o+k*7+6,none⟩=some (.string l[k].bd)):=by
 have hn:=h.len.1
 obtain ⟨b,o,e,hb,hc⟩:=h.rd.2 (by omega)
 have g:∀ j u,j<7->l[k].l[j]? = some u->w.cell? ⟨b,o+k*7+j,none⟩=some u:=fun j u hj hu=>by
  rw [Nat.add_assoc];exact hc _ u (by rw [lcs_at l k j hk hj];exact hu)
 exact ⟨b,o,e,hb,g 0 _ (by omega) rfl,g 1 _ (by omega) rfl,g 2 _ (by omega) rfl,g 3 _ (by omega) rfl,g 4 _ (by omega) rfl,g 5 _ (by omega) rfl,g 6 _ (by omega) rfl⟩
end
end Go.Proofs.YtkecnihgjepfeaaGreat
