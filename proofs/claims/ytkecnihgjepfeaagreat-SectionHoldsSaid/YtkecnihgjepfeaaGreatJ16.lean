/- What is proved here: parts of the proof: Sha Sci Wnp Sgl Shv Lea. -/
import Derived.Test.YtkecnihgjepfeaaGreatJ15
namespace Go.Proofs.YtkecnihgjepfeaaGreat
open Go.RowKit
set_option linter.unusedVariables false
set_option linter.unusedSimpArgs false
set_option maxHeartbeats 8000000
set_option maxRecDepth 20000
theorem swithin_any (n lo hi:Int) (w:World):Calls Tryz.prog 165 #[.int .i64 n,.int .i64 lo,.int .i64 hi] w fun e w'=>e=.returned (.bool (wi n lo hi))/\w=w':=by
 by_cases h1:lo<=n
 ·by_cases h2:n<=hi
  ·have H:=Lh (wi_true h1 h2)
   go_enter Tryz.func165,Tryz.ntmps165
   go_wp2
   go_ret
   exact ⟨by rw [H.out];rfl,rfl⟩
  ·have H:=Lh (show wi n lo hi=false from decide_eq_false (fun h=>h2 h.2))
   go_enter Tryz.func165,Tryz.ntmps165
   go_wp2
   go_ret
   exact ⟨by rw [H.out];rfl,rfl⟩
 ·have H:=Lh (show wi n lo hi=false from decide_eq_false (fun h=>h1 h.1))
  go_enter Tryz.func165,Tryz.ntmps165
  go_wp2
  go_ret
  exact ⟨by rw [H.out];rfl,rfl⟩
theorem shas_any (S:Sh) (D:Sx) (r:Int) (w:World):Calls Tryz.prog 180 #[sv S D,.int .i64 r] w fun e w'=>e=.returned (.bool (wi r S.lo S.hi))/\Below w.heap.size w w':=by
 have HB:=Lh ((Below.refl w.heap.size w).alloc (nLR _) (.cells #[.bool S.lv,.int .i64 S.lo,.int .i64 S.hi,.slice D.A S.cs.length D.c,.int .i64 S.hd,.int .i64 S.sz,.slice D.A2 S.l.length D.c2,.slice D.A3 S.h.length D.c3] 72))
 have HC:=Lh (fun w=>swithin_any r S.lo S.hi w)
 generalize wi r S.lo S.hi=b at*
 go_enter Tryz.func180,Tryz.ntmps180
 go_wp2_with fail
 refine (HC.out _).mono ?_
 rintro e w1 ⟨rfl,rfl⟩
 go_wp2
 go_ret
 exact ⟨rfl,HB.out⟩
theorem scap_any (S:Sh) (D:Sx) (w:World):Calls Tryz.prog 176 #[sv S D] w fun e w'=>e=.returned (.int .i64 (S.cs.length:Int))/\Below w.heap.size w w':=by
 have HB:=Lh ((Below.refl w.heap.size w).alloc (nLR _) (.cells #[.bool S.lv,.int .i64 S.lo,.int .i64 S.hi,.slice D.A S.cs.length D.c,.int .i64 S.hd,.int .i64 S.sz,.slice D.A2 S.l.length D.c2,.slice D.A3 S.h.length D.c3] 72))
 go_enter Tryz.func176,Tryz.ntmps176
 go_wp2
 go_ret
 exact ⟨rfl,HB.out⟩
theorem ssize_any (S:Sh) (D:Sx) (w:World) (h0:0<=S.sz) (h1:S.sz<=100) (h2:S.l.length<=100):Calls Tryz.prog 162 #[sv S D] w fun e w'=>e=.returned (.int .i64 (S.sz+S.l.length))/\Below w.heap.size w w':=by
 have HB:=Lh ((Below.refl w.heap.size w).alloc (nLR _) (.cells #[.bool S.lv,.int .i64 S.lo,.int .i64 S.hi,.slice D.A S.cs.length D.c,.int .i64 S.hd,.int .i64 S.sz,.slice D.A2 S.l.length D.c2,.slice D.A3 S.h.length D.c3] 72))
 have hw:wrap64 (S.sz+(S.l.length:Int))=S.sz+(S.l.length:Int):=IntWalk.wrap64_in _ (by omega)
 clear h0 h1 h2
 go_enter Tryz.func162,Tryz.ntmps162
 go_wp2
 go_ret
 exact ⟨congrArg (fun x=>Ending.returned (.int .i64 x)) hw,HB.out⟩
theorem sspan_any (lo hi:Int) (w:World):Calls Tryz.prog 74 #[.int .i64 lo,.int .i64 hi] w fun e w'=>e=.returned (.bool (spB lo hi))/\w=w':=by
 by_cases h1:0<=lo
 ·by_cases h2:lo<=hi
  ·by_cases h3:hi<65536
   ·have H:=Lh (spB_iff.2 ⟨h1,h2,h3⟩)
    go_enter Tryz.func74,Tryz.ntmps74
    go_wp2
    go_ret
    exact ⟨by rw [H.out];rfl,rfl⟩
   ·have H:=Lh (show spB lo hi=false from decide_eq_false (fun h=>h3 h.2.2))
    go_enter Tryz.func74,Tryz.ntmps74
    go_wp2
    go_ret
    exact ⟨by rw [H.out];rfl,rfl⟩
  ·have H:=Lh (show spB lo hi=false from decide_eq_false (fun h=>h2 h.2.1))
   go_enter Tryz.func74,Tryz.ntmps74
   go_wp2
   go_ret
   exact ⟨by rw [H.out];rfl,rfl⟩
 ·have H:=Lh (show spB lo hi=false from decide_eq_false (fun h=>h1 h.1))
  go_enter Tryz.func74,Tryz.ntmps74
  go_wp2
  go_ret
  exact ⟨by rw [H.out];rfl,rfl⟩
abbrev r3 (n lo hi:Int):Value:=.agg #[.int .i64 n,.int .i64 lo,.int .i64 hi]
theorem aepoch_any (n:Int) (w:World):Calls Tryz.prog 144 #[.int .i64 n] w fun e w'=>e=.returned (r3 n 0 65536)/\Below w.heap.size w w':=by
 have HB:=Lh ((Below.refl w.heap.size w).alloc (nLR _) (.cells #[.int .i64 0,.int .i64 0,.int .i64 0] 209))
 go_enter Tryz.func144,Tryz.ntmps144
 go_wp2
 exact bodyPost_ret (v:=r3 n 0 65536) (by simp only [results,Tryz.results144];go_simp <;> rfl) rfl ⟨rfl,(Below.refl w.heap.size w).alloc (nLR _) _⟩
theorem alimit_any (n:Int) (w:World):Calls Tryz.prog 145 #[.int .i64 n] w fun e w'=>e=.returned (r3 n 1 8)/\Below w.heap.size w w':=by
 have HB:=Lh ((Below.refl w.heap.size w).alloc (nLR _) (.cells #[.int .i64 0,.int .i64 0,.int .i64 0] 209))
 go_enter Tryz.func145,Tryz.ntmps145
 go_wp2
 exact bodyPost_ret (v:=r3 n 1 8) (by simp only [results,Tryz.results145];go_simp <;> rfl) rfl ⟨rfl,(Below.refl w.heap.size w).alloc (nLR _) _⟩
def fxN (p:Msg->Bool) (l:List Msg):Int:=if l.findIdx p<l.length then (l.findIdx p:Int) else -1
theorem fxN_hit {p:Msg->Bool} {l:List Msg} {k:Nat} (hk:k<l.length) (h:p l[k]=true) (hn:∀ j (hj:j<l.length),j<k->p l[j]=false):fxN p l=k:=by
 have e:l.findIdx p=k:=by
  rw [List.findIdx_eq hk]
  exact ⟨h,fun j hj=>hn j (by omega) hj⟩
 unfold fxN
 rw [e,if_pos hk]
theorem fxN_none {p:Msg->Bool} {l:List Msg} (hn:∀ j (hj:j<l.length),p l[j]=false):fxN p l = -1:=by
 have e:l.findIdx p=l.length:=List.findIdx_eq_length.2 fun M hM=>by
  obtain ⟨j,hj,rfl⟩:=List.mem_iff_getElem.1 hM
  exact hn j hj
 unfold fxN
 rw [e,if_neg (Nat.lt_irrefl _)]
theorem fxN_ge {p:Msg->Bool} {l:List Msg}:decide (0<=fxN p l)=l.any p:=by
 unfold fxN
 by_cases h:l.findIdx p<l.length
 ·rw [if_pos h]
  have e:=List.findIdx_getElem (w:=h)
  rw [show l.any p=true from List.any_eq_true.2 ⟨_,List.getElem_mem h,e⟩]
  simp
 ·rw [if_neg h]
  have e:l.findIdx p=l.length:=Nat.le_antisymm List.findIdx_le_length (by omega)
  rw [show l.any p=false from by
   rw [List.any_eq_false]
   intro M hM
   have:=List.findIdx_eq_length.1 e M hM
   simp [this]]
  rfl
theorem ixfuncH (A:Option Addr) (n c:Nat) (l:List Msg) (v:Value) (p:Msg->Bool) (I:World->Prop) (w:World) (hv:Ls w w.heap.size (.slice A n c) l) (hI:I w) (hK:∀ W W',I W->Below W.heap.size W W'->I W')
  (hF:∀ M W,I W->Calls Tryz.prog 198 #[M.v,v] W fun e w'=>e=.returned (.bool (p M))/\Below W.heap.size W w') :
  Calls Tryz.prog 197 #[.slice A n c,.func (.func 198) #[] #[v]] w fun e w'=>e=.returned (.int .i64 (fxN p l))/\Below w.heap.size w w':=by
 obtain ⟨rfl,hm1,hm2⟩:=hv.len
 have hL:l.length<=9223372036854775807:=by unfold maxLen at hm2;omega
 have HV:=Lh hv
 have HI:=Lh hI
 have HK:=Lh hK
 have HFF:=Lh hF
 have HB:=Lh (Below.refl w.heap.size w)
 clear hv hm1 hm2 hI hK hF
 go_enter Tryz.func197,Tryz.ntmps197
 go_wp2
 go_loopw [8] (fun i wr=>∃ k:Nat,k<=l.length/\i=.int .i64 k/\Below w.heap.size w wr/\I wr/\∀ j (hj:j<l.length),j<k->p l[j]=false) (fun i _=>l.length - (intOf i).toNat)
 case atStart=>exact ⟨0,by omega,rfl,HB.out,HI.out,fun j _ h=>absurd h (by omega)⟩
 case round=>
  obtain ⟨k,hk,rfl,hb,hi,hno⟩:=hrel
  have HN:=Lh hno
  have HVK:=Lh (HV.out.below hb)
  have HIK:=Lh hi
  have HB:=Lh hb
  clear hno hb hi
  by_cases hlt:k<l.length
  ·obtain ⟨b,o,rfl,hb,c0,c1,c2,c3,c4,c5,c6⟩:=HVK.out.at_ hlt
   cases he:p l[k] with
   | true=>
    have HR:=Lh (fxN_hit hlt he HN.out)
    have HC:=Lh (fun W (h:I W)=>HFF.out l[k] W h)
    rw [he] at HC
    clear he
    generalize l[k]=M at*
    go_wp2_with fail
    refine (HC.out _ HIK.out).mono ?_
    rintro e w1 ⟨rfl,hb1⟩
    have HB1:=Lh (HB.out.trans (hb1.mono HB.out.size))
    clear hb1
    go_wp2
    go_ret
    exact ⟨by rw [HR.out];rfl,HB1.out⟩
   | false=>
    have HC:=Lh (fun W (h:I W)=>HFF.out l[k] W h)
    rw [he] at HC
    have HNN:=Lh (show ∀ j (hj:j<l.length),j<k+1->p l[j]=false from fun j hj h=>by
     by_cases e:j=k
     ·subst e;exact he
     ·exact HN.out j hj (by omega))
    clear he
    generalize l[k]=M at*
    go_wp2_with fail
    refine (HC.out _ HIK.out).mono ?_
    rintro e w1 ⟨rfl,hb1⟩
    have HB1:=Lh (HB.out.trans (hb1.mono HB.out.size))
    have HI1:=Lh (HK.out _ _ HIK.out hb1)
    clear hb1
    go_wp2
    go_roundw
    case rel=>exact ⟨k+1,by omega,by go_num,HB1.out,HI1.out,HNN.out⟩
    case measure=>simp [intOf];omega
  ·have HR:=Lh (fxN_none (p:=p) (fun j hj=>HN.out j hj (by omega)))
   go_wp2
   go_ret
   exact ⟨by rw [HR.out];rfl,HB.out⟩
theorem cofuncH (A:Option Addr) (n c:Nat) (l:List Msg) (v:Value) (p:Msg->Bool) (I:World->Prop) (w:World) (hv:Ls w w.heap.size (.slice A n c) l) (hI:I w) (hK:∀ W W',I W->Below W.heap.size W W'->I W')
  (hF:∀ M W,I W->Calls Tryz.prog 198 #[M.v,v] W fun e w'=>e=.returned (.bool (p M))/\Below W.heap.size W w') :
  Calls Tryz.prog 178 #[.slice A n c,.func (.func 198) #[] #[v]] w fun e w'=>e=.returned (.bool (l.any p))/\Below w.heap.size w w':=by
 have HC:=Lh (ixfuncH A n c l v p I w hv hI hK hF)
 have HG:=Lh (fxN_ge (p:=p) (l:=l))
 clear hv hI hK hF
 generalize l.any p=b at*
 generalize fxN p l=x at*
 go_enter Tryz.func178,Tryz.ntmps178
 go_wp2_with fail
 refine HC.out.mono ?_
 rintro e w1 ⟨rfl,hb⟩
 have HB:=Lh hb
 clear hb
 go_wp2
 go_ret
 exact ⟨by rw [<-HG.out];rfl,HB.out⟩
theorem ixfuncV (A:Option Addr) (n c:Nat) (l:List Msg) (v:Value) (p:Msg->Bool) (I:World->Prop) (w:World) (hv:Ls w w.heap.size (.slice A n c) l) (hI:I w) (hK:∀ W W',I W->Below W.heap.size W W'->I W')
  (hF:∀ M W,I W->Calls Tryz.prog 179 #[M.v,v] W fun e w'=>e=.returned (.bool (p M))/\Below W.heap.size W w') :
  Calls Tryz.prog 197 #[.slice A n c,.func (.func 179) #[] #[v]] w fun e w'=>e=.returned (.int .i64 (fxN p l))/\Below w.heap.size w w':=by
 obtain ⟨rfl,hm1,hm2⟩:=hv.len
 have hL:l.length<=9223372036854775807:=by unfold maxLen at hm2;omega
 have HV:=Lh hv
 have HI:=Lh hI
 have HK:=Lh hK
 have HFF:=Lh hF
 have HB:=Lh (Below.refl w.heap.size w)
 clear hv hm1 hm2 hI hK hF
 go_enter Tryz.func197,Tryz.ntmps197
 go_wp2
 go_loopw [8] (fun i wr=>∃ k:Nat,k<=l.length/\i=.int .i64 k/\Below w.heap.size w wr/\I wr/\∀ j (hj:j<l.length),j<k->p l[j]=false) (fun i _=>l.length - (intOf i).toNat)
 case atStart=>exact ⟨0,by omega,rfl,HB.out,HI.out,fun j _ h=>absurd h (by omega)⟩
 case round=>
  obtain ⟨k,hk,rfl,hb,hi,hno⟩:=hrel
  have HN:=Lh hno
  have HVK:=Lh (HV.out.below hb)
  have HIK:=Lh hi
  have HB:=Lh hb
  clear hno hb hi
  by_cases hlt:k<l.length
  ·obtain ⟨b,o,rfl,hb,c0,c1,c2,c3,c4,c5,c6⟩:=HVK.out.at_ hlt
   cases he:p l[k] with
   | true=>
    have HR:=Lh (fxN_hit hlt he HN.out)
    have HC:=Lh (fun W (h:I W)=>HFF.out l[k] W h)
    rw [he] at HC
    clear he
    generalize l[k]=M at*
    go_wp2_with fail
    refine (HC.out _ HIK.out).mono ?_
    rintro e w1 ⟨rfl,hb1⟩
    have HB1:=Lh (HB.out.trans (hb1.mono HB.out.size))
    clear hb1
    go_wp2
    go_ret
    exact ⟨by rw [HR.out];rfl,HB1.out⟩
   | false=>
    have HC:=Lh (fun W (h:I W)=>HFF.out l[k] W h)
    rw [he] at HC
    have HNN:=Lh (show ∀ j (hj:j<l.length),j<k+1->p l[j]=false from fun j hj h=>by
     by_cases e:j=k
     ·subst e;exact he
     ·exact HN.out j hj (by omega))
    clear he
    generalize l[k]=M at*
    go_wp2_with fail
    refine (HC.out _ HIK.out).mono ?_
    rintro e w1 ⟨rfl,hb1⟩
    have HB1:=Lh (HB.out.trans (hb1.mono HB.out.size))
    have HI1:=Lh (HK.out _ _ HIK.out hb1)
    clear hb1
    go_wp2
    go_roundw
    case rel=>exact ⟨k+1,by omega,by go_num,HB1.out,HI1.out,HNN.out⟩
    case measure=>simp [intOf];omega
  ·have HR:=Lh (fxN_none (p:=p) (fun j hj=>HN.out j hj (by omega)))
   go_wp2
   go_ret
   exact ⟨by rw [HR.out];rfl,HB.out⟩
theorem cofuncV (A:Option Addr) (n c:Nat) (l:List Msg) (v:Value) (p:Msg->Bool) (I:World->Prop) (w:World) (hv:Ls w w.heap.size (.slice A n c) l) (hI:I w) (hK:∀ W W',I W->Below W.heap.size W W'->I W')
  (hF:∀ M W,I W->Calls Tryz.prog 179 #[M.v,v] W fun e w'=>e=.returned (.bool (p M))/\Below W.heap.size W w') :
  Calls Tryz.prog 178 #[.slice A n c,.func (.func 179) #[] #[v]] w fun e w'=>e=.returned (.bool (l.any p))/\Below w.heap.size w w':=by
 have HC:=Lh (ixfuncV A n c l v p I w hv hI hK hF)
 have HG:=Lh (fxN_ge (p:=p) (l:=l))
 clear hv hI hK hF
 generalize l.any p=b at*
 generalize fxN p l=x at*
 go_enter Tryz.func178,Tryz.ntmps178
 go_wp2_with fail
 refine HC.out.mono ?_
 rintro e w1 ⟨rfl,hb⟩
 have HB:=Lh hb
 clear hb
 go_wp2
 go_ret
 exact ⟨by rw [<-HG.out];rfl,HB.out⟩
end Go.Proofs.YtkecnihgjepfeaaGreat
/- Plain: a list of messages that is cut at both ends and appended to. -/
namespace Go.Proofs.YtkecnihgjepfeaaGreat
open Go.RowKit
set_option linter.unusedVariables false
set_option linter.unusedSimpArgs false
set_option maxHeartbeats 8000000
set_option maxRecDepth 20000
def Wn (W:World) (base Bd:Nat) (v:Value) (l:List Msg):Prop:=∃ A c,v=.slice A l.length c/\l.length<=c/\c<=maxLen/\(A=none->c=0)/\
 (0<c->∃ b o,A=some ⟨b,o,none⟩/\base<=b/\b<Bd/\(∀ j u,(lcs l)[j]? = some u->W.cell? ⟨b,o+j,none⟩=some u)/\∀ j,j<c*7->(W.cell? ⟨b,o+j,none⟩).isSome=true/\W.frozen? ⟨b,o+j,none⟩=false)
section
variable {W W' : World} {base Bd Bd' : Nat} {v:Value} {l:List Msg} {A:Option Addr} {n c:Nat}
theorem Wn.nil:Wn W base Bd (.slice none 0 0) []:=⟨none,0,rfl,nLR _,Nat.zero_le _,fun _=>rfl,fun h=>absurd h (by omega)⟩
theorem Wn.more (h:Wn W base Bd v l) (hB:Bd<=Bd'):Wn W base Bd' v l:=by
 obtain ⟨A,c,e,h1,h2,h3,h4⟩:=h
 exact ⟨A,c,e,h1,h2,h3,fun h0=>by obtain ⟨b,o,e,k1,k2,k3⟩:=h4 h0;exact ⟨b,o,e,k1,by omega,k3⟩⟩
theorem Wn.keep (h:Wn W base Bd v l) (hc:∀ b o,base<=b->b<Bd->W'.cell? ⟨b,o,none⟩=W.cell? ⟨b,o,none⟩/\W'.frozen? ⟨b,o,none⟩=W.frozen? ⟨b,o,none⟩):Wn W' base Bd v l:=by
 obtain ⟨A,c,e,h1,h2,h3,h4⟩:=h
 refine ⟨A,c,e,h1,h2,h3,fun h0=>?_⟩
 obtain ⟨b,o,e,k1,k2,k3,k4⟩:=h4 h0
 exact ⟨b,o,e,k1,k2,fun j u hu=>(hc b _ k1 k2).1.trans (k3 j u hu),fun j hj=>⟨by rw [(hc b (o+j) k1 k2).1];exact (k4 j hj).1,(hc b (o+j) k1 k2).2.trans (k4 j hj).2⟩⟩
theorem Wn.below (h:Wn W base Bd v l) (hB:Bd<=W.heap.size) (hb:Below W.heap.size W W'):Wn W' base Bd v l:=
 h.keep fun b o _ h2=>⟨hb.cell (p:=⟨b,o,none⟩) (by show b<_;omega),hb.frozen (p:=⟨b,o,none⟩) (by show b<_;omega)⟩
theorem Wn.alloc (h:Wn W base Bd v l) (hB:Bd<=W.heap.size) (o:Obj):Wn (W.alloc o) base Bd v l:=h.below hB ((Below.refl _ _).alloc (nLR _) o)
theorem Wn.ls (h:Wn W base Bd v l):Ls W Bd v l:=by
 obtain ⟨A,c,e,h1,h2,h3,h4⟩:=h
 refine ⟨A,c,e,h1,h2,by rw [lcs_len],fun h0=>?_⟩
 obtain ⟨b,o,e,k1,k2,k3,_⟩:=h4 (by omega)
 exact ⟨b,o,e,k2,k3⟩
theorem Wn.form (h:Wn W base Bd v l):∃ A c,v=.slice A l.length c:=by obtain ⟨A,c,e,_⟩:=h;exact ⟨A,c,e⟩
theorem Wn.own {base' : Nat} {e:TypeId} (h:W.ownsRow base' e 7 v l.length (lcs l)) (hb:base<=base'):Wn W base W.heap.size v l:=by
 rcases h.2 with ⟨hv,h0⟩ | ⟨g,cap,cur,hv,hg,hh,hl,hm,hs,ht⟩
 ·have hl:l=[]:=List.length_eq_zero_iff.1 h0
  subst hl
  subst hv
  exact Wn.nil
 ·subst hv
  refine ⟨_,cap,rfl,hl,hm,fun h=>by simp at h,fun _=>⟨g,0,rfl,by omega,(Array.getElem?_eq_some_iff.1 hh).1,fun j u hu=>by have:=h.cells (g:=g) rfl j u hu;rwa [add_mk] at this,fun j hj=>⟨?_,by rw [Nat.zero_add];exact h.frozenAt j⟩⟩⟩
  rw [Nat.zero_add]
  have hj' : j<cur.size:=by omega
  simp [World.cell?,hh,hj']
theorem only_sets {a w:World} {g:Nat}:∀ (vs:List Value) (m:Nat) (w:World),a.grownBy w (some g)->a.grownBy (w.setCells g m vs) (some g)
 | [],_,_,h=>h
 | v::r,m,w,h=>only_sets (w:=w) r (m+1) _ (only_set h (p:=⟨g,m,none⟩) (.inl rfl) v)
theorem Wn.room (h:Wn W base Bd (.slice A l.length c) l) (hc:l.length+1<=c) {b o:Nat} (hA:A=some ⟨b,o,none⟩) (M:Msg):Wn (W.setCells b (o+l.length*7) M.l) base Bd (.slice A (l.length+1) c) (l++[M]):=by
 obtain ⟨A',c',e,h1,h2,h3,h4⟩:=h
 injection e with e1 e2 e3
 subst e1;subst e3
 refine ⟨A,c,by simp,by simpa using hc,h2,h3,fun h0=>?_⟩
 obtain ⟨b',o',e,k1,k2,k3,k4⟩:=h4 h0
 rw [hA] at e
 injection e with e
 injection e with e1 e2 _
 subst e1;subst e2
 refine ⟨b,o,hA,k1,k2,fun j u hu=>?_,fun j hj=>⟨?_,by rw [World.frozen?_setCells];exact (k4 j hj).2⟩⟩
 ·have hll:=lcs_len l
  rw [lcs_app] at hu
  by_cases hj:j<(lcs l).length
  ·rw [List.getElem?_append_left hj] at hu
   rw [World.cell?_setCells_out b M.l (o+l.length*7) W ⟨b,o+j,none⟩ (fun _ _=>by left;show o+j<o+l.length*7;omega)]
   exact k3 j u hu
  ·rw [List.getElem?_append_right (by omega)] at hu
   have hM:lcs [M]=M.l:=by simp [lcs]
   rw [hM] at hu
   have hjl:j - (lcs l).length<7:=(List.getElem?_eq_some_iff.1 hu).1
   have e:o+j=o+l.length*7+(j - (lcs l).length):=by omega
   rw [e,World.cell?_setCells_in b M.l (o+l.length*7) W (fun i hi=>by rw [Nat.add_assoc];exact (k4 (l.length*7+i) (by rw [Msg.l_len] at hi;omega)).1) (j - (lcs l).length) (by rw [Msg.l_len];exact hjl)]
   rw [<-hu]
   exact (List.getElem?_eq_getElem _).symm
 ·by_cases hj2:l.length*7<=j/\j<l.length*7+7
  ·have e:o+j=o+l.length*7+(j - l.length*7):=by omega
   rw [e,World.cell?_setCells_in b M.l (o+l.length*7) W (fun i hi=>by rw [Nat.add_assoc];exact (k4 (l.length*7+i) (by rw [Msg.l_len] at hi;omega)).1) (j - l.length*7) (by rw [Msg.l_len];omega)]
   rfl
  ·rw [World.cell?_setCells_out b M.l (o+l.length*7) W ⟨b,o+j,none⟩ (fun _ _=>by rw [Msg.l_len];show o+j<o+l.length*7\/o+l.length*7+7<=o+j;omega)]
   exact (k4 j hj).1
end
theorem wpList_append_wn {P:Program} (w:World) {ops:Array Oper} {rest:List Oper} {o:Oper} {a:Act} {Q:Exit->Act->World->Prop}
  (hg:o.guard=none) (s x:Operand) (t:TypeId) (hop:o.op=Op.call { callee:=Callee.builtin Builtin.append,args:=#[s,x],argTypes:=#[t,t] })
  (e:TypeId) (i:TypeInfo) (z:Value) (bytes:Nat) (h1:P.underlying t=some (.slice e)) (h2:P.info? e=some i) (h3:i.zero=some z) (h4:i.size=7) (h5:i.bytes=bytes) (h6:z.cells.size=7)
  (base Bd:Nat) (A:Option Addr) (c:Nat) (l:List Msg) (hs:a.eval s=.slice A l.length c) (hw:Wn w base Bd (.slice A l.length c) l) (hbs:base<=w.heap.size) (hBd:Bd<=w.heap.size)
  (ad:Addr) (cx:Nat) (M:Msg) (hx:a.eval x=.slice (some ad) 1 cx) (hc:∀ j u,M.l[j]? = some u->w.cell? (ad.add j)=some u)
  (b1:l.length+1<=maxLen) (b2:(l.length+1)*bytes<=140737488355328)
  (h:∀ v' w',Wn w' base w'.heap.size v' (l++[M])->(∃ row,w.grownBy w' row/\∀ q,row=some q->base<=q/\q<Bd)->wpList P ops Q rest (a.put o.dst v') w') :
  wpList P ops Q (o::rest) a w:=by
 have hM:M.l.length=1*7:=rfl
 have hnone:∀ q,(none:Option Nat)=some q->base<=q/\q<Bd:=fun q e=>by cases e
 have hown:∀ v' w',w'.ownsRow w.heap.size e 7 v' (l.length+1) (lcs l++M.l)->Wn w' base w'.heap.size v' (l++[M]):=fun v' w' h=>by
  refine Wn.own (base':=w.heap.size) (e:=e) ?_ hbs
  have hM1:lcs [M]=M.l:=by simp [lcs]
  rw [lcs_app,hM1,List.length_append]
  exact h
 obtain ⟨A',c',e',k1,k2,k3,k4⟩:=id hw
 injection e' with e1 _ e3
 subst e1;subst e3
 by_cases h0:0<c
 ·obtain ⟨b,off,rfl,p1,p2,p3,p4⟩:=k4 h0
  refine wpList_append_arg w hg s x t hop e i z 7 bytes h1 h2 h3 h4 h5 h6 (by omega) b off l.length c (lcs l) hs (lcs_len l) p3 ad 1 cx M.l hx hM hc M.l_one (fun hr j hj=>by rw [Nat.add_assoc];exact p4 (l.length*7+j) (by rw [Msg.l_len] at hj;omega)) b1 b2 (fun hr=>?_) (fun hr v' w' ho hgr=>h v' w' (hown v' w' ho) ⟨none,hgr,hnone⟩)
  refine h _ _ ?_ ⟨some b,only_sets (w:=w) _ _ _ (World.grownBy.refl w (some b)),fun q e=>by injection e with e;subst e;exact ⟨p1,p2⟩⟩
  exact (hw.room hr rfl M).more (by rw [sets_size];exact hBd)
 ·have hl0:l=[]:=List.length_eq_zero_iff.1 (by omega)
  subst hl0
  refine wpList_append_grows w hg s x t hop e i z 7 bytes h1 h2 h3 h4 h5 h6 (by omega) A 0 c [] hs (fun hn=>⟨rfl,k3 hn⟩) rfl (fun b _ j u hu=>by simp at hu) ad 1 cx M.l hx hM hc M.l_one (by omega) b1 b2 (fun v' w' ho hgr=>h v' w' (hown v' w' (by simpa [lcs] using ho)) ⟨none,hgr,hnone⟩)
end Go.Proofs.YtkecnihgjepfeaaGreat
namespace Go.Proofs.YtkecnihgjepfeaaGreat
open Go.RowKit
set_option linter.unusedVariables false
set_option linter.unusedSimpArgs false
set_option maxHeartbeats 8000000
set_option maxRecDepth 20000
def LsW (l:List Msg) (w:World) (e:Ending) (w' : World):Prop:=∃ A c,e=.returned (.slice A l.length c)/\Wn w' w.heap.size w'.heap.size (.slice A l.length c) l/\Below w.heap.size w w'
theorem Wn.base {W:World} {base base' Bd:Nat} {v:Value} {l:List Msg} (h:Wn W base Bd v l) (hb:base'<=base):Wn W base' Bd v l:=by
 obtain ⟨A,c,e,h1,h2,h3,h4⟩:=h
 exact ⟨A,c,e,h1,h2,h3,fun h0=>by obtain ⟨b,o,e,k1,k2,k3⟩:=h4 h0;exact ⟨b,o,e,by omega,k2,k3⟩⟩
theorem wn_row {W:World} {q m base:Nat} {f:Nat->Msg} {l:List Msg} (h:MRow W q m f) (hb:base<=q) (hl:(List.range m).map f=l) (hm:m<=maxLen):Wn W base W.heap.size (.slice (some ⟨q,0,none⟩) l.length m) l:=by
 have hlen:l.length=m:=by rw [<-hl];simp
 have hls:=h.ls m m (nLR _) (nLR _) hm
 rw [hl] at hls
 refine ⟨_,m,rfl,by omega,hm,(fun e=>by cases e),fun h0=>⟨q,0,rfl,hb,h.1,fun j u hu=>?_,fun j hj=>⟨?_,h.2.2 _⟩⟩⟩
 ·obtain ⟨b,o,e,_,hc⟩:=hls.rd.2 h0
  injection e with e
  injection e with e1 e2 _
  subst e1;subst e2
  exact hc j u hu
 ·rw [Nat.zero_add]
  have e:j=j / 7*7+j % 7:=by omega
  rw [e]
  exact (h.there (k:=j / 7) (by omega) (j % 7) (by omega)).1
theorem ordered_wn (A:Option Addr) (n c:Nat) (cs:List Msg) (hd sz:Nat) (w:World) (hv:Ls w w.heap.size (.slice A n c) cs) (hn:nmB cs.length hd sz=true) :
  Calls Tryz.prog 166 #[.agg #[.slice A n c,.int .i64 hd,.int .i64 sz]] w (LsW (ord cs hd sz) w):=by
 obtain ⟨rfl,hm1,hm2⟩:=hv.len
 obtain ⟨⟨n1,n2⟩,⟨h1,h2⟩,⟨s1,s2⟩⟩:=nm_of hn
 have hmk:=run_make_msgs sz (by omega)
 have HV:=Lh hv
 clear hv hn
 go_enter Tryz.func166,Tryz.ntmps166
 go_wp2
 have HS:=Lh (OrdAt.start w A cs.length c hd sz sz 66 79)
 obtain ⟨p,hp⟩:∃ p,p=w.heap.size:=⟨_,rfl⟩
 obtain ⟨q,hq⟩:∃ q,q=w.heap.size+1:=⟨_,rfl⟩
 rw [<-hq,<-hp] at HS ⊢
 have HPP:=Lh hp
 clear hmk hp hq
 go_loopw [10] (fun i wr=>∃ k:Nat,k<=sz/\i=.int .i64 k/\OrdAt w p A cs.length c hd sz q sz (fun j=>if j<k then cel cs hd j else zM) wr) (fun i _=>sz - (intOf i).toNat)
 case atStart=>exact ⟨0,by omega,rfl,HS.out.congr fun j _=>by simp⟩
 case round=>
  obtain ⟨k,hk,rfl,hrel⟩:=hrel
  have HR:=Lh hrel
  have HVK:=Lh (HV.out.below hrel.bel)
  clear hrel
  by_cases hlt:k<sz
  ·obtain ⟨m,hm⟩:∃ m,m=(hd+k) % cs.length:=⟨_,rfl⟩
   have hml:m<cs.length:=by rw [hm];exact Nat.mod_lt _ (by omega)
   have HX:=Lh (cel_get (by omega) m hm hml)
   have HPL:=Lh (fun w=>place_any A cs.length c hd sz k (by omega) (by omega) (by omega) (by omega) (by omega) (by omega) w)
   have hmi:((hd:Int)+(k:Int)) % (cs.length:Int)=(m:Int):=by rw [hm];simp
   rw [hmi] at HPL
   obtain ⟨b,o,rfl,hb,hc⟩:=HVK.out.at_ hml
   generalize cs[m]=X at*
   clear hm hmi
   obtain ⟨r0,r1,r2,hpl,hql⟩:=HR.out.facts
   have HC7:=Lh hc
   clear hc
   have hbw:b<wr.heap.size:=by have:=HPP.out;omega
   go_wp2
   have HST:=Lh (fun w1 (hb1:Below wr.drew.heap.size wr.drew w1)=>OrdAt.step (X:=X) HR.out hlt HC7.out hbw (drew_below hb1))
   have hzz:(if k<k then cel cs hd k else zM)=zM:=if_neg (by omega)
   simp only [hzz] at HST
   clear hzz
   go_region_with ((go_at_call 184;refine (HPL.out _).mono ?_;rintro e w1 ⟨rfl,hb1⟩;obtain ⟨HR1,⟨x0,x1,x2,hpl1,hql1⟩,⟨d0,d1,d2,d3,d4,d5,d6⟩,⟨z0,z1,z2,z3,z4,z5,z6⟩,⟨y0,y1,y2,y3,y4,y5,y6⟩⟩:=HST.out _ hb1;clear hb1))
   all_goals
    have HP:=Lh (HR1.out.put hlt X)
    clear d0 d1 d2 d3 d4 d5 d6 z0 z1 z2 z3 z4 z5 z6 y0 y1 y2 y3 y4 y5 y6
    go_wp2
    go_roundw
    case rel=>
     refine ⟨k+1,by omega,by go_num,HP.out.congr fun j hj=>?_⟩
     by_cases e:j=k
     ·subst e
      rw [if_pos rfl,if_pos (by omega),HX.out]
     ·rw [if_neg e]
      by_cases e' : j<k
      ·rw [if_pos e',if_pos (by omega)]
      ·rw [if_neg e',if_neg (by omega)]
    case measure=>simp [intOf];omega
  ·obtain rfl:k=sz:=by omega
   have HF:=Lh (HR.out.finish (l:=ord cs hd k) (by
    unfold ord
    exact List.map_congr_left fun j hj=>if_pos (List.mem_range.1 hj)) k (by omega) (nLR _) (by unfold maxLen;omega))
   have HW:=Lh (wn_row HR.out.row (show w.heap.size<=q by have:=HR.out.old;omega) (show (List.range k).map (fun j=>if j<k then cel cs hd j else zM)=ord cs hd k by
    unfold ord
    exact List.map_congr_left fun j hj=>if_pos (List.mem_range.1 hj)) (by unfold maxLen;omega))
   go_wp2
   go_ret
   exact ⟨_,k,by rw [ord_len];rfl,HW.out,HF.out.2⟩
theorem glist_wn (A:Option Addr) (n c:Nat) (cs:List Msg) (hd sz:Int) (w:World) (hv:Ls w w.heap.size (.slice A n c) cs) :
  Calls Tryz.prog 146 #[.agg #[.slice A n c,.int .i64 hd,.int .i64 sz]] w (LsW (lsF cs hd sz) w):=by
 obtain ⟨rfl,_,_⟩:=hv.len
 have HV:=Lh hv
 have HS:=Lh (RgAt.start w A cs.length c hd sz 66)
 have HG:=Lh (fun w1 (h:Ls w1 w1.heap.size (.slice A cs.length c) cs)=>gvalid_any A cs.length c cs hd sz w1 h)
 clear hv
 by_cases h0:rgV cs hd sz=0
 ·obtain ⟨hn,_,_,_⟩:=rgV_zero h0
  obtain ⟨⟨n1,n2⟩,⟨h1,h2⟩,⟨s1,s2⟩⟩:=nm_of hn
  obtain ⟨hd,rfl⟩:=Int.eq_ofNat_of_zero_le h1
  obtain ⟨sz,rfl⟩:=Int.eq_ofNat_of_zero_le s1
  have HO:=Lh (fun w1 (h:Ls w1 w1.heap.size (.slice A cs.length c) cs)=>ordered_wn A cs.length c cs hd sz w1 h hn)
  have HF:=Lh (show lsF cs hd sz=ord cs hd sz from if_pos h0)
  rw [h0] at HG
  clear h0 hn n1 n2 h1 h2 s1 s2
  go_enter Tryz.func146,Tryz.ntmps146
  go_wp2_with fail
  refine (HG.out _ ((HV.out.below HS.out.bel).more HS.out.bel.size)).mono ?_
  rintro e w1 ⟨rfl,hb⟩
  have HR1:=Lh (HS.out.below hb)
  obtain ⟨r0,r1,r2,hp⟩:=HR1.out.facts
  clear hb
  go_wp2_with fail
  refine (HO.out _ ((HV.out.below HR1.out.bel).more HR1.out.bel.size)).mono ?_
  rintro e w2 ⟨A2,c2,rfl,hl,hb⟩
  have HL:=Lh (Wn.base (show Wn _ _ _ _ _ from hl) HR1.out.bel.size)
  have HB:=Lh (HR1.out.bel.trans (hb.mono HR1.out.bel.size))
  clear hl hb
  go_wp2
  go_ret
  rw [HF.out]
  exact ⟨_,_,rfl,HL.out,HB.out⟩
 ·have HF:=Lh (show lsF cs hd sz=[] from if_neg h0)
  have hne:(rgV cs hd sz != 0)=true:=bne_iff_ne.2 h0
  generalize rgV cs hd sz=x at*
  clear h0
  go_enter Tryz.func146,Tryz.ntmps146
  go_wp2_with fail
  refine (HG.out _ ((HV.out.below HS.out.bel).more HS.out.bel.size)).mono ?_
  rintro e w1 ⟨rfl,hb⟩
  have HR1:=Lh (HS.out.below hb)
  clear hb
  go_wp2
  go_ret
  rw [HF.out]
  exact ⟨none,0,rfl,Wn.nil,HR1.out.bel⟩
def IdAt (q:Nat) (id:Int) (W:World):Prop:=q<W.heap.size/\W.cell? ⟨q,0,none⟩=some (.int .i64 id)
theorem IdAt.below {q:Nat} {id:Int} (W W' : World) (h:IdAt q id W) (hb:Below W.heap.size W W'):IdAt q id W':=⟨Nat.lt_of_lt_of_le h.1 hb.size,(hb.cell (p:=⟨q,0,none⟩) h.1).trans h.2⟩
theorem sameid1_any (q:Nat) (id:Int) (M:Msg) (w:World) (h:IdAt q id w) :
  Calls Tryz.prog 198 #[M.v,.pointer (some ⟨q,0,none⟩)] w fun e w'=>e=.returned (.bool (M.id==id))/\Below w.heap.size w w':=by
 have HB:=Lh ((Below.refl w.heap.size w).alloc (nLR _) (.cells M.cs 79))
 obtain ⟨hq,hc⟩:=h
 go_enter Tryz.func198,Tryz.ntmps198
 go_wp2
 go_ret
 exact ⟨rfl,HB.out⟩
theorem dup_any {l:List Msg} {k:Nat} (hk:k<l.length):((l.take k).any (fun N=>N.id==l[k].id)=true->dupP l)/\((l.take k).any (fun N=>N.id==l[k].id)=false->∀ i (hi:i<l.length),i<k->l[i].id≠l[k].id):=by
 constructor
 ·intro h
  obtain ⟨N,hN,e⟩:=List.any_eq_true.1 h
  rw [List.mem_take_iff_getElem] at hN
  obtain ⟨i,hi,rfl⟩:=hN
  exact ⟨i,k,by omega,hk,by omega,by simpa using e⟩
 ·intro h i hi hik e
  rw [List.any_eq_false] at h
  refine h l[i] ?_ (by simpa using e)
  rw [List.mem_take_iff_getElem]
  exact ⟨i,by omega,rfl⟩
theorem ssameid_any (A:Option Addr) (n c:Nat) (l:List Msg) (w:World) (hv:Ls w w.heap.size (.slice A n c) l) :
  Calls Tryz.prog 181 #[.slice A n c] w fun e w'=>e=.returned (.bool (dpB l))/\Below w.heap.size w w':=by
 obtain ⟨rfl,hm1,hm2⟩:=hv.len
 have hL:l.length<=9223372036854775807:=by unfold maxLen at hm2;omega
 have HC:=Lh hm1
 have HV:=Lh hv
 have HB:=Lh (Below.refl w.heap.size w)
 have hmf:∀ (fn:Fn) (first cap:Array Value) (w:World),(Instr.makeFunc fn first cap).run Tryz.prog w=.ok (.func fn first cap) w:=fun _ _ _ _=>rfl
 clear hv hm1 hm2
 go_enter Tryz.func181,Tryz.ntmps181
 go_wp2
 go_loopw [7] (fun i wr=>∃ k:Nat,k<=l.length/\i=.int .i64 k/\Below w.heap.size w wr/\∀ i j (hi:i<l.length) (hj:j<l.length),i<j->j<k->l[i].id≠l[j].id) (fun i _=>l.length - (intOf i).toNat)
 case atStart=>exact ⟨0,by omega,rfl,HB.out,fun i j _ _ _ h=>absurd h (by omega)⟩
 case round=>
  obtain ⟨k,hk,rfl,hb,hno⟩:=hrel
  have HN:=Lh hno
  have HVK:=Lh (HV.out.below hb)
  have HB:=Lh hb
  clear hno hb
  by_cases hlt:k<l.length
  ·have HD:=Lh (dup_any hlt)
   have hcut:=run_lupto A l.length c .i64 k (by have:=HC.out;omega)
   have HVA:=Lh (((HVK.out.alloc HB.out.size (.cells (l[k]).cs 79)).upto k hk).more (show w.heap.size<=(wr.alloc (.cells (l[k]).cs 79)).heap.size by have:=HB.out.size;simp;omega))
   have HBA:=Lh (HB.out.alloc HB.out.size (.cells (l[k]).cs 79))
   have HCF:=Lh (cofuncH A k c (l.take k) (.pointer (some ⟨wr.heap.size,0,none⟩)) (fun N=>N.id==l[k].id) (IdAt wr.heap.size l[k].id) (wr.alloc (.cells (l[k]).cs 79)) HVA.out ⟨by simp,by simp [Msg.cs,go_sem]⟩ IdAt.below (fun M W h=>sameid1_any _ _ M W h))
   obtain ⟨b,o,rfl,hb,c0,c1,c2,c3,c4,c5,c6⟩:=HVK.out.at_ hlt
   cases he:(l.take k).any (fun N=>N.id==l[k].id) with
   | true=>
    have HY:=Lh (dpB_yes (HD.out.1 he))
    rw [he] at HCF
    clear he HD HVA
    generalize l[k]=X at*
    go_wp2_with fail
    refine HCF.out.mono ?_
    rintro e w1 ⟨rfl,hb1⟩
    have HB1:=Lh (HBA.out.trans (hb1.mono HBA.out.size))
    clear hb1
    go_wp2
    go_ret
    exact ⟨by rw [HY.out];rfl,HB1.out⟩
   | false=>
    have HNN:=Lh (HD.out.2 he)
    rw [he] at HCF
    clear he HD HVA
    generalize hX:l[k]=X at*
    have HX:=Lh hX
    clear hX
    go_wp2_with fail
    refine HCF.out.mono ?_
    rintro e w1 ⟨rfl,hb1⟩
    have HB1:=Lh (HBA.out.trans (hb1.mono HBA.out.size))
    clear hb1
    go_wp2
    go_roundw
    case rel=>
     refine ⟨k+1,by omega,by go_num,HB1.out,fun i j hi hj hij hjk=>?_⟩
     by_cases e:j=k
     ·subst e
      rw [HX.out]
      exact HNN.out i hi hij
     ·exact HN.out i j hi hj hij (by omega)
    case measure=>simp [intOf];omega
  ·have HY:=Lh (dpB_no (l:=l) (by rintro ⟨i,j,hi,hj,hij,e⟩;exact HN.out i j hi hj hij (by omega) e))
   go_wp2
   go_ret
   exact ⟨by rw [HY.out];rfl,HB.out⟩
theorem lsF_le (cs:List Msg) (hd sz:Int):(lsF cs hd sz).length<=12:=by
 unfold lsF
 by_cases h:rgV cs hd sz=0
 ·rw [if_pos h,ord_len]
  have:=(nm_of (rgV_zero h).1)
  omega
 ·rw [if_neg h];simp
theorem take_map_succ {l:List Le} {k:Nat} (h:k<l.length) (L:List Msg):L++(l.take (k+1)).map Le.m=(L++(l.take k).map Le.m)++[l[k].m]:=by
 rw [<-List.take_append_getElem h,List.map_append,<-List.append_assoc]
 rfl
theorem msg_row (w:World) (M:Msg) (t:TypeId):∀ j u,M.l[j]? = some u->(w.alloc (.cells #[.int .i64 M.id,.int .i64 M.rt,.int .i64 M.ep,.int .i64 M.ct,.int .i64 M.gn,.int .i64 M.st,.string M.bd] t)).cell? ((⟨w.heap.size,0,none⟩:Addr).add j)=some u:=fun j u hu=>by
 rw [add_mk,Nat.zero_add,World.cell?_alloc_new]
 simpa [Msg.l] using hu
theorem smsgs_any (S:Sh) (D:Sx) (w:World) (hs:SR w w.heap.size S D) (h12:S.l.length<=1000) :
  Calls Tryz.prog 177 #[sv S D] w (LsW S.al w):=by
 obtain ⟨i0,hi0,hz0⟩:=Option.map_eq_some_iff.1 info_msg
 simp only [Prod.mk.injEq] at hz0
 have HI:=Lh hi0
 have HZ:=Lh hz0
 have H0:=Lh (SAt.start 72 hs)
 have HLF:=Lh (lsF_le S.cs S.hd S.sz)
 have HG:=Lh (fun p W (k:SAt w p S D W)=>glist_wn D.A S.cs.length D.c S.cs S.hd S.sz W k.sr.ls)
 have HAL:=Lh (show S.al=lsF S.cs S.hd S.sz++(S.l.take S.l.length).map Le.m by rw [List.take_length];rfl)
 have HE0:=Lh hs.el
 have hL:S.l.length<=9223372036854775807:=by omega
 clear hs hi0 hz0
 generalize hLL:lsF S.cs S.hd S.sz=L at*
 clear hLL
 go_enter Tryz.func177,Tryz.ntmps177
 obtain ⟨t0,t1,t2,t3,t4,t5,t6,t7,tl⟩:=H0.out.s8.facts
 go_wp2_with fail
 clear t0 t1 t2 t3 t4 t5 t6 t7 tl
 obtain ⟨p,hp⟩:∃ p,p=w.heap.size:=⟨_,rfl⟩
 have HPW:=Lh hp
 rw [<-hp]
 rw [<-hp] at H0
 clear hp
 generalize w.alloc (.cells #[.bool S.lv,.int .i64 S.lo,.int .i64 S.hi,.slice D.A S.cs.length D.c,.int .i64 S.hd,.int .i64 S.sz,.slice D.A2 S.l.length D.c2,.slice D.A3 S.h.length D.c3] 72)=w1 at*
 refine (HG.out _ _ H0.out).mono ?_
 rintro e w2 ⟨A1,c1,rfl,hw,hb⟩
 have H1:=Lh (H0.out.below hb)
 have HW1:=Lh (Wn.base hw (show p+1<=w1.heap.size from H0.out.lt))
 clear hb hw
 obtain ⟨t0,t1,t2,t3,t4,t5,t6,t7,tl⟩:=H1.out.s8.facts
 go_wp2
 clear t0 t1 t2 t3 t4 t5 t6 t7 tl
 go_loopw [3,13] (fun lv i wr=>∃ k:Nat,k<=S.l.length/\i=.int .i64 k/\p<wr.heap.size/\Below w.heap.size w wr/\∃ A c,lv=.slice A (L++(S.l.take k).map Le.m).length c/\Wn wr (p+1) wr.heap.size (.slice A (L++(S.l.take k).map Le.m).length c) (L++(S.l.take k).map Le.m)) (fun _ i _=>S.l.length - (intOf i).toNat)
 case atStart=>
  refine ⟨0,Nat.zero_le _,rfl,H1.out.lt,H1.out.bel,A1,c1,?_,?_⟩
  ·simp
  ·simpa using HW1.out
 case round=>
  obtain ⟨k,hk,rfl,hpl,hb,A,c,rfl,hw⟩:=hrel
  have HW:=Lh hw
  have HB:=Lh hb
  have HEK:=Lh (HE0.out.below hb)
  clear hw hb
  by_cases hlt:k<S.l.length
  ·have HS:=Lh (take_map_succ hlt L)
   have hln:(L++(S.l.take k).map Le.m).length<=2000:=by simp;have:=HLF.out;omega
   obtain ⟨b,o,hA2,hbl,hc⟩:=HEK.out.at_ hlt
   generalize (L++(S.l.take k).map Le.m)=K at*
   generalize hX:S.l[k]=X at*
   clear hX
   rw [hA2]
   clear hA2
   obtain ⟨c0,c1,c2,c3,c4,c5,c6,c7⟩:=hc
   have HWA:=Lh ((HW.out.alloc (nLR _) (.cells #[.int .i64 X.m.id,.int .i64 X.m.rt,.int .i64 X.m.ep,.int .i64 X.m.ct,.int .i64 X.m.gn,.int .i64 X.m.st,.string X.m.bd,.int .i64 X.dl] 152)).alloc (by simp) (.cells #[.int .i64 X.m.id,.int .i64 X.m.rt,.int .i64 X.m.ep,.int .i64 X.m.ct,.int .i64 X.m.gn,.int .i64 X.m.st,.string X.m.bd] 79))
   have HBA:=Lh ((HB.out.alloc HB.out.size (.cells #[.int .i64 X.m.id,.int .i64 X.m.rt,.int .i64 X.m.ep,.int .i64 X.m.ct,.int .i64 X.m.gn,.int .i64 X.m.st,.string X.m.bd,.int .i64 X.dl] 152)).alloc (by have:=HB.out.size;simp;omega) (.cells #[.int .i64 X.m.id,.int .i64 X.m.rt,.int .i64 X.m.ep,.int .i64 X.m.ct,.int .i64 X.m.gn,.int .i64 X.m.st,.string X.m.bd] 79))
   go_wp2_with (at_builtin;refine wpList_append_wn _ rfl (.tmp 17) (.tmp 20) 27 rfl 79 i0 _ 64 Tryz.underlying27 HI.out HZ.out.1 HZ.out.2.1 HZ.out.2.2 rfl (p+1) wr.heap.size A c K rfl HWA.out (by simp;omega) (by simp;omega) ⟨wr.heap.size+1,0,none⟩ 1 X.m rfl (fun j u hu=>by have:=msg_row (wr.alloc (.cells #[.int .i64 X.m.id,.int .i64 X.m.rt,.int .i64 X.m.ep,.int .i64 X.m.ct,.int .i64 X.m.gn,.int .i64 X.m.st,.string X.m.bd,.int .i64 X.dl] 152)) X.m 79 j u hu;simpa using this) (by unfold maxLen;omega) (by omega) ?_;intro v3 w3 hwn hgr)
   obtain ⟨row,hgr,hrow⟩:=hgr
   have HB3:=Lh (HBA.out.grown hgr HBA.out.size (fun q e=>by have:=hrow q e;have:=HPW.out;omega))
   have HP3:=Lh (show p<w3.heap.size by have:=hgr.size;simp at this;omega)
   obtain ⟨A3,c3',hv3⟩:=hwn.form
   subst hv3
   have HW3:=Lh hwn
   clear hwn hgr hrow
   go_wp2
   go_roundw
   case rel=>exact ⟨k+1,by omega,by go_num,HP3.out,HB3.out,A3,c3',by rw [HS.out],by rw [HS.out];exact HW3.out⟩
   case measure=>simp [intOf];omega
  ·obtain rfl:k=S.l.length:=by omega
   go_wp2
   go_ret
   exact ⟨A,c,by rw [HAL.out];rfl,by rw [HAL.out];exact Wn.base HW.out (by have:=HPW.out;omega),HB.out⟩
theorem leaseerr_any (X:Le) (w:World):Calls Tryz.prog 190 #[X.v] w fun e w'=>e=.returned (.int .i64 (leE X))/\Below w.heap.size w w':=by
 have HB:=Lh ((Below.refl w.heap.size w).alloc (nLR _) (.cells #[.int .i64 X.m.id,.int .i64 X.m.rt,.int .i64 X.m.ep,.int .i64 X.m.ct,.int .i64 X.m.gn,.int .i64 X.m.st,.string X.m.bd,.int .i64 X.dl] 152))
 have HXB:=Lh (XB.start w X 152)
 have HM:=Lh (fun W=>validate_any X.m W)
 by_cases hv:vf X.m=0
 ·rw [hv] at HM
  have HV:=Lh hv
  clear hv
  go_enter Tryz.func190,Tryz.ntmps190
  go_wp2_with fail
  obtain ⟨q,hq⟩:∃ q,q=w.heap.size:=⟨_,rfl⟩
  rw [<-hq] at HXB ⊢
  clear hq
  generalize w.alloc (.cells #[.int .i64 X.m.id,.int .i64 X.m.rt,.int .i64 X.m.ep,.int .i64 X.m.ct,.int .i64 X.m.gn,.int .i64 X.m.st,.string X.m.bd,.int .i64 X.dl] 152)=w2 at*
  refine (HM.out _).mono ?_
  rintro e w3 ⟨rfl,hb⟩
  have HB3:=Lh (HB.out.trans (hb.mono HB.out.size))
  obtain ⟨x0,x4,x7,xl⟩:=HXB.out.below hb HXB.out.2.2.2
  clear hb
  by_cases hg:X.m.gn=0
  ·have HR:=Lh (leE_7 HV.out hg)
   rw [hg] at x4
   clear hg
   go_wp2
   go_ret
   exact ⟨by rw [HR.out];rfl,HB3.out⟩
  ·have HG:=Lh hg
   have hg' : (X.m.gn==0)=false:=by simpa using hg
   clear hg
   by_cases hd1:X.dl<0
   ·have HR:=Lh (leE_1 HV.out HG.out (Or.inl hd1))
    go_wp2
    go_ret
    exact ⟨by rw [HR.out];rfl,HB3.out⟩
   ·by_cases hd2:1073741824<X.dl
    ·have HR:=Lh (leE_1 HV.out HG.out (Or.inr hd2))
     go_wp2
     go_ret
     exact ⟨by rw [HR.out];rfl,HB3.out⟩
    ·have HR:=Lh (leE_0 HV.out HG.out (fun h=>h.elim hd1 hd2))
     go_wp2
     go_ret
     exact ⟨by rw [HR.out];rfl,HB3.out⟩
 ·have HR:=Lh (leE_vf hv)
  have hv' : (vf X.m != 0)=true:=by simpa using hv
  have hv2:(vf X.m==0)=false:=by simpa using hv
  clear hv
  generalize vf X.m=z at*
  go_enter Tryz.func190,Tryz.ntmps190
  go_wp2_with fail
  refine (HM.out _).mono ?_
  rintro e w3 ⟨rfl,hb⟩
  have HB3:=Lh (HB.out.trans (hb.mono HB.out.size))
  clear hb
  go_wp2
  go_ret
  exact ⟨by rw [HR.out];rfl,HB3.out⟩
abbrev El8 (W:World) (q:Nat) (X:Le):Prop:=W.cell? ⟨q,0,none⟩=some (.int .i64 X.m.id)/\W.cell? ⟨q,1,none⟩=some (.int .i64 X.m.rt)/\W.cell? ⟨q,2,none⟩=some (.int .i64 X.m.ep)/\W.cell? ⟨q,3,none⟩=some (.int .i64 X.m.ct)/\W.cell? ⟨q,4,none⟩=some (.int .i64 X.m.gn)/\W.cell? ⟨q,5,none⟩=some (.int .i64 X.m.st)/\W.cell? ⟨q,6,none⟩=some (.string X.m.bd)/\W.cell? ⟨q,7,none⟩=some (.int .i64 X.dl)/\q<W.heap.size
theorem El8.start (w:World) (X:Le) (t:TypeId):El8 (w.alloc (.cells #[.int .i64 X.m.id,.int .i64 X.m.rt,.int .i64 X.m.ep,.int .i64 X.m.ct,.int .i64 X.m.gn,.int .i64 X.m.st,.string X.m.bd,.int .i64 X.dl] t)) w.heap.size X:=
 ⟨by simp [go_sem],by simp [go_sem],by simp [go_sem],by simp [go_sem],by simp [go_sem],by simp [go_sem],by simp [go_sem],by simp [go_sem],by simp⟩
theorem El8.below {B:Nat} {W W' : World} {q:Nat} {X:Le} (h:El8 W q X) (hb:Below B W W') (hq:q<B):El8 W' q X:=by
 obtain ⟨h0,h1,h2,h3,h4,h5,h6,h7,hl⟩:=h
 exact ⟨(hb.cell (p:=⟨q,0,none⟩) hq).trans h0,(hb.cell (p:=⟨q,1,none⟩) hq).trans h1,(hb.cell (p:=⟨q,2,none⟩) hq).trans h2,(hb.cell (p:=⟨q,3,none⟩) hq).trans h3,(hb.cell (p:=⟨q,4,none⟩) hq).trans h4,(hb.cell (p:=⟨q,5,none⟩) hq).trans h5,(hb.cell (p:=⟨q,6,none⟩) hq).trans h6,(hb.cell (p:=⟨q,7,none⟩) hq).trans h7,Nat.lt_of_lt_of_le hl hb.size⟩
theorem dueof_any (X:Le) (w:World):Calls Tryz.prog 196 #[X.v] w fun e w'=>e=.returned X.du.v/\Below w.heap.size w w':=by
 have HB:=Lh ((Below.refl w.heap.size w).alloc (nLR _) (.cells #[.int .i64 X.m.id,.int .i64 X.m.rt,.int .i64 X.m.ep,.int .i64 X.m.ct,.int .i64 X.m.gn,.int .i64 X.m.st,.string X.m.bd,.int .i64 X.dl] 152))
 have HXB:=Lh (XB.start w X 152)
 go_enter Tryz.func196,Tryz.ntmps196
 go_wp2
 exact bodyPost_ret (v:=X.du.v) (by simp only [results,Tryz.results196];go_simp <;> first | rfl | exact ⟨rfl,rfl⟩) rfl ⟨rfl,by repeat (first | exact HB.out | exact (HB.out.alloc HB.out.size _) | (refine Below.setCell ?_ ?_ _) | simp)⟩
theorem bfI_zero (l:List Le):bfI l 0=0:=if_pos rfl
theorem listerr_any (A:Option Addr) (n c:Nat) (l:List Le) (w:World) (hv:El w w.heap.size (.slice A n c) l) :
  Calls Tryz.prog 173 #[.slice A n c] w fun e w'=>e=.returned (.int .i64 (leS l 0))/\Below w.heap.size w w':=by
 obtain ⟨rfl,hm1,hm2⟩:=hv.len
 have hL:l.length<=9223372036854775807:=by unfold maxLen at hm2;omega
 have HV:=Lh hv
 have HB:=Lh (Below.refl w.heap.size w)
 have H0:=Lh (bfI_zero l)
 clear hv hm1 hm2
 go_enter Tryz.func173,Tryz.ntmps173
 go_wp2
 go_loopw [3,9] (fun b i wr=>∃ k:Nat,k<=l.length/\i=.int .i64 k/\b=.int .i64 (bfI l k)/\Below w.heap.size w wr/\∀ j,j<k->leC l j=0) (fun _ i _=>l.length - (intOf i).toNat)
 case atStart=>exact ⟨0,by omega,rfl,by rw [H0.out],HB.out,fun j h=>absurd h (by omega)⟩
 case round=>
  obtain ⟨k,hk,rfl,rfl,hb,hno⟩:=hrel
  have HN:=Lh hno
  have HVK:=Lh (HV.out.below hb)
  have HB:=Lh hb
  clear hno hb
  by_cases hlt:k<l.length
  ·obtain ⟨b,o,rfl,_⟩:=HVK.out.some_ (by omega)
   obtain ⟨⟨c0,c1,c2,c3,c4,c5,c6,c7⟩,hb⟩:=HVK.out.c8 hlt
   obtain ⟨X,hX⟩:∃ X,l[k]=X:=⟨_,rfl⟩
   rw [hX] at c0 c1 c2 c3 c4 c5 c6 c7
   have HX:=Lh (show lg l k=X by rw [<-lg_get hlt];exact hX)
   clear hX
   have HBA:=Lh (HB.out.alloc HB.out.size (.cells #[.int .i64 X.m.id,.int .i64 X.m.rt,.int .i64 X.m.ep,.int .i64 X.m.ct,.int .i64 X.m.gn,.int .i64 X.m.st,.string X.m.bd,.int .i64 X.dl] 152))
   have HXB:=Lh (El8.start wr X 152)
   have HM:=Lh (fun W=>leaseerr_any X W)
   have HSU:=Lh (bfI_succ l k)
   have HCE:=Lh (leC_err (l:=l) (k:=k))
   have HCO:=Lh (leC_ord (l:=l) (k:=k))
   rw [HX.out] at HSU HCE HCO
   have HLA:=Lh (fun hc=>leS_at hlt hc HN.out)
   obtain ⟨z,hz⟩:∃ z,z=bfI l k:=⟨_,rfl⟩
   rw [<-hz] at HCO ⊢
   clear hz
   go_wp2_with fail
   clear c0 c1 c2 c3 c4 c5 c6 c7
   obtain ⟨q,hq⟩:∃ q,q=wr.heap.size:=⟨_,rfl⟩
   rw [<-hq] at HXB ⊢
   clear hq hb
   generalize wr.alloc (.cells #[.int .i64 X.m.id,.int .i64 X.m.rt,.int .i64 X.m.ep,.int .i64 X.m.ct,.int .i64 X.m.gn,.int .i64 X.m.st,.string X.m.bd,.int .i64 X.dl] 152)=w2 at*
   by_cases he:leE X=0
   ·rw [he] at HM
    have HCO:=Lh (HCO.out he)
    clear he HCE
    refine (HM.out _).mono ?_
    rintro e w3 ⟨rfl,hb⟩
    have HB3:=Lh (HBA.out.trans (hb.mono HBA.out.size))
    obtain ⟨x0,x1,x2,x3,x4,x5,x6,x7,xl⟩:=HXB.out.below hb HXB.out.2.2.2.2.2.2.2.2
    clear hb x1 x2 x3 x4 x5 x6 x7
    by_cases hle:X.m.id<=z
    ·have HR:=Lh (show leS l 0=11 from by
      have e:leC l k=11:=HCO.out.trans (if_pos hle)
      exact (HLA.out (by rw [e];decide)).trans e)
     go_wp2
     go_ret
     exact ⟨by rw [HR.out];rfl,HB3.out⟩
    ·have HNN:=Lh (show ∀ j,j<k+1->leC l j=0 from fun j h=>by
      by_cases e:j=k
      ·rw [e];exact HCO.out.trans (if_neg hle)
      ·exact HN.out j (by omega))
     go_wp2
     go_roundw
     case rel=>exact ⟨k+1,by omega,by go_num,by rw [HSU.out];rfl,HB3.out,HNN.out⟩
     case measure=>simp [intOf];omega
   ·have HR:=Lh (show leS l 0=leE X from (HLA.out (by rw [HCE.out he];exact he)).trans (HCE.out he))
    have he' : (leE X != 0)=true:=by simpa using he
    clear he HCE HCO
    generalize leE X=y at*
    refine (HM.out _).mono ?_
    rintro e w3 ⟨rfl,hb⟩
    have HB3:=Lh (HBA.out.trans (hb.mono HBA.out.size))
    clear hb
    go_wp2
    go_ret
    exact ⟨by rw [HR.out];rfl,HB3.out⟩
  ·have HR:=Lh (leS_ok (l:=l) (fun j hj=>HN.out j (by omega)))
   go_wp2
   go_ret
   exact ⟨by rw [HR.out];rfl,HB.out⟩
end Go.Proofs.YtkecnihgjepfeaaGreat
