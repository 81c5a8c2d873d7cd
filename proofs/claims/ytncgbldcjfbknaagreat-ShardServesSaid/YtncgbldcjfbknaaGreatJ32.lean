/- What is proved here: slices.SortedFunc of at most twelve deadlines; due.Until by a contract; lease.Lapsed's function value, slices.IndexFunc of numbers with it by contracts; slices.DeleteFunc of numbers with lease.Lapsed's function value, lease.Lapsed by contracts; slices.DeleteFunc of numbers with lease.Lapsed's function value, lease.Lapsed by contracts. -/
import Derived.Test.YtncgbldcjfbknaaGreatJ31
import Derived.Lib.SliceRun
namespace Go.Proofs.YtncgbldcjfbknaaGreat
open Go.RowKit
set_option linter.unusedVariables false
/-! Of nothing: nothing happens. -/
set_option maxHeartbeats 4000000 in
theorem isort_nil (w:World):Calls Tryz.prog 221 #[.slice none 0 0,.int .i64 0,.int .i64 0,.func (.func 163) #[] #[]] w (fun e w'=>e=.returned (.tuple #[])∧w=w'):=by
 go_enter Tryz.func221,Tryz.ntmps221
 go_wp2
 go_loopw [8] (fun iv wr=>iv=.int .i64 1∧wr=w) (fun _ _=>0)
 case atStart=>exact ⟨rfl,rfl⟩
 case round=>
  obtain ⟨rfl,rfl⟩:=hrel
  go_wp2
  go_end0
  exact ⟨rfl,rfl⟩
set_option maxHeartbeats 4000000 in
set_option maxRecDepth 20000 in
theorem pdq_nil (lim:Int) (w:World):Calls Tryz.prog 217 #[.slice none 0 0,.int .i64 0,.int .i64 0,.int .i64 lim,.func (.func 163) #[] #[]] w (fun e w'=>e=.returned (.tuple #[])∧w=w'):=by
 have HI:=Lh (isort_nil w)
 go_enter Tryz.func217,Tryz.ntmps217
 go_wp2
 go_loopw [1,2,3,10,11] (fun a b l x y wr=>a=.int .i64 0∧b=.int .i64 0∧l=.int .i64 lim∧x=.bool true∧y=.bool true∧wr=w) (fun _ _ _ _ _ _=>0)
 case atStart=>exact ⟨rfl,rfl,rfl,rfl,rfl,rfl⟩
 case round=>
  obtain ⟨rfl,rfl,rfl,rfl,rfl,rfl⟩:=hrel
  go_wp2_with fail
  refine HI.out.mono ?_
  rintro e w1 ⟨rfl,rfl⟩
  go_wp2
  refine bodyPost_ret (results_none rfl _ _ _) rfl ?_
  exact ⟨rfl,rfl⟩
set_option maxHeartbeats 2000000 in
theorem sortfunc_nil (w:World):Calls Tryz.prog 201 #[.slice none 0 0,.func (.func 163) #[] #[]] w (fun e w'=>e=.returned (.tuple #[])∧w=w'):=by
 have HI:=Lh (fun lim=>pdq_nil lim w)
 have HL:=Lh (fun w=>(show Calls Tryz.prog 218 #[.int .u64 0] w (LnP w) from len_any 0 (Nat.zero_le _) w))
 go_enter Tryz.func201,Tryz.ntmps201
 go_wp2_with fail
 refine (HL.out _).mono ?_
 rintro e w1 ⟨r,rfl,rfl⟩
 go_wp2_with fail
 refine (HI.out _).mono ?_
 rintro e w1 ⟨rfl,rfl⟩
 go_wp2
 go_end0
 exact ⟨rfl,rfl⟩
def SdP (w:World) (zs:List Du) (e:Ending) (w' : World):Prop:=∃ A c g,e=.returned (.slice A zs.length c)∧g.Perm zs∧Srt g∧Dl w' w'.heap.size (.slice A zs.length c) g∧Below w.heap.size w w'
set_option maxHeartbeats 2000000 in
theorem sorted_any (Bs:Nat) (A:Option Addr) (c:Nat) (zs:List Du) (hl1:zs.length≤12) (w:World) (hBs:Bs<w.heap.size) (hc:w.cell? ⟨Bs,0,none⟩=some (.slice A zs.length c)) (hI:Dl w w.heap.size (.slice A zs.length c) zs) :
  Calls Tryz.prog 161 #[.func (.func 202) #[] #[.pointer (some ⟨Bs,0,none⟩)],.func (.func 163) #[] #[]] w (SdP w zs):=by
 have HC:=Lh (dcollect_any Bs A c zs (by omega) w hBs hc hI)
 have HS:=Lh (fun q cap w1 hr=>sortfunc_any q zs.length cap zs w1 hr rfl hl1)
 have HN:=Lh (fun w1=>sortfunc_nil w1)
 clear hBs hc hI hl1
 go_enter Tryz.func161,Tryz.ntmps161
 go_wp2_with fail
 refine HC.out.mono ?_
 rintro e w1 ⟨v,rfl,ho,hb⟩
 have HB1:=Lh hb
 clear hb
 rcases ho.2 with ⟨hv,h0⟩ | ⟨q,cap,cur,hv,hq,hh,hle,hmx,hr⟩
 ·subst hv
  have hz:zs=[]:=List.length_eq_zero_iff.1 h0
  subst hz
  clear ho h0
  go_wp2_with fail
  refine (HN.out _).mono ?_
  rintro e w2 ⟨rfl,rfl⟩
  go_wp2
  go_ret
  exact ⟨none,0,[],rfl,List.Perm.refl _,List.Pairwise.nil,Dl.nil,HB1.out⟩
 ·subst hv
  have HSQ:=Lh (HS.out q cap w1 (DRow.of_own ho))
  have HM:=Lh (And.intro hle hmx)
  have HQ:=Lh hq
  clear ho hle hmx hh hq hr
  go_wp2_with fail
  refine HSQ.out.mono ?_
  rintro e w2 ⟨rfl,g,hp,hs,hra⟩
  have HF:=Lh (show SdP w zs (.returned (.slice (some ⟨q,0,none⟩) zs.length cap)) w2 from ⟨some ⟨q,0,none⟩,cap,g,rfl,hp,hs,hra.row.dl' hra.len HM.out.1 HM.out.2,HB1.out.trans (hra.bel.mono HQ.out)⟩)
  clear hp hs hra
  go_wp2
  go_ret
  exact HF.out
def Nr (w:World) (B:Nat) (v:Value) (zs:List Int):Prop:=∃ A c,v=.slice A zs.length c∧zs.length≤c∧c≤maxLen∧Rd w B 1 A zs.length (zs.map i64v)
section
variable {w w' : World} {B B' : Nat} {v:Value} {zs:List Int} {A:Option Addr} {n c:Nat}
theorem Nr.nil:Nr w B (.slice none 0 0) []:=⟨none,0,rfl,Nat.le_refl _,Nat.zero_le _,Rd.nil none⟩
theorem Nr.below (h:Nr w B v zs) (hb:Below B w w'):Nr w' B v zs:=by
 obtain ⟨A,c,e,h1,h2,h3⟩:=h;exact ⟨A,c,e,h1,h2,h3.below hb⟩
theorem Nr.more (h:Nr w B v zs) (hB:B≤B'):Nr w B' v zs:=by
 obtain ⟨A,c,e,h1,h2,h3⟩:=h;exact ⟨A,c,e,h1,h2,h3.more hB⟩
theorem Nr.up (h:Nr w w.heap.size v zs) (hb:Below w.heap.size w w'):Nr w' w'.heap.size v zs:=(h.below hb).more hb.size
theorem Nr.form (h:Nr w B v zs):∃ A c,v=.slice A zs.length c:=by obtain ⟨A,c,e,_⟩:=h;exact ⟨A,c,e⟩
theorem Nr.len (h:Nr w B (.slice A n c) zs):n=zs.length∧n≤c∧c≤maxLen:=by
 obtain ⟨A',c',e,h1,h2,_⟩:=h
 injection e with e1 e2 e3
 subst e2;subst e3
 exact ⟨rfl,h1,h2⟩
theorem Nr.at_ {k:Nat} (h:Nr w B (.slice A n c) zs) (hk:k<zs.length):∃ b o,A=some ⟨b,o,none⟩∧b<B∧w.cell? ⟨b,o+k,none⟩=some (.int .i64 zs[k]):=by
 obtain ⟨A',c',e,h1,h2,h3⟩:=h
 injection e with e1 e2 e3
 subst e1;subst e2
 obtain ⟨b,o,e,hb,hc⟩:=h3.2 (by omega)
 exact ⟨b,o,e,hb,hc k _ (by simp [hk,i64v])⟩
theorem Nr.of_own {base:Nat} {e:TypeId} (h:w.ownsRow base e 1 v zs.length (zs.map i64v)):Nr w w.heap.size v zs:=by
 rcases h.2 with ⟨hv,h0⟩ | ⟨g,cap,cur,hv,_,_,hl,hm,_⟩
 ·subst hv;exact ⟨none,0,by rw [h0],by omega,Nat.zero_le _,by rw [show zs=[] from List.length_eq_zero_iff.1 h0];exact Rd.nil _⟩
 ·subst hv;exact ⟨_,cap,rfl,hl,hm,Rd.of_own h⟩
end
theorem dvalues_any (A:Option Addr) (n c:Nat) (w:World) :
  Calls Tryz.prog 162 #[.slice A n c] w fun e w'=>e=.returned (.func (.func 202) #[] #[.pointer (some ⟨w.heap.size,0,none⟩)])∧w' = w.alloc (.cells #[.slice A n c] 29):=by
 have hmf:∀ (fn:Fn) (first cap:Array Value) (w:World),(Instr.makeFunc fn first cap).run Tryz.prog w=.ok (.func fn first cap) w:=fun _ _ _ _=>rfl
 go_enter Tryz.func162,Tryz.ntmps162
 go_wp2
 go_ret
 exact ⟨rfl,rfl⟩
def flK (g:List Du) (now:Int) (k:Nat):List Int:=((g.take k).filter (fun d=>decide (d.dl≤now))).map Du.id
theorem flK_zero (g:List Du) (now:Int):flK g now 0=[]:=by simp [flK]
theorem flK_hit {g:List Du} {now:Int} {k:Nat} (hk:k<g.length) (h:(ge g k).dl≤now):flK g now (k+1)=flK g now k++[(ge g k).id]:=by
 unfold flK
 rw [←List.take_append_getElem hk,List.filter_append,List.map_append,ge_get hk]
 simp [h]
theorem flK_miss {g:List Du} {now:Int} {k:Nat} (hk:k<g.length) (h:¬(ge g k).dl≤now):flK g now (k+1)=flK g now k:=by
 unfold flK
 rw [←List.take_append_getElem hk,List.filter_append,List.map_append,ge_get hk]
 simp [h]
theorem flK_len (g:List Du) (now:Int) (k:Nat):(flK g now k).length≤k:=by
 unfold flK
 rw [List.length_map]
 exact Nat.le_trans (List.length_filter_le _ _) (by rw [List.length_take];omega)
theorem flK_all (g:List Du) (now:Int):flK g now g.length=(g.filter (fun d=>decide (d.dl≤now))).map Du.id:=by
 unfold flK;rw [List.take_length]
def NrO (w:World) (zs:List Int) (e:Ending) (w' : World):Prop:=∃ v,e=.returned v∧w'.ownsRow w.heap.size 3 1 v zs.length (zs.map i64v)∧Below w.heap.size w w'
theorem info_int5:(Tryz.prog.info? 3).map (fun i=>(i.zero,i.size,i.bytes))=some (some (.int .i64 0),1,8):=by kernel_rfl
set_option maxHeartbeats 4000000 in
set_option maxRecDepth 20000 in
theorem duntil_own (A:Option Addr) (n c:Nat) (l:List Du) (now:Int) (w:World) (hv:Dl w w.heap.size (.slice A n c) l) :
  Calls Tryz.prog 109 #[.slice A n c,.int .i64 now] w (NrO w (unR l now)):=by
 obtain ⟨rfl,hm1,hm2⟩:=hv.len
 have HV:=Lh hv
 have HVA:=Lh (fun w1 hv=>dvalid_any A l.length c l w1 hv)
 clear hv hm1 hm2
 by_cases h0:vaF l=0
 ·obtain ⟨h12,_,_,hh⟩:=vaF_zero h0
  have HR:=Lh (show unR l now=unF l now from if_pos h0)
  have HVS:=Lh (fun w1=>dvalues_any A l.length c w1)
  have HSO:=Lh (fun (w1:World) (h1:Dl w1 w1.heap.size (.slice A l.length c) l)=>sorted_any w1.heap.size A c l h12 (w1.alloc (.cells #[.slice A l.length c] 29)) (by simp) (by simp [go_sem]) ((h1.alloc (Nat.le_refl _) _).more (by simp)))
  have HH:=Lh hh
  have HL12:=Lh h12
  have hl12:(l.length:Int)≤12:=by omega
  rw [h0] at HVA
  obtain ⟨i0,hi0,hz0⟩:=Option.map_eq_some_iff.1 info_int5
  simp only [Prod.mk.injEq] at hz0
  have HI:=Lh hi0
  have HZ:=Lh hz0
  clear h0 h12 hh hi0 hz0
  go_enter Tryz.func109,Tryz.ntmps109
  go_wp2_with fail
  refine (HVA.out _ HV.out).mono ?_
  rintro e w1 ⟨rfl,hb⟩
  have HB1:=Lh hb
  clear hb
  go_wp2_with fail
  refine (HVS.out _).mono ?_
  rintro e w2 ⟨rfl,rfl⟩
  go_wp2_with fail
  refine (HSO.out _ (HV.out.up HB1.out)).mono ?_
  rintro e w3 ⟨A3,c3,g,rfl,hp,hs,hd,hb⟩
  have HB3:=Lh ((HB1.out.alloc HB1.out.size (.cells #[.slice A l.length c] 29)).trans (hb.mono (by have:=HB1.out.size;simp;omega)))
  have HG:=Lh hd
  have HGL:=Lh (show g.length=l.length from hp.length_eq)
  have HF:=Lh (show unF l now=flK g now l.length by rw [unF_sorted HH.out hp hs now,←flK_all,hp.length_eq])
  clear hp hs hd hb
  go_wp2
  go_loopw [5,15] (fun v5 iv wr=>∃ k:Nat,k≤l.length∧iv=.int .i64 k∧wr.ownsRow w3.heap.size 3 1 v5 (flK g now k).length ((flK g now k).map i64v)∧Dl wr w3.heap.size (.slice A3 l.length c3) g∧w3.heap.size≤wr.heap.size∧Below w.heap.size w wr) (fun _ iv _=>l.length - (intOf iv).toNat)
  case atStart=>exact ⟨0,Nat.zero_le _,rfl,by rw [flK_zero];exact World.ownsRow_nil _ _ _ _,HG.out,Nat.le_refl _,HB3.out⟩
  case round=>
   obtain ⟨k,hk,rfl,ho,hd,hsz,hb⟩:=hrel
   have HO:=Lh ho
   have HD:=Lh hd
   have HSZ:=Lh hsz
   have HB:=Lh hb
   clear ho hd hsz hb
   by_cases hlt:k<l.length
   ·obtain ⟨b,o,rfl,hb,c0,c1⟩:=HD.out.atg (k:=k) (by rw [HGL.out];exact hlt)
    by_cases hle:(ge g k).dl≤now
    ·have HHT:=Lh (flK_hit (now:=now) (show k<g.length by rw [HGL.out];exact hlt) hle)
     obtain ⟨X,hX⟩:∃ X,ge g k=X:=⟨_,rfl⟩
     rw [hX] at c0 c1 HHT hle
     clear hX hb
     have HO2:=Lh ((HO.out.alloc (.cells #[.int .i64 X.dl,.int .i64 X.id] 127)).alloc (.cells #[.int .i64 X.id] 3))
     have HD2:=Lh ((HD.out.alloc HSZ.out (.cells #[.int .i64 X.dl,.int .i64 X.id] 127)).alloc (by have:=HSZ.out;simp;omega) (.cells #[.int .i64 X.id] 3))
     have HB2:=Lh ((HB.out.alloc HB.out.size (.cells #[.int .i64 X.dl,.int .i64 X.id] 127)).alloc (by have:=HB.out.size;simp;omega) (.cells #[.int .i64 X.id] 3))
     have HN2:=Lh (show ∀ j u,([i64v X.id]:List Value)[j]? = some u→((wr.alloc (.cells #[.int .i64 X.dl,.int .i64 X.id] 127)).alloc (.cells #[.int .i64 X.id] 3)).cell? ((⟨wr.heap.size+1,0,none⟩:Addr).add j)=some u from fun j u hu=>by
      have h2:=World.cell?_alloc_new (wr.alloc (.cells #[.int .i64 X.dl,.int .i64 X.id] 127)) #[.int .i64 X.id] 3 j
      rw [World.size_alloc] at h2
      rw [add_mk,Nat.zero_add,h2,←hu]
      simp [i64v])
     have HKL:=Lh (flK_len g now k)
     have HWS:=Lh (show w.heap.size≤w3.heap.size from HB3.out.size)
     go_wp2_with (at_builtin;refine wpList_append_own _ rfl _ _ 22 rfl w3.heap.size 3 i0 _ 1 8 Tryz.underlying22 HI.out HZ.out.1 HZ.out.2.1 HZ.out.2.2 rfl (by omega) _ (flK g now k).length ((flK g now k).map i64v) rfl HO2.out ⟨wr.heap.size+1,0,none⟩ 1 1 [i64v X.id] rfl rfl HN2.out (by simp [i64v,Value.oneCell']) (by have:=HKL.out;unfold maxLen;omega) (by have:=HKL.out;omega) (by have:=HSZ.out;simp;omega) ?_;intro v6 w4 hown6 hgrow6 hnil6)
     have HO6:=Lh (show w4.ownsRow w3.heap.size 3 1 v6 (flK g now (k+1)).length ((flK g now (k+1)).map i64v) by rw [HHT.out,List.length_append,List.map_append];exact hown6)
     have HD6:=Lh (HD2.out.keep fun p hp=>hgrow6.cell_far p (by have:=HSZ.out;simp;omega) (fun e=>by have:=(HO2.out.lt p.block e.symm).1;omega))
     have HB6:=Lh (HB2.out.grown hgrow6 (by have:=HB.out.size;simp;omega) (fun k e=>Nat.le_trans HWS.out (HO2.out.lt k e).1))
     have HZ6:=Lh (show w3.heap.size≤w4.heap.size by have:=hgrow6.size;have:=HSZ.out;simp at *;omega)
     clear hown6 hgrow6 hnil6
     go_wp2
     go_roundw
     case rel=>exact ⟨k+1,by omega,by go_num,HO6.out,HD6.out,HZ6.out,HB6.out⟩
     case measure=>simp [intOf];omega
    ·have HMS:=Lh (flK_miss (now:=now) (show k<g.length by rw [HGL.out];exact hlt) hle)
     obtain ⟨X,hX⟩:∃ X,ge g k=X:=⟨_,rfl⟩
     rw [hX] at c0 c1 hle
     clear hX hb
     have HO2:=Lh (HO.out.alloc (.cells #[.int .i64 X.dl,.int .i64 X.id] 127))
     have HD2:=Lh (HD.out.alloc HSZ.out (.cells #[.int .i64 X.dl,.int .i64 X.id] 127))
     have HB2:=Lh (HB.out.alloc HB.out.size (.cells #[.int .i64 X.dl,.int .i64 X.id] 127))
     go_wp2
     go_roundw
     case rel=>exact ⟨k+1,by omega,by go_num,by rw [HMS.out];exact HO2.out,HD2.out,by have:=HSZ.out;simp;omega,HB2.out⟩
     case measure=>simp [intOf];omega
   ·obtain rfl:k=l.length:=by omega
    have HN:=Lh (Nr.of_own HO.out)
    obtain ⟨A5,c5,hv5⟩:=HN.out.form
    have HV5:=Lh hv5
    clear hv5
    go_wp2
    go_ret
    exact ⟨_,rfl,by rw [HR.out,HF.out];exact own_low HO.out HB3.out.size,HB.out⟩
 ·have HR:=Lh (show unR l now=[] from if_neg h0)
  have hne:(vaF l != 0)=true:=bne_iff_ne.2 h0
  generalize vaF l=x at*
  clear h0
  go_enter Tryz.func109,Tryz.ntmps109
  go_wp2_with fail
  refine (HVA.out _ HV.out).mono ?_
  rintro e w1 ⟨rfl,hb⟩
  have HB1:=Lh hb
  clear hb
  go_wp2
  go_ret
  exact ⟨_,rfl,by rw [HR.out];exact World.ownsRow_nil _ _ _ _,HB1.out⟩
structure LpW (w:World) (p q:Nat) (A:Option Addr) (c:Nat) (l:List Le) (A2:Option Addr) (c2:Nat) (h:List Du) (ep:Int) (W:World):Prop where
 va:VaA w p A c l A2 c2 h W
 ce:W.cell? ⟨q,0,none⟩=some (.int .i64 ep)
 lt:q<W.heap.size
theorem LpW.below {w W W' : World} {p q c c2:Nat} {A A2:Option Addr} {l:List Le} {h:List Du} {ep:Int} (k:LpW w p q A c l A2 c2 h ep W) (hb:Below W.heap.size W W'):LpW w p q A c l A2 c2 h ep W':=
 ⟨k.va.below hb,(hb.cell (p:=⟨q,0,none⟩) k.lt).trans k.ce,Nat.lt_of_lt_of_le k.lt hb.size⟩
noncomputable def pgF (l:List Le) (h:List Du) (ep id:Int):Bool:=puF (fnX l h id).m ep
set_option maxHeartbeats 4000000 in
set_option maxRecDepth 20000 in
theorem lapsed1_any (p q:Nat) (A:Option Addr) (c:Nat) (l:List Le) (A2:Option Addr) (c2:Nat) (h:List Du) (ep id:Int) (w W:World) (k:LpW w p q A c l A2 c2 h ep W) (t:TbOk l h) (hf:0≤kFi Le.id l id) :
  Calls Tryz.prog 110 #[.int .i64 id,.pointer (some ⟨p,0,none⟩),.pointer (some ⟨q,0,none⟩)] W fun e w'=>e=.returned (.bool (pgF l h ep id))∧Below W.heap.size W w':=by
 obtain ⟨hk,-,hx⟩:∃ hk:kAt Le.id l id<l.length,fnO l h id=true∧fnX l h id=l[kAt Le.id l id]:=by
  obtain ⟨e1,e2⟩:=kAt_fi t.asc hf
  exact ⟨e2,fn_yes ((tbV_iff l h).2 t) e2 e1⟩
 have HP:=Lh (fun W (k:LpW w p q A c l A2 c2 h ep W)=>lplace_any A l.length c l id W k.va.el t.asc (by have:=t.len;omega))
 unfold PlR at HP
 rw [show pgF l h ep id=puF (fnX l h id).m ep from rfl,hx]
 generalize kAt Le.id l id=i at*
 generalize kHas Le.id l id=O at*
 obtain ⟨X,hX⟩:∃ X,l[i]=X:=⟨_,rfl⟩
 rw [hX]
 have HX:=Lh hX
 have HPU:=Lh (fun W=>purged_any X.m ep W)
 obtain ⟨z,hz⟩:∃ z,z=puF X.m ep:=⟨_,rfl⟩
 rw [←hz] at HPU ⊢
 have HK:=Lh k
 have hki:(i:Int)<(l.length:Int):=by omega
 clear hx hX k t hf hz
 go_enter Tryz.func110,Tryz.ntmps110
 obtain ⟨t0,t1,tl⟩:=HK.out.va.tb
 go_wp2_with fail
 clear t0 t1 tl
 refine (HP.out _ HK.out).mono ?_
 rintro e w1 ⟨rfl,hb⟩
 have HK1:=Lh (HK.out.below hb)
 have HB1:=Lh hb
 clear hb
 obtain ⟨b,o,rfl,_⟩:=HK1.out.va.el.some_ (by omega)
 have HS:=Lh (fun W2 (k:LpW w p q (some ⟨b,o,none⟩) c l A2 c2 h ep W2)=>show W2.cell? ⟨p,0,none⟩=some (.slice (some ⟨b,o,none⟩) l.length c)∧W2.cell? ⟨q,0,none⟩=some (.int .i64 ep)∧W2.cell? ⟨b,o+i*8,none⟩=some (.int .i64 X.m.id)∧W2.cell? ⟨b,o+i*8+1,none⟩=some (.int .i64 X.m.rt)∧W2.cell? ⟨b,o+i*8+2,none⟩=some (.int .i64 X.m.ep)∧W2.cell? ⟨b,o+i*8+3,none⟩=some (.int .i64 X.m.ct)∧W2.cell? ⟨b,o+i*8+4,none⟩=some (.int .i64 X.m.gn)∧W2.cell? ⟨b,o+i*8+5,none⟩=some (.int .i64 X.m.st)∧W2.cell? ⟨b,o+i*8+6,none⟩=some (.string X.m.bd) from by
  obtain ⟨⟨c0,c1,c2',c3,c4,c5,c6,c7⟩,_⟩:=k.va.el.c8 hk
  rw [HX.out] at c0 c1 c2' c3 c4 c5 c6 c7
  exact ⟨k.va.tb.1,k.ce,c0,c1,c2',c3,c4,c5,c6⟩)
 have HT0:=Lh (show w1.drew.cell? ⟨p,0,none⟩=some (.slice (some ⟨b,o,none⟩) l.length c)∧w1.drew.cell? ⟨q,0,none⟩=some (.int .i64 ep)∧w1.drew.cell? ⟨b,o+i*8,none⟩=some (.int .i64 X.m.id)∧w1.drew.cell? ⟨b,o+i*8+1,none⟩=some (.int .i64 X.m.rt)∧w1.drew.cell? ⟨b,o+i*8+2,none⟩=some (.int .i64 X.m.ep)∧w1.drew.cell? ⟨b,o+i*8+3,none⟩=some (.int .i64 X.m.ct)∧w1.drew.cell? ⟨b,o+i*8+4,none⟩=some (.int .i64 X.m.gn)∧w1.drew.cell? ⟨b,o+i*8+5,none⟩=some (.int .i64 X.m.st)∧w1.drew.cell? ⟨b,o+i*8+6,none⟩=some (.string X.m.bd) from HS.out _ (HK1.out.below ((Below.refl _ _).drew)))
 have HAF:=Lh (fun W2 (hb:Below w1.drew.heap.size w1.drew W2)=>HK1.out.below (drew_bel hb))
 go_wp2_with fail
 go_region_held3 (fun W2=>W2.cell? ⟨p,0,none⟩=some (.slice (some ⟨b,o,none⟩) l.length c)∧W2.cell? ⟨q,0,none⟩=some (.int .i64 ep)∧W2.cell? ⟨b,o+i*8,none⟩=some (.int .i64 X.m.id)∧W2.cell? ⟨b,o+i*8+1,none⟩=some (.int .i64 X.m.rt)∧W2.cell? ⟨b,o+i*8+2,none⟩=some (.int .i64 X.m.ep)∧W2.cell? ⟨b,o+i*8+3,none⟩=some (.int .i64 X.m.ct)∧W2.cell? ⟨b,o+i*8+4,none⟩=some (.int .i64 X.m.gn)∧W2.cell? ⟨b,o+i*8+5,none⟩=some (.int .i64 X.m.st)∧W2.cell? ⟨b,o+i*8+6,none⟩=some (.string X.m.bd))
  (first | with_reducible exact HT0.out | with_reducible exact HT1.out)
  (first | (go_at_call 64;(with_reducible refine (HPU.out _).mono ?_);rintro e w2 ⟨rfl,hb2⟩;have HT1:=Lh (HS.out _ (HAF.out _ hb2));have HB2:=Lh (HB1.out.trans ((drew_bel hb2).mono HB1.out.size));clear hb2))
 all_goals
  go_wp2
  go_ret
  exact ⟨rfl,HB2.out⟩
def fxI (p:Int→Bool) (zs:List Int):Int:=if zs.findIdx p<zs.length then (zs.findIdx p:Int) else -1
theorem fxI_hit {p:Int→Bool} {zs:List Int} {k:Nat} (hk:k<zs.length) (h1:p zs[k]=true) (hn:∀ j (hj:j<zs.length),j<k→p zs[j]=false):fxI p zs=k:=by
 have e:zs.findIdx p=k:=(List.findIdx_eq hk).2 ⟨h1,fun j hj=>hn j (by omega) hj⟩
 unfold fxI;rw [e,if_pos hk]
theorem fxI_none {p:Int→Bool} {zs:List Int} (hn:∀ j (hj:j<zs.length),p zs[j]=false):fxI p zs = -1:=by
 unfold fxI
 rw [if_neg]
 rw [List.findIdx_lt_length]
 rintro ⟨x,hx,e⟩
 obtain ⟨j,hj,e'⟩:=List.mem_iff_getElem.1 hx
 rw [←e',hn j hj] at e
 cases e
theorem fxI_cases (p:Int→Bool) (zs:List Int):(fxI p zs = -1∧∀ j (hj:j<zs.length),p zs[j]=false)∨∃ (k:Nat) (hk:k<zs.length),fxI p zs=k∧p zs[k]=true∧∀ j (hj:j<zs.length),j<k→p zs[j]=false:=by
 by_cases h:∃ k,∃ hk:k<zs.length,p zs[k]=true
 ·right
  have hl:zs.findIdx p<zs.length:=List.findIdx_lt_length.2 (by obtain ⟨k,hk,e⟩:=h;exact ⟨_,List.getElem_mem hk,e⟩)
  exact ⟨zs.findIdx p,hl,if_pos hl,List.findIdx_getElem (w:=hl),fun j hj hjk=>by simpa using List.not_of_lt_findIdx hjk⟩
 ·left
  have hn:∀ j (hj:j<zs.length),p zs[j]=false:=fun j hj=>by
   cases e:p zs[j] with
   | false=>rfl
   | true=>exact absurd ⟨j,hj,e⟩ h
  exact ⟨fxI_none hn,hn⟩
def kpI (p:Int→Bool) (zs:List Int):List Int:=zs.filter (fun x=>!p x)
theorem kpI_all {p:Int→Bool} {zs:List Int} (hn:∀ j (hj:j<zs.length),p zs[j]=false):kpI p zs=zs:=by
 unfold kpI
 rw [List.filter_eq_self]
 intro x hx
 obtain ⟨j,hj,e⟩:=List.mem_iff_getElem.1 hx
 rw [←e,hn j hj];rfl
theorem kpI_take_all {p:Int→Bool} {zs:List Int} {k:Nat} (hn:∀ j (hj:j<zs.length),j<k→p zs[j]=false):kpI p (zs.take k)=zs.take k:=
 kpI_all fun j hj=>by rw [List.getElem_take];exact hn j (by rw [List.length_take] at hj;omega) (by rw [List.length_take] at hj;omega)
theorem kpI_succ (p:Int→Bool) {zs:List Int} {j:Nat} (hj:j<zs.length):kpI p (zs.take (j+1))=kpI p (zs.take j)++if p zs[j]=true then [] else [zs[j]]:=by
 unfold kpI
 rw [List.take_succ_eq_append_getElem hj,List.filter_append]
 congr 1
 cases e:p zs[j] with
 | true=>rw [if_pos rfl];simp [e]
 | false=>rw [if_neg (by decide)];simp [e]
structure DfI (p:Int→Bool) (zs:List Int) (i j:Nat) (ys:List Int):Prop where
 len:ys.length=zs.length
 kept:ys.take i=kpI p (zs.take j)
 left:ys.drop j=zs.drop j
 lt:i<j
 le:j≤zs.length
 il:i=(kpI p (zs.take j)).length
theorem DfI.start {p:Int→Bool} {zs:List Int} {k:Nat} (hk:k<zs.length) (h1:p zs[k]=true) (hn:∀ j (hj:j<zs.length),j<k→p zs[j]=false):DfI p zs k (k+1) zs:=by
 have e:kpI p (zs.take (k+1))=zs.take k:=by rw [kpI_succ p hk,kpI_take_all hn,if_pos h1,List.append_nil]
 exact ⟨rfl,e.symm,rfl,Nat.lt_succ_self _,hk,by rw [e,List.length_take];omega⟩
theorem DfI.at_ {p:Int→Bool} {zs ys:List Int} {i j:Nat} (h:DfI p zs i j ys) (hj:j<zs.length):ys[j]'(by rw [h.len];exact hj)=zs[j]:=by
 have e:=h.left
 rw [List.drop_eq_getElem_cons (by rw [h.len];exact hj),List.drop_eq_getElem_cons hj] at e
 injection e
theorem DfI.skip {p:Int→Bool} {zs ys:List Int} {i j:Nat} (h:DfI p zs i j ys) (hj:j<zs.length) (hp:p zs[j]=true):DfI p zs i (j+1) ys:=by
 have e:kpI p (zs.take (j+1))=kpI p (zs.take j):=by rw [kpI_succ p hj,if_pos hp,List.append_nil]
 have hl:=h.left
 rw [List.drop_eq_getElem_cons (by rw [h.len];exact hj),List.drop_eq_getElem_cons hj] at hl
 injection hl with _ hl
 exact ⟨h.len,by rw [e];exact h.kept,hl,Nat.lt_succ_of_lt h.lt,hj,by rw [e];exact h.il⟩
theorem DfI.keep {p:Int→Bool} {zs ys:List Int} {i j:Nat} (h:DfI p zs i j ys) (hj:j<zs.length) (hp:p zs[j]=false):DfI p zs (i+1) (j+1) (ys.set i zs[j]):=by
 have e:kpI p (zs.take (j+1))=kpI p (zs.take j)++[zs[j]]:=by rw [kpI_succ p hj,if_neg (by rw [hp];decide)]
 have hl:=h.left
 rw [List.drop_eq_getElem_cons (by rw [h.len];exact hj),List.drop_eq_getElem_cons hj] at hl
 injection hl with _ hl
 have hi:i<ys.length:=by have:=h.lt;have:=h.len;omega
 refine ⟨by rw [List.length_set];exact h.len,?_,?_,Nat.succ_lt_succ h.lt,hj,by rw [e,List.length_append,←h.il];rfl⟩
 ·rw [e,←h.kept,List.take_succ_eq_append_getElem (by rw [List.length_set];exact hi),List.take_set_of_le (Nat.le_refl _),List.getElem_set_self]
 ·rw [List.drop_set_of_lt (by have:=h.lt;omega)]
  exact hl
theorem DfI.done {p:Int→Bool} {zs ys:List Int} {i j:Nat} (h:DfI p zs i j ys) (hj:¬j<zs.length):ys.take i=kpI p zs∧i=(kpI p zs).length∧i<zs.length:=by
 have e:j=zs.length:=by have:=h.le;omega
 have h1:=h.kept
 have h2:=h.il
 have h3:=h.lt
 rw [e,List.take_length] at h1 h2
 exact ⟨h1,h2,by omega⟩
theorem nr_own {W:World} {base g n cap:Nat} {ys:List Int} (h:W.ownsRow base 3 1 (.slice (some ⟨g,0,none⟩) n cap) n (ys.map i64v)) {j:Nat} (hj:j<ys.length):W.cell? ⟨g,j,none⟩=some (.int .i64 ys[j]):=by
 have hl:n=ys.length:=by have:=h.1;rw [List.length_map] at this;omega
 rw [h.cellAt j (by omega),List.getElem?_map,List.getElem?_eq_getElem hj]
 rfl
set_option maxHeartbeats 4000000 in
set_option maxRecDepth 20000 in
theorem ixint_any (p q:Nat) (A:Option Addr) (c:Nat) (l:List Le) (A2:Option Addr) (c2:Nat) (h:List Du) (ep:Int) (w W:World) (k:LpW w p q A c l A2 c2 h ep W) (t:TbOk l h) (B:Option Addr) (m d:Nat) (zs:List Int) (hz:Nr W W.heap.size (.slice B m d) zs) (hf:∀ x∈zs,0≤kFi Le.id l x) (h100:m≤1000) :
  Calls Tryz.prog 160 #[.slice B m d,.func (.func 110) #[] #[.pointer (some ⟨p,0,none⟩),.pointer (some ⟨q,0,none⟩)]] W fun e w'=>e=.returned (.int .i64 (fxI (pgF l h ep) zs))∧Below W.heap.size W w':=by
 obtain ⟨rfl,hm1,hm2⟩:=hz.len
 have HK:=Lh k
 have HZ:=Lh hz
 have HF:=Lh hf
 have HB:=Lh (Below.refl W.heap.size W)
 have HL:=Lh (fun id hf W (k:LpW w p q A c l A2 c2 h ep W)=>lapsed1_any p q A c l A2 c2 h ep id w W k t hf)
 clear k hz hf hm1 hm2 t
 generalize pgF l h ep=P at*
 go_enter Tryz.func160,Tryz.ntmps160
 go_wp2
 go_loopw [8] (fun i wr=>∃ j:Nat,j≤zs.length∧i=.int .i64 j∧Below W.heap.size W wr∧∀ k (hk:k<zs.length),k<j→P zs[k]=false) (fun i _=>zs.length - (intOf i).toNat)
 case atStart=>exact ⟨0,by omega,rfl,HB.out,fun j _ h=>absurd h (by omega)⟩
 case round=>
  obtain ⟨j,hj,rfl,hb,hno⟩:=hrel
  have HN:=Lh hno
  have HKJ:=Lh (HK.out.below hb)
  have HZJ:=Lh (HZ.out.up hb)
  have HB:=Lh hb
  clear hno hb
  by_cases hlt:j<zs.length
  ·obtain ⟨b,o,rfl,hb,c0⟩:=HZJ.out.at_ hlt
   have HM:=Lh (HF.out _ (List.getElem_mem hlt))
   obtain ⟨x,hx⟩:∃ x,zs[j]=x:=⟨_,rfl⟩
   rw [hx] at c0 HM
   have HX:=Lh hx
   have HC:=Lh (HL.out x HM.out _ HKJ.out)
   clear hx hb HM
   cases hp:P x with
   | true=>
    have HR:=Lh (fxI_hit hlt (by rw [HX.out];exact hp) HN.out)
    rw [hp] at HC
    clear hp
    go_wp2_with fail
    refine HC.out.mono ?_
    rintro e w1 ⟨rfl,hb1⟩
    have HB1:=Lh (HB.out.trans (hb1.mono HB.out.size))
    clear hb1
    go_wp2
    go_ret
    exact ⟨by rw [HR.out];rfl,HB1.out⟩
   | false=>
    have HNN:=Lh (show ∀ k (hk:k<zs.length),k<j+1→P zs[k]=false from fun k hk h=>by
     by_cases e:k=j
     ·subst e;rw [HX.out];exact hp
     ·exact HN.out k hk (by omega))
    rw [hp] at HC
    clear hp
    go_wp2_with fail
    refine HC.out.mono ?_
    rintro e w1 ⟨rfl,hb1⟩
    have HB1:=Lh (HB.out.trans (hb1.mono HB.out.size))
    clear hb1
    go_wp2
    go_roundw
    case rel=>exact ⟨j+1,by omega,by go_num,HB1.out,HNN.out⟩
    case measure=>simp [intOf];omega
  ·have HR:=Lh (fxI_none (p:=P) (zs:=zs) (fun k hk=>HN.out k hk (by omega)))
   go_wp2
   go_ret
   exact ⟨by rw [HR.out];rfl,HB.out⟩
theorem li_under:Tryz.prog.underlying 22=some (.slice (Tryz.prog.elem 22)):=by kernel_rfl
theorem li_elem:Tryz.prog.elem 22=3:=by kernel_rfl
theorem run_iupto (A:Option Addr) (n c:Nat) (kh:IntKind) (j:Nat) (hj:j≤c):∀ W,(Instr.slice 22 (.slice A n c) none (some (.int kh (j:Int))) none).run Tryz.prog W=.ok (.slice A j c) W:=fun W=>by
 rw [run_slice_h W _ _ _ _ li_under kh _ (by omega) (by omega),li_elem,Tryz.sizeOf3]
 cases A <;> simp [Result.andThen,sliced,Addr.add]
theorem run_icut (A:Option Addr) (n c:Nat) (kl:IntKind) (k:Nat) (hk:k≤n):∃ A',A' = (if c=k then A else A.map (·.add (k*1)))∧∀ W,(Instr.slice 22 (.slice A n c) (some (.int kl (k:Int))) none none).run Tryz.prog W=.ok (.slice A' (n - k) (c - k)) W:=by
 refine ⟨_,rfl,fun W=>?_⟩
 rw [run_slice_l W _ _ _ _ li_under kl _ (by omega) (by omega),li_elem,Tryz.sizeOf3]
 simp [Result.andThen,sliced]
theorem own_upL {W W' : World} {base n size:Nat} {e:TypeId} {v:Value} {xs:List Value} (h:W.ownsRow base e size v n xs) (hb:Below W.heap.size W W'):W'.ownsRow base e size v n xs:=by
 refine ⟨h.1,?_⟩
 rcases h.2 with hn | ⟨g,cap,cur,hv,hbg,hg,rest⟩
 ·exact .inl hn
 ·exact .inr ⟨g,cap,cur,hv,hbg,(hb.block g (Array.getElem?_eq_some_iff.1 hg).1).trans hg,rest⟩
theorem clear_nr {W:World} {base g n cap i:Nat} {ys:List Int} (h:W.ownsRow base 3 1 (.slice (some ⟨g,0,none⟩) n cap) n (ys.map i64v)) (hi:i≤n) {zs:List Int} (hz:ys.take i=zs) (hl:i=zs.length) (vs:List Value) :
  Nr (W.setCells g i vs) (W.setCells g i vs).heap.size (.slice (some ⟨g,0,none⟩) i cap) zs:=by
 have hlen:n=ys.length:=by have:=h.1;rw [List.length_map] at this;omega
 have hc:n≤cap∧cap≤maxLen:=by
  rcases h.2 with ⟨e,_⟩ | ⟨g',cap',cur,e,_,_,hl,hm,_⟩
  ·cases e
  ·injection e with _ _ e3
   subst e3
   exact ⟨hl,hm⟩
 subst hl
 refine ⟨_,_,rfl,by omega,hc.2,by rw [List.length_map,Nat.mul_one],fun _=>⟨g,0,rfl,by rw [sets_size];exact (h.lt g rfl).2,fun j u hu=>?_⟩⟩
 have hj:j<zs.length:=by have:=(List.getElem?_eq_some_iff.1 hu).1;rw [List.length_map] at this;exact this
 rw [Nat.zero_add,World.cell?_setCells_out g vs zs.length W ⟨g,j,none⟩ (fun _ _=>Or.inl hj),nr_own h (show j<ys.length by omega),←hu,List.getElem?_map,List.getElem?_eq_getElem hj]
 have:zs[j]=ys[j]'(by omega):=by
  have:=congrArg (fun t=>t[j]?) hz
  simp only [List.getElem?_take_of_lt hj,List.getElem?_eq_getElem hj,List.getElem?_eq_getElem (show j<ys.length by omega),Option.some.injEq] at this
  exact this.symm
 rw [this]
 rfl
theorem laV_kp {l:List Le} {h:List Du} (t:TbOk l h) (now ep:Int):laV l h now ep=kpI (pgF l h ep) (unR h now):=by
 rw [t.lav]
 unfold laF kpI unR
 rw [if_pos t.va]
 rfl
theorem un_in {l:List Le} {h:List Du} (t:TbOk l h) (now:Int):(∀ x∈unR h now,0≤kFi Le.id l x)∧(unR h now).length≤12:=by
 unfold unR
 rw [if_pos t.va]
 have hh:=(vaF_zero t.va).2.2.2
 refine ⟨fun x hx=>?_,?_⟩
 ·obtain ⟨d,hd,-,e⟩:=(unF_mem hh now x).1 hx
  rw [←kFi_du]
  exact kFi_ge.2 ⟨d,t.perm.mem_iff.1 hd,e⟩
 ·rw [unF_len hh]
  exact Nat.le_trans (List.length_filter_le _ _) (by rw [t.hlen];exact t.len)
theorem LpW.start {w:World} {A A2:Option Addr} {c c2:Nat} {l:List Le} {h:List Du} (hv:El w w.heap.size (.slice A l.length c) l) (hd:Dl w w.heap.size (.slice A2 h.length c2) h) (ep:Int):LpW w w.heap.size (w.heap.size+1) A c l A2 c2 h ep ((w.alloc (.cells #[.slice A l.length c,.slice A2 h.length c2] 31)).alloc (.cells #[.int .i64 ep] 3)):=
 ⟨(VaA.start 31 hv hd).alloc _,by simp [go_sem],by simp⟩
end Go.Proofs.YtncgbldcjfbknaaGreat
