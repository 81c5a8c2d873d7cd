/- What is proved here: lease.Find by a contract; the reference's Purged of message, by one contract for all arguments; Purged, Spent, Receivable, Deliver, Revive, Reroute of message and their references, each by one contract for all arguments; shard.Holds by a contract; shard.putError by a contract. -/
import Derived.Test.YtncgbldcjfbknaaGreatJ18
namespace Go.Proofs.YtncgbldcjfbknaaGreat
open Go.RowKit
set_option linter.unusedVariables false
theorem fn_has {l:List Le} {h:List Du} {id:Int} (t:TbOk l h) (e:kHas Le.id l id=true):∃ hk:kAt Le.id l id<l.length,fnO l h id=true∧fnX l h id=l[kAt Le.id l id]:=by
 obtain ⟨e1,e2⟩:=kAt_fi t.asc (kHas_iff.1 e)
 exact ⟨e2,fn_yes ((tbV_iff l h).2 t) e2 e1⟩
set_option maxHeartbeats 8000000 in
set_option maxRecDepth 20000 in
theorem lfind_any (A:Option Addr) (n c:Nat) (l:List Le) (A2:Option Addr) (n2 c2:Nat) (h:List Du) (id:Int) (w:World) (hv:El w w.heap.size (.slice A n c) l) (hd:Dl w w.heap.size (.slice A2 n2 c2) h) :
  Calls Tryz.prog 63 #[tv A n c A2 n2 c2,.int .i64 id] w fun e w'=>e=.returned (.tuple #[(fnX l h id).v,.bool (fnO l h id)])∧Below w.heap.size w w':=by
 obtain ⟨rfl,hm1,hm2⟩:=hv.len
 obtain ⟨rfl,hm3,hm4⟩:=hd.len
 have H0:=Lh ((VaA.start 31 hv hd).alloc (.cells #[.int .i64 0,.int .i64 0,.int .i64 0,.int .i64 0,.int .i64 0,.int .i64 0,.string ⟨#[]⟩,.int .i64 0] 58))
 have HR0:=Lh (RL.start (w.alloc (.cells #[.slice A l.length c,.slice A2 h.length c2] 31)) zL 58)
 clear hv hd hm1 hm2 hm3 hm4
 obtain ⟨O,hO⟩:∃ O,O=fnO l h id:=⟨_,rfl⟩
 obtain ⟨X,hX⟩:∃ X,X=fnX l h id:=⟨_,rfl⟩
 obtain ⟨z,hz⟩:∃ z,z=tbV l h:=⟨_,rfl⟩
 have HV:=Lh (fun p W (k:VaA w p A c l A2 c2 h W)=>lvalid_any A l.length c l A2 h.length c2 h W k.el k.dl)
 rw [←hz] at HV
 rw [←hO,←hX]
 have HO:=Lh hO
 have HX:=Lh hX
 have HZ:=Lh hz
 clear hO hX hz
 go_enter Tryz.func63,Tryz.ntmps63
 obtain ⟨t0,t1,tl⟩:=H0.out.tb
 go_wp2_with fail
 clear t0 t1 tl
 obtain ⟨p,hp⟩:∃ p,p=w.heap.size:=⟨_,rfl⟩
 obtain ⟨r,hr⟩:∃ r,r=w.heap.size+1:=⟨_,rfl⟩
 have HPR:=Lh (show ¬p=r∧w.heap.size≤r by omega)
 have e1:(w.alloc (.cells #[.slice A l.length c,.slice A2 h.length c2] 31)).heap.size=r:=by rw [hr];simp
 rw [e1] at HR0
 have HS:=Lh (show VaA w p A c l A2 c2 h ((w.alloc (.cells #[.slice A l.length c,.slice A2 h.length c2] 31)).alloc (.cells #[.int .i64 0,.int .i64 0,.int .i64 0,.int .i64 0,.int .i64 0,.int .i64 0,.string ⟨#[]⟩,.int .i64 0] 58))∧RL ((w.alloc (.cells #[.slice A l.length c,.slice A2 h.length c2] 31)).alloc (.cells #[.int .i64 0,.int .i64 0,.int .i64 0,.int .i64 0,.int .i64 0,.int .i64 0,.string ⟨#[]⟩,.int .i64 0] 58)) r zL from ⟨by rw [hp];exact H0.out,HR0.out⟩)
 rw [←hr,←hp]
 clear e1 H0 HR0 hp hr
 generalize ((w.alloc (.cells #[.slice A l.length c,.slice A2 h.length c2] 31)).alloc (.cells #[.int .i64 0,.int .i64 0,.int .i64 0,.int .i64 0,.int .i64 0,.int .i64 0,.string ⟨#[]⟩,.int .i64 0] 58))=w2 at*
 have hpr:¬p=r:=HPR.out.1
 have hrp:¬r=p:=fun e=>HPR.out.1 e.symm
 by_cases hz0:z=0
 ·rw [hz0] at HV
  have HT:=Lh ((tbV_iff l h).1 (HZ.out.symm.trans hz0))
  have HP:=Lh (fun p W (k:VaA w p A c l A2 c2 h W)=>lplace_any A l.length c l id W k.el HT.out.asc (by have:=HT.out.len;omega))
  have HFH:=Lh (fun e=>fn_has (id:=id) HT.out e)
  have HFN:=Lh (fun e=>fn_no (l:=l) (h:=h) (id:=id) e)
  have HKN:=Lh (fun e=>(kHas_not (key:=Le.id) (l:=l) (x:=id)).1 e)
  unfold PlR at HP
  obtain ⟨i,hi⟩:∃ i,i=kAt Le.id l id:=⟨_,rfl⟩
  rw [←hi] at HP
  have HI:=Lh hi
  clear hz0 hi
  refine (HV.out _ _ HS.out.1).mono ?_
  rintro e w3 ⟨rfl,hb⟩
  have HS3:=Lh (show VaA w p A c l A2 c2 h w3∧RL w3 r zL from ⟨HS.out.1.below hb,HS.out.2.below hb HS.out.2.lt⟩)
  clear hb
  obtain ⟨t0,t1,tl⟩:=HS3.out.1.tb
  go_wp2_with fail
  clear t0 t1 tl
  cases ho:kHas Le.id l id with
  | false=>
   rw [ho] at HP
   have HXO:=Lh (show X=zL∧O=false from ⟨HX.out.trans (HFN.out (fun hh=>by have:=HKN.out ho;omega)).2,HO.out.trans (HFN.out (fun hh=>by have:=HKN.out ho;omega)).1⟩)
   clear ho
   refine (HP.out _ _ HS3.out.1).mono ?_
   rintro e w4 ⟨rfl,hb⟩
   have HS4:=Lh (show VaA w p A c l A2 c2 h w4∧RL w4 r zL from ⟨HS3.out.1.below hb,HS3.out.2.below hb HS3.out.2.lt⟩)
   clear hb
   obtain ⟨r0,r1,r2,r3,r4,r5,r6,r7,g0,g1,g2,g3,g4,g5,g6,g7,rl⟩:=HS4.out.2
   go_wp2
   exact bodyPost_ret (v:=.tuple #[.agg #[.int .i64 0,.int .i64 0,.int .i64 0,.int .i64 0,.int .i64 0,.int .i64 0,.string ⟨#[]⟩,.int .i64 0],.bool false]) (by simp only [results,Tryz.results63];go_simp <;> rfl) rfl ⟨by rw [HXO.out.1,HXO.out.2];rfl,sets_below HPR.out.2 zL.l 0 _ HS4.out.1.bel⟩
  | true=>
   rw [ho] at HP
   obtain ⟨hk,e1,e2⟩:=HFH.out ho
   have hki:i<l.length:=by rw [HI.out];exact hk
   have hki' : (i:Int)<(l.length:Int):=by omega
   obtain ⟨Y,hY⟩:∃ Y,l[i]=Y:=⟨_,rfl⟩
   have HXO:=Lh (show X=Y∧O=true from ⟨(HX.out.trans e2).trans (by rw [←hY];simp only [HI.out]),HO.out.trans e1⟩)
   have HYK:=Lh hY
   clear ho e1 e2 hk hY
   refine (HP.out _ _ HS3.out.1).mono ?_
   rintro e w4 ⟨rfl,hb⟩
   have HS4:=Lh (show VaA w p A c l A2 c2 h w4∧RL w4 r zL from ⟨HS3.out.1.below hb,HS3.out.2.below hb HS3.out.2.lt⟩)
   clear hb
   obtain ⟨t0,t1,tl⟩:=HS4.out.1.tb
   obtain ⟨r0,r1,r2,r3,r4,r5,r6,r7,g0,g1,g2,g3,g4,g5,g6,g7,rl⟩:=HS4.out.2
   obtain ⟨b,o,rfl,hbl⟩:=HS4.out.1.el.some_ (by omega)
   obtain ⟨⟨c0,c1,c2',c3,c4,c5,c6,c7⟩,_⟩:=HS4.out.1.el.c8 hki
   rw [HYK.out] at c0 c1 c2' c3 c4 c5 c6 c7
   go_wp2
   exact bodyPost_ret (v:=.tuple #[Y.v,.bool true]) (by simp only [results,Tryz.results63];go_simp <;> rfl) rfl ⟨by rw [HXO.out.1,HXO.out.2],sets_below HPR.out.2 Y.l 0 _ HS4.out.1.bel⟩
 ·have hz' : (z != 0)=true:=by simpa using hz0
  have HXO:=Lh (show X=zL∧O=false from ⟨HX.out.trans (fn_no fun hh=>by have:=HZ.out;omega).2,HO.out.trans (fn_no fun hh=>by have:=HZ.out;omega).1⟩)
  clear hz0
  refine (HV.out _ _ HS.out.1).mono ?_
  rintro e w4 ⟨rfl,hb⟩
  have HS4:=Lh (show VaA w p A c l A2 c2 h w4∧RL w4 r zL from ⟨HS.out.1.below hb,HS.out.2.below hb HS.out.2.lt⟩)
  clear hb
  obtain ⟨r0,r1,r2,r3,r4,r5,r6,r7,g0,g1,g2,g3,g4,g5,g6,g7,rl⟩:=HS4.out.2
  go_wp2
  exact bodyPost_ret (v:=.tuple #[.agg #[.int .i64 0,.int .i64 0,.int .i64 0,.int .i64 0,.int .i64 0,.int .i64 0,.string ⟨#[]⟩,.int .i64 0],.bool false]) (by simp only [results,Tryz.results63];go_simp <;> rfl) rfl ⟨by rw [HXO.out.1,HXO.out.2];rfl,sets_below HPR.out.2 zL.l 0 _ HS4.out.1.bel⟩
theorem rpurged_any (M:Msg) (k:Int) (w:World):Calls Tryz.prog 125 #[M.v,.int .i64 k] w fun e w'=>e=.returned (.bool (puF M k))∧Below w.heap.size w w':=by
 have HB:=Lh ((Below.refl w.heap.size w).alloc (Nat.le_refl _) (.cells M.cs 56))
 by_cases h:M.ep<k
 ·have HF:=Lh (show puF M k=true from decide_eq_true h)
  go_enter Tryz.func125,Tryz.ntmps125
  go_wp2
  go_ret
  exact ⟨by rw [HF.out];rfl,HB.out⟩
 ·have HF:=Lh (show puF M k=false from decide_eq_false h)
  go_enter Tryz.func125,Tryz.ntmps125
  go_wp2
  go_ret
  exact ⟨by rw [HF.out];rfl,HB.out⟩
def spF (M:Msg) (l:Int):Bool:=decide (l≤M.ct)
def rvF (M:Msg) (e l:Int):Bool:=!puF M e&&(!spF M l&&decide (M.gn<65536))
theorem spent_any (M:Msg) (k:Int) (w:World):Calls Tryz.prog 53 #[M.v,.int .i64 k] w fun e w'=>e=.returned (.bool (spF M k))∧Below w.heap.size w w':=by
 have HB:=Lh ((Below.refl w.heap.size w).alloc (Nat.le_refl _) (.cells M.cs 56))
 by_cases h:k≤M.ct
 ·have HF:=Lh (show spF M k=true from decide_eq_true h)
  go_enter Tryz.func53,Tryz.ntmps53
  go_wp2
  go_ret
  exact ⟨by rw [HF.out];rfl,HB.out⟩
 ·have HF:=Lh (show spF M k=false from decide_eq_false h)
  go_enter Tryz.func53,Tryz.ntmps53
  go_wp2
  go_ret
  exact ⟨by rw [HF.out];rfl,HB.out⟩
set_option maxHeartbeats 1000000 in
theorem receivable_any (M:Msg) (k l:Int) (w:World):Calls Tryz.prog 47 #[M.v,.int .i64 k,.int .i64 l] w fun e w'=>e=.returned (.bool (rvF M k l))∧Below w.heap.size w w':=by
 have HB:=Lh ((Below.refl w.heap.size w).alloc (Nat.le_refl _) (.cells M.cs 56))
 have HP:=Lh (fun w=>purged_any M k w)
 have HS:=Lh (fun w=>spent_any M l w)
 cases hp:puF M k with
 | true=>
  have HF:=Lh (show rvF M k l=false by simp [rvF,hp])
  rw [hp] at HP
  clear hp
  go_enter Tryz.func47,Tryz.ntmps47
  go_wp2_with fail
  refine (HP.out _).mono ?_
  rintro e w1 ⟨rfl,hb⟩
  obtain ⟨hc1,hf1⟩:=bcell hb
  have HB1:=Lh (HB.out.trans (hb.mono HB.out.size))
  have hz1:=hb.size
  try simp at hz1
  clear hb
  go_wp2
  go_ret
  exact ⟨by rw [HF.out];rfl,HB1.out⟩
 | false=>
  rw [hp] at HP
  cases hs:spF M l with
  | true=>
   have HF:=Lh (show rvF M k l=false by simp [rvF,hp,hs])
   rw [hs] at HS
   clear hp hs
   go_enter Tryz.func47,Tryz.ntmps47
   go_wp2_with fail
   refine (HP.out _).mono ?_
   rintro e w1 ⟨rfl,hb⟩
   obtain ⟨hc1,hf1⟩:=bcell hb
   have HB1:=Lh (HB.out.trans (hb.mono HB.out.size))
   have hz1:=hb.size
   try simp at hz1
   clear hb
   go_wp2_with fail
   refine (HS.out _).mono ?_
   rintro e w2 ⟨rfl,hb⟩
   obtain ⟨hc2,hf2⟩:=bcell hb
   have HB2:=Lh (HB1.out.trans (hb.mono HB1.out.size))
   have hz2:=hb.size
   try simp at hz2
   clear hb
   go_wp2
   go_ret
   exact ⟨by rw [HF.out];rfl,HB2.out⟩
  | false=>
   rw [hs] at HS
   by_cases hg:M.gn<65536
   ·have HF:=Lh (show rvF M k l=true by simp [rvF,hp,hs,hg])
    clear hp hs
    go_enter Tryz.func47,Tryz.ntmps47
    go_wp2_with fail
    refine (HP.out _).mono ?_
    rintro e w1 ⟨rfl,hb⟩
    obtain ⟨hc1,hf1⟩:=bcell hb
    have HB1:=Lh (HB.out.trans (hb.mono HB.out.size))
    have hz1:=hb.size
    try simp at hz1
    clear hb
    go_wp2_with fail
    refine (HS.out _).mono ?_
    rintro e w2 ⟨rfl,hb⟩
    obtain ⟨hc2,hf2⟩:=bcell hb
    have HB2:=Lh (HB1.out.trans (hb.mono HB1.out.size))
    have hz2:=hb.size
    try simp at hz2
    clear hb
    have hlt:w.heap.size<w1.heap.size:=by omega
    go_wp2
    go_ret
    exact ⟨by rw [HF.out];rfl,HB2.out⟩
   ·have HF:=Lh (show rvF M k l=false by simp [rvF,hp,hs];omega)
    clear hp hs
    go_enter Tryz.func47,Tryz.ntmps47
    go_wp2_with fail
    refine (HP.out _).mono ?_
    rintro e w1 ⟨rfl,hb⟩
    obtain ⟨hc1,hf1⟩:=bcell hb
    have HB1:=Lh (HB.out.trans (hb.mono HB.out.size))
    have hz1:=hb.size
    try simp at hz1
    clear hb
    go_wp2_with fail
    refine (HS.out _).mono ?_
    rintro e w2 ⟨rfl,hb⟩
    obtain ⟨hc2,hf2⟩:=bcell hb
    have HB2:=Lh (HB1.out.trans (hb.mono HB1.out.size))
    have hz2:=hb.size
    try simp at hz2
    clear hb
    have hlt:w.heap.size<w1.heap.size:=by omega
    go_wp2
    go_ret
    exact ⟨by rw [HF.out,←decide_eq_false (show ¬M.gn<65536 by omega)];rfl,HB2.out⟩
theorem rspent_any (M:Msg) (k:Int) (w:World):Calls Tryz.prog 126 #[M.v,.int .i64 k] w fun e w'=>e=.returned (.bool (spF M k))∧Below w.heap.size w w':=by
 have HB:=Lh ((Below.refl w.heap.size w).alloc (Nat.le_refl _) (.cells M.cs 56))
 by_cases h:k≤M.ct
 ·have HF:=Lh (show spF M k=true from decide_eq_true h)
  go_enter Tryz.func126,Tryz.ntmps126
  go_wp2
  go_ret
  exact ⟨by rw [HF.out];rfl,HB.out⟩
 ·have HF:=Lh (show spF M k=false from decide_eq_false h)
  go_enter Tryz.func126,Tryz.ntmps126
  go_wp2
  go_ret
  exact ⟨by rw [HF.out];rfl,HB.out⟩
set_option maxHeartbeats 1000000 in
theorem rreceivable_any (M:Msg) (k l:Int) (w:World):Calls Tryz.prog 134 #[M.v,.int .i64 k,.int .i64 l] w fun e w'=>e=.returned (.bool (rvF M k l))∧Below w.heap.size w w':=by
 have HB:=Lh ((Below.refl w.heap.size w).alloc (Nat.le_refl _) (.cells M.cs 56))
 have HP:=Lh (fun w=>rpurged_any M k w)
 have HS:=Lh (fun w=>rspent_any M l w)
 cases hp:puF M k with
 | true=>
  have HF:=Lh (show rvF M k l=false by simp [rvF,hp])
  rw [hp] at HP
  clear hp
  go_enter Tryz.func134,Tryz.ntmps134
  go_wp2_with fail
  refine (HP.out _).mono ?_
  rintro e w1 ⟨rfl,hb⟩
  obtain ⟨hc1,hf1⟩:=bcell hb
  have HB1:=Lh (HB.out.trans (hb.mono HB.out.size))
  have hz1:=hb.size
  try simp at hz1
  clear hb
  go_wp2
  go_ret
  exact ⟨by rw [HF.out];rfl,HB1.out⟩
 | false=>
  rw [hp] at HP
  cases hs:spF M l with
  | true=>
   have HF:=Lh (show rvF M k l=false by simp [rvF,hp,hs])
   rw [hs] at HS
   clear hp hs
   go_enter Tryz.func134,Tryz.ntmps134
   go_wp2_with fail
   refine (HP.out _).mono ?_
   rintro e w1 ⟨rfl,hb⟩
   obtain ⟨hc1,hf1⟩:=bcell hb
   have HB1:=Lh (HB.out.trans (hb.mono HB.out.size))
   have hz1:=hb.size
   try simp at hz1
   clear hb
   go_wp2_with fail
   refine (HS.out _).mono ?_
   rintro e w2 ⟨rfl,hb⟩
   obtain ⟨hc2,hf2⟩:=bcell hb
   have HB2:=Lh (HB1.out.trans (hb.mono HB1.out.size))
   have hz2:=hb.size
   try simp at hz2
   clear hb
   go_wp2
   go_ret
   exact ⟨by rw [HF.out];rfl,HB2.out⟩
  | false=>
   rw [hs] at HS
   by_cases hg:M.gn<65536
   ·have HF:=Lh (show rvF M k l=true by simp [rvF,hp,hs,hg])
    clear hp hs
    go_enter Tryz.func134,Tryz.ntmps134
    go_wp2_with fail
    refine (HP.out _).mono ?_
    rintro e w1 ⟨rfl,hb⟩
    obtain ⟨hc1,hf1⟩:=bcell hb
    have HB1:=Lh (HB.out.trans (hb.mono HB.out.size))
    have hz1:=hb.size
    try simp at hz1
    clear hb
    go_wp2_with fail
    refine (HS.out _).mono ?_
    rintro e w2 ⟨rfl,hb⟩
    obtain ⟨hc2,hf2⟩:=bcell hb
    have HB2:=Lh (HB1.out.trans (hb.mono HB1.out.size))
    have hz2:=hb.size
    try simp at hz2
    clear hb
    have hlt:w.heap.size<w1.heap.size:=by omega
    go_wp2
    go_ret
    exact ⟨by rw [HF.out];rfl,HB2.out⟩
   ·have HF:=Lh (show rvF M k l=false by simp [rvF,hp,hs];omega)
    clear hp hs
    go_enter Tryz.func134,Tryz.ntmps134
    go_wp2_with fail
    refine (HP.out _).mono ?_
    rintro e w1 ⟨rfl,hb⟩
    obtain ⟨hc1,hf1⟩:=bcell hb
    have HB1:=Lh (HB.out.trans (hb.mono HB.out.size))
    have hz1:=hb.size
    try simp at hz1
    clear hb
    go_wp2_with fail
    refine (HS.out _).mono ?_
    rintro e w2 ⟨rfl,hb⟩
    obtain ⟨hc2,hf2⟩:=bcell hb
    have HB2:=Lh (HB1.out.trans (hb.mono HB1.out.size))
    have hz2:=hb.size
    try simp at hz2
    clear hb
    have hlt:w.heap.size<w1.heap.size:=by omega
    go_wp2
    go_ret
    exact ⟨by rw [HF.out,←decide_eq_false (show ¬M.gn<65536 by omega)];rfl,HB2.out⟩
structure Hn where
 id:Int
 gn:Int
 rt:Int
 ht:Int
abbrev Hn.v (H:Hn):Value:=.agg #[.int .i64 H.id,.int .i64 H.gn,.int .i64 H.rt,.int .i64 H.ht]
def hxF (X:Le) (H:Hn) (now ep:Int):Bool:=(X.m.gn==H.gn)&&((X.m.rt==H.rt)&&(!puF X.m ep&&decide (now<X.dl)))
noncomputable def hoF (S:Sh) (H:Hn) (now ep:Int):Bool:=decide (exS S (wi now 0 1073741824&&wi ep 0 65536)=0)&&(fnO S.l S.h H.id&&hxF (fnX S.l S.h H.id) H now ep)
def H4 (W:World) (q:Nat) (H:Hn):Prop:=W.cell? ⟨q,0,none⟩=some (.int .i64 H.id)∧W.cell? ⟨q,1,none⟩=some (.int .i64 H.gn)∧W.cell? ⟨q,2,none⟩=some (.int .i64 H.rt)∧W.cell? ⟨q,3,none⟩=some (.int .i64 H.ht)∧q<W.heap.size
theorem H4.up {W W' : World} {q:Nat} {H:Hn} (h:H4 W q H) (hb:Below W.heap.size W W'):H4 W' q H:=by
 obtain ⟨h0,h1,h2,h3,hl⟩:=h
 exact ⟨(hb.cell (p:=⟨q,0,none⟩) hl).trans h0,(hb.cell (p:=⟨q,1,none⟩) hl).trans h1,(hb.cell (p:=⟨q,2,none⟩) hl).trans h2,(hb.cell (p:=⟨q,3,none⟩) hl).trans h3,Nat.lt_of_lt_of_le hl hb.size⟩
theorem H4.start (w:World) (H:Hn) (t:TypeId):H4 (w.alloc (.cells #[.int .i64 H.id,.int .i64 H.gn,.int .i64 H.rt,.int .i64 H.ht] t)) w.heap.size H:=
 ⟨by simp [go_sem],by simp [go_sem],by simp [go_sem],by simp [go_sem],by simp⟩
theorem nl_two (w:World) (a b:Rn) (t:TypeId):Nl (w.alloc (.cells #[.int .i64 a.n,.int .i64 a.lo,.int .i64 a.hi,.int .i64 b.n,.int .i64 b.lo,.int .i64 b.hi] t)) (w.heap.size+1) (.slice (some ⟨w.heap.size,0,none⟩) 2 2) [a,b]:=by
 refine ⟨_,2,rfl,Nat.le_refl _,by unfold maxLen;omega,by simp [rcs,Rn.l],fun _=>⟨w.heap.size,0,rfl,Nat.lt_succ_self _,fun j u hu=>?_⟩⟩
 rw [Nat.zero_add,World.cell?_alloc_new]
 simpa [rcs,Rn.l] using hu
set_option maxHeartbeats 8000000 in
set_option maxRecDepth 20000 in
theorem sholds_any (S:Sh) (D:Sx) (H:Hn) (now ep:Int) (w:World) (hs:SR w w.heap.size S D) :
  Calls Tryz.prog 23 #[sv S D,H.v,.int .i64 now,.int .i64 ep] w fun e w'=>e=.returned (.bool (hoF S H now ep))∧Below w.heap.size w w':=by
 have H0:=Lh ((SAt.start 33 hs).alloc (.cells #[.int .i64 H.id,.int .i64 H.gn,.int .i64 H.rt,.int .i64 H.ht] 40))
 have Q0:=Lh (H4.start (w.alloc (.cells #[.bool S.lv,.int .i64 S.lo,.int .i64 S.hi,.slice D.A S.cs.length D.c,.int .i64 S.hd,.int .i64 S.sz,.slice D.A2 S.l.length D.c2,.slice D.A3 S.h.length D.c3] 33)) H 40)
 have HV:=Lh (fun A c p W (k:SAt w p S D W) (hn:Nl W W.heap.size (.slice A 2 c) [⟨now,0,1073741824⟩,⟨ep,0,65536⟩])=>sexam_any S D A 2 c [⟨now,0,1073741824⟩,⟨ep,0,65536⟩] W k.sr hn)
 have HE:([⟨now,0,1073741824⟩,⟨ep,0,65536⟩]:List Rn).all Rn.ok=(wi now 0 1073741824&&wi ep 0 65536):=by simp [Rn.ok]
 rw [HE] at HV
 clear HE
 have HT:=Lh (fun W=>atime_any now W)
 have HP:=Lh (fun W=>aepoch_any ep W)
 have HF:=Lh (fun p W (k:SAt w p S D W)=>lfind_any D.A2 S.l.length D.c2 S.l D.A3 S.h.length D.c3 S.h H.id W k.sr.el k.sr.dl)
 have HHO:Hid (hoF S H now ep=(decide (exS S (wi now 0 1073741824&&wi ep 0 65536)=0)&&(fnO S.l S.h H.id&&hxF (fnX S.l S.h H.id) H now ep))):=Lh rfl
 clear hs
 generalize exS S (wi now 0 1073741824&&wi ep 0 65536)=z at*
 generalize hoF S H now ep=a at*
 generalize fnX S.l S.h H.id=X at*
 generalize fnO S.l S.h H.id=O at*
 unfold hxF at HHO
 have HPU:=Lh (fun W=>purged_any X.m ep W)
 generalize puF X.m ep=pu at*
 go_enter Tryz.func23,Tryz.ntmps23
 obtain ⟨p,hp⟩:∃ p,p=w.heap.size:=⟨_,rfl⟩
 obtain ⟨q,hq⟩:∃ q,q=w.heap.size+1:=⟨_,rfl⟩
 have e1:(w.alloc (.cells #[.bool S.lv,.int .i64 S.lo,.int .i64 S.hi,.slice D.A S.cs.length D.c,.int .i64 S.hd,.int .i64 S.sz,.slice D.A2 S.l.length D.c2,.slice D.A3 S.h.length D.c3] 33)).heap.size=q:=by rw [hq];simp
 rw [e1] at Q0
 rw [←hp] at H0
 have HPQ:=Lh (show w.heap.size≤p∧p<q by omega)
 clear e1
 go_upto_region 1 with (fail)
 rw [←hq,←hp]
 clear hp hq
 generalize ((w.alloc (.cells #[.bool S.lv,.int .i64 S.lo,.int .i64 S.hi,.slice D.A S.cs.length D.c,.int .i64 S.hd,.int .i64 S.sz,.slice D.A2 S.l.length D.c2,.slice D.A3 S.h.length D.c3] 33)).alloc (.cells #[.int .i64 H.id,.int .i64 H.gn,.int .i64 H.rt,.int .i64 H.ht] 40))=w1 at*
 have HD:=Lh H0.out.drew
 have Q1:=Lh (Q0.out.up ((Below.refl _ _).drew))
 have HT0:=Lh (show K8 p S D w1.drew from HD.out.k8)
 go_region_held3 (fun W=>K8 p S D W)
  (first | with_reducible exact HT0.out | with_reducible exact HT1.out | with_reducible exact HT2.out | with_reducible exact HT3.out | with_reducible exact HT4.out)
  (first
  | (go_at_call 41;(with_reducible refine (HT.out _).mono ?_);rintro e w3 ⟨rfl,hb⟩;have HA1:=Lh (HD.out.below hb);have Q2:=Lh (Q1.out.up hb);have HT1:=Lh HA1.out.k8;clear hb)
  | (go_at_call 43;(with_reducible refine (HP.out _).mono ?_);rintro e w4 ⟨rfl,hb⟩;have HA2:=Lh (HA1.out.below hb);have Q3:=Lh (Q2.out.up hb);have HT2:=Lh HA2.out.k8;have HA3:=Lh (HA2.out.alloc (.cells #[.int .i64 now,.int .i64 0,.int .i64 1073741824,.int .i64 ep,.int .i64 0,.int .i64 65536] 82));have Q4:=Lh (Q3.out.up ((Below.refl _ _).alloc (Nat.le_refl _) (.cells #[.int .i64 now,.int .i64 0,.int .i64 1073741824,.int .i64 ep,.int .i64 0,.int .i64 65536] 82)));have HT3:=Lh HA3.out.k8;have HNL:=Lh (nl_two w4 ⟨now,0,1073741824⟩ ⟨ep,0,65536⟩ 82);clear hb)
  | (go_at_call 40;(with_reducible refine (HV.out _ _ _ _ HA3.out ?_).mono ?_);(have:=HNL.out;simpa using this);rintro e w5 ⟨rfl,hb⟩;have HA4:=Lh (HA3.out.below hb);have Q5:=Lh (Q4.out.up hb);have HT4:=Lh HA4.out.k8;clear hb))
 by_cases hz:z=0
 ·subst hz
  obtain ⟨t0,t1,t2,t3,t4,t5,t6,t7,tl⟩:=HA4.out.s8.facts
  obtain ⟨q0,q1,q2,q3,ql⟩:=Q5.out
  go_wp2_with fail
  clear t0 t1 t2 t3 t4 t5 t6 t7 tl q0 q1 q2 q3 ql
  refine (HF.out _ _ HA4.out).mono ?_
  rintro e w6 ⟨rfl,hb⟩
  have B6:=Lh (bal (btr HA4.out.bel hb) (.cells #[.int .i64 X.m.id,.int .i64 X.m.rt,.int .i64 X.m.ep,.int .i64 X.m.ct,.int .i64 X.m.gn,.int .i64 X.m.st,.string X.m.bd,.int .i64 X.dl] 58))
  obtain ⟨q0,q1,q2,q3,ql⟩:=Q5.out.up hb
  clear hb
  cases O with
  | false=>
   have HX:=Lh (show a=false by rw [HHO.out];simp)
   clear HHO
   go_wp2
   go_ret
   exact ⟨by rw [HX.out];rfl,B6.out⟩
  | true=>
   cases h1:(X.m.gn==H.gn) with
   | false=>
    have HX:=Lh (show a=false by rw [HHO.out,h1];simp)
    clear HHO
    go_wp2
    go_ret
    exact ⟨by rw [HX.out];rfl,B6.out⟩
   | true=>
    cases h2:(X.m.rt==H.rt) with
    | false=>
     have HX:=Lh (show a=false by rw [HHO.out,h2];simp)
     clear HHO
     go_wp2
     go_ret
     exact ⟨by rw [HX.out];rfl,B6.out⟩
    | true=>
     cases pu with
     | true=>
      have HX:=Lh (show a=false by rw [HHO.out];simp)
      clear HHO
      go_wp2_with fail
      refine (HPU.out _).mono ?_
      rintro e w7 ⟨rfl,hb⟩
      have B7:=Lh (btr B6.out hb)
      clear hb
      go_wp2
      go_ret
      exact ⟨by rw [HX.out];rfl,B7.out⟩
     | false=>
      have hz':=B6.out.size
      have HX:=Lh (show a=decide (now<X.dl) by rw [HHO.out,h1,h2];simp)
      clear HHO
      go_wp2_with fail
      refine (HPU.out _).mono ?_
      rintro e w7 ⟨rfl,hb⟩
      have B7:=Lh (btr B6.out hb)
      have c7:=(hb.cell (p:=⟨w6.heap.size,7,none⟩) (by simp)).trans (show _=some (.int .i64 X.dl) by simp [go_sem])
      clear hb
      go_wp2
      go_ret
      exact ⟨by rw [HX.out];rfl,B7.out⟩
 ·have hne:(z != 0)=true:=bne_iff_ne.2 hz
  have HX:=Lh (show a=false by rw [HHO.out,decide_eq_false hz];simp)
  clear hz HHO
  go_wp2
  go_ret
  exact ⟨by rw [HX.out];rfl,HA4.out.bel⟩
noncomputable def puS (S:Sh) (M:Msg):Int:=if exS S true≠0 then exS S true else if vf M≠0 then vf M else if wi M.rt S.lo S.hi=false then 12 else if S.sz+S.l.length=S.cs.length then 3 else if dpB (S.al++[M])=true then 10 else 0
section
variable {S:Sh} {M:Msg}
theorem puS_ex (h:exS S true≠0):puS S M=exS S true:=if_pos h
theorem puS_vf (h:exS S true=0) (h1:vf M≠0):puS S M=vf M:=by unfold puS;rw [if_neg (fun g=>g h),if_pos h1]
theorem puS_12 (h:exS S true=0) (h1:vf M=0) (h2:wi M.rt S.lo S.hi=false):puS S M=12:=by unfold puS;rw [if_neg (fun g=>g h),if_neg (fun g=>g h1),if_pos h2]
theorem puS_3 (h:exS S true=0) (h1:vf M=0) (h2:wi M.rt S.lo S.hi=true) (h3:S.sz+S.l.length=S.cs.length):puS S M=3:=by unfold puS;rw [if_neg (fun g=>g h),if_neg (fun g=>g h1),if_neg (by simp [h2]),if_pos h3]
theorem puS_10 (h:exS S true=0) (h1:vf M=0) (h2:wi M.rt S.lo S.hi=true) (h3:¬S.sz+S.l.length=S.cs.length) (h4:dpB (S.al++[M])=true):puS S M=10:=by unfold puS;rw [if_neg (fun g=>g h),if_neg (fun g=>g h1),if_neg (by simp [h2]),if_neg h3,if_pos h4]
theorem puS_0 (h:exS S true=0) (h1:vf M=0) (h2:wi M.rt S.lo S.hi=true) (h3:¬S.sz+S.l.length=S.cs.length) (h4:dpB (S.al++[M])=false):puS S M=0:=by unfold puS;rw [if_neg (fun g=>g h),if_neg (fun g=>g h1),if_neg (by simp [h2]),if_neg h3,if_neg (by simp [h4])]
end
abbrev M7 (q:Nat) (M:Msg) (W:World):Prop:=W.cell? ⟨q,0,none⟩=some (.int .i64 M.id)∧W.cell? ⟨q,1,none⟩=some (.int .i64 M.rt)∧W.cell? ⟨q,2,none⟩=some (.int .i64 M.ep)∧W.cell? ⟨q,3,none⟩=some (.int .i64 M.ct)∧W.cell? ⟨q,4,none⟩=some (.int .i64 M.gn)∧W.cell? ⟨q,5,none⟩=some (.int .i64 M.st)∧W.cell? ⟨q,6,none⟩=some (.string M.bd)
structure MBx (W:World) (q:Nat) (M:Msg):Prop where
 m7:M7 q M W
 fr:∀ o,W.frozen? ⟨q,o,none⟩=false
 lt:q<W.heap.size
theorem MBx.keep {W W' : World} {q:Nat} {M:Msg} (h:MBx W q M) (hc:∀ o,W'.cell? ⟨q,o,none⟩=W.cell? ⟨q,o,none⟩) (hf:∀ o,W'.frozen? ⟨q,o,none⟩=W.frozen? ⟨q,o,none⟩) (hs:W.heap.size≤W'.heap.size):MBx W' q M:=by
 obtain ⟨⟨h0,h1,h2,h3,h4,h5,h6⟩,hfr,hl⟩:=h
 exact ⟨⟨(hc 0).trans h0,(hc 1).trans h1,(hc 2).trans h2,(hc 3).trans h3,(hc 4).trans h4,(hc 5).trans h5,(hc 6).trans h6⟩,fun o=>(hf o).trans (hfr o),Nat.lt_of_lt_of_le hl hs⟩
theorem MBx.up {W W' : World} {q:Nat} {M:Msg} (h:MBx W q M) (hb:Below W.heap.size W W'):MBx W' q M:=h.keep (fun o=>hb.cell (p:=⟨q,o,none⟩) h.lt) (fun o=>hb.frozen (p:=⟨q,o,none⟩) h.lt) hb.size
theorem MBx.grown {W W' : World} {q:Nat} {M:Msg} (h:MBx W q M) {row:Option Nat} (hg:W.grownBy W' row) (hr:∀ x,row=some x→x≠q):MBx W' q M:=
 h.keep (fun o=>hg.cell_far ⟨q,o,none⟩ h.lt (fun e=>hr q e.symm rfl)) (fun o=>hg.frozen_far ⟨q,o,none⟩ h.lt (fun e=>hr q e.symm rfl)) hg.size
theorem MBx.start (w:World) (M:Msg) (t:TypeId):MBx (w.alloc (.cells #[.int .i64 M.id,.int .i64 M.rt,.int .i64 M.ep,.int .i64 M.ct,.int .i64 M.gn,.int .i64 M.st,.string M.bd] t)) w.heap.size M:=
 ⟨⟨by simp [go_sem],by simp [go_sem],by simp [go_sem],by simp [go_sem],by simp [go_sem],by simp [go_sem],by simp [go_sem]⟩,fun o=>by simp [go_sem],by simp⟩
theorem SB8.grown {W W' : World} {p:Nat} {S:Sh} {D:Sx} (h:SB8 W p S D) {row:Option Nat} (hg:W.grownBy W' row) (hr:∀ x,row=some x→x≠p):SB8 W' p S D:=
 h.keep (fun o=>hg.cell_far ⟨p,o,none⟩ h.lt (fun e=>hr p e.symm rfl)) (fun o=>hg.frozen_far ⟨p,o,none⟩ h.lt (fun e=>hr p e.symm rfl)) hg.size
structure SmAt (w:World) (p q:Nat) (S:Sh) (D:Sx) (M:Msg) (W:World):Prop where
 sa:SAt w p S D W
 mb:MBx W q M
 lt:p<q
theorem SmAt.below {w W W' : World} {p q:Nat} {S:Sh} {D:Sx} {M:Msg} (h:SmAt w p q S D M W) (hb:Below W.heap.size W W'):SmAt w p q S D M W':=⟨h.sa.below hb,h.mb.up hb,h.lt⟩
theorem SmAt.alloc {w W:World} {p q:Nat} {S:Sh} {D:Sx} {M:Msg} (h:SmAt w p q S D M W) (o:Obj):SmAt w p q S D M (W.alloc o):=h.below ((Below.refl _ _).alloc (Nat.le_refl _) o)
theorem SmAt.drew {w W:World} {p q:Nat} {S:Sh} {D:Sx} {M:Msg} (h:SmAt w p q S D M W):SmAt w p q S D M W.drew:=h.below ((Below.refl _ _).drew)
theorem SmAt.k {w W:World} {p q:Nat} {S:Sh} {D:Sx} {M:Msg} (h:SmAt w p q S D M W):K8 p S D W∧M7 q M W:=⟨h.sa.k8,h.mb.m7⟩
theorem SmAt.start (w:World) (S:Sh) (D:Sx) (M:Msg) (t u:TypeId) (hs:SR w w.heap.size S D):SmAt w w.heap.size (w.heap.size+1) S D M ((w.alloc (.cells #[.bool S.lv,.int .i64 S.lo,.int .i64 S.hi,.slice D.A S.cs.length D.c,.int .i64 S.hd,.int .i64 S.sz,.slice D.A2 S.l.length D.c2,.slice D.A3 S.h.length D.c3] t)).alloc (.cells #[.int .i64 M.id,.int .i64 M.rt,.int .i64 M.ep,.int .i64 M.ct,.int .i64 M.gn,.int .i64 M.st,.string M.bd] u)):=by
 have h:=MBx.start (w.alloc (.cells #[.bool S.lv,.int .i64 S.lo,.int .i64 S.hi,.slice D.A S.cs.length D.c,.int .i64 S.hd,.int .i64 S.sz,.slice D.A2 S.l.length D.c2,.slice D.A3 S.h.length D.c3] t)) M u
 rw [show (w.alloc (.cells #[.bool S.lv,.int .i64 S.lo,.int .i64 S.hi,.slice D.A S.cs.length D.c,.int .i64 S.hd,.int .i64 S.sz,.slice D.A2 S.l.length D.c2,.slice D.A3 S.h.length D.c3] t)).heap.size=w.heap.size+1 by simp] at h
 exact ⟨(SAt.start t hs).alloc _,h,Nat.lt_succ_self _⟩
theorem SmAt.grown {w W W' : World} {p q lo:Nat} {S:Sh} {D:Sx} {M:Msg} (h:SmAt w p q S D M W) {row:Option Nat} (hg:W.grownBy W' row) (hr:∀ x,row=some x→lo≤x) (hq:q<lo):(K8 p S D W'∧M7 q M W')∧Below w.heap.size w W':=
 ⟨⟨(h.sa.s8.grown hg (fun x e=>by have:=hr x e;have:=h.lt;omega)).k8,(h.mb.grown hg (fun x e=>by have:=hr x e;omega)).m7⟩,h.sa.bel.grown hg h.sa.bel.size (fun x e=>by have:=hr x e;have:=h.sa.old;have:=h.lt;omega)⟩
theorem row_keep {W W' : World} {M:Msg} {g:Nat} (hc:∀ j u,M.l[j]? = some u→W.cell? ((⟨g,0,none⟩:Addr).add j)=some u) (hg:g<W.heap.size) (hb:Below W.heap.size W W'):∀ j u,M.l[j]? = some u→W'.cell? ((⟨g,0,none⟩:Addr).add j)=some u:=fun j u hu=>by
 have:=hc j u hu
 rw [add_mk] at this ⊢
 exact (hb.cell (p:=⟨g,0+j,none⟩) hg).trans this
theorem k_up {W W' : World} {p q:Nat} {S:Sh} {D:Sx} {M:Msg} (h:K8 p S D W∧M7 q M W) (hp:p<W.heap.size) (hq:q<W.heap.size) (hb:Below W.heap.size W W'):K8 p S D W'∧M7 q M W':=by
 obtain ⟨⟨h0,h1,h2,h3,h4,h5,h6,h7⟩,⟨m0,m1,m2,m3,m4,m5,m6⟩⟩:=h
 have c:∀ o,W'.cell? ⟨p,o,none⟩=W.cell? ⟨p,o,none⟩:=fun o=>hb.cell (p:=⟨p,o,none⟩) hp
 have d:∀ o,W'.cell? ⟨q,o,none⟩=W.cell? ⟨q,o,none⟩:=fun o=>hb.cell (p:=⟨q,o,none⟩) hq
 exact ⟨⟨(c 0).trans h0,(c 1).trans h1,(c 2).trans h2,(c 3).trans h3,(c 4).trans h4,(c 5).trans h5,(c 6).trans h6,(c 7).trans h7⟩,⟨(d 0).trans m0,(d 1).trans m1,(d 2).trans m2,(d 3).trans m3,(d 4).trans m4,(d 5).trans m5,(d 6).trans m6⟩⟩
theorem sal_le {S:Sh} (h:S.l.length≤12):S.al.length≤24:=by
 have:=lsF_le S.cs S.hd S.sz
 unfold Sh.al
 simp;omega
set_option maxHeartbeats 8000000 in
set_option maxRecDepth 20000 in
theorem sputerr_any (S:Sh) (D:Sx) (M:Msg) (w:World) (hs:SR w w.heap.size S D) :
  Calls Tryz.prog 73 #[sv S D,M.v] w (VlT w (puS S M)):=by
 obtain ⟨i0,hi0,hz0⟩:=Option.map_eq_some_iff.1 info_msg
 simp only [Prod.mk.injEq] at hz0
 have HI:=Lh hi0
 have HZ:=Lh hz0
 have H0:=Lh (SmAt.start w S D M 33 56 hs)
 have HV:=Lh (fun p W (k:SAt w p S D W)=>sexam_any S D none 0 0 [] W k.sr Nl.nil)
 have HE:([]:List Rn).all Rn.ok=true:=rfl
 rw [HE] at HV
 have HM:=Lh (fun W=>validate_any M W)
 have HH:=Lh (fun W=>shas_any S D M.rt W)
 clear hs HE hi0 hz0
 go_enter Tryz.func73,Tryz.ntmps73
 obtain ⟨t0,t1,t2,t3,t4,t5,t6,t7,tl⟩:=H0.out.sa.s8.facts
 go_wp2_with fail
 clear t0 t1 t2 t3 t4 t5 t6 t7 tl
 obtain ⟨p,hp⟩:∃ p,p=w.heap.size:=⟨_,rfl⟩
 obtain ⟨q,hq⟩:∃ q,q=w.heap.size+1:=⟨_,rfl⟩
 rw [←hq,←hp]
 rw [←hq,←hp] at H0
 clear hp hq
 generalize ((w.alloc (.cells #[.bool S.lv,.int .i64 S.lo,.int .i64 S.hi,.slice D.A S.cs.length D.c,.int .i64 S.hd,.int .i64 S.sz,.slice D.A2 S.l.length D.c2,.slice D.A3 S.h.length D.c3] 33)).alloc (.cells #[.int .i64 M.id,.int .i64 M.rt,.int .i64 M.ep,.int .i64 M.ct,.int .i64 M.gn,.int .i64 M.st,.string M.bd] 56))=w1 at*
 refine (HV.out _ _ H0.out.sa).mono ?_
 rintro e w2 ⟨rfl,hb⟩
 have H1:=Lh (H0.out.below hb)
 clear hb
 by_cases h1:exS S true=0
 ·have HN:=Lh (ex_nums h1)
  have HSZ:=Lh (fun W=>ssize_any S D W HN.out.2.2.1 (by have:=HN.out;omega) (by have:=HN.out;omega))
  have HCA:=Lh (fun W=>scap_any S D W)
  have HMS:=Lh (fun p W (k:SAt w p S D W)=>smsgs_any S D W k.sr (by have:=HN.out;omega))
  have HX1:=Lh h1
  rw [h1]
  clear h1
  obtain ⟨v0,v1,v2,v3,v4,v5,v6⟩:=H1.out.mb.m7
  have vl:=H1.out.mb.lt
  go_wp2_with fail
  clear v0 v1 v2 v3 v4 v5 v6 vl
  refine (HM.out _).mono ?_
  rintro e w3 ⟨rfl,hb⟩
  have H2:=Lh (H1.out.below hb)
  clear hb
  by_cases h2:vf M=0
  ·have HX2:=Lh h2
   rw [h2]
   clear h2
   obtain ⟨v0,v1,v2,v3,v4,v5,v6⟩:=H2.out.mb.m7
   have vl:=H2.out.mb.lt
   obtain ⟨t0,t1,t2,t3,t4,t5,t6,t7,tl⟩:=H2.out.sa.s8.facts
   go_wp2_with fail
   clear v0 v1 v2 v3 v4 v5 v6 vl t0 t1 t2 t3 t4 t5 t6 t7 tl
   refine (HH.out _).mono ?_
   rintro e w4 ⟨rfl,hb⟩
   have H3:=Lh (H2.out.below hb)
   clear hb
   cases h3:wi M.rt S.lo S.hi with
   | false=>
    have HX:=Lh (puS_12 HX1.out HX2.out h3)
    clear h3
    go_wp2
    go_ret
    exact ⟨by rw [HX.out];rfl,H3.out.sa.bel⟩
   | true=>
    have HX3:=Lh h3
    clear h3
    have HD:=Lh H3.out.drew
    have HT0:=Lh (show K8 p S D w4.drew from HD.out.sa.k8)
    obtain ⟨t0,t1,t2,t3,t4,t5,t6,t7,tl⟩:=HD.out.sa.s8.facts
    go_wp2_with fail
    obtain ⟨b4,hb4⟩:∃ b:Bool,b=(S.sz+(S.l.length:Int)==(S.cs.length:Int)):=⟨_,rfl⟩
    have HB4:=Lh hb4
    cases b4 with
    | true=>
     have hb4':=hb4.symm
     clear hb4
     go_region_held3 (fun W=>K8 p S D W)
      (first | with_reducible exact HT0.out | with_reducible exact HT1.out | with_reducible exact HT2.out)
      (first
      | (go_at_call 65;(with_reducible refine (HSZ.out _).mono ?_);rintro e w5 ⟨rfl,hb⟩;have HA1:=Lh (HD.out.below hb);have HT1:=Lh HA1.out.sa.k8;clear hb)
      | (go_at_call 66;(with_reducible refine (HCA.out _).mono ?_);rintro e w6 ⟨rfl,hb⟩;have HA2:=Lh (HA1.out.below hb);have HT2:=Lh HA2.out.sa.k8;clear hb))
     have HX:=Lh (puS_3 HX1.out HX2.out HX3.out (by have:=HB4.out.symm;simpa using this))
     go_wp2
     go_ret
     exact ⟨by rw [HX.out];rfl,HA2.out.sa.bel⟩
    | false=>
     have hb4':=hb4.symm
     clear hb4
     go_region_held3 (fun W=>K8 p S D W)
      (first | with_reducible exact HT0.out | with_reducible exact HT1.out | with_reducible exact HT2.out)
      (first
      | (go_at_call 65;(with_reducible refine (HSZ.out _).mono ?_);rintro e w5 ⟨rfl,hb⟩;have HA1:=Lh (HD.out.below hb);have HT1:=Lh HA1.out.sa.k8;clear hb)
      | (go_at_call 66;(with_reducible refine (HCA.out _).mono ?_);rintro e w6 ⟨rfl,hb⟩;have HA2:=Lh (HA1.out.below hb);have HT2:=Lh HA2.out.sa.k8;clear hb))
     have HX4:=Lh (show ¬S.sz+S.l.length=S.cs.length from fun e=>by have:=HB4.out;rw [e] at this;simp at this)
     clear t0 t1 t2 t3 t4 t5 t6 t7 tl hb4'
     have HAD:=Lh HA2.out.drew
     have HADX:=Lh ((HA2.out.alloc (.cells #[.int .i64 M.id,.int .i64 M.rt,.int .i64 M.ep,.int .i64 M.ct,.int .i64 M.gn,.int .i64 M.st,.string M.bd] 56)).drew)
     have HKD:=Lh (show K8 p S D w6.drew∧M7 q M w6.drew from HAD.out.k)
     have HKX:=Lh (show K8 p S D (w6.alloc (.cells #[.int .i64 M.id,.int .i64 M.rt,.int .i64 M.ep,.int .i64 M.ct,.int .i64 M.gn,.int .i64 M.st,.string M.bd] 56)).drew∧M7 q M (w6.alloc (.cells #[.int .i64 M.id,.int .i64 M.rt,.int .i64 M.ep,.int .i64 M.ct,.int .i64 M.gn,.int .i64 M.st,.string M.bd] 56)).drew from HADX.out.k)
     obtain ⟨t0,t1,t2,t3,t4,t5,t6,t7,tl⟩:=HAD.out.sa.s8.facts
     obtain ⟨v0,v1,v2,v3,v4,v5,v6⟩:=HAD.out.mb.m7
     have vl:=HAD.out.mb.lt
     have HQL:=Lh (show q<w6.heap.size from HA2.out.mb.lt)
     have HLE:=Lh (sal_le (S:=S) HN.out.2.2.2.2.1)
     have HSI:=Lh (fun A c W (hl:Ls W W.heap.size (.slice A (S.al.length+1) c) (S.al++[M]))=>ssameid_any A (S.al.length+1) c (S.al++[M]) W hl)
     go_wp2_with fail
     go_region_held3 (fun W=>K8 p S D W∧M7 q M W)
      (first | with_reducible exact HKD.out | with_reducible exact HKX.out | with_reducible exact HK1.out | with_reducible exact HK1X.out | with_reducible exact HK2.out | with_reducible exact HK3.out)
      (first
      | (go_at_call 120;(with_reducible refine (HMS.out _ _ HAD.out.sa).mono ?_);rintro e w7 ⟨A7,c7,rfl,hw,hb⟩;have HB1:=Lh (HAD.out.below hb);have HK1:=Lh HB1.out.k;have HB1X:=Lh (HB1.out.alloc (.cells #[.int .i64 M.id,.int .i64 M.rt,.int .i64 M.ep,.int .i64 M.ct,.int .i64 M.gn,.int .i64 M.st,.string M.bd] 56));have HK1X:=Lh HB1X.out.k;have HW1:=Lh hw;have HSZ7:=Lh (show w6.heap.size≤w7.heap.size from hb.size);clear hw hb)
      | ((refine step_append_wn _ (by rfl) _ _ _ (by rfl) 56 i0 _ 64 Tryz.underlying25 HI.out HZ.out.1 HZ.out.2.1 HZ.out.2.2 rfl w6.heap.size w7.heap.size A7 c7 S.al (by rfl) (HW1.out.alloc (Nat.le_refl _) (.cells #[.int .i64 M.id,.int .i64 M.rt,.int .i64 M.ep,.int .i64 M.ct,.int .i64 M.gn,.int .i64 M.st,.string M.bd] 56)) (by have:=HSZ7.out;first | omega | (simp;omega)) (by first | exact Nat.le_refl _ | simp) ⟨w7.heap.size,0,none⟩ 1 M (by rfl) (msg_row w7 M 56) (by have:=HLE.out;unfold maxLen;omega) (by have:=HLE.out;omega) ?_);intro v8 w8 hwn hgr;obtain ⟨row,hgr,hrow⟩:=hgr;obtain ⟨hk2,hb2⟩:=HB1X.out.grown hgr (fun x e=>(hrow x e).1) (by have:=HQL.out;omega);have HK2:=Lh hk2;have HB2:=Lh hb2;obtain ⟨A8,c8,hv8⟩:=hwn.form;subst hv8;have HL8:=Lh (show Ls w8 w8.heap.size (.slice A8 (S.al.length+1) c8) (S.al++[M]) by simpa using hwn.ls);have HQ8:=Lh (show p<q∧q<w8.heap.size by have:=hgr.size;have:=HSZ7.out;have:=HQL.out;have:=HA2.out.lt;have hh:=hgr.size;(try simp at hh);omega);clear hwn hgr hrow hk2 hb2)
      | ((refine step_append_wn _ (by rfl) _ _ _ (by rfl) 56 i0 _ 64 Tryz.underlying25 HI.out HZ.out.1 HZ.out.2.1 HZ.out.2.2 rfl (w6.heap.size+1) w7.heap.size A7 c7 S.al (by rfl) HY1.out (by have:=HSZ7.out;first | omega | (simp;omega)) (by first | exact Nat.le_refl _ | simp) ⟨w6.heap.size,0,none⟩ 1 M (by rfl) HROW.out (by have:=HLE.out;unfold maxLen;omega) (by have:=HLE.out;omega) ?_);intro v8 w8 hwn hgr;obtain ⟨row,hgr,hrow⟩:=hgr;obtain ⟨hk2,hb2⟩:=HB1.out.grown hgr (fun x e=>(hrow x e).1) (by have:=HQL.out;omega);have HK2:=Lh hk2;have HB2:=Lh hb2;obtain ⟨A8,c8,hv8⟩:=hwn.form;subst hv8;have HL8:=Lh (show Ls w8 w8.heap.size (.slice A8 (S.al.length+1) c8) (S.al++[M]) by simpa using hwn.ls);have HQ8:=Lh (show p<q∧q<w8.heap.size by have:=hgr.size;have:=HSZ7.out;have:=HQL.out;have:=HA2.out.lt;have hh:=hgr.size;(try simp at hh);omega);clear hwn hgr hrow hk2 hb2)
      | (go_at_call 118;(with_reducible refine (HSI.out _ _ _ HL8.out).mono ?_);rintro e w9 ⟨rfl,hb⟩;have HB9:=Lh (btr HB2.out hb);have HK3:=Lh (k_up HK2.out (by have:=HQ8.out;omega) (by have:=HQ8.out;omega) hb);clear hb)
      | (go_at_call 120;(with_reducible refine (HMS.out _ _ HADX.out.sa).mono ?_);rintro e w7 ⟨A7,c7,rfl,hw,hb⟩;have HB1:=Lh (HADX.out.below hb);have HK1:=Lh HB1.out.k;have HY1:=Lh (show Wn w7 (w6.heap.size+1) w7.heap.size (.slice A7 S.al.length c7) S.al by simpa using hw);have HROW:=Lh (row_keep (W:=(w6.alloc (.cells #[.int .i64 M.id,.int .i64 M.rt,.int .i64 M.ep,.int .i64 M.ct,.int .i64 M.gn,.int .i64 M.st,.string M.bd] 56)).drew) (msg_row w6 M 56) (by simp) hb);have HSZ7:=Lh (show w6.heap.size+1≤w7.heap.size by have:=hb.size;simpa using this);clear hw hb))
     all_goals
      cases h5:dpB (S.al++[M]) with
      | true=>
       have HX:=Lh (puS_10 HX1.out HX2.out HX3.out HX4.out h5)
       clear t0 t1 t2 t3 t4 t5 t6 t7 tl v0 v1 v2 v3 v4 v5 v6 vl
       go_wp2
       go_ret
       exact ⟨by rw [HX.out];rfl,HB9.out⟩
      | false=>
       have HX:=Lh (puS_0 HX1.out HX2.out HX3.out HX4.out h5)
       clear t0 t1 t2 t3 t4 t5 t6 t7 tl v0 v1 v2 v3 v4 v5 v6 vl
       go_wp2
       go_ret
       exact ⟨by rw [HX.out];rfl,HB9.out⟩
  ·have HX:=Lh (puS_vf HX1.out h2)
   have hne:(vf M != 0)=true:=bne_iff_ne.2 h2
   clear h2
   generalize vf M=x at*
   go_wp2
   go_ret
   exact ⟨by rw [HX.out];rfl,H2.out.sa.bel⟩
 ·have HX:=Lh (puS_ex (M:=M) h1)
  have hne:(exS S true != 0)=true:=bne_iff_ne.2 h1
  clear h1
  generalize exS S true=x at*
  go_wp2
  go_ret
  exact ⟨by rw [HX.out];rfl,H1.out.sa.bel⟩
end Go.Proofs.YtncgbldcjfbknaaGreat
