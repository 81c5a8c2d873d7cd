/- What is proved here: shardqueueref02.Into, by one contract for all arguments; shardqueueref02.Sum returns the hash of the bytes; shardqueueref01.Put, by one contract for all arguments; shardqueueref02.Route, by one contract for all arguments; Message of the statements' base returns a message with small numbers. -/
import Derived.Test.YtncgbldcjfbknaaGreatJ26
import Derived.Laws.ShiftsVarLaws
namespace Go.Proofs.YtncgbldcjfbknaaGreat
open Go.RowKit
set_option linter.unusedVariables false
theorem rinto_out (r l h:Int) (w:World) (hb:r<0∨65535<r∨l<0∨65535<h∨h<l) :
  Calls Tryz.prog 89 #[.int .i64 r,.int .i64 l,.int .i64 h] w fun e w'=>e=.returned (.int .i64 0)∧w=w':=by
 by_cases b0:r<0
 ·clear hb
  go_enter Tryz.func89,Tryz.ntmps89
  go_wp2
  go_ret
  exact ⟨rfl,rfl⟩
 by_cases b1:65535<r
 ·clear hb
  go_enter Tryz.func89,Tryz.ntmps89
  go_wp2
  go_ret
  exact ⟨rfl,rfl⟩
 by_cases b2:l<0
 ·clear hb
  go_enter Tryz.func89,Tryz.ntmps89
  go_wp2
  go_ret
  exact ⟨rfl,rfl⟩
 by_cases b3:65535<h
 ·clear hb
  go_enter Tryz.func89,Tryz.ntmps89
  go_wp2
  go_ret
  exact ⟨rfl,rfl⟩
 have b4:h<l:=by omega
 clear hb
 go_enter Tryz.func89,Tryz.ntmps89
 go_wp2
 go_ret
 exact ⟨rfl,rfl⟩
set_option maxHeartbeats 1000000 in
theorem rinto_any (r l h:Int) (w:World) :
  Calls Tryz.prog 89 #[.int .i64 r,.int .i64 l,.int .i64 h] w fun e w'=>e=.returned (.int .i64 (intoF r l h))∧w=w':=by
 by_cases hb:r<0∨65535<r∨l<0∨65535<h∨h<l
 ·rw [intoF_out r l h hb];exact rinto_out r l h w hb
 ·have r0:0≤r:=by omega
  have r1:r≤65535:=by omega
  have l0:0≤l:=by omega
  have h1:h≤65535:=by omega
  have lh:l≤h:=by omega
  have hA:areB r l h=true:=decide_eq_true ⟨⟨r0,r1⟩,⟨l0,by omega⟩,⟨by omega,h1⟩⟩
  clear hb
  by_cases hin:l≤r∧r≤h
  ·have HF:=Lh (show intoF r l h=r by unfold intoF;rw [if_pos ⟨hA,by omega⟩,if_pos hin])
   obtain ⟨g0,g1⟩:=hin
   clear hA
   go_enter Tryz.func89,Tryz.ntmps89
   go_wp2
   go_ret
   exact ⟨by rw [HF.out];rfl,rfl⟩
  ·have HF:=Lh (show intoF r l h=l+r % (h - l+1) by unfold intoF;rw [if_pos ⟨hA,by omega⟩,if_neg hin])
   clear hA
   have hm0:0≤r % (h - l+1):=Int.emod_nonneg _ (by omega)
   have hm1:r % (h - l+1)<h - l+1:=Int.emod_lt_of_pos _ (by omega)
   by_cases hlr:l≤r
   ·have hrh:¬r≤h:=fun g=>hin ⟨hlr,g⟩
    clear hin
    go_enter Tryz.func89,Tryz.ntmps89
    go_wp2
    go_ret
    exact ⟨by rw [HF.out];rfl,rfl⟩
   ·clear hin
    go_enter Tryz.func89,Tryz.ntmps89
    go_wp2
    go_ret
    exact ⟨by rw [HF.out];rfl,rfl⟩
set_option maxRecDepth 20000 in
theorem rsum_any (A:Option Addr) (l c:Nat) (bs:List UInt8) (w:World) (hv:Bs w w.heap.size (.slice A l c) bs) (hl:bs.length≤1099511627776) :
  Calls Tryz.prog 143 #[.slice A l c] w fun e w'=>e=.returned (.int .i64 (fnv bs))∧w=w':=by
 obtain ⟨rfl,hlc,hm⟩:=hv.len
 have hL:(bs.length:Int)≤9223372036854775806:=by omega
 have HV:=Lh hv
 have HA:=Lh and_ffffffff
 clear hv hlc hm
 go_enter Tryz.func143,Tryz.ntmps143
 go_wp2
 go_loop [3,4] (fun h i=>∃ k:Nat,k≤bs.length∧i=.int .i64 k∧h=.int .i64 (fnv (bs.take k))) (fun _ i=>bs.length - (intOf i).toNat)
 case atStart=>exact ⟨0,Nat.zero_le _,rfl,rfl⟩
 case round=>
  obtain ⟨k,hk,rfl,rfl⟩:=hrel
  by_cases hlt:k<bs.length
  ·obtain ⟨b,o,rfl,_,hb,hc⟩:=HV.out.at_ hlt
   have HT:=Lh (fnv_take bs k hlt)
   obtain ⟨h,hh⟩:∃ h,h=fnv (bs.take k):=⟨_,rfl⟩
   obtain ⟨y,hy⟩:∃ y,y=bs[k].toNat:=⟨_,rfl⟩
   have h32:h<4294967296:=by rw [hh];exact fnv_lt _
   have y8:y<256:=by rw [hy];exact UInt8.toNat_lt _
   have hx:=xor_i64 h y (by omega) (by omega)
   have HX:=Lh (show fst1 h y=(h ^^^ y)*16777619 % 4294967296 from rfl)
   obtain ⟨x,hx'⟩:∃ x,x=h ^^^ y:=⟨_,rfl⟩
   have x32:x<4294967296:=by rw [hx'];exact Nat.xor_lt_two_pow (n:=32) (by omega) (by omega)
   rw [←hx'] at hx HX
   rw [←hh,←hy] at HT
   rw [←hy] at hc
   rw [←hh]
   have ha:=and_ffffffff ((x:Int)*16777619)
   have h32' : (h:Int)≤4294967295:=by omega
   have y8' : (y:Int)≤255:=by omega
   have x32' : (x:Int)≤4294967295:=by omega
   clear hx' hh hy h32 y8 x32
   go_wp2
   go_round
   case rel=>exact ⟨k+1,by omega,by go_num,by rw [HT.out,HX.out];go_num⟩
   case measure=>simp [intOf];omega
  ·obtain rfl:k=bs.length:=by omega
   go_wp2
   go_ret
   exact ⟨rfl,rfl⟩
set_option maxHeartbeats 2000000 in
set_option maxRecDepth 20000 in
theorem rput_ok (A:Option Addr) (l c:Nat) (bs:List UInt8) (n s:Nat) (w:World) (hv:Bs w w.heap.size (.slice A l c) bs) (hl:bs.length≤1099511627000) (hs1:1≤(s:Int)) (hs2:(s:Int)≤6) (hn:n<2 ^ (8*s)) :
  Calls Tryz.prog 142 #[.slice A l c,.int .i64 n,.int .i64 s] w fun e w'=>
   ∃ v',e=.returned (.tuple #[v',.int .i64 0])∧w'.ownsRow w.heap.size 5 1 v' (bs++be s n).length ((bs++be s n).map oct)∧Below w.heap.size w w':=by
 obtain ⟨i0,hi0,hz0,hz1,hz2⟩:=info_parts info_u8
 have h0:(0:Int)≤n:=by omega
 have hp:=pow_le48 s (by omega)
 have hw:¬(wrap64 (2 ^ (8*s))≤(n:Int)):=by
  obtain ⟨h1,h2,h3⟩:=hp
  rw [IntWalk.wrap64_in _ (by omega),←h3]
  omega
 have hn63:(n:Int)≤281474976710656:=by
  obtain ⟨h1,h2,h3⟩:=hp
  rw [←h3] at h1
  omega
 obtain ⟨rfl,_,_⟩:=hv.len
 have HR:=Lh hv.rd
 have HL:=Lh hl
 clear hv hl hn hp
 go_enter Tryz.func142,Tryz.ntmps142
 go_wp2_with (at_builtin;refine wpList_append_rd _ rfl _ _ 148 rfl w.heap.size 5 i0 _ 1 1 Tryz.underlying148 hi0 hz0 hz1 hz2 rfl (by omega) _ _ _ rfl (World.ownsRow_nil _ _ _ _) _ _ _ _ _ rfl HR.out (oct_one _) (by have:=HL.out;unfold maxLen;omega) (by have:=HL.out;omega) (by omega) ?_;intro v2 w2 hown2 hg2 _)
 simp only [Nat.zero_add,List.nil_append] at hown2
 have HO2:=Lh hown2
 have HB2:=Lh ((Below.refl _ _).grown hg2 (Nat.le_refl _) (fun k hk=>(World.ownsRow.lt (World.ownsRow_nil w w.heap.size 5 1) k hk).1))
 clear hown2 hg2 hw
 go_wp2
 go_loopw [8,9] (fun o i wr=>∃ j:Nat,j≤s∧i=.int .i64 ((j:Int) - 1)∧wr.ownsRow w.heap.size 5 1 o (bs++(be s n).take (s - j)).length ((bs++(be s n).take (s - j)).map oct)∧Below w.heap.size w wr) (fun _ i _=>(intOf i+1).toNat)
 case atStart=>exact ⟨s,Nat.le_refl _,rfl,by simpa using HO2.out,HB2.out⟩
 case round=>
  obtain ⟨j,hj,rfl,hown,hbel⟩:=hrel
  obtain ⟨A6,c6,rfl⟩:=own_form hown
  have HB:=Lh hbel
  have hsz:=hbel.size
  cases j with
  | zero=>
   have HO:=Lh hown
   have HE:=Lh (show (be s n).take (s - 0)=be s n from List.take_of_length_le (by rw [be_length];omega))
   clear hown hbel
   go_wp2
   go_ret2
   exact ⟨_,rfl,by have:=HO.out;rw [HE.out] at this;simpa [show min s (be s n).length=(be s n).length by rw [be_length];omega] using this,HB.out⟩
  | succ j=>
   have hj1:((j+1:Nat):Int) - 1=(j:Int):=by omega
   rw [hj1]
   have HT:=Lh (be_take s n j hj)
   have hlen:((be s n).take (s - (j+1))).length≤6:=by simp [be_length];omega
   have HO:=Lh hown
   have HE:=Lh hlen
   have hj5:(j:Int)≤5:=by omega
   clear hown hbel hj1 hlen
   go_wp2_with (at_builtin;refine wpList_append_rd _ rfl _ _ 148 rfl w.heap.size 5 i0 _ 1 1 Tryz.underlying148 hi0 hz0 hz1 hz2 rfl (by omega) _ _ _ rfl (HO.out.alloc _) _ _ _ _ _ rfl (Rd.fresh wr _ _) (by intro u hu;simp at hu;subst hu;rfl) (by have:=HE.out;have:=HL.out;unfold maxLen;simp at *;omega) (by have:=HE.out;have:=HL.out;simp at *;omega) (by simp;omega) ?_;intro v3 w3 hown3 hg3 _)
   have HO3:=Lh hown3
   have HB3:=Lh ((HB.out.alloc hsz _).grown hg3 (by simp;omega) (fun g hg=>(World.ownsRow.lt HO.out g hg).1))
   clear hown3 hg3
   go_roundw
   case rel=>
    refine ⟨j,by omega,rfl,?_,HB3.out⟩
    rw [HT.out,←List.append_assoc,List.map_append,List.map_cons,List.map_nil,oct_mod]
    simpa [Nat.add_assoc] using HO3.out
   case measure=>simp [intOf]
theorem rput_bad (v:Value) (n s:Int) (w:World) (h:s<1∨6<s∨n<0∨2 ^ (8*s.toNat)≤n) :
  Calls Tryz.prog 142 #[v,.int .i64 n,.int .i64 s] w fun e w'=>e=.returned (.tuple #[.slice none 0 0,.int .i64 1])∧w=w':=by
 by_cases hs:s<1
 ·clear h
  go_enter Tryz.func142,Tryz.ntmps142
  go_wp2
  go_ret2
  exact ⟨rfl,rfl⟩
 ·by_cases hs2:6<s
  ·clear h
   go_enter Tryz.func142,Tryz.ntmps142
   go_wp2
   go_ret2
   exact ⟨rfl,rfl⟩
  ·by_cases hn:n<0
   ·clear h
    go_enter Tryz.func142,Tryz.ntmps142
    go_wp2
    go_ret2
    exact ⟨rfl,rfl⟩
   ·have h' : 2 ^ (8*s.toNat)≤n:=by omega
    obtain ⟨S,rfl⟩:=Int.eq_ofNat_of_zero_le (show 0≤s by omega)
    rw [Int.toNat_natCast] at h'
    have hp:=pow_le48 S (by omega)
    have hw:wrap64 (2 ^ (8*S))≤n:=by
     obtain ⟨h1,h2,h3⟩:=hp
     rw [IntWalk.wrap64_in _ (by omega)]
     exact h'
    clear h hp h'
    go_enter Tryz.func142,Tryz.ntmps142
    go_wp2
    go_ret2
    exact ⟨rfl,rfl⟩
theorem rput_all (A:Option Addr) (l c:Nat) (bs:List UInt8) (n s:Int) (w:World) (hv:Bs w w.heap.size (.slice A l c) bs) (hl:bs.length≤1099511627000) :
  Calls Tryz.prog 142 #[.slice A l c,.int .i64 n,.int .i64 s] w (Put2 w (ptB bs n s) (ptE n s)):=by
 by_cases h:1≤s∧s≤6∧0≤n∧n<2 ^ (8*s.toNat)
 ·have hk:ptOk n s=true:=decide_eq_true h
  obtain ⟨h1,h2,h3,h4⟩:=h
  obtain ⟨m,rfl⟩:=Int.eq_ofNat_of_zero_le h3
  obtain ⟨t,rfl⟩:=Int.eq_ofNat_of_zero_le (show 0≤s by omega)
  rw [Int.toNat_natCast] at h4
  refine (rput_ok A l c bs m t w hv hl h1 h2 (by exact_mod_cast h4)).mono fun e w' ⟨v,he,ho,hb⟩=>⟨v,?_,?_,hb⟩
  ·unfold ptE;rw [if_pos hk];exact he
  ·unfold ptB;rw [if_pos hk,Int.toNat_natCast,Int.toNat_natCast];exact Bs.of_own ho
 ·have hk:¬ptOk n s=true:=by unfold ptOk;simpa using h
  refine (rput_bad (.slice A l c) n s w (by omega)).mono fun e w' ⟨he,hw⟩=>⟨.slice none 0 0,?_,?_,?_⟩
  ·unfold ptE;rw [if_neg hk];exact he
  ·unfold ptB;rw [if_neg hk];exact Bs.nil
  ·subst hw;exact Below.refl _ _
theorem rroute_no (id:Int) (w:World) (hb:id<0∨1073741824<id) :
  Calls Tryz.prog 90 #[.int .i64 id] w fun e w'=>e=.returned (.int .i64 0)∧Below w.heap.size w w':=by
 by_cases b0:id<0
 ·clear hb
  go_enter Tryz.func90,Tryz.ntmps90
  go_wp2
  go_ret
  exact ⟨rfl,Below.refl _ _⟩
 have b1:1073741824<id:=by omega
 clear hb
 go_enter Tryz.func90,Tryz.ntmps90
 go_wp2
 go_ret
 exact ⟨rfl,Below.refl _ _⟩
theorem rroute_yes (id:Int) (w:World) (h0:0≤id) (h1:id≤1073741824) :
  Calls Tryz.prog 90 #[.int .i64 id] w fun e w'=>e=.returned (.int .i64 (rtx (fnv (be 4 id.toNat))))∧Below w.heap.size w w':=by
 have HC:=Lh (rput_all none 0 0 [] id 4 w Bs.nil (by simp))
 have HP:=Lh (pt4 id h0 h1)
 have HL:=Lh (be_length 4 id.toNat)
 go_enter Tryz.func90,Tryz.ntmps90
 go_wp2_with fail
 refine HC.out.mono ?_
 rintro e w1 ⟨v1,rfl,hv,hb⟩
 obtain ⟨e0,e1⟩:=HP.out
 rw [e1] at hv
 rw [e0]
 obtain ⟨A1,c1,rfl,_,_,_⟩:=(show _ from hv)
 have HV:=Lh hv
 have HB:=Lh hb
 clear hv hb e0 e1
 go_wp2_with fail
 refine (rsum_any _ _ _ _ _ HV.out (by rw [HL.out];omega)).mono ?_
 rintro e w2 ⟨rfl,rfl⟩
 obtain ⟨h,hh⟩:∃ h,h=fnv (be 4 id.toNat):=⟨_,rfl⟩
 have h32:h<4294967296:=by rw [hh];exact fnv_lt _
 rw [←hh]
 have hx:=rtx_bits h h32
 have ha:=and_ffff (h:Int)
 have h32' : (h:Int)≤4294967295:=by omega
 have HH:=Lh hh
 clear hh h32
 go_wp2
 go_ret
 exact ⟨by rw [←HH.out];rfl,HB.out⟩
theorem rroute_any (id:Int) (w:World):Calls Tryz.prog 90 #[.int .i64 id] w fun e w'=>e=.returned (.int .i64 (rtF id))∧Below w.heap.size w w':=by
 by_cases h:0≤id∧id≤1073741824
 ·rw [show rtF id=(rtx (fnv (be 4 id.toNat)):Int) from if_pos h];exact rroute_yes id w h.1 h.2
 ·rw [show rtF id=0 from if_neg h];exact rroute_no id w (by omega)
def SrMsg (B g:Nat) (id lo hi:Int) (w:World) (e:Ending) (w' : World):Prop:=∃ M:Msg,e=.returned M.v∧M.id=id∧M.rt=intoF (rtF id) lo hi∧(0≤M.ep∧M.ep≤2)∧(0≤M.ct∧M.ct≤3)∧(M.ct≤M.gn∧M.gn≤65536)∧(0≤M.st∧M.st≤49)∧M.bd.size≤3∧SrcAt w' B g∧w.grownBy w' (some g)
theorem src7 {W:World} {B g b:Nat} (h:SrcAt W B g) (hne:b≠g) (hB:B≤b) (v0 v1 v2 v3 v4 v5 v6:Value):SrcAt (((((((W.setCell ⟨b,0,none⟩ v0).setCell ⟨b,1,none⟩ v1).setCell ⟨b,2,none⟩ v2).setCell ⟨b,3,none⟩ v3).setCell ⟨b,4,none⟩ v4).setCell ⟨b,5,none⟩ v5).setCell ⟨b,6,none⟩ v6) B g:=
 ((((((h.other (p:=⟨b,0,none⟩) hne hB _).other (p:=⟨b,1,none⟩) hne hB _).other (p:=⟨b,2,none⟩) hne hB _).other (p:=⟨b,3,none⟩) hne hB _).other (p:=⟨b,4,none⟩) hne hB _).other (p:=⟨b,5,none⟩) hne hB _).other (p:=⟨b,6,none⟩) hne hB _
theorem only7 {a W:World} {g b:Nat} (h:a.grownBy W (some g)) (hb:a.heap.size≤b) (v0 v1 v2 v3 v4 v5 v6:Value):a.grownBy (((((((W.setCell ⟨b,0,none⟩ v0).setCell ⟨b,1,none⟩ v1).setCell ⟨b,2,none⟩ v2).setCell ⟨b,3,none⟩ v3).setCell ⟨b,4,none⟩ v4).setCell ⟨b,5,none⟩ v5).setCell ⟨b,6,none⟩ v6) (some g):=
 only_set (only_set (only_set (only_set (only_set (only_set (only_set h (.inr hb) _) (.inr hb) _) (.inr hb) _) (.inr hb) _) (.inr hb) _) (.inr hb) _) (.inr hb) _
set_option maxHeartbeats 8000000 in
set_option maxRecDepth 20000 in
theorem message_any (B g:Nat) (w:World) (h:SrcAt w B g) (id lo hi:Int):Calls Tryz.prog 36 #[.pointer (some ⟨g,0,none⟩),.int .i64 id,.int .i64 lo,.int .i64 hi] w (SrMsg B g id lo hi w):=by
 have H:=Lh h
 have hr:=MAt.fresh (f:=fun _=>0) w 0 0 0 0 0 0 ByteArray.empty 56 rfl rfl rfl rfl rfl rfl
 obtain ⟨r,hrr⟩:∃ r,r=w.heap.size:=⟨_,rfl⟩
 rw [←hrr] at hr
 have HR:=Lh hr
 have HRR:=Lh hrr
 have HBR:=Lh (show B≤r by have:=h.1;have:=h.2.1;omega)
 have HNR:=Lh (show r≠g by have:=h.2.1;omega)
 have HROUTE:=Lh (fun w=>rroute_any id w)
 have HF:=Lh (show rtF id=rtF id from rfl)
 clear h hr hrr
 go_enter Tryz.func36,Tryz.ntmps36
 go_wp2_with fail
 refine (HROUTE.out _).mono ?_
 rintro e w1 ⟨rfl,hb⟩
 have HS1:=Lh ((H.out.alloc _).below hb)
 have HR1:=Lh (HR.out.below hb (by rw [HRR.out];simp))
 have HG1:=Lh (only_below (only_alloc (World.grownBy.refl w (some g)) _) hb)
 clear hb
 go_wp2_with fail
 refine (rinto_any _ _ _ _).mono ?_
 rintro e w2 ⟨rfl,rfl⟩
 generalize hrt:intoF (rtF id) lo hi=rt
 have HRT:=Lh hrt
 clear hrt
 go_wp2_with fail
 refine (n_any B g _ HS1.out 3 (by omega) (by omega)).mono ?_
 rintro e w2 ⟨ep,rfl,e1,e2,hs,hg⟩
 have HS2:=Lh hs
 have HR2:=Lh (HR1.out.grown hg HNR.out)
 have HG2:=Lh (HG1.out.trans hg)
 clear hs hg
 go_wp2_with fail
 refine (n_any B g _ HS2.out 4 (by omega) (by omega)).mono ?_
 rintro e w3 ⟨ct,rfl,c1',c2',hs,hg⟩
 have HS3:=Lh hs
 have HR3:=Lh (HR2.out.grown hg HNR.out)
 have HG3:=Lh (HG2.out.trans hg)
 clear hs hg
 go_wp2_with fail
 refine (n_any B g _ HS3.out 50 (by omega) (by omega)).mono ?_
 rintro e w4 ⟨st,rfl,s1,s2,hs,hg⟩
 have HS4:=Lh hs
 have HR4:=Lh (HR3.out.grown hg HNR.out)
 have HG4:=Lh (HG3.out.trans hg)
 clear hs hg
 go_wp2_with fail
 refine (body_any B g _ HS4.out).mono ?_
 rintro e w5 ⟨bd,rfl,b1,hs,hg⟩
 have HS5:=Lh hs
 have HR5:=Lh (HR4.out.grown hg HNR.out)
 have HG5:=Lh (HG4.out.trans hg)
 have hk:=MAt.fresh (f:=fun | 0=>id | 1=>rt | 2=>ep | 3=>ct | 4=>0 | _=>st) w5 id rt ep ct 0 st bd 56 rfl rfl rfl rfl rfl rfl
 have HNK:=Lh (show w5.heap.size≠g by have:=hs.2.1;omega)
 have HGW:=Lh (show w.heap.size≤w5.heap.size from HG5.out.size)
 generalize hkk:w5.heap.size=k at hk HNK HGW
 have HK:=Lh hk
 have HB1:=Lh b1
 clear hs hg hk b1
 have hS5:=HS5.out.alloc (.cells #[.int .i64 id,.int .i64 rt,.int .i64 ep,.int .i64 ct,.int .i64 0,.int .i64 st,.string bd] 56)
 have hR5:=HR5.out.alloc (.cells #[.int .i64 id,.int .i64 rt,.int .i64 ep,.int .i64 ct,.int .i64 0,.int .i64 st,.string bd] 56)
 have hG5:=only_alloc HG5.out (.cells #[.int .i64 id,.int .i64 rt,.int .i64 ep,.int .i64 ct,.int .i64 0,.int .i64 st,.string bd] 56)
 have HRQ:=Lh HR5.out.1
 have HSQ:=HS5
 have HS5:=Lh hS5
 have HR5:=Lh hR5
 have HG5:=Lh hG5
 clear hS5 hR5 hG5
 go_wp2_with fail
 have HKK:=Lh hkk
 have HRK:=Lh (show r≠k by have:=HRQ.out;omega)
 have HBK:=Lh (show B≤k by have:=HSQ.out.1;have:=HSQ.out.2.1;omega)
 clear hkk
 generalize w5.alloc (.cells #[.int .i64 id,.int .i64 rt,.int .i64 ep,.int .i64 ct,.int .i64 0,.int .i64 st,.string bd] 56)=W at*
 have hl:=HK.out.2.1 3 (by omega)
 go_region_with ((go_at_call 14;refine (n_any B g _ (SrcAt.drew HS5.out) 3 (by omega) (by omega)).mono ?_;rintro e w7 ⟨x,rfl,x1,x2,hs,hg⟩;have HS7:=Lh hs;have HG7:=Lh (HG5.out.trans (gdrew hg));have HK7:=Lh (HK.out.grown (gdrew hg) HNK.out);have HR7:=Lh (HR5.out.grown (gdrew hg) HNR.out);have g3:=HK7.out.2.1 3 (by omega);have g4:=HK7.out.2.1 4 (by omega);have g5:=HK7.out.2.2.2 4 (by omega);have hwx:IntKind.i64.wrap (ct+x)=ct+x:=IntWalk.i64_in _ (by omega);clear hs hg))
 all_goals
  obtain ⟨gn,hgn⟩:∃ gn,gn=ct+x:=⟨_,rfl⟩
  rw [←hgn]
  have q1:ct≤gn:=by omega
  have q2:gn≤65536:=by omega
  have HS8:=Lh (HS7.out.other (p:=⟨k,4,none⟩) HNK.out HBK.out (.int .i64 gn))
  have HR8:=Lh (HR7.out.other (p:=⟨k,4,none⟩) (fun e=>HRK.out e.symm) (.int .i64 gn))
  have HK8:=Lh (HK7.out.put 4 (by omega) gn)
  have HG8:=Lh (only_set HG7.out (p:=⟨k,4,none⟩) (.inr HGW.out) (.int .i64 gn))
  clear g3 g4 g5 hwx hgn x1 x2 hl
  rw [←HRR.out]
  go_wp2_with fail
  refine (n_any B g _ HS8.out 20 (by omega) (by omega)).mono ?_
  rintro e w9 ⟨y,rfl,y1,y2,hs,hg⟩
  have HS9:=Lh hs
  have HG9:=Lh (HG8.out.trans hg)
  have HK9:=Lh (HK8.out.grown hg HNK.out)
  have HR9:=Lh (HR8.out.grown hg HNR.out)
  obtain ⟨⟨a0,a1,a2,a3,a4,a5,a6⟩,b0,b1,b2,b3,b4,b5,b6⟩:=HK9.out.facts
  obtain ⟨⟨c0,c1,c2,c3,c4,c5,c6⟩,d0,d1,d2,d3,d4,d5,d6⟩:=HR9.out.facts
  have hrk:=HRK.out
  have hkr:k≠r:=fun e=>hrk e.symm
  simp at a0 a1 a2 a3 a4 a5
  clear hs hg
  by_cases hy:y=19
  ·subst hy
   go_wp2
   exact bodyPost_ret (v:=Msg.v ⟨id,rt,ep,ct,65536,st,bd⟩) (by simp only [results,Tryz.results36];go_simp <;> rfl) rfl ⟨_,rfl,rfl,by rw [HRT.out],⟨e1,e2⟩,⟨c1',c2'⟩,⟨by show ct≤65536;omega,by show (65536:Int)≤65536;omega⟩,⟨s1,s2⟩,HB1.out,src7 (HS9.out.other (p:=⟨k,4,none⟩) HNK.out HBK.out _) HNR.out HBR.out _ _ _ _ _ _ _,only7 (only_set HG9.out (p:=⟨k,4,none⟩) (.inr HGW.out) _) (by rw [HRR.out];exact Nat.le_refl _) _ _ _ _ _ _ _⟩
  ·have hy' : (y==19)=false:=beq_eq_false_iff_ne.2 hy
   go_wp2
   exact bodyPost_ret (v:=Msg.v ⟨id,rt,ep,ct,gn,st,bd⟩) (by simp only [results,Tryz.results36];go_simp <;> rfl) rfl ⟨_,rfl,rfl,by rw [HRT.out],⟨e1,e2⟩,⟨c1',c2'⟩,⟨q1,q2⟩,⟨s1,s2⟩,HB1.out,src7 HS9.out HNR.out HBR.out _ _ _ _ _ _ _,only7 HG9.out (by rw [HRR.out];exact Nat.le_refl _) _ _ _ _ _ _ _⟩
end Go.Proofs.YtncgbldcjfbknaaGreat
