/- What is proved here: parts of the proof: Srb Fnv Rtd Rin Rsm Rpt. -/
import Derived.Test.YtkecnihgjepfeaaGreatJ19
import Derived.Laws.ShiftsVarLaws
namespace Go.Proofs.YtkecnihgjepfeaaGreat
open Go.RowKit
set_option linter.unusedVariables false
set_option linter.unusedSimpArgs false
set_option maxHeartbeats 8000000
set_option maxRecDepth 20000
def SrBody (B g:Nat) (w:World) (e:Ending) (w' : World):Prop:=∃ s:ByteArray,e=.returned (.string s)/\s.size<=3/\SrcAt w' B g/\w.grownBy w' (some g)
theorem rowIs_grown {w w' : World} {b g:Nat} {t:TypeId} {n:Nat} {f:Nat->Value} (h:w.rowIs b t n f) (hg:w.grownBy w' (some g)) (hne:b≠g) (hb:b<w.heap.size):w'.rowIs b t n f:=by
 obtain ⟨c,h1,h2⟩:=h
 exact ⟨c,(hg.block b hb (fun e=>hne (by injection e))).trans h1,h2⟩
theorem body_any (B g:Nat) (w:World) (h:SrcAt w B g):Calls Tryz.prog 38 #[.pointer (some ⟨g,0,none⟩)] w (SrBody B g w):=by
 have HC:=Lh (n_any B g w h 4 (by omega) (by omega))
 have HG0:=Lh h.2.1
 have HBg:=Lh h.1
 clear h
 go_enter Tryz.func38,Tryz.ntmps38
 go_wp2_with fail
 refine HC.out.mono ?_
 rintro e w1 ⟨x,rfl,hx1,hx2,hs,hg⟩
 obtain ⟨m,rfl⟩:=Int.eq_ofNat_of_zero_le hx1
 have hm3:(m:Int)<=3:=by omega
 have hmk:=run_make_row' (P:=Tryz.prog) 136 5 (.int .u8 0) 1 Tryz.underlying136 info_u8 rfl .i64 .i64 m (by omega) (by omega) w1
 have HR:=Lh (World.rowIs_made w1 (.int .u8 0) m 5)
 have HS:=Lh (hs.alloc (.cells (madeCells #[.int .u8 0] m) 5))
 have HG:=Lh (only_alloc hg (.cells (madeCells #[.int .u8 0] m) 5))
 have hne:w1.heap.size≠g:=by have:=hs.2.1;omega
 have HNE:=Lh hne
 have hle:w.heap.size<=w1.heap.size:=hg.size
 have HLE:=Lh hle
 obtain ⟨b,hbb⟩:∃ b,b=w1.heap.size:=⟨_,rfl⟩
 have HSZ:=Lh (show b<(w1.alloc (.cells (madeCells #[.int .u8 0] m) 5)).heap.size by simp [hbb])
 have HBB:=Lh hbb
 clear hs hg hx1 hx2 hne hle hbb
 go_wp2
 rw [<-HBB.out]
 rw [<-HBB.out] at HR HNE HLE
 clear hmk
 go_loopw [4] (fun i wr=>∃ (k:Nat) (f:Nat->UInt8),k<=m/\i=.int .i64 k/\wr.rowIs b 5 m (fun j=>oct (f j))/\b<wr.heap.size/\SrcAt wr B g/\w.grownBy wr (some g)) (fun i _=>m - (intOf i).toNat)
 case atStart=>exact ⟨0,fun _=>0,by omega,rfl,HR.out.congr (fun j hj=>rfl),HSZ.out,HS.out,HG.out⟩
 case round=>
  obtain ⟨k,f,hk,rfl,hrow,hsz,hs,hg⟩:=hrel
  by_cases hlt:k<m
  ·have HV:=Lh (n_any B g wr hs 3 (by omega) (by omega))
   have HRow:=Lh hrow
   have HSr:=Lh hs
   have HGr:=Lh hg
   clear hrow hs hg
   go_wp2_with fail
   refine HV.out.mono ?_
   rintro e w2 ⟨y,rfl,hy1,hy2,hs2,hg2⟩
   obtain ⟨z,rfl⟩:=Int.eq_ofNat_of_zero_le hy1
   have hz3:(z:Int)<=2:=by omega
   have HRow2:=Lh (rowIs_grown HRow.out hg2 HNE.out hsz)
   have hsz2:b<w2.heap.size:=Nat.lt_of_lt_of_le hsz hg2.size
   have HS2:=Lh hs2
   have HG2:=Lh (HGr.out.trans hg2)
   have hcell:=HRow2.out.cell (i:=k) hlt
   have hfr:=HRow2.out.frozen k
   have HO:=Lh (show oct (UInt8.ofNat (97+z))=.int .u8 (97+(z:Int)) by rw [oct_mod];congr 1;omega)
   clear hs2 hg2 hy1 hy2
   go_wp2
   go_roundw
   case rel=>
    refine ⟨k+1,fun j=>if j=k then UInt8.ofNat (97+z) else f j,by omega,by go_num,(HRow2.out.set k _).congr (fun j hj=>?_),by simpa using hsz2,HS2.out.other (fun e=>HNE.out e) (by have:=HLE.out;have:=HG0.out;have:=HBg.out;simp;omega) _,only_set HG2.out (.inr HLE.out) _⟩
    by_cases e:j=k
    ·subst e;simp only [if_true];exact HO.out.symm
    ·simp only [if_neg e]
   case measure=>simp [intOf];omega
  ·obtain rfl:k=m:=by omega
   have hb1:Bs wr wr.heap.size (.slice (some ⟨b,0,none⟩) k k) ((List.range k).map f):=Bs.of_row hrow hsz (by simp) (nLR _) (by unfold maxLen;omega) (fun j hj=>by simp)
   have hconv:=run_convert_bs (P:=Tryz.prog) wr 136 5 9 Tryz.underlying136 Tryz.underlying5 Tryz.underlying9 hb1
   have HSr:=Lh hs
   have HGr:=Lh hg
   clear hrow hs hg hb1
   go_wp2
   go_ret
   exact ⟨_,rfl,(by show (List.map f (List.range k)).toArray.size<=3;simp;omega),HSr.out,HGr.out⟩
theorem nat_i64 (a:Nat) (ha:a<9223372036854775808):(BitVec.ofInt 64 (a:Int)).toNat=a:=by
 rw [BitVec.ofInt_natCast,BitVec.toNat_ofNat];exact Nat.mod_eq_of_lt (by omega)
theorem xor_i64 (a b:Nat) (ha:a<9223372036854775808) (hb:b<9223372036854775808):bits .xor .i64 (a:Int) (b:Int)=((a ^^^ b:Nat):Int):=by
 have hx:a ^^^ b<2 ^ 63:=Nat.xor_lt_two_pow (by omega) (by omega)
 show IntKind.i64.wrap ((BitVec.ofInt 64 (a:Int) ^^^ BitVec.ofInt 64 (b:Int)).toNat:Int)=_
 rw [BitVec.toNat_xor,nat_i64 a ha,nat_i64 b hb,IntKind.wrap_i64]
 omega
theorem and_ones (n:Int) (k m:Nat) (hk:k<=62) (hm:m=2 ^ k - 1):bits .and .i64 n m=n % 2 ^ k:=by
 have hp:2 ^ k<=2 ^ 62:=Nat.pow_le_pow_right (by omega) hk
 have hp0:0<2 ^ k:=Nat.pow_pos (by omega)
 have h3:(BitVec.ofInt 64 (m:Int)).toNat=2 ^ k - 1:=by rw [nat_i64 m (by omega),hm]
 have key:(BitVec.ofInt 64 n &&&BitVec.ofInt 64 (m:Int)).toNat=(n % ((2 ^ 64:Nat):Int)).toNat % 2 ^ k:=by
  rw [BitVec.toNat_and,BitVec.toNat_ofInt,h3,Nat.and_two_pow_sub_one_eq_mod]
 show IntKind.i64.wrap ((BitVec.ofInt 64 n &&&BitVec.ofInt 64 (m:Int)).toNat:Nat)=n % 2 ^ k
 rw [key,IntKind.wrap_i64]
 have h1:(n % ((2 ^ 64:Nat):Int)).toNat % 2 ^ k<2 ^ k:=Nat.mod_lt _ hp0
 have h2:(((n % ((2 ^ 64:Nat):Int)).toNat % 2 ^ k:Nat):Int)=n % 2 ^ k:=by
  have hd:((2 ^ k:Nat):Int) ∣ ((2 ^ 64:Nat):Int):=Int.natCast_dvd_natCast.2 (Nat.pow_dvd_pow 2 (by omega))
  rw [Int.natCast_emod,Int.toNat_of_nonneg (by omega),Int.emod_emod_of_dvd n hd,Int.natCast_pow]
  rfl
 rw [<-h2]
 omega
theorem and_ffff (n:Int):bits .and .i64 n 65535=n % 65536:=and_ones n 16 65535 (by omega) (by omega)
theorem and_ffffffff (n:Int):bits .and .i64 n 4294967295=n % 4294967296:=and_ones n 32 4294967295 (by omega) (by omega)
def fst1 (h b:Nat):Nat:=(h ^^^ b)*16777619 % 4294967296
def fnvOn (h:Nat) (bs:List UInt8):Nat:=bs.foldl (fun h b=>fst1 h b.toNat) h
def fnv (bs:List UInt8):Nat:=fnvOn 2166136261 bs
theorem fst1_lt (h b:Nat):fst1 h b<4294967296:=Nat.mod_lt _ (by decide)
theorem fnvOn_lt (h:Nat) (bs:List UInt8) (hh:h<4294967296):fnvOn h bs<4294967296:=by
 induction bs generalizing h with
 | nil=>exact hh
 | cons b r ih=>exact ih _ (fst1_lt _ _)
theorem fnv_lt (bs:List UInt8):fnv bs<4294967296:=fnvOn_lt _ _ (by decide)
theorem fnv_take (bs:List UInt8) (k:Nat) (h:k<bs.length):fnv (bs.take (k+1))=fst1 (fnv (bs.take k)) bs[k].toNat:=by
 unfold fnv fnvOn
 rw [List.take_succ_eq_append_getElem h,List.foldl_append,List.foldl_cons,List.foldl_nil]
def areB (a b c:Int):Bool:=decide ((0<=a/\a<=65535)/\(0<=b/\b<=65535)/\(0<=c/\c<=65535))
def intoF (r l h:Int):Int:=if areB r l h=true/\l<=h then (if l<=r/\r<=h then r else l+r % (h - l+1)) else 0
theorem intoF_out (r l h:Int) (hb:r<0\/65535<r\/l<0\/65535<h\/h<l):intoF r l h=0:=by
 unfold intoF
 rw [if_neg]
 rintro ⟨h1,h2⟩
 obtain ⟨⟨r0,r1⟩,⟨l0,l1⟩,⟨h0,h1⟩⟩:=of_decide_eq_true h1
 omega
def rtx (h:Nat):Nat:=(h / 65536) ^^^ (h % 65536)
def rtF (id:Int):Int:=if 0<=id/\id<=1073741824 then (rtx (fnv (be 4 id.toNat)):Int) else 0
theorem rtx_bits (h:Nat) (hh:h<4294967296):bits .xor .i64 ((h:Int) / 65536) ((h:Int) % 65536)=(rtx h:Int):=by
 have:=xor_i64 (h / 65536) (h % 65536) (by omega) (by omega)
 unfold rtx
 rw [<-this]
 congr 1
theorem rinto_out (r l h:Int) (w:World) (hb:r<0\/65535<r\/l<0\/65535<h\/h<l) :
  Calls Tryz.prog 36 #[.int .i64 r,.int .i64 l,.int .i64 h] w fun e w'=>e=.returned (.int .i64 0)/\w=w':=by
 by_cases b0:r<0
 ·clear hb
  go_enter Tryz.func36,Tryz.ntmps36
  go_wp2
  go_ret
  exact ⟨rfl,rfl⟩
 by_cases b1:65535<r
 ·clear hb
  go_enter Tryz.func36,Tryz.ntmps36
  go_wp2
  go_ret
  exact ⟨rfl,rfl⟩
 by_cases b2:l<0
 ·clear hb
  go_enter Tryz.func36,Tryz.ntmps36
  go_wp2
  go_ret
  exact ⟨rfl,rfl⟩
 by_cases b3:65535<h
 ·clear hb
  go_enter Tryz.func36,Tryz.ntmps36
  go_wp2
  go_ret
  exact ⟨rfl,rfl⟩
 have b4:h<l:=by omega
 clear hb
 go_enter Tryz.func36,Tryz.ntmps36
 go_wp2
 go_ret
 exact ⟨rfl,rfl⟩
theorem rinto_any (r l h:Int) (w:World) :
  Calls Tryz.prog 36 #[.int .i64 r,.int .i64 l,.int .i64 h] w fun e w'=>e=.returned (.int .i64 (intoF r l h))/\w=w':=by
 by_cases hb:r<0\/65535<r\/l<0\/65535<h\/h<l
 ·rw [intoF_out r l h hb];exact rinto_out r l h w hb
 ·have r0:0<=r:=by omega
  have r1:r<=65535:=by omega
  have l0:0<=l:=by omega
  have h1:h<=65535:=by omega
  have lh:l<=h:=by omega
  have hA:areB r l h=true:=decide_eq_true ⟨⟨r0,r1⟩,⟨l0,by omega⟩,⟨by omega,h1⟩⟩
  clear hb
  by_cases hin:l<=r/\r<=h
  ·have HF:=Lh (show intoF r l h=r by unfold intoF;rw [if_pos ⟨hA,by omega⟩,if_pos hin])
   obtain ⟨g0,g1⟩:=hin
   clear hA
   go_enter Tryz.func36,Tryz.ntmps36
   go_wp2
   go_ret
   exact ⟨by rw [HF.out];rfl,rfl⟩
  ·have HF:=Lh (show intoF r l h=l+r % (h - l+1) by unfold intoF;rw [if_pos ⟨hA,by omega⟩,if_neg hin])
   clear hA
   have hm0:0<=r % (h - l+1):=Int.emod_nonneg _ (by omega)
   have hm1:r % (h - l+1)<h - l+1:=Int.emod_lt_of_pos _ (by omega)
   by_cases hlr:l<=r
   ·have hrh:¬r<=h:=fun g=>hin ⟨hlr,g⟩
    clear hin
    go_enter Tryz.func36,Tryz.ntmps36
    go_wp2
    go_ret
    exact ⟨by rw [HF.out];rfl,rfl⟩
   ·clear hin
    go_enter Tryz.func36,Tryz.ntmps36
    go_wp2
    go_ret
    exact ⟨by rw [HF.out];rfl,rfl⟩
theorem rsum_any (A:Option Addr) (l c:Nat) (bs:List UInt8) (w:World) (hv:Bs w w.heap.size (.slice A l c) bs) (hl:bs.length<=1099511627776) :
  Calls Tryz.prog 69 #[.slice A l c] w fun e w'=>e=.returned (.int .i64 (fnv bs))/\w=w':=by
 obtain ⟨rfl,hlc,hm⟩:=hv.len
 have hL:(bs.length:Int)<=9223372036854775806:=by omega
 have HV:=Lh hv
 have HA:=Lh and_ffffffff
 clear hv hlc hm
 go_enter Tryz.func69,Tryz.ntmps69
 go_wp2
 go_loop [3,4] (fun h i=>∃ k:Nat,k<=bs.length/\i=.int .i64 k/\h=.int .i64 (fnv (bs.take k))) (fun _ i=>bs.length - (intOf i).toNat)
 case atStart=>exact ⟨0,Nat.zero_le _,rfl,rfl⟩
 case round=>
  obtain ⟨k,hk,rfl,rfl⟩:=hrel
  by_cases hlt:k<bs.length
  ·obtain ⟨b,o,rfl,_,hb,hc⟩:=HV.out.at_ hlt
   have HT:=Lh (fnv_take bs k hlt)
   obtain ⟨h,hh⟩:∃ h,h=fnv (bs.take k):=⟨_,rfl⟩
   obtain ⟨y,hy⟩:∃ y,y=bs[k].toNat:=⟨_,rfl⟩
   have h32:h<4294967296:=by rw [hh];exact fnv_lt _
   have y8:y<256:=by rw [hy];exact UInt8.toNat_lt _
   have hx:=xor_i64 h y (by omega) (by omega)
   have HX:=Lh (show fst1 h y=(h ^^^ y)*16777619 % 4294967296 from rfl)
   obtain ⟨x,hx'⟩:∃ x,x=h ^^^ y:=⟨_,rfl⟩
   have x32:x<4294967296:=by rw [hx'];exact Nat.xor_lt_two_pow (n:=32) (by omega) (by omega)
   rw [<-hx'] at hx HX
   rw [<-hh,<-hy] at HT
   rw [<-hy] at hc
   rw [<-hh]
   have ha:=and_ffffffff ((x:Int)*16777619)
   have h32' : (h:Int)<=4294967295:=by omega
   have y8' : (y:Int)<=255:=by omega
   have x32' : (x:Int)<=4294967295:=by omega
   clear hx' hh hy h32 y8 x32
   go_wp2
   go_round
   case rel=>exact ⟨k+1,by omega,by go_num,by rw [HT.out,HX.out];go_num⟩
   case measure=>simp [intOf];omega
  ·obtain rfl:k=bs.length:=by omega
   go_wp2
   go_ret
   exact ⟨rfl,rfl⟩
theorem rput_ok (A:Option Addr) (l c:Nat) (bs:List UInt8) (n s:Nat) (w:World) (hv:Bs w w.heap.size (.slice A l c) bs) (hl:bs.length<=1099511627000) (hs1:1<=(s:Int)) (hs2:(s:Int)<=6) (hn:n<2 ^ (8*s)) :
  Calls Tryz.prog 68 #[.slice A l c,.int .i64 n,.int .i64 s] w fun e w'=>
   ∃ v',e=.returned (.tuple #[v',.int .i64 0])/\w'.ownsRow w.heap.size 5 1 v' (bs++be s n).length ((bs++be s n).map oct)/\Below w.heap.size w w':=by
 obtain ⟨i0,hi0,hz0,hz1,hz2⟩:=info_parts info_u8
 have h0:(0:Int)<=n:=by omega
 have hp:=pow_le48 s (by omega)
 have hw:¬(wrap64 (2 ^ (8*s))<=(n:Int)):=by
  obtain ⟨h1,h2,h3⟩:=hp
  rw [IntWalk.wrap64_in _ (by omega),<-h3]
  omega
 have hn63:(n:Int)<=281474976710656:=by
  obtain ⟨h1,h2,h3⟩:=hp
  rw [<-h3] at h1
  omega
 obtain ⟨rfl,_,_⟩:=hv.len
 have HR:=Lh hv.rd
 have HL:=Lh hl
 clear hv hl hn hp
 go_enter Tryz.func68,Tryz.ntmps68
 go_wp2_with (at_builtin;refine wpList_append_rd _ rfl _ _ 136 rfl w.heap.size 5 i0 _ 1 1 Tryz.underlying136 hi0 hz0 hz1 hz2 rfl (by omega) _ _ _ rfl (World.ownsRow_nil _ _ _ _) _ _ _ _ _ rfl HR.out (oct_one _) (by have:=HL.out;unfold maxLen;omega) (by have:=HL.out;omega) (by omega) ?_;intro v2 w2 hown2 hg2 _)
 simp only [Nat.zero_add,List.nil_append] at hown2
 have HO2:=Lh hown2
 have HB2:=Lh ((Below.refl _ _).grown hg2 (nLR _) (fun k hk=>(World.ownsRow.lt (World.ownsRow_nil w w.heap.size 5 1) k hk).1))
 clear hown2 hg2 hw
 go_wp2
 go_loopw [8,9] (fun o i wr=>∃ j:Nat,j<=s/\i=.int .i64 ((j:Int) - 1)/\wr.ownsRow w.heap.size 5 1 o (bs++(be s n).take (s - j)).length ((bs++(be s n).take (s - j)).map oct)/\Below w.heap.size w wr) (fun _ i _=>(intOf i+1).toNat)
 case atStart=>exact ⟨s,nLR _,rfl,by simpa using HO2.out,HB2.out⟩
 case round=>
  obtain ⟨j,hj,rfl,hown,hbel⟩:=hrel
  obtain ⟨A6,c6,rfl⟩:=own_form hown
  have HB:=Lh hbel
  have hsz:=hbel.size
  cases j with
  | zero=>
   have HO:=Lh hown
   have HE:=Lh (show (be s n).take (s - 0)=be s n from List.take_of_length_le (by rw [be_length];omega))
   clear hown hbel
   go_wp2
   go_ret2
   exact ⟨_,rfl,by have:=HO.out;rw [HE.out] at this;simpa [show min s (be s n).length=(be s n).length by rw [be_length];omega] using this,HB.out⟩
  | succ j=>
   have hj1:((j+1:Nat):Int) - 1=(j:Int):=by omega
   rw [hj1]
   have HT:=Lh (be_take s n j hj)
   have hlen:((be s n).take (s - (j+1))).length<=6:=by simp [be_length];omega
   have HO:=Lh hown
   have HE:=Lh hlen
   have hj5:(j:Int)<=5:=by omega
   clear hown hbel hj1 hlen
   go_wp2_with (at_builtin;refine wpList_append_rd _ rfl _ _ 136 rfl w.heap.size 5 i0 _ 1 1 Tryz.underlying136 hi0 hz0 hz1 hz2 rfl (by omega) _ _ _ rfl (HO.out.alloc _) _ _ _ _ _ rfl (Rd.fresh wr _ _) (by intro u hu;simp at hu;subst hu;rfl) (by have:=HE.out;have:=HL.out;unfold maxLen;simp at *;omega) (by have:=HE.out;have:=HL.out;simp at *;omega) (by simp;omega) ?_;intro v3 w3 hown3 hg3 _)
   have HO3:=Lh hown3
   have HB3:=Lh ((HB.out.alloc hsz _).grown hg3 (by simp;omega) (fun g hg=>(World.ownsRow.lt HO.out g hg).1))
   clear hown3 hg3
   go_roundw
   case rel=>
    refine ⟨j,by omega,rfl,?_,HB3.out⟩
    rw [HT.out,<-List.append_assoc,List.map_append,List.map_cons,List.map_nil,oct_mod]
    simpa [Nat.add_assoc] using HO3.out
   case measure=>simp [intOf]
theorem rput_bad (v:Value) (n s:Int) (w:World) (h:s<1\/6<s\/n<0\/2 ^ (8*s.toNat)<=n) :
  Calls Tryz.prog 68 #[v,.int .i64 n,.int .i64 s] w fun e w'=>e=.returned (.tuple #[.slice none 0 0,.int .i64 1])/\w=w':=by
 by_cases hs:s<1
 ·clear h
  go_enter Tryz.func68,Tryz.ntmps68
  go_wp2
  go_ret2
  exact ⟨rfl,rfl⟩
 ·by_cases hs2:6<s
  ·clear h
   go_enter Tryz.func68,Tryz.ntmps68
   go_wp2
   go_ret2
   exact ⟨rfl,rfl⟩
  ·by_cases hn:n<0
   ·clear h
    go_enter Tryz.func68,Tryz.ntmps68
    go_wp2
    go_ret2
    exact ⟨rfl,rfl⟩
   ·have h' : 2 ^ (8*s.toNat)<=n:=by omega
    obtain ⟨S,rfl⟩:=Int.eq_ofNat_of_zero_le (show 0<=s by omega)
    rw [Int.toNat_natCast] at h'
    have hp:=pow_le48 S (by omega)
    have hw:wrap64 (2 ^ (8*S))<=n:=by
     obtain ⟨h1,h2,h3⟩:=hp
     rw [IntWalk.wrap64_in _ (by omega)]
     exact h'
    clear h hp h'
    go_enter Tryz.func68,Tryz.ntmps68
    go_wp2
    go_ret2
    exact ⟨rfl,rfl⟩
theorem rput_all (A:Option Addr) (l c:Nat) (bs:List UInt8) (n s:Int) (w:World) (hv:Bs w w.heap.size (.slice A l c) bs) (hl:bs.length<=1099511627000) :
  Calls Tryz.prog 68 #[.slice A l c,.int .i64 n,.int .i64 s] w (Put2 w (ptB bs n s) (ptE n s)):=by
 by_cases h:1<=s/\s<=6/\0<=n/\n<2 ^ (8*s.toNat)
 ·have hk:ptOk n s=true:=decide_eq_true h
  obtain ⟨h1,h2,h3,h4⟩:=h
  obtain ⟨m,rfl⟩:=Int.eq_ofNat_of_zero_le h3
  obtain ⟨t,rfl⟩:=Int.eq_ofNat_of_zero_le (show 0<=s by omega)
  rw [Int.toNat_natCast] at h4
  refine (rput_ok A l c bs m t w hv hl h1 h2 (by exact_mod_cast h4)).mono fun e w' ⟨v,he,ho,hb⟩=>⟨v,?_,?_,hb⟩
  ·unfold ptE;rw [if_pos hk];exact he
  ·unfold ptB;rw [if_pos hk,Int.toNat_natCast,Int.toNat_natCast];exact Bs.of_own ho
 ·have hk:¬ptOk n s=true:=by unfold ptOk;simpa using h
  refine (rput_bad (.slice A l c) n s w (by omega)).mono fun e w' ⟨he,hw⟩=>⟨.slice none 0 0,?_,?_,?_⟩
  ·unfold ptE;rw [if_neg hk];exact he
  ·unfold ptB;rw [if_neg hk];exact Bs.nil
  ·subst hw;exact Below.refl _ _
end Go.Proofs.YtkecnihgjepfeaaGreat
