/- What is proved here: the hash of the document as a plain function of bytes, and the bit operations that its two programs use, as operations on natural numbers. No program is entered; (plain functions) routes; shardqueueref02.Into, by one contract for all arguments; shardqueueref02.Sum returns the hash of the bytes. -/
import Derived.Test.YtdobenkkkkaipaaGreatJ30
namespace Go.Proofs.YtdobenkkkkaipaaGreat
open Go.RowKit
theorem nat_i64 (a:Nat) (ha:a<9223372036854775808):(BitVec.ofInt 64 (a:Int)).toNat=a:=by
 rw [BitVec.ofInt_natCast,BitVec.toNat_ofNat];exact Nat.mod_eq_of_lt (by omega)
theorem xor_i64 (a b:Nat) (ha:a<9223372036854775808) (hb:b<9223372036854775808):bits .xor .i64 (a:Int) (b:Int)=((a ^^^ b:Nat):Int):=by
 have hx:a ^^^ b<2 ^ 63:=Nat.xor_lt_two_pow (by omega) (by omega)
 show IntKind.i64.wrap ((BitVec.ofInt 64 (a:Int) ^^^ BitVec.ofInt 64 (b:Int)).toNat:Int)=_
 rw [BitVec.toNat_xor,nat_i64 a ha,nat_i64 b hb,IntKind.wrap_i64]
 omega
theorem and_ones (n:Int) (k m:Nat) (hk:k≤62) (hm:m=2 ^ k - 1):bits .and .i64 n m=n % 2 ^ k:=by
 have hp:2 ^ k≤2 ^ 62:=Nat.pow_le_pow_right (by omega) hk
 have hp0:0<2 ^ k:=Nat.pow_pos (by omega)
 have h3:(BitVec.ofInt 64 (m:Int)).toNat=2 ^ k - 1:=by rw [nat_i64 m (by omega),hm]
 have key:(BitVec.ofInt 64 n &&&BitVec.ofInt 64 (m:Int)).toNat=(n % ((2 ^ 64:Nat):Int)).toNat % 2 ^ k:=by
  rw [BitVec.toNat_and,BitVec.toNat_ofInt,h3,Nat.and_two_pow_sub_one_eq_mod]
 show IntKind.i64.wrap ((BitVec.ofInt 64 n &&&BitVec.ofInt 64 (m:Int)).toNat:Nat)=n % 2 ^ k
 rw [key,IntKind.wrap_i64]
 have h1:(n % ((2 ^ 64:Nat):Int)).toNat % 2 ^ k<2 ^ k:=Nat.mod_lt _ hp0
 have h2:(((n % ((2 ^ 64:Nat):Int)).toNat % 2 ^ k:Nat):Int)=n % 2 ^ k:=by
  have hd:((2 ^ k:Nat):Int) ∣ ((2 ^ 64:Nat):Int):=Int.natCast_dvd_natCast.2 (Nat.pow_dvd_pow 2 (by omega))
  rw [Int.natCast_emod,Int.toNat_of_nonneg (by omega),Int.emod_emod_of_dvd n hd,Int.natCast_pow]
  rfl
 rw [←h2]
 omega
theorem and_ffff (n:Int):bits .and .i64 n 65535=n % 65536:=and_ones n 16 65535 (by omega) (by omega)
theorem and_ffffffff (n:Int):bits .and .i64 n 4294967295=n % 4294967296:=and_ones n 32 4294967295 (by omega) (by omega)
def fst1 (h b:Nat):Nat:=(h ^^^ b)*16777619 % 4294967296
def fnvOn (h:Nat) (bs:List UInt8):Nat:=bs.foldl (fun h b=>fst1 h b.toNat) h
def fnv (bs:List UInt8):Nat:=fnvOn 2166136261 bs
theorem fst1_lt (h b:Nat):fst1 h b<4294967296:=Nat.mod_lt _ (by decide)
theorem fnvOn_lt (h:Nat) (bs:List UInt8) (hh:h<4294967296):fnvOn h bs<4294967296:=by
 induction bs generalizing h with
 | nil=>exact hh
 | cons b r ih=>exact ih _ (fst1_lt _ _)
theorem fnv_lt (bs:List UInt8):fnv bs<4294967296:=fnvOn_lt _ _ (by decide)
theorem fnv_take (bs:List UInt8) (k:Nat) (h:k<bs.length):fnv (bs.take (k+1))=fst1 (fnv (bs.take k)) bs[k].toNat:=by
 unfold fnv fnvOn
 rw [List.take_succ_eq_append_getElem h,List.foldl_append,List.foldl_cons,List.foldl_nil]
end Go.Proofs.YtdobenkkkkaipaaGreat
namespace Go.Proofs.YtdobenkkkkaipaaGreat
open Go.RowKit
set_option linter.unusedVariables false
def areB (a b c:Int):Bool:=decide ((0≤a∧a≤65535)∧(0≤b∧b≤65535)∧(0≤c∧c≤65535))
def nth3 (a b c:Int):Nat→Int
 | 0=>a
 | 1=>b
 | _=>c
def intoF (r l h:Int):Int:=if areB r l h=true∧l≤h then (if l≤r∧r≤h then r else l+r % (h - l+1)) else 0
theorem intoF_out (r l h:Int) (hb:r<0∨65535<r∨l<0∨65535<h∨h<l):intoF r l h=0:=by
 unfold intoF
 rw [if_neg]
 rintro ⟨h1,h2⟩
 obtain ⟨⟨r0,r1⟩,⟨l0,l1⟩,⟨h0,h1⟩⟩:=of_decide_eq_true h1
 omega
def rtx (h:Nat):Nat:=(h / 65536) ^^^ (h % 65536)
def rtF (id:Int):Int:=if 0≤id∧id≤1073741824 then (rtx (fnv (be 4 id.toNat)):Int) else 0
theorem rtx_bits (h:Nat) (hh:h<4294967296):bits .xor .i64 ((h:Int) / 65536) ((h:Int) % 65536)=(rtx h:Int):=by
 have:=xor_i64 (h / 65536) (h % 65536) (by omega) (by omega)
 unfold rtx
 rw [←this]
 congr 1
theorem rtx_lt (h:Nat) (hh:h<4294967296):rtx h<65536:=Nat.xor_lt_two_pow (n:=16) (by omega) (by omega)
theorem rtF_lt (id:Int):0≤rtF id∧rtF id≤65535:=by
 by_cases h:0≤id∧id≤1073741824
 ·rw [show rtF id=(rtx (fnv (be 4 id.toNat)):Int) from if_pos h]
  have:=rtx_lt _ (fnv_lt (be 4 id.toNat))
  omega
 ·rw [show rtF id=0 from if_neg h];omega
theorem rinto_out (r l h:Int) (w:World) (hb:r<0∨65535<r∨l<0∨65535<h∨h<l) :
  Calls Tryz.prog 42 #[.int .i64 r,.int .i64 l,.int .i64 h] w fun e w'=>e=.returned (.int .i64 0)∧w=w':=by
 by_cases b0:r<0
 ·clear hb
  go_enter Tryz.func42,Tryz.ntmps42
  go_wp2
  go_ret
  exact ⟨rfl,rfl⟩
 by_cases b1:65535<r
 ·clear hb
  go_enter Tryz.func42,Tryz.ntmps42
  go_wp2
  go_ret
  exact ⟨rfl,rfl⟩
 by_cases b2:l<0
 ·clear hb
  go_enter Tryz.func42,Tryz.ntmps42
  go_wp2
  go_ret
  exact ⟨rfl,rfl⟩
 by_cases b3:65535<h
 ·clear hb
  go_enter Tryz.func42,Tryz.ntmps42
  go_wp2
  go_ret
  exact ⟨rfl,rfl⟩
 have b4:h<l:=by omega
 clear hb
 go_enter Tryz.func42,Tryz.ntmps42
 go_wp2
 go_ret
 exact ⟨rfl,rfl⟩
set_option maxHeartbeats 1000000 in
theorem rinto_any (r l h:Int) (w:World) :
  Calls Tryz.prog 42 #[.int .i64 r,.int .i64 l,.int .i64 h] w fun e w'=>e=.returned (.int .i64 (intoF r l h))∧w=w':=by
 by_cases hb:r<0∨65535<r∨l<0∨65535<h∨h<l
 ·rw [intoF_out r l h hb];exact rinto_out r l h w hb
 ·have r0:0≤r:=by omega
  have r1:r≤65535:=by omega
  have l0:0≤l:=by omega
  have h1:h≤65535:=by omega
  have lh:l≤h:=by omega
  have hA:areB r l h=true:=decide_eq_true ⟨⟨r0,r1⟩,⟨l0,by omega⟩,⟨by omega,h1⟩⟩
  clear hb
  by_cases hin:l≤r∧r≤h
  ·have HF:=Lh (show intoF r l h=r by unfold intoF;rw [if_pos ⟨hA,by omega⟩,if_pos hin])
   obtain ⟨g0,g1⟩:=hin
   clear hA
   go_enter Tryz.func42,Tryz.ntmps42
   go_wp2
   go_ret
   exact ⟨by rw [HF.out];rfl,rfl⟩
  ·have HF:=Lh (show intoF r l h=l+r % (h - l+1) by unfold intoF;rw [if_pos ⟨hA,by omega⟩,if_neg hin])
   clear hA
   have hm0:0≤r % (h - l+1):=Int.emod_nonneg _ (by omega)
   have hm1:r % (h - l+1)<h - l+1:=Int.emod_lt_of_pos _ (by omega)
   by_cases hlr:l≤r
   ·have hrh:¬r≤h:=fun g=>hin ⟨hlr,g⟩
    clear hin
    go_enter Tryz.func42,Tryz.ntmps42
    go_wp2
    go_ret
    exact ⟨by rw [HF.out];rfl,rfl⟩
   ·clear hin
    go_enter Tryz.func42,Tryz.ntmps42
    go_wp2
    go_ret
    exact ⟨by rw [HF.out];rfl,rfl⟩
set_option maxRecDepth 20000 in
theorem rsum_any (A:Option Addr) (l c:Nat) (bs:List UInt8) (w:World) (hv:Bs w w.heap.size (.slice A l c) bs) (hl:bs.length≤1099511627776) :
  Calls Tryz.prog 102 #[.slice A l c] w fun e w'=>e=.returned (.int .i64 (fnv bs))∧w=w':=by
 obtain ⟨rfl,hlc,hm⟩:=hv.len
 have hL:(bs.length:Int)≤9223372036854775806:=by omega
 have HV:=Lh hv
 have HA:=Lh and_ffffffff
 clear hv hlc hm
 go_enter Tryz.func102,Tryz.ntmps102
 go_wp2
 go_loop [3,4] (fun h i=>∃ k:Nat,k≤bs.length∧i=.int .i64 k∧h=.int .i64 (fnv (bs.take k))) (fun _ i=>bs.length - (intOf i).toNat)
 case atStart=>exact ⟨0,Nat.zero_le _,rfl,rfl⟩
 case round=>
  obtain ⟨k,hk,rfl,rfl⟩:=hrel
  by_cases hlt:k<bs.length
  ·obtain ⟨b,o,rfl,_,hb,hc⟩:=HV.out.at_ hlt
   have HT:=Lh (fnv_take bs k hlt)
   obtain ⟨h,hh⟩:∃ h,h=fnv (bs.take k):=⟨_,rfl⟩
   obtain ⟨y,hy⟩:∃ y,y=bs[k].toNat:=⟨_,rfl⟩
   have h32:h<4294967296:=by rw [hh];exact fnv_lt _
   have y8:y<256:=by rw [hy];exact UInt8.toNat_lt _
   have hx:=xor_i64 h y (by omega) (by omega)
   have HX:=Lh (show fst1 h y=(h ^^^ y)*16777619 % 4294967296 from rfl)
   obtain ⟨x,hx'⟩:∃ x,x=h ^^^ y:=⟨_,rfl⟩
   have x32:x<4294967296:=by rw [hx'];exact Nat.xor_lt_two_pow (n:=32) (by omega) (by omega)
   rw [←hx'] at hx HX
   rw [←hh,←hy] at HT
   rw [←hy] at hc
   rw [←hh]
   have ha:=and_ffffffff ((x:Int)*16777619)
   have h32' : (h:Int)≤4294967295:=by omega
   have y8' : (y:Int)≤255:=by omega
   have x32' : (x:Int)≤4294967295:=by omega
   clear hx' hh hy h32 y8 x32
   go_wp2
   go_round
   case rel=>exact ⟨k+1,by omega,by go_num,by rw [HT.out,HX.out];go_num⟩
   case measure=>simp [intOf];omega
  ·obtain rfl:k=bs.length:=by omega
   go_wp2
   go_ret
   exact ⟨rfl,rfl⟩
end Go.Proofs.YtdobenkkkkaipaaGreat
