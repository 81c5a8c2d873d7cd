/- What is proved here: Raw, N, Range of the statements' base: what they return and what they turn; (plain functions) a number as bytes of a fixed size; Body of the statements' base returns a short string; the hash of the document as a plain function of bytes, and the bit operations that its two programs use, as operations on natural numbers. No program is entered; (plain functions) routes. -/
import Derived.Test.YtncgbldcjfbknaaGreatJ16
import Derived.Deep.OwnRows
namespace Go.Proofs.YtncgbldcjfbknaaGreat
open Go.RowKit
set_option linter.unusedVariables false
set_option maxHeartbeats 2000000 in
set_option maxRecDepth 20000 in
theorem raw_any (B g:Nat) (w:World) (h:SrcAt w B g):Calls Tryz.prog 39 #[.pointer (some ⟨g,0,none⟩)] w (SrInt B g (-9223372036854775808) 9223372036854775807 w):=by
 have H:=Lh h
 obtain ⟨hB,hg,A,n,c,k,zs,a1,a2,a3,a4,a5,a6,a7,a8,a9⟩:=h
 have HA:=Lh a8
 have HZ:=Lh a9
 have a2' : (n:Int)≤4000:=by omega
 clear hB hg a2 a3 a4 a8 a9
 by_cases hk:k<n
 ·have hk' : ¬((n:Int)≤(k:Int)):=by omega
  have hd:decide ((n:Int)≤(k:Int))=false:=decide_eq_false hk'
  obtain ⟨b,o,rfl,hb,hcell⟩:=HA.out.2 (by omega)
  have hzl:k<zs.length:=by have:=HA.out.1;simp at this;omega
  have hz:=HZ.out zs[k] (List.getElem_mem hzl)
  have hcz:=hcell k (i64v zs[k]) (by simp [hzl])
  unfold i64v at hcz
  generalize zs[k]=z at*
  have HZ2:=Lh hz
  have hne1:b≠g:=by have:=H.out.1;omega
  have hne2:g≠b:=fun e=>hne1 e.symm
  have hk63:(k:Int)<(n:Int):=by omega
  have hk0:(0:Int)≤(k:Int):=Int.natCast_nonneg _
  have hs:IntKind.i64.wrap ((k:Int)+1 - 1)=k:=by rw [IntWalk.i64_in _ (by omega)];omega
  clear hcell hzl hz
  go_enter Tryz.func39,Tryz.ntmps39
  go_wp2
  go_quiet (fail)
  go_wp2
  go_quiet (fail)
  go_wp2
  go_ret
  exact ⟨z,rfl,HZ2.out.1,HZ2.out.2,((H.out.drewN _).next a5 a6 (by omega)).drewN _,only_drewN (only_set (only_drewN (World.grownBy.refl _ _) _) (.inl rfl) _) _⟩
 ·have hk' : (n:Int)≤(k:Int):=by omega
  have hd:decide ((n:Int)≤(k:Int))=true:=decide_eq_true hk'
  go_enter Tryz.func39,Tryz.ntmps39
  go_wp2
  go_quiet (fail)
  go_wp2
  go_ret
  exact ⟨0,rfl,by omega,by omega,H.out.drewN _,only_drewN (World.grownBy.refl _ _) _⟩
theorem tmod_gt (x n:Int) (h:0<n):-n<x.tmod n:=by
 have h1:=Int.tmod_lt_of_pos (-x) h
 rw [Int.neg_tmod] at h1
 omega
set_option maxHeartbeats 2000000 in
theorem n_any (B g:Nat) (w:World) (h:SrcAt w B g) (n:Int) (h1:1≤n) (h2:n≤1073741824):Calls Tryz.prog 14 #[.pointer (some ⟨g,0,none⟩),.int .i64 n] w (SrInt B g 0 (n - 1) w):=by
 have HC:=Lh (raw_any B g w h)
 clear h
 go_enter Tryz.func14,Tryz.ntmps14
 go_wp2_with fail
 refine HC.out.mono ?_
 rintro e w1 ⟨x,rfl,hx1,hx2,hs,hg⟩
 have HS:=Lh hs
 have HG:=Lh hg
 have hr1:x.tmod n<n:=Int.tmod_lt_of_pos x (by omega)
 have hr2:-n<x.tmod n:=tmod_gt x n (by omega)
 clear hs hg
 by_cases hr:x.tmod n<0
 ·go_wp2
  go_ret
  exact ⟨x.tmod n+n,rfl,by omega,by omega,HS.out,HG.out⟩
 ·go_wp2
  go_ret
  exact ⟨x.tmod n,rfl,by omega,by omega,HS.out,HG.out⟩
set_option maxHeartbeats 2000000 in
theorem range_any (B g:Nat) (w:World) (h:SrcAt w B g) (lo hi:Int) (h0:0≤lo) (h1:lo≤hi) (h2:hi≤1073741823):Calls Tryz.prog 22 #[.pointer (some ⟨g,0,none⟩),.int .i64 lo,.int .i64 hi] w (SrInt B g lo hi w):=by
 have HC:=Lh (n_any B g w h (hi - lo+1) (by omega) (by omega))
 clear h
 go_enter Tryz.func22,Tryz.ntmps22
 go_wp2_with fail
 refine HC.out.mono ?_
 rintro e w1 ⟨x,rfl,hx1,hx2,hs,hg⟩
 have HS:=Lh hs
 have HG:=Lh hg
 clear hs hg
 go_wp2
 go_ret
 exact ⟨lo+x,rfl,by omega,by omega,HS.out,HG.out⟩
def be (s n:Nat):List UInt8:=(List.range s).map fun j=>UInt8.ofNat (n / 2 ^ (8*(s - 1 - j)))
theorem be_length (s n:Nat):(be s n).length=s:=by simp [be]
theorem be_get (s n j:Nat) (h:j<s):(be s n)[j]'(by rw [be_length];exact h)=UInt8.ofNat (n / 2 ^ (8*(s - 1 - j))):=by simp [be]
theorem oct_mod (x:Nat):oct (UInt8.ofNat x)=.int .u8 ((x:Int) % 256):=by
 unfold oct
 rw [show (UInt8.ofNat x).toNat=x % 256 from by simp]
 simp
theorem Bs.of_row {w:World} {B g:Nat} {t:TypeId} {n c:Nat} {f:Nat→Value} {bs:List UInt8} (h:w.rowIs g t n f) (hg:g<B) (hl:bs.length=n) (hc:n≤c) (hm:c≤maxLen) (hf:∀ j (hj:j<bs.length),f j=oct bs[j]):Bs w B (.slice (some ⟨g,0,none⟩) n c) bs:=by
 subst hl
 refine ⟨_,c,rfl,hc,hm,by simp,fun _=>⟨g,0,rfl,hg,fun j u hu=>?_⟩⟩
 rw [Nat.zero_add]
 simp only [List.getElem?_map,Option.map_eq_some_iff] at hu
 obtain ⟨x,hx,rfl⟩:=hu
 obtain ⟨hj,rfl⟩:=List.getElem?_eq_some_iff.1 hx
 rw [h.cell hj,hf j hj]
theorem pow_le48 (s:Nat) (h:s≤6):(2:Int) ^ (8*s)≤281474976710656∧(0:Int)≤2 ^ (8*s)∧((2 ^ (8*s):Nat):Int)=(2:Int) ^ (8*s):=by
 match s,h with
 | 0,_=>decide
 | 1,_=>decide
 | 2,_=>decide
 | 3,_=>decide
 | 4,_=>decide
 | 5,_=>decide
 | 6,_=>decide
theorem be_take (s n j:Nat) (hj:j+1≤s):(be s n).take (s - j)=(be s n).take (s - (j+1))++[UInt8.ofNat (n / 2 ^ (8*j))]:=by
 have hl:s - (j+1)<(be s n).length:=by rw [be_length];omega
 rw [show s - j=s - (j+1)+1 by omega,List.take_succ_eq_append_getElem hl,be_get s n _ (by omega),show s - 1 - (s - (j+1))=j by omega]
def ptOk (n s:Int):Bool:=decide (1≤s∧s≤6∧0≤n∧n<2 ^ (8*s.toNat))
def ptE (n s:Int):Int:=if ptOk n s then 0 else 1
def ptB (bs:List UInt8) (n s:Int):List UInt8:=if ptOk n s then bs++be s.toNat n.toNat else []
theorem pt4 (id:Int) (h0:0≤id) (h1:id≤1073741824):ptE id 4=0∧ptB [] id 4=be 4 id.toNat:=by
 have hk:ptOk id 4=true:=by
  refine decide_eq_true ⟨by omega,by omega,h0,?_⟩
  rw [show (2:Int) ^ (8*(4:Int).toNat)=4294967296 by decide]
  omega
 unfold ptE ptB
 rw [if_pos hk,if_pos hk]
 exact ⟨rfl,rfl⟩
def SrBody (B g:Nat) (w:World) (e:Ending) (w' : World):Prop:=∃ s:ByteArray,e=.returned (.string s)∧s.size≤3∧SrcAt w' B g∧w.grownBy w' (some g)
theorem rowIs_grown {w w' : World} {b g:Nat} {t:TypeId} {n:Nat} {f:Nat→Value} (h:w.rowIs b t n f) (hg:w.grownBy w' (some g)) (hne:b≠g) (hb:b<w.heap.size):w'.rowIs b t n f:=by
 obtain ⟨c,h1,h2⟩:=h
 exact ⟨c,(hg.block b hb (fun e=>hne (by injection e))).trans h1,h2⟩
set_option maxHeartbeats 2000000 in
set_option maxRecDepth 20000 in
theorem body_any (B g:Nat) (w:World) (h:SrcAt w B g):Calls Tryz.prog 88 #[.pointer (some ⟨g,0,none⟩)] w (SrBody B g w):=by
 have HC:=Lh (n_any B g w h 4 (by omega) (by omega))
 have HG0:=Lh h.2.1
 have HBg:=Lh h.1
 clear h
 go_enter Tryz.func88,Tryz.ntmps88
 go_wp2_with fail
 refine HC.out.mono ?_
 rintro e w1 ⟨x,rfl,hx1,hx2,hs,hg⟩
 obtain ⟨m,rfl⟩:=Int.eq_ofNat_of_zero_le hx1
 have hm3:(m:Int)≤3:=by omega
 have hmk:=run_make_row' (P:=Tryz.prog) 148 5 (.int .u8 0) 1 Tryz.underlying148 info_u8 rfl .i64 .i64 m (by omega) (by omega) w1
 have HR:=Lh (World.rowIs_made w1 (.int .u8 0) m 5)
 have HS:=Lh (hs.alloc (.cells (madeCells #[.int .u8 0] m) 5))
 have HG:=Lh (only_alloc hg (.cells (madeCells #[.int .u8 0] m) 5))
 have hne:w1.heap.size≠g:=by have:=hs.2.1;omega
 have HNE:=Lh hne
 have hle:w.heap.size≤w1.heap.size:=hg.size
 have HLE:=Lh hle
 obtain ⟨b,hbb⟩:∃ b,b=w1.heap.size:=⟨_,rfl⟩
 have HSZ:=Lh (show b<(w1.alloc (.cells (madeCells #[.int .u8 0] m) 5)).heap.size by simp [hbb])
 have HBB:=Lh hbb
 clear hs hg hx1 hx2 hne hle hbb
 go_wp2
 rw [←HBB.out]
 rw [←HBB.out] at HR HNE HLE
 clear hmk
 go_loopw [4] (fun i wr=>∃ (k:Nat) (f:Nat→UInt8),k≤m∧i=.int .i64 k∧wr.rowIs b 5 m (fun j=>oct (f j))∧b<wr.heap.size∧SrcAt wr B g∧w.grownBy wr (some g)) (fun i _=>m - (intOf i).toNat)
 case atStart=>exact ⟨0,fun _=>0,by omega,rfl,HR.out.congr (fun j hj=>rfl),HSZ.out,HS.out,HG.out⟩
 case round=>
  obtain ⟨k,f,hk,rfl,hrow,hsz,hs,hg⟩:=hrel
  by_cases hlt:k<m
  ·have HV:=Lh (n_any B g wr hs 3 (by omega) (by omega))
   have HRow:=Lh hrow
   have HSr:=Lh hs
   have HGr:=Lh hg
   clear hrow hs hg
   go_wp2_with fail
   refine HV.out.mono ?_
   rintro e w2 ⟨y,rfl,hy1,hy2,hs2,hg2⟩
   obtain ⟨z,rfl⟩:=Int.eq_ofNat_of_zero_le hy1
   have hz3:(z:Int)≤2:=by omega
   have HRow2:=Lh (rowIs_grown HRow.out hg2 HNE.out hsz)
   have hsz2:b<w2.heap.size:=Nat.lt_of_lt_of_le hsz hg2.size
   have HS2:=Lh hs2
   have HG2:=Lh (HGr.out.trans hg2)
   have hcell:=HRow2.out.cell (i:=k) hlt
   have hfr:=HRow2.out.frozen k
   have HO:=Lh (show oct (UInt8.ofNat (97+z))=.int .u8 (97+(z:Int)) by rw [oct_mod];congr 1;omega)
   clear hs2 hg2 hy1 hy2
   go_wp2
   go_roundw
   case rel=>
    refine ⟨k+1,fun j=>if j=k then UInt8.ofNat (97+z) else f j,by omega,by go_num,(HRow2.out.set k _).congr (fun j hj=>?_),by simpa using hsz2,HS2.out.other (fun e=>HNE.out e) (by have:=HLE.out;have:=HG0.out;have:=HBg.out;simp;omega) _,only_set HG2.out (.inr HLE.out) _⟩
    by_cases e:j=k
    ·subst e;simp only [if_true];exact HO.out.symm
    ·simp only [if_neg e]
   case measure=>simp [intOf];omega
  ·obtain rfl:k=m:=by omega
   have hb1:Bs wr wr.heap.size (.slice (some ⟨b,0,none⟩) k k) ((List.range k).map f):=Bs.of_row hrow hsz (by simp) (Nat.le_refl _) (by unfold maxLen;omega) (fun j hj=>by simp)
   have hconv:=run_convert_bs (P:=Tryz.prog) wr 148 5 9 Tryz.underlying148 Tryz.underlying5 Tryz.underlying9 hb1
   have HSr:=Lh hs
   have HGr:=Lh hg
   clear hrow hs hg hb1
   go_wp2
   go_ret
   exact ⟨_,rfl,(by show (List.map f (List.range k)).toArray.size≤3;simp;omega),HSr.out,HGr.out⟩
end Go.Proofs.YtncgbldcjfbknaaGreat
namespace Go.Proofs.YtncgbldcjfbknaaGreat
open Go.RowKit
theorem nat_i64 (a:Nat) (ha:a<9223372036854775808):(BitVec.ofInt 64 (a:Int)).toNat=a:=by
 rw [BitVec.ofInt_natCast,BitVec.toNat_ofNat];exact Nat.mod_eq_of_lt (by omega)
theorem xor_i64 (a b:Nat) (ha:a<9223372036854775808) (hb:b<9223372036854775808):bits .xor .i64 (a:Int) (b:Int)=((a ^^^ b:Nat):Int):=by
 have hx:a ^^^ b<2 ^ 63:=Nat.xor_lt_two_pow (by omega) (by omega)
 show IntKind.i64.wrap ((BitVec.ofInt 64 (a:Int) ^^^ BitVec.ofInt 64 (b:Int)).toNat:Int)=_
 rw [BitVec.toNat_xor,nat_i64 a ha,nat_i64 b hb,IntKind.wrap_i64]
 omega
theorem and_ones (n:Int) (k m:Nat) (hk:k≤62) (hm:m=2 ^ k - 1):bits .and .i64 n m=n % 2 ^ k:=by
 have hp:2 ^ k≤2 ^ 62:=Nat.pow_le_pow_right (by omega) hk
 have hp0:0<2 ^ k:=Nat.pow_pos (by omega)
 have h3:(BitVec.ofInt 64 (m:Int)).toNat=2 ^ k - 1:=by rw [nat_i64 m (by omega),hm]
 have key:(BitVec.ofInt 64 n &&&BitVec.ofInt 64 (m:Int)).toNat=(n % ((2 ^ 64:Nat):Int)).toNat % 2 ^ k:=by
  rw [BitVec.toNat_and,BitVec.toNat_ofInt,h3,Nat.and_two_pow_sub_one_eq_mod]
 show IntKind.i64.wrap ((BitVec.ofInt 64 n &&&BitVec.ofInt 64 (m:Int)).toNat:Nat)=n % 2 ^ k
 rw [key,IntKind.wrap_i64]
 have h1:(n % ((2 ^ 64:Nat):Int)).toNat % 2 ^ k<2 ^ k:=Nat.mod_lt _ hp0
 have h2:(((n % ((2 ^ 64:Nat):Int)).toNat % 2 ^ k:Nat):Int)=n % 2 ^ k:=by
  have hd:((2 ^ k:Nat):Int) ∣ ((2 ^ 64:Nat):Int):=Int.natCast_dvd_natCast.2 (Nat.pow_dvd_pow 2 (by omega))
  rw [Int.natCast_emod,Int.toNat_of_nonneg (by omega),Int.emod_emod_of_dvd n hd,Int.natCast_pow]
  rfl
 rw [←h2]
 omega
theorem and_ffff (n:Int):bits .and .i64 n 65535=n % 65536:=and_ones n 16 65535 (by omega) (by omega)
theorem and_ffffffff (n:Int):bits .and .i64 n 4294967295=n % 4294967296:=and_ones n 32 4294967295 (by omega) (by omega)
def fst1 (h b:Nat):Nat:=(h ^^^ b)*16777619 % 4294967296
def fnvOn (h:Nat) (bs:List UInt8):Nat:=bs.foldl (fun h b=>fst1 h b.toNat) h
def fnv (bs:List UInt8):Nat:=fnvOn 2166136261 bs
theorem fst1_lt (h b:Nat):fst1 h b<4294967296:=Nat.mod_lt _ (by decide)
theorem fnvOn_lt (h:Nat) (bs:List UInt8) (hh:h<4294967296):fnvOn h bs<4294967296:=by
 induction bs generalizing h with
 | nil=>exact hh
 | cons b r ih=>exact ih _ (fst1_lt _ _)
theorem fnv_lt (bs:List UInt8):fnv bs<4294967296:=fnvOn_lt _ _ (by decide)
theorem fnv_take (bs:List UInt8) (k:Nat) (h:k<bs.length):fnv (bs.take (k+1))=fst1 (fnv (bs.take k)) bs[k].toNat:=by
 unfold fnv fnvOn
 rw [List.take_succ_eq_append_getElem h,List.foldl_append,List.foldl_cons,List.foldl_nil]
end Go.Proofs.YtncgbldcjfbknaaGreat
namespace Go.Proofs.YtncgbldcjfbknaaGreat
open Go.RowKit
set_option linter.unusedVariables false
def areB (a b c:Int):Bool:=decide ((0≤a∧a≤65535)∧(0≤b∧b≤65535)∧(0≤c∧c≤65535))
def intoF (r l h:Int):Int:=if areB r l h=true∧l≤h then (if l≤r∧r≤h then r else l+r % (h - l+1)) else 0
theorem intoF_out (r l h:Int) (hb:r<0∨65535<r∨l<0∨65535<h∨h<l):intoF r l h=0:=by
 unfold intoF
 rw [if_neg]
 rintro ⟨h1,h2⟩
 obtain ⟨⟨r0,r1⟩,⟨l0,l1⟩,⟨h0,h1⟩⟩:=of_decide_eq_true h1
 omega
def rtx (h:Nat):Nat:=(h / 65536) ^^^ (h % 65536)
def rtF (id:Int):Int:=if 0≤id∧id≤1073741824 then (rtx (fnv (be 4 id.toNat)):Int) else 0
theorem rtx_bits (h:Nat) (hh:h<4294967296):bits .xor .i64 ((h:Int) / 65536) ((h:Int) % 65536)=(rtx h:Int):=by
 have:=xor_i64 (h / 65536) (h % 65536) (by omega) (by omega)
 unfold rtx
 rw [←this]
 congr 1
theorem rtx_lt (h:Nat) (hh:h<4294967296):rtx h<65536:=Nat.xor_lt_two_pow (n:=16) (by omega) (by omega)
theorem rtF_lt (id:Int):0≤rtF id∧rtF id≤65535:=by
 by_cases h:0≤id∧id≤1073741824
 ·rw [show rtF id=(rtx (fnv (be 4 id.toNat)):Int) from if_pos h]
  have:=rtx_lt _ (fnv_lt (be 4 id.toNat))
  omega
 ·rw [show rtF id=0 from if_neg h];omega
end Go.Proofs.YtncgbldcjfbknaaGreat
