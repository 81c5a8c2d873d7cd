/- What is proved here: shardqueueref05.Push by a contract; shardqueueref06.Grant by a contract; Raw, N, Range of the statements' base: what they return and what they turn; (plain functions) a number as bytes of a fixed size; Body of the statements' base returns a short string. -/
import Derived.Test.YtncgbldcjfbknaaGreatJ27
import Derived.Deep.OwnRows
namespace Go.Proofs.YtncgbldcjfbknaaGreat
open Go.RowKit
set_option linter.unusedVariables false
set_option maxHeartbeats 8000000 in
set_option maxRecDepth 20000 in
theorem rpush5_ok (A:Option Addr) (n c:Nat) (l:List Du) (d:Du) (w:World) (hv:Dl w w.heap.size (.slice A n c) l) (h0:hpuE l d=0) :
  Calls Tryz.prog 181 #[.slice A n c,d.v] w (DlE w (hpu l d) 0):=by
 obtain ⟨rfl,hm1,hm2⟩:=hv.len
 have HB:=Lh ((Below.refl w.heap.size w).alloc (Nat.le_refl _) (.cells #[.int .i64 d.dl,.int .i64 d.id] 127))
 have HV0:=Lh ((hv.alloc (Nat.le_refl _) (.cells #[.int .i64 d.dl,.int .i64 d.id] 127)).more (show w.heap.size≤(w.alloc (.cells #[.int .i64 d.dl,.int .i64 d.id] 127)).heap.size by simp))
 have HD0:=Lh (D2.start w d 127)
 have HV:=Lh hv
 have HVA:=Lh (fun w1 hv=>rvalid5_any A l.length c l w1 hv)
 have HO:=Lh (fun w1=>rsound_any d w1)
 have HF:=Lh (fun w1 (hv:Dl w1 w1.heap.size (.slice A l.length c) l)=>rix5_any A l.length c l d.id w1 _ hv)
 obtain ⟨hva,hsn,hl12,hid⟩:=hpuE_zero h0
 have hix:ixD l d.id = -1:=ixD_neg (fun h=>by obtain ⟨x,hx,e⟩:=(ixD_ge _ _).1 h;exact hid x hx e)
 rw [hva] at HVA
 rw [hsn] at HO
 rw [hix] at HF
 have HUP:=Lh (fun lo g cap w1 hd hlo hn=>rup_any lo (some ⟨g,0,none⟩) (l.length+1) cap l.length (l++[d]) w1 hd hlo hn (by omega) (by omega))
 have HL12:=Lh hl12
 have hl100:(l.length:Int)≤100:=by omega
 have h12' : ((l.length:Int)==12)=false:=by simp;omega
 obtain ⟨i0,hi0,hz0⟩:=Option.map_eq_some_iff.1 info_due
 simp only [Prod.mk.injEq] at hz0
 have HI:=Lh hi0
 have HZ:=Lh hz0
 clear hv hm1 hm2 h0 hva hsn hl12 hid hix hi0 hz0
 go_enter Tryz.func181,Tryz.ntmps181
 go_wp2_with fail
 obtain ⟨p,hp⟩:∃ p,p=w.heap.size:=⟨_,rfl⟩
 have HPP:=Lh hp
 rw [←hp] at HD0 ⊢
 clear hp
 refine (HVA.out _ HV0.out).mono ?_
 rintro e w1 ⟨rfl,hb⟩
 have HB1:=Lh (HB.out.trans (hb.mono HB.out.size))
 have HD1:=Lh (HD0.out.below hb (by have:=HPP.out;simp;omega))
 obtain ⟨c0,c1⟩:=HD1.out
 have HPL:=Lh (World.block_lt_of_cell? w1 ⟨p,0,none⟩ c0)
 clear hb
 go_wp2_with fail
 refine (HO.out _).mono ?_
 rintro e w2 ⟨rfl,hb⟩
 have HB2:=Lh (HB1.out.trans (hb.mono HB1.out.size))
 have HD2:=Lh (HD1.out.below hb HPL.out)
 have HPL2:=Lh (Nat.lt_of_lt_of_le HPL.out hb.size)
 clear hb c0 c1
 obtain ⟨c0,c1⟩:=HD2.out
 go_wp2_with fail
 refine (HF.out _ (HV.out.up HB2.out)).mono ?_
 rintro e w3 ⟨rfl,rfl⟩
 have HS0:=Lh (show D2 w2.drew p d from HD2.out)
 have HS1:=Lh (HD2.out.below (W':=(w2.alloc (.cells #[.int .i64 d.dl,.int .i64 d.id] 127)).drew) (((Below.refl w2.heap.size w2).alloc (Nat.le_refl _) _).drew) HPL2.out)
 have HA0:=Lh (show Rd w2.drew w2.drew.heap.size 2 A l.length (dcs l) from (HV.out.up HB2.out.drew).rd)
 have HA1:=Lh (show Rd (w2.alloc (.cells #[.int .i64 d.dl,.int .i64 d.id] 127)).drew (w2.alloc (.cells #[.int .i64 d.dl,.int .i64 d.id] 127)).drew.heap.size 2 A l.length (dcs l) from (HV.out.up ((HB2.out.alloc HB2.out.size _).drew)).rd)
 have HP0:=Lh (fun w3 v (ho:w3.ownsRow w2.drew.heap.size 127 2 v (0+l.length) ([]++dcs l)) (hg:w2.drew.grownBy w3 (Value.ownBlock (.slice none 0 0)))=>push_pre0 (w:=w) (w1:=w2) (w2:=w3) (l:=l) (d:=d) (p:=p) (v:=v) HB2.out HPL2.out HS0.out (by rw [Nat.zero_add,List.nil_append] at ho;exact ho) ((Below.refl _ w2.drew).grown hg (Nat.le_refl _) (fun k e=>by simp [Value.ownBlock] at e)))
 have HP1:=Lh (fun w3 v (ho:w3.ownsRow (w2.alloc (.cells #[.int .i64 d.dl,.int .i64 d.id] 127)).drew.heap.size 127 2 v (0+l.length) ([]++dcs l)) (hg:(w2.alloc (.cells #[.int .i64 d.dl,.int .i64 d.id] 127)).drew.grownBy w3 (Value.ownBlock (.slice none 0 0)))=>push_pre1 (w:=w) (w1:=w2) (w2:=w3) (l:=l) (d:=d) (p:=p) (v:=v) HB2.out HPL2.out HS1.out (by rw [Nat.zero_add,List.nil_append] at ho;exact ho) ((Below.refl _ _).grown hg (Nat.le_refl _) (fun k e=>by simp [Value.ownBlock] at e)))
 have hgd:¬((0:Int) ≤ -1):=by decide
 go_wp2_with fail
 go_region_held3 (fun W=>W.cell? ⟨p,0,none⟩=some (.int .i64 d.dl)∧W.cell? ⟨p,1,none⟩=some (.int .i64 d.id))
  (first | with_reducible exact HS0.out | with_reducible exact HS1.out | with_reducible exact HS2.out | with_reducible exact HS3.out | with_reducible exact HS4.out | with_reducible exact HS5.out)
  (first
  | (refine step_append_lies _ (by rfl) _ _ _ (by rfl) w2.heap.size 127 i0 _ 2 16 Tryz.underlying29 HI.out HZ.out.1 HZ.out.2.1 HZ.out.2.2 rfl (by omega) v4 l.length (dcs l) (by rfl) HOW.out ⟨w4.heap.size,0,none⟩ 1 1 d.l (by rfl) (by simp [Du.l_len]) HN.out (du_one d) (by omega) (by have:=HL12.out;unfold maxLen;omega) (by have:=HL12.out;omega) HBS.out _ rfl ?_;intro g1 cap1 w5 hown1 hgrow1 hat1 hlt1;have HFN:=Lh (push_end HBF.out HOW.out HB2.out.size hown1 hgrow1);have HS4:=Lh (HS3.out.grown HOW.out HPL2.out HBS.out hgrow1);have HDL:=Lh (HFN.out.1.dl' (by simp) HFN.out.2.2.1 HFN.out.2.2.2.1);clear hown1 hgrow1 hat1 hlt1)
  | (refine step_append_lies _ (by rfl) _ _ _ (by rfl) w2.heap.size 127 i0 _ 2 16 Tryz.underlying29 HI.out HZ.out.1 HZ.out.2.1 HZ.out.2.2 rfl (by omega) v4 l.length (dcs l) (by rfl) HOW.out ⟨w2.heap.size,0,none⟩ 1 1 d.l (by rfl) (by simp [Du.l_len]) HN.out (du_one d) (by omega) (by have:=HL12.out;unfold maxLen;omega) (by have:=HL12.out;omega) HBS.out _ rfl ?_;intro g1 cap1 w5 hown1 hgrow1 hat1 hlt1;have HFN:=Lh (push_end HBF.out HOW.out HB2.out.size hown1 hgrow1);have HS4:=Lh (HS3.out.grown HOW.out HPL2.out HBS.out hgrow1);have HDL:=Lh (HFN.out.1.dl' (by simp) HFN.out.2.2.1 HFN.out.2.2.2.1);clear hown1 hgrow1 hat1 hlt1)
  | (refine step_append_rd _ (by rfl) _ _ _ (by rfl) _ 127 i0 _ 2 16 Tryz.underlying29 HI.out HZ.out.1 HZ.out.2.1 HZ.out.2.2 rfl (by omega) (.slice none 0 0) 0 [] (by rfl) (World.ownsRow_nil _ _ _ _) _ A l.length c (dcs l) (by rfl) HA0.out (dcs_one l) (by have:=HL12.out;unfold maxLen;omega) (by have:=HL12.out;omega) (Nat.le_refl _) ?_;intro v4 w4 hown4 hgrow4 hat4;obtain ⟨hs2,hs3,ho3,hbs,hbf,hn⟩:=HP0.out _ _ hown4 hgrow4;have HS2:=Lh hs2;have HS3:=Lh hs3;have HOW:=Lh ho3;have HBS:=Lh hbs;have HBF:=Lh hbf;have HN:=Lh hn;clear hown4 hgrow4 hat4 hs2 hs3 ho3 hbs hbf hn)
  | (refine step_append_rd _ (by rfl) _ _ _ (by rfl) _ 127 i0 _ 2 16 Tryz.underlying29 HI.out HZ.out.1 HZ.out.2.1 HZ.out.2.2 rfl (by omega) (.slice none 0 0) 0 [] (by rfl) (World.ownsRow_nil _ _ _ _) _ A l.length c (dcs l) (by rfl) HA1.out (dcs_one l) (by have:=HL12.out;unfold maxLen;omega) (by have:=HL12.out;omega) (Nat.le_refl _) ?_;intro v4 w4 hown4 hgrow4 hat4;obtain ⟨hs3,ho3,hbs,hbf,hn⟩:=HP1.out _ _ hown4 hgrow4;have HS3:=Lh hs3;have HOW:=Lh ho3;have HBS:=Lh hbs;have HBF:=Lh hbf;have HN:=Lh hn;clear hown4 hgrow4 hat4 hs3 ho3 hbs hbf hn)
  | (go_at_call 207;(with_reducible refine (HUP.out w.heap.size g1 cap1 w5 HDL.out HFN.out.2.2.2.2.size (nw_some HFN.out.2.1)).mono ?_);rintro e w6 ⟨v6,rfl,hla⟩;have HLA:=Lh hla;have HS5:=Lh (HS4.out.below hla.bel (World.block_lt_of_cell? w5 ⟨p,0,none⟩ HS4.out.1));clear hla))
 all_goals
  obtain ⟨A6,c6,hv6,_,_⟩:=HLA.out.dl.form
  subst hv6
  have HNW:=Lh (nwv_of HLA.out.nw)
  have HD6:=Lh HLA.out.dl
  have HB6:=Lh (HFN.out.2.2.2.2.trans (HLA.out.bel.mono HFN.out.2.2.2.2.size))
  have hpf:upF (l++[d]) l.length=hpu l d:=rfl
  rw [hpf] at HD6 ⊢
  clear hpf
  go_wp2
  exact bodyPost_ret (v:=.tuple #[.slice A6 (hpu l d).length c6,.int .i64 0]) (by simp only [results,Tryz.results181];go_simp <;> rfl) rfl ⟨A6,c6,rfl,HNW.out,HD6.out,HB6.out⟩
set_option maxHeartbeats 4000000 in
theorem rpush5_any (A:Option Addr) (n c:Nat) (l:List Du) (d:Du) (w:World) (hv:Dl w w.heap.size (.slice A n c) l) :
  Calls Tryz.prog 181 #[.slice A n c,d.v] w (DlE w (puR l d) (hpuE l d)):=by
 by_cases h00:hpuE l d=0
 ·rw [h00,show puR l d=hpu l d from if_pos h00]
  exact rpush5_ok A n c l d w hv h00
 ·have HC:=Lh (show puR l d=[] from if_neg h00)
  obtain ⟨rfl,hm1,hm2⟩:=hv.len
  have HB:=Lh ((Below.refl w.heap.size w).alloc (Nat.le_refl _) (.cells #[.int .i64 d.dl,.int .i64 d.id] 127))
  have HV0:=Lh ((hv.alloc (Nat.le_refl _) (.cells #[.int .i64 d.dl,.int .i64 d.id] 127)).more (show w.heap.size≤(w.alloc (.cells #[.int .i64 d.dl,.int .i64 d.id] 127)).heap.size by simp))
  have HD0:=Lh (D2.start w d 127)
  have HV:=Lh hv
  have HVA:=Lh (fun w1 hv=>rvalid5_any A l.length c l w1 hv)
  have HO:=Lh (fun w1=>rsound_any d w1)
  have HF:=Lh (fun w1 (hv:Dl w1 w1.heap.size (.slice A l.length c) l)=>rix5_any A l.length c l d.id w1 _ hv)
  clear hv hm1 hm2
  by_cases h0:vaF l=0
  ·rw [h0] at HVA
   have hl:=(vaF_zero h0).1
   have hpu:hpuE l d=if snd d=false then 1 else if l.length=12 then 3 else if 0≤ixD l d.id then 10 else 0:=by
    unfold hpuE;rw [if_neg (by simpa using h0)]
   clear h0
   cases hs:snd d with
   | false=>
    have hR:hpuE l d=1:=by rw [hpu,if_pos hs]
    rw [hs] at HO
    rw [hR]
    clear hpu hs hR h00
    go_enter Tryz.func181,Tryz.ntmps181
    go_wp2_with fail
    refine (HVA.out _ HV0.out).mono ?_
    rintro e w1 ⟨rfl,hb⟩
    have HB1:=Lh (HB.out.trans (hb.mono HB.out.size))
    obtain ⟨c0,c1⟩:=HD0.out.below hb (by simp)
    clear hb
    go_wp2_with fail
    refine (HO.out _).mono ?_
    rintro e w2 ⟨rfl,hb⟩
    have HB2:=Lh (HB1.out.trans (hb.mono HB1.out.size))
    clear hb c0 c1
    go_wp2
    exact bodyPost_ret (v:=.tuple #[.slice none 0 0,.int .i64 1]) (by simp only [results,Tryz.results181];go_simp <;> rfl) rfl ⟨none,0,by rw [HC.out];rfl,nw_none,by rw [HC.out];exact Dl.nil,HB2.out⟩
   | true=>
    rw [hs] at HO
    by_cases h12:l.length=12
    ·have hR:hpuE l d=3:=by rw [hpu,if_neg (by simp [hs]),if_pos h12]
     have h12' : ((l.length:Int)==12)=true:=by simp;omega
     rw [hR]
     clear hpu hs hR h00 h12
     go_enter Tryz.func181,Tryz.ntmps181
     go_wp2_with fail
     refine (HVA.out _ HV0.out).mono ?_
     rintro e w1 ⟨rfl,hb⟩
     have HB1:=Lh (HB.out.trans (hb.mono HB.out.size))
     obtain ⟨c0,c1⟩:=HD0.out.below hb (by simp)
     clear hb
     go_wp2_with fail
     refine (HO.out _).mono ?_
     rintro e w2 ⟨rfl,hb⟩
     have HB2:=Lh (HB1.out.trans (hb.mono HB1.out.size))
     clear hb c0 c1
     go_wp2
     exact bodyPost_ret (v:=.tuple #[.slice none 0 0,.int .i64 3]) (by simp only [results,Tryz.results181];go_simp <;> rfl) rfl ⟨none,0,by rw [HC.out];rfl,nw_none,by rw [HC.out];exact Dl.nil,HB2.out⟩
    ·have h12' : ((l.length:Int)==12)=false:=by simp;omega
     have hge:0≤ixD l d.id:=Decidable.byContradiction fun hx=>h00 (by rw [hpu,if_neg (by simp [hs]),if_neg h12,if_neg hx])
     have hR:hpuE l d=10:=by rw [hpu,if_neg (by simp [hs]),if_neg h12,if_pos hge]
     rw [hR]
     clear hpu hs hR h00 h12
     generalize ixD l d.id=r at*
     go_enter Tryz.func181,Tryz.ntmps181
     go_wp2_with fail
     refine (HVA.out _ HV0.out).mono ?_
     rintro e w1 ⟨rfl,hb⟩
     have HB1:=Lh (HB.out.trans (hb.mono HB.out.size))
     have HD1:=Lh (HD0.out.below hb (by simp))
     obtain ⟨c0,c1⟩:=HD1.out
     have HPL:=Lh (World.block_lt_of_cell? w1 ⟨w.heap.size,0,none⟩ c0)
     clear hb
     go_wp2_with fail
     refine (HO.out _).mono ?_
     rintro e w2 ⟨rfl,hb⟩
     have HB2:=Lh (HB1.out.trans (hb.mono HB1.out.size))
     clear c0 c1
     obtain ⟨c0,c1⟩:=HD1.out.below hb HPL.out
     clear hb
     go_wp2_with fail
     refine (HF.out _ (HV.out.up HB2.out)).mono ?_
     rintro e w3 ⟨rfl,rfl⟩
     clear c0 c1
     go_wp2
     exact bodyPost_ret (v:=.tuple #[.slice none 0 0,.int .i64 10]) (by simp only [results,Tryz.results181];go_simp <;> rfl) rfl ⟨none,0,by rw [HC.out];rfl,nw_none,by rw [HC.out];exact Dl.nil,HB2.out⟩
  ·have hR:hpuE l d=vaF l:=by unfold hpuE;rw [if_pos h0]
   have hne:(vaF l != 0)=true:=bne_iff_ne.2 h0
   rw [hR]
   generalize vaF l=x at*
   clear h0 hR h00
   go_enter Tryz.func181,Tryz.ntmps181
   go_wp2_with fail
   refine (HVA.out _ HV0.out).mono ?_
   rintro e w1 ⟨rfl,hb⟩
   have HB1:=Lh (HB.out.trans (hb.mono HB.out.size))
   clear hb
   go_wp2
   exact bodyPost_ret (v:=.tuple #[.slice none 0 0,.int .i64 x]) (by simp only [results,Tryz.results181];go_simp <;> rfl) rfl ⟨none,0,by rw [HC.out];rfl,nw_none,by rw [HC.out];exact Dl.nil,HB1.out⟩
/-- The work of the reference's Grant: the table, the message, the result table. -/
structure GrV (w:World) (p q r:Nat) (A:Option Addr) (c:Nat) (l:List Le) (A2:Option Addr) (c2:Nat) (h:List Du) (X:Le) (W:World):Prop where
 va:VaA w p A c l A2 c2 h W
 mq:W.cell? ⟨q,0,none⟩=some (.int .i64 X.m.id)∧W.cell? ⟨q,1,none⟩=some (.int .i64 X.m.rt)∧W.cell? ⟨q,2,none⟩=some (.int .i64 X.m.ep)∧W.cell? ⟨q,3,none⟩=some (.int .i64 X.m.ct)∧W.cell? ⟨q,4,none⟩=some (.int .i64 X.m.gn)∧W.cell? ⟨q,5,none⟩=some (.int .i64 X.m.st)∧W.cell? ⟨q,6,none⟩=some (.string X.m.bd)∧q<W.heap.size
 rt:RT W r none 0 0 none 0 0
 ne:w.heap.size≤p∧p<q∧q<r
section
variable {w W W' : World} {p q r c c2:Nat} {A A2:Option Addr} {l:List Le} {h:List Du} {X:Le}
theorem GrV.below (k:GrV w p q r A c l A2 c2 h X W) (hb:Below W.heap.size W W'):GrV w p q r A c l A2 c2 h X W':=by
 obtain ⟨m0,m1,m2,m3,m4,m5,m6,ml⟩:=k.mq
 exact ⟨k.va.below hb,⟨(hb.cell (p:=⟨q,0,none⟩) ml).trans m0,(hb.cell (p:=⟨q,1,none⟩) ml).trans m1,(hb.cell (p:=⟨q,2,none⟩) ml).trans m2,(hb.cell (p:=⟨q,3,none⟩) ml).trans m3,(hb.cell (p:=⟨q,4,none⟩) ml).trans m4,(hb.cell (p:=⟨q,5,none⟩) ml).trans m5,(hb.cell (p:=⟨q,6,none⟩) ml).trans m6,Nat.lt_of_lt_of_le ml hb.size⟩,k.rt.below hb k.rt.lt,k.ne⟩
theorem GrV.start (hv:El w w.heap.size (.slice A l.length c) l) (hd:Dl w w.heap.size (.slice A2 h.length c2) h) (X:Le):GrV w w.heap.size (w.heap.size+1) (w.heap.size+1+1) A c l A2 c2 h X (((w.alloc (.cells #[.slice A l.length c,.slice A2 h.length c2] 31)).alloc (.cells #[.int .i64 X.m.id,.int .i64 X.m.rt,.int .i64 X.m.ep,.int .i64 X.m.ct,.int .i64 X.m.gn,.int .i64 X.m.st,.string X.m.bd] 56)).alloc (.cells #[.slice none 0 0,.slice none 0 0] 31)):=by
 have e2:((w.alloc (.cells #[.slice A l.length c,.slice A2 h.length c2] 31)).alloc (.cells #[.int .i64 X.m.id,.int .i64 X.m.rt,.int .i64 X.m.ep,.int .i64 X.m.ct,.int .i64 X.m.gn,.int .i64 X.m.st,.string X.m.bd] 56)).heap.size=w.heap.size+1+1:=by simp
 have k1:=RT.start ((w.alloc (.cells #[.slice A l.length c,.slice A2 h.length c2] 31)).alloc (.cells #[.int .i64 X.m.id,.int .i64 X.m.rt,.int .i64 X.m.ep,.int .i64 X.m.ct,.int .i64 X.m.gn,.int .i64 X.m.st,.string X.m.bd] 56)) none 0 0 none 0 0 31
 rw [e2] at k1
 exact ⟨((VaA.start 31 hv hd).alloc _).alloc _,⟨by simp [go_sem],by simp [go_sem],by simp [go_sem],by simp [go_sem],by simp [go_sem],by simp [go_sem],by simp [go_sem],by simp⟩,k1,Nat.le_refl _,Nat.lt_succ_self _,Nat.lt_succ_self _⟩
end
theorem grE_vf {l:List Le} {h:List Du} {x:Le} (h1:tbV l h=0) (h2:vf x.m≠0):grE l h x=vf x.m:=by unfold grE;rw [if_neg (by simpa using h1),if_pos h2]
theorem grE_7 {l:List Le} {h:List Du} {x:Le} (h1:tbV l h=0) (h2:vf x.m=0) (h3:x.m.gn=0):grE l h x=7:=by unfold grE;rw [if_neg (by simpa using h1),if_neg (by simpa using h2),if_pos h3]
theorem grE_1 {l:List Le} {h:List Du} {x:Le} (h1:tbV l h=0) (h2:vf x.m=0) (h3:¬x.m.gn=0) (h4:x.dl<0∨1073741824<x.dl):grE l h x=1:=by unfold grE;rw [if_neg (by simpa using h1),if_neg (by simpa using h2),if_neg h3,if_pos h4]
theorem grE_3 {l:List Le} {h:List Du} {x:Le} (h1:tbV l h=0) (h2:vf x.m=0) (h3:¬x.m.gn=0) (h4:¬(x.dl<0∨1073741824<x.dl)) (h5:l.length=12):grE l h x=3:=by unfold grE;rw [if_neg (by simpa using h1),if_neg (by simpa using h2),if_neg h3,if_neg h4,if_pos h5]
theorem grE_10 {l:List Le} {h:List Du} {x:Le} (h1:tbV l h=0) (h2:vf x.m=0) (h3:¬x.m.gn=0) (h4:¬(x.dl<0∨1073741824<x.dl)) (h5:¬l.length=12) (h6:0≤kFi Le.id l x.id):grE l h x=10:=by unfold grE;rw [if_neg (by simpa using h1),if_neg (by simpa using h2),if_neg h3,if_neg h4,if_neg h5,if_pos h6]
theorem grE_0 {l:List Le} {h:List Du} {x:Le} (h1:tbV l h=0) (h2:vf x.m=0) (h3:¬x.m.gn=0) (h4:¬(x.dl<0∨1073741824<x.dl)) (h5:¬l.length=12) (h6:¬0≤kFi Le.id l x.id):grE l h x=0:=by unfold grE;rw [if_neg (by simpa using h1),if_neg (by simpa using h2),if_neg h3,if_neg h4,if_neg h5,if_neg h6]
set_option maxHeartbeats 8000000 in
set_option maxRecDepth 20000 in
theorem rtgrant_any (A:Option Addr) (n c:Nat) (l:List Le) (A2:Option Addr) (n2 c2:Nat) (h:List Du) (X:Le) (w:World) (hv:El w w.heap.size (.slice A n c) l) (hd:Dl w w.heap.size (.slice A2 n2 c2) h) :
  Calls Tryz.prog 137 #[tv A n c A2 n2 c2,X.m.v,.int .i64 X.dl] w (TE w (grL l h X) (grH l h X) (grE l h X)):=by
 obtain ⟨rfl,hm1,hm2⟩:=hv.len
 obtain ⟨rfl,hm3,hm4⟩:=hd.len
 have H0:=Lh (GrV.start hv hd X)
 have HW:=Lh hv
 have HV:=Lh (fun p W (k:VaA w p A c l A2 c2 h W)=>rtvalid_any A l.length c l A2 h.length c2 h W k.el k.dl)
 have HM:=Lh (fun W=>rvalidate_any X.m W)
 have HFI:=Lh (fun p W (k:VaA w p A c l A2 c2 h W)=>rtfind_any A l.length c l A2 h.length c2 X.m.id W k.el)
 clear hv hd hm1 hm2 hm3 hm4
 by_cases h1:tbV l h=0
 ·have hl12:l.length≤12:=((tbV_iff l h).1 h1).len
  rw [h1] at HV
  by_cases h2:vf X.m=0
  ·rw [h2] at HM
   by_cases h3:X.m.gn=0
   ·have he:=grE_7 h1 h2 h3
    have HN:=Lh (grE_ne (l:=l) (h:=h) (x:=X) (by rw [he];decide))
    rw [HN.out.1,HN.out.2,he]
    have H3G:=Lh h3
    clear he h1 h2 h3 HN
    go_enter Tryz.func137,Tryz.ntmps137
    obtain ⟨t0,t1,tl⟩:=H0.out.va.tb
    go_wp2_with fail
    clear t0 t1 tl
    obtain ⟨p,hp⟩:∃ p,p=w.heap.size:=⟨_,rfl⟩
    obtain ⟨q,hq⟩:∃ q,q=w.heap.size+1:=⟨_,rfl⟩
    obtain ⟨r,hr⟩:∃ r,r=w.heap.size+1+1:=⟨_,rfl⟩
    rw [←hr,←hq,←hp] at H0 ⊢
    clear hp hq hr
    generalize (((w.alloc (.cells #[.slice A l.length c,.slice A2 h.length c2] 31)).alloc (.cells #[.int .i64 X.m.id,.int .i64 X.m.rt,.int .i64 X.m.ep,.int .i64 X.m.ct,.int .i64 X.m.gn,.int .i64 X.m.st,.string X.m.bd] 56)).alloc (.cells #[.slice none 0 0,.slice none 0 0] 31))=w1 at*
    refine (HV.out _ _ H0.out.va).mono ?_
    rintro e w2 ⟨rfl,hb⟩
    have H1:=Lh (H0.out.below hb)
    clear hb
    obtain ⟨m0,m1,m2,m3,m4,m5,m6,ml⟩:=H1.out.mq
    go_wp2_with fail
    clear m0 m1 m2 m3 m4 m5 m6 ml
    refine (HM.out _).mono ?_
    rintro e w3 ⟨rfl,hb⟩
    have H2:=Lh (H1.out.below hb)
    clear hb
    obtain ⟨m0,m1,m2,m3,m4,m5,m6,ml⟩:=H2.out.mq
    obtain ⟨t0,t1,tl⟩:=H2.out.va.tb
    obtain ⟨r0,r1,f0,f1,rl⟩:=H2.out.rt
    have HB:=Lh (show Below w.heap.size w (set2 w3 r (.slice none 0 0) (.slice none 0 0)) from set2_below H2.out.va.bel (by have:=H2.out.ne;omega))
    rw [H3G.out] at m4
    go_wp2
    exact bodyPost_ret (v:=.tuple #[.agg #[.slice none 0 0,.slice none 0 0],.int .i64 7]) (by simp only [results,Tryz.results137];go_simp <;> rfl) rfl (te_nil rfl rfl rfl HB.out)
   ·have h3' : (X.m.gn==0)=false:=by simpa using h3
    by_cases h4:X.dl<0∨1073741824<X.dl
    ·have he:=grE_1 h1 h2 h3 h4
     have HN:=Lh (grE_ne (l:=l) (h:=h) (x:=X) (by rw [he];decide))
     rw [HN.out.1,HN.out.2,he]
     clear he h1 h2 h3 HN
     by_cases h41:X.dl<0
     ·clear h4
      go_enter Tryz.func137,Tryz.ntmps137
      obtain ⟨t0,t1,tl⟩:=H0.out.va.tb
      go_wp2_with fail
      clear t0 t1 tl
      obtain ⟨p,hp⟩:∃ p,p=w.heap.size:=⟨_,rfl⟩
      obtain ⟨q,hq⟩:∃ q,q=w.heap.size+1:=⟨_,rfl⟩
      obtain ⟨r,hr⟩:∃ r,r=w.heap.size+1+1:=⟨_,rfl⟩
      rw [←hr,←hq,←hp] at H0 ⊢
      clear hp hq hr
      generalize (((w.alloc (.cells #[.slice A l.length c,.slice A2 h.length c2] 31)).alloc (.cells #[.int .i64 X.m.id,.int .i64 X.m.rt,.int .i64 X.m.ep,.int .i64 X.m.ct,.int .i64 X.m.gn,.int .i64 X.m.st,.string X.m.bd] 56)).alloc (.cells #[.slice none 0 0,.slice none 0 0] 31))=w1 at*
      refine (HV.out _ _ H0.out.va).mono ?_
      rintro e w2 ⟨rfl,hb⟩
      have H1:=Lh (H0.out.below hb)
      clear hb
      obtain ⟨m0,m1,m2,m3,m4,m5,m6,ml⟩:=H1.out.mq
      go_wp2_with fail
      clear m0 m1 m2 m3 m4 m5 m6 ml
      refine (HM.out _).mono ?_
      rintro e w3 ⟨rfl,hb⟩
      have H2:=Lh (H1.out.below hb)
      clear hb
      obtain ⟨m0,m1,m2,m3,m4,m5,m6,ml⟩:=H2.out.mq
      obtain ⟨t0,t1,tl⟩:=H2.out.va.tb
      obtain ⟨r0,r1,f0,f1,rl⟩:=H2.out.rt
      have HB:=Lh (show Below w.heap.size w (set2 w3 r (.slice none 0 0) (.slice none 0 0)) from set2_below H2.out.va.bel (by have:=H2.out.ne;omega))
      go_wp2
      exact bodyPost_ret (v:=.tuple #[.agg #[.slice none 0 0,.slice none 0 0],.int .i64 1]) (by simp only [results,Tryz.results137];go_simp <;> rfl) rfl (te_nil rfl rfl rfl HB.out)
     ·have h42:1073741824<X.dl:=by omega
      clear h4
      go_enter Tryz.func137,Tryz.ntmps137
      obtain ⟨t0,t1,tl⟩:=H0.out.va.tb
      go_wp2_with fail
      clear t0 t1 tl
      obtain ⟨p,hp⟩:∃ p,p=w.heap.size:=⟨_,rfl⟩
      obtain ⟨q,hq⟩:∃ q,q=w.heap.size+1:=⟨_,rfl⟩
      obtain ⟨r,hr⟩:∃ r,r=w.heap.size+1+1:=⟨_,rfl⟩
      rw [←hr,←hq,←hp] at H0 ⊢
      clear hp hq hr
      generalize (((w.alloc (.cells #[.slice A l.length c,.slice A2 h.length c2] 31)).alloc (.cells #[.int .i64 X.m.id,.int .i64 X.m.rt,.int .i64 X.m.ep,.int .i64 X.m.ct,.int .i64 X.m.gn,.int .i64 X.m.st,.string X.m.bd] 56)).alloc (.cells #[.slice none 0 0,.slice none 0 0] 31))=w1 at*
      refine (HV.out _ _ H0.out.va).mono ?_
      rintro e w2 ⟨rfl,hb⟩
      have H1:=Lh (H0.out.below hb)
      clear hb
      obtain ⟨m0,m1,m2,m3,m4,m5,m6,ml⟩:=H1.out.mq
      go_wp2_with fail
      clear m0 m1 m2 m3 m4 m5 m6 ml
      refine (HM.out _).mono ?_
      rintro e w3 ⟨rfl,hb⟩
      have H2:=Lh (H1.out.below hb)
      clear hb
      obtain ⟨m0,m1,m2,m3,m4,m5,m6,ml⟩:=H2.out.mq
      obtain ⟨t0,t1,tl⟩:=H2.out.va.tb
      obtain ⟨r0,r1,f0,f1,rl⟩:=H2.out.rt
      have HB:=Lh (show Below w.heap.size w (set2 w3 r (.slice none 0 0) (.slice none 0 0)) from set2_below H2.out.va.bel (by have:=H2.out.ne;omega))
      go_wp2
      exact bodyPost_ret (v:=.tuple #[.agg #[.slice none 0 0,.slice none 0 0],.int .i64 1]) (by simp only [results,Tryz.results137];go_simp <;> rfl) rfl (te_nil rfl rfl rfl HB.out)
    ·have h41:¬X.dl<0:=by omega
     have h42:¬1073741824<X.dl:=by omega
     by_cases h5:l.length=12
     ·have he:=grE_3 h1 h2 h3 h4 h5
      have HN:=Lh (grE_ne (l:=l) (h:=h) (x:=X) (by rw [he];decide))
      rw [HN.out.1,HN.out.2,he]
      have h5' : ((l.length:Int)==12)=true:=by simp;omega
      clear he h1 h2 h3 h4 h5 HN
      go_enter Tryz.func137,Tryz.ntmps137
      obtain ⟨t0,t1,tl⟩:=H0.out.va.tb
      go_wp2_with fail
      clear t0 t1 tl
      obtain ⟨p,hp⟩:∃ p,p=w.heap.size:=⟨_,rfl⟩
      obtain ⟨q,hq⟩:∃ q,q=w.heap.size+1:=⟨_,rfl⟩
      obtain ⟨r,hr⟩:∃ r,r=w.heap.size+1+1:=⟨_,rfl⟩
      rw [←hr,←hq,←hp] at H0 ⊢
      clear hp hq hr
      generalize (((w.alloc (.cells #[.slice A l.length c,.slice A2 h.length c2] 31)).alloc (.cells #[.int .i64 X.m.id,.int .i64 X.m.rt,.int .i64 X.m.ep,.int .i64 X.m.ct,.int .i64 X.m.gn,.int .i64 X.m.st,.string X.m.bd] 56)).alloc (.cells #[.slice none 0 0,.slice none 0 0] 31))=w1 at*
      refine (HV.out _ _ H0.out.va).mono ?_
      rintro e w2 ⟨rfl,hb⟩
      have H1:=Lh (H0.out.below hb)
      clear hb
      obtain ⟨m0,m1,m2,m3,m4,m5,m6,ml⟩:=H1.out.mq
      go_wp2_with fail
      clear m0 m1 m2 m3 m4 m5 m6 ml
      refine (HM.out _).mono ?_
      rintro e w3 ⟨rfl,hb⟩
      have H2:=Lh (H1.out.below hb)
      clear hb
      obtain ⟨m0,m1,m2,m3,m4,m5,m6,ml⟩:=H2.out.mq
      obtain ⟨t0,t1,tl⟩:=H2.out.va.tb
      obtain ⟨r0,r1,f0,f1,rl⟩:=H2.out.rt
      have HB:=Lh (show Below w.heap.size w (set2 w3 r (.slice none 0 0) (.slice none 0 0)) from set2_below H2.out.va.bel (by have:=H2.out.ne;omega))
      go_wp2
      exact bodyPost_ret (v:=.tuple #[.agg #[.slice none 0 0,.slice none 0 0],.int .i64 3]) (by simp only [results,Tryz.results137];go_simp <;> rfl) rfl (te_nil rfl rfl rfl HB.out)
     ·have h5' : ((l.length:Int)==12)=false:=by simp;omega
      by_cases h6:0≤kFi Le.id l X.id
      ·have he:=grE_10 h1 h2 h3 h4 h5 h6
       have HN:=Lh (grE_ne (l:=l) (h:=h) (x:=X) (by rw [he];decide))
       rw [HN.out.1,HN.out.2,he]
       change 0≤kFi Le.id l X.m.id at h6
       generalize kFi Le.id l X.m.id=y at*
       clear he h1 h2 h3 h4 h5 HN
       go_enter Tryz.func137,Tryz.ntmps137
       obtain ⟨t0,t1,tl⟩:=H0.out.va.tb
       go_wp2_with fail
       clear t0 t1 tl
       obtain ⟨p,hp⟩:∃ p,p=w.heap.size:=⟨_,rfl⟩
       obtain ⟨q,hq⟩:∃ q,q=w.heap.size+1:=⟨_,rfl⟩
       obtain ⟨r,hr⟩:∃ r,r=w.heap.size+1+1:=⟨_,rfl⟩
       rw [←hr,←hq,←hp] at H0 ⊢
       clear hp hq hr
       generalize (((w.alloc (.cells #[.slice A l.length c,.slice A2 h.length c2] 31)).alloc (.cells #[.int .i64 X.m.id,.int .i64 X.m.rt,.int .i64 X.m.ep,.int .i64 X.m.ct,.int .i64 X.m.gn,.int .i64 X.m.st,.string X.m.bd] 56)).alloc (.cells #[.slice none 0 0,.slice none 0 0] 31))=w1 at*
       refine (HV.out _ _ H0.out.va).mono ?_
       rintro e w2 ⟨rfl,hb⟩
       have H1:=Lh (H0.out.below hb)
       clear hb
       obtain ⟨m0,m1,m2,m3,m4,m5,m6,ml⟩:=H1.out.mq
       go_wp2_with fail
       clear m0 m1 m2 m3 m4 m5 m6 ml
       refine (HM.out _).mono ?_
       rintro e w3 ⟨rfl,hb⟩
       have H2:=Lh (H1.out.below hb)
       clear hb
       obtain ⟨m0,m1,m2,m3,m4,m5,m6,ml⟩:=H2.out.mq
       obtain ⟨t0,t1,tl⟩:=H2.out.va.tb
       go_wp2_with fail
       clear m0 m1 m2 m3 m4 m5 m6 ml t0 t1 tl
       refine (HFI.out _ _ H2.out.va).mono ?_
       rintro e w4 ⟨rfl,hb⟩
       have H3:=Lh (H2.out.below hb)
       clear hb
       obtain ⟨r0,r1,f0,f1,rl⟩:=H3.out.rt
       have HB:=Lh (show Below w.heap.size w (set2 w4 r (.slice none 0 0) (.slice none 0 0)) from set2_below H3.out.va.bel (by have:=H3.out.ne;omega))
       go_wp2
       exact bodyPost_ret (v:=.tuple #[.agg #[.slice none 0 0,.slice none 0 0],.int .i64 10]) (by simp only [results,Tryz.results137];go_simp <;> rfl) rfl (te_nil rfl rfl rfl HB.out)
      ·have he:=grE_0 h1 h2 h3 h4 h5 h6
       obtain ⟨t,hH,hL,hl12'⟩:=grE_at he
       have hpe:hpuE h X.du=0:=by rw [←grE_pu h1 (leE_0 h2 h3 h4)];exact he
       have HPU:=Lh (fun p W (k:VaA w p A c l A2 c2 h W)=>show Calls Tryz.prog 181 #[.slice A2 h.length c2,.agg #[.int .i64 X.dl,.int .i64 X.m.id]] W (DlE W (puR h X.du) (hpuE h X.du)) from rpush5_any A2 h.length c2 h X.du W k.dl)
       rw [←hH,hpe] at HPU
       rw [he,hL]
       change ¬0≤kFi Le.id l X.m.id at h6
       change Calls Tryz.prog 137 #[tv A l.length c A2 h.length c2,X.m.v,.int .i64 X.dl] w (TE w (l.take (kAt Le.id l X.m.id)++X::l.drop (kAt Le.id l X.m.id)) (grH l h X) 0)
       have HKH:=Lh (fun (j:Nat) (hj:j≤l.length) (h1:∀ i (hi:i<j),(l[i]'(Nat.lt_of_lt_of_le hi hj)).id<X.m.id) (h2:∀ hk:j<l.length,X.m.id≤l[j].id)=>kAt_hit (key:=Le.id) hj h1 h2)
       obtain ⟨i,hi⟩:∃ i,i=kAt Le.id l X.m.id:=⟨_,rfl⟩
       rw [←hi] at HKH ⊢
       have HKL:=Lh (show i≤l.length by rw [hi];exact kAt_le l _)
       generalize grH l h X=K at*
       have HYN:=Lh h6
       obtain ⟨y,hy⟩:∃ y,y=kFi Le.id l X.m.id:=⟨_,rfl⟩
       rw [←hy] at HFI h6
       have hkc:l.length≤c:=HW.out.len.2.1
       have HL12:=Lh hl12'
       obtain ⟨i0,hi0,hz0⟩:=Option.map_eq_some_iff.1 info_lease
       simp only [Prod.mk.injEq] at hz0
       have HI:=Lh hi0
       have HZ:=Lh hz0
       clear he h1 h2 h3 h4 h5 t hH hL hl12' hpe hi hy hi0 hz0
       go_enter Tryz.func137,Tryz.ntmps137
       obtain ⟨t0,t1,tl⟩:=H0.out.va.tb
       go_wp2_with fail
       clear t0 t1 tl
       obtain ⟨p,hp⟩:∃ p,p=w.heap.size:=⟨_,rfl⟩
       obtain ⟨q,hq⟩:∃ q,q=w.heap.size+1:=⟨_,rfl⟩
       obtain ⟨r,hr⟩:∃ r,r=w.heap.size+1+1:=⟨_,rfl⟩
       rw [←hr,←hq,←hp] at H0 ⊢
       clear hp hq hr
       generalize (((w.alloc (.cells #[.slice A l.length c,.slice A2 h.length c2] 31)).alloc (.cells #[.int .i64 X.m.id,.int .i64 X.m.rt,.int .i64 X.m.ep,.int .i64 X.m.ct,.int .i64 X.m.gn,.int .i64 X.m.st,.string X.m.bd] 56)).alloc (.cells #[.slice none 0 0,.slice none 0 0] 31))=w1 at*
       refine (HV.out _ _ H0.out.va).mono ?_
       rintro e w2 ⟨rfl,hb⟩
       have H1:=Lh (H0.out.below hb)
       clear hb
       obtain ⟨m0,m1,m2,m3,m4,m5,m6,ml⟩:=H1.out.mq
       go_wp2_with fail
       clear m0 m1 m2 m3 m4 m5 m6 ml
       refine (HM.out _).mono ?_
       rintro e w3 ⟨rfl,hb⟩
       have H2:=Lh (H1.out.below hb)
       clear hb
       obtain ⟨m0,m1,m2,m3,m4,m5,m6,ml⟩:=H2.out.mq
       obtain ⟨t0,t1,tl⟩:=H2.out.va.tb
       go_wp2_with fail
       clear m0 m1 m2 m3 m4 m5 m6 ml t0 t1 tl
       refine (HFI.out _ _ H2.out.va).mono ?_
       rintro e w4 ⟨rfl,hb⟩
       have H3:=Lh (H2.out.below hb)
       clear hb
       go_wp2
       go_loopw [10] (fun s10 wr=>∃ j:Nat,s10=.int .i64 j∧j≤l.length∧Hid (∀ i (hi:i<j) (hl:i<l.length),l[i].id<X.m.id)∧Hid (GrV w p q r A c l A2 c2 h X wr)) (fun s10 _=>l.length - (intOf s10).toNat)
       case atStart=>exact ⟨0,rfl,Nat.zero_le _,Lh (fun i hi=>absurd hi (Nat.not_lt_zero _)),H3⟩
       case round=>
        obtain ⟨j,rfl,hj,HLT,HG⟩:=hrel
        obtain ⟨m0,m1,m2,m3,m4,m5,m6,ml⟩:=HG.out.mq
        obtain ⟨t0,t1,tl⟩:=HG.out.va.tb
        by_cases hlt:j<l.length
        ·have hlt' : (j:Int)<(l.length:Int):=by omega
         obtain ⟨b,o,rfl,_⟩:=HG.out.va.el.some_ (by omega)
         obtain ⟨⟨c0,c1,c2',c3,c4,c5,c6,c7⟩,hb⟩:=HG.out.va.el.c8 hlt
         obtain ⟨Y,hY⟩:∃ Y,l[j]=Y:=⟨_,rfl⟩
         rw [hY] at c0
         have HYL:=Lh hY
         clear hY c1 c2' c3 c4 c5 c6 c7 hb m1 m2 m3 m4 m5 m6
         by_cases hle:Y.m.id<X.m.id
         ·have HLT2:=Lh (show ∀ i (hi:i<j+1) (hl:i<l.length),l[i].id<X.m.id from fun i hi hl=>by
           by_cases e:i=j
           ·subst e;rw [HYL.out];exact hle
           ·exact HLT.out i (by omega) hl)
          go_wp2_with fail
          go_quiet (fail)
          go_wp2
          go_roundw
          case rel=>exact ⟨j+1,by go_num,by omega,HLT2,Lh (HG.out.below (below_drewN (Below.refl _ _) _))⟩
          case measure=>simp [intOf];omega
         ·have hij:i=j:=by rw [←HKH.out j hj (fun i hi=>HLT.out i hi _) (fun _=>by rw [HYL.out];exact Int.not_lt.1 hle)]
          go_wp2_with fail
          go_quiet (fail)
          clear c0 HYL
          obtain rfl:i=j:=hij
          have HG2:=Lh (show GrV w p q r (some ⟨b,o,none⟩) c l A2 c2 h X (wr.drewN nq) from HG.out.below (below_drewN (Below.refl _ _) nq))
          go_wp2_with fail
          clear m0 t0 t1 tl ml
          refine (HPU.out _ _ HG2.out.va).mono ?_
          rintro e w5 ⟨A5,c5,rfl,hnw,hl,hb⟩
          have H5:=Lh (HG2.out.below hb)
          have HK:=Lh hl
          have HNW:=Lh hnw
          clear hb hnw hl
          have HNL:=Lh (And.intro HG2.out.rt.lt HG2.out.va.bel.size)
          have HBW:=Lh H5.out.va.bel
          have HSK:=Lh (fun W (hb:Below w5.heap.size w5 W)=>show W.cell? ⟨p,0,none⟩=some (.slice (some ⟨b,o,none⟩) l.length c)∧W.cell? ⟨q,0,none⟩=some (.int .i64 X.m.id)∧W.cell? ⟨q,1,none⟩=some (.int .i64 X.m.rt)∧W.cell? ⟨q,2,none⟩=some (.int .i64 X.m.ep)∧W.cell? ⟨q,3,none⟩=some (.int .i64 X.m.ct)∧W.cell? ⟨q,4,none⟩=some (.int .i64 X.m.gn)∧W.cell? ⟨q,5,none⟩=some (.int .i64 X.m.st)∧W.cell? ⟨q,6,none⟩=some (.string X.m.bd) from by
           have k:=H5.out.below hb
           exact ⟨k.va.tb.1,k.mq.1,k.mq.2.1,k.mq.2.2.1,k.mq.2.2.2.1,k.mq.2.2.2.2.1,k.mq.2.2.2.2.2.1,k.mq.2.2.2.2.2.2.1⟩)
          have HD:=Lh (show Below w5.heap.size w5 w5.drew from (Below.refl _ _).drew)
          have HXa:=Lh (show Below w5.heap.size w5 (w5.alloc (.cells #[.int .i64 X.m.id,.int .i64 X.m.rt,.int .i64 X.m.ep,.int .i64 X.m.ct,.int .i64 X.m.gn,.int .i64 X.m.st,.string X.m.bd,.int .i64 X.dl] 58)) from (Below.refl _ _).alloc (Nat.le_refl _) _)
          have HT0:=Lh (HSK.out w5.drew HD.out)
          have HT1:=Lh (HSK.out (w5.alloc (.cells #[.int .i64 X.m.id,.int .i64 X.m.rt,.int .i64 X.m.ep,.int .i64 X.m.ct,.int .i64 X.m.gn,.int .i64 X.m.st,.string X.m.bd,.int .i64 X.dl] 58)).drew HXa.out.drew)
          have HPA:=Lh (fun w6 v1 (ho:w6.ownsRow w5.drew.heap.size 58 8 v1 (0+i) ([]++ecs (l.take i))) (hg:w5.drew.grownBy w6 (Value.slice none 0 0).ownBlock)=>show (w6.cell? ⟨p,0,none⟩=some (.slice (some ⟨b,o,none⟩) l.length c)∧w6.cell? ⟨q,0,none⟩=some (.int .i64 X.m.id)∧w6.cell? ⟨q,1,none⟩=some (.int .i64 X.m.rt)∧w6.cell? ⟨q,2,none⟩=some (.int .i64 X.m.ep)∧w6.cell? ⟨q,3,none⟩=some (.int .i64 X.m.ct)∧w6.cell? ⟨q,4,none⟩=some (.int .i64 X.m.gn)∧w6.cell? ⟨q,5,none⟩=some (.int .i64 X.m.st)∧w6.cell? ⟨q,6,none⟩=some (.string X.m.bd))∧((w6.alloc (.cells #[.int .i64 X.m.id,.int .i64 X.m.rt,.int .i64 X.m.ep,.int .i64 X.m.ct,.int .i64 X.m.gn,.int .i64 X.m.st,.string X.m.bd,.int .i64 X.dl] 58)).cell? ⟨p,0,none⟩=some (.slice (some ⟨b,o,none⟩) l.length c)∧(w6.alloc (.cells #[.int .i64 X.m.id,.int .i64 X.m.rt,.int .i64 X.m.ep,.int .i64 X.m.ct,.int .i64 X.m.gn,.int .i64 X.m.st,.string X.m.bd,.int .i64 X.dl] 58)).cell? ⟨q,0,none⟩=some (.int .i64 X.m.id)∧(w6.alloc (.cells #[.int .i64 X.m.id,.int .i64 X.m.rt,.int .i64 X.m.ep,.int .i64 X.m.ct,.int .i64 X.m.gn,.int .i64 X.m.st,.string X.m.bd,.int .i64 X.dl] 58)).cell? ⟨q,1,none⟩=some (.int .i64 X.m.rt)∧(w6.alloc (.cells #[.int .i64 X.m.id,.int .i64 X.m.rt,.int .i64 X.m.ep,.int .i64 X.m.ct,.int .i64 X.m.gn,.int .i64 X.m.st,.string X.m.bd,.int .i64 X.dl] 58)).cell? ⟨q,2,none⟩=some (.int .i64 X.m.ep)∧(w6.alloc (.cells #[.int .i64 X.m.id,.int .i64 X.m.rt,.int .i64 X.m.ep,.int .i64 X.m.ct,.int .i64 X.m.gn,.int .i64 X.m.st,.string X.m.bd,.int .i64 X.dl] 58)).cell? ⟨q,3,none⟩=some (.int .i64 X.m.ct)∧(w6.alloc (.cells #[.int .i64 X.m.id,.int .i64 X.m.rt,.int .i64 X.m.ep,.int .i64 X.m.ct,.int .i64 X.m.gn,.int .i64 X.m.st,.string X.m.bd,.int .i64 X.dl] 58)).cell? ⟨q,4,none⟩=some (.int .i64 X.m.gn)∧(w6.alloc (.cells #[.int .i64 X.m.id,.int .i64 X.m.rt,.int .i64 X.m.ep,.int .i64 X.m.ct,.int .i64 X.m.gn,.int .i64 X.m.st,.string X.m.bd,.int .i64 X.dl] 58)).cell? ⟨q,5,none⟩=some (.int .i64 X.m.st)∧(w6.alloc (.cells #[.int .i64 X.m.id,.int .i64 X.m.rt,.int .i64 X.m.ep,.int .i64 X.m.ct,.int .i64 X.m.gn,.int .i64 X.m.st,.string X.m.bd,.int .i64 X.dl] 58)).cell? ⟨q,6,none⟩=some (.string X.m.bd))∧Below w5.heap.size w5 (w6.alloc (.cells #[.int .i64 X.m.id,.int .i64 X.m.rt,.int .i64 X.m.ep,.int .i64 X.m.ct,.int .i64 X.m.gn,.int .i64 X.m.st,.string X.m.bd,.int .i64 X.dl] 58))∧(w6.alloc (.cells #[.int .i64 X.m.id,.int .i64 X.m.rt,.int .i64 X.m.ep,.int .i64 X.m.ct,.int .i64 X.m.gn,.int .i64 X.m.st,.string X.m.bd,.int .i64 X.dl] 58)).ownsRow w5.heap.size 58 8 v1 i (ecs (l.take i))∧Rd (w6.alloc (.cells #[.int .i64 X.m.id,.int .i64 X.m.rt,.int .i64 X.m.ep,.int .i64 X.m.ct,.int .i64 X.m.gn,.int .i64 X.m.st,.string X.m.bd,.int .i64 X.dl] 58)) (w6.alloc (.cells #[.int .i64 X.m.id,.int .i64 X.m.rt,.int .i64 X.m.ep,.int .i64 X.m.ct,.int .i64 X.m.gn,.int .i64 X.m.st,.string X.m.bd,.int .i64 X.dl] 58)).heap.size 8 (some ⟨w6.heap.size,0,none⟩) 1 X.l from by
           have hb:Below w5.heap.size w5 w6:=HD.out.trans (below_nil hg rfl)
           have hb2:=hb.alloc hb.size (.cells #[.int .i64 X.m.id,.int .i64 X.m.rt,.int .i64 X.m.ep,.int .i64 X.m.ct,.int .i64 X.m.gn,.int .i64 X.m.st,.string X.m.bd,.int .i64 X.dl] 58)
           rw [Nat.zero_add,List.nil_append] at ho
           have hf:Rw (w6.alloc (.cells #[.int .i64 X.m.id,.int .i64 X.m.rt,.int .i64 X.m.ep,.int .i64 X.m.ct,.int .i64 X.m.gn,.int .i64 X.m.st,.string X.m.bd,.int .i64 X.dl] 58)) w6.heap.size 58 X.l:=Rw.fresh w6 _ _
           exact ⟨HSK.out _ hb,HSK.out _ hb2,hb2,World.ownsRow.alloc (show w6.ownsRow w5.heap.size 58 8 v1 i (ecs (l.take i)) from ho) _,rfl,fun _=>⟨_,0,rfl,hf.lt,fun j u hu=>by rw [Nat.zero_add];exact hf.cell hu⟩⟩)
          have HPB:=Lh (fun w6 v1 (ho:w6.ownsRow (w5.alloc (.cells #[.int .i64 X.m.id,.int .i64 X.m.rt,.int .i64 X.m.ep,.int .i64 X.m.ct,.int .i64 X.m.gn,.int .i64 X.m.st,.string X.m.bd,.int .i64 X.dl] 58)).drew.heap.size 58 8 v1 (0+i) ([]++ecs (l.take i))) (hg:(w5.alloc (.cells #[.int .i64 X.m.id,.int .i64 X.m.rt,.int .i64 X.m.ep,.int .i64 X.m.ct,.int .i64 X.m.gn,.int .i64 X.m.st,.string X.m.bd,.int .i64 X.dl] 58)).drew.grownBy w6 (Value.slice none 0 0).ownBlock)=>show (w6.cell? ⟨p,0,none⟩=some (.slice (some ⟨b,o,none⟩) l.length c)∧w6.cell? ⟨q,0,none⟩=some (.int .i64 X.m.id)∧w6.cell? ⟨q,1,none⟩=some (.int .i64 X.m.rt)∧w6.cell? ⟨q,2,none⟩=some (.int .i64 X.m.ep)∧w6.cell? ⟨q,3,none⟩=some (.int .i64 X.m.ct)∧w6.cell? ⟨q,4,none⟩=some (.int .i64 X.m.gn)∧w6.cell? ⟨q,5,none⟩=some (.int .i64 X.m.st)∧w6.cell? ⟨q,6,none⟩=some (.string X.m.bd))∧Below w5.heap.size w5 w6∧w6.ownsRow w5.heap.size 58 8 v1 i (ecs (l.take i))∧Rd w6 w6.heap.size 8 (some ⟨w5.heap.size,0,none⟩) 1 X.l from by
           have hb1:Below (w5.alloc (.cells #[.int .i64 X.m.id,.int .i64 X.m.rt,.int .i64 X.m.ep,.int .i64 X.m.ct,.int .i64 X.m.gn,.int .i64 X.m.st,.string X.m.bd,.int .i64 X.dl] 58)).heap.size (w5.alloc (.cells #[.int .i64 X.m.id,.int .i64 X.m.rt,.int .i64 X.m.ep,.int .i64 X.m.ct,.int .i64 X.m.gn,.int .i64 X.m.st,.string X.m.bd,.int .i64 X.dl] 58)) w6:=drew_bel (below_nil hg rfl)
           have hb:Below w5.heap.size w5 w6:=HXa.out.trans (hb1.mono HXa.out.size)
           rw [Nat.zero_add,List.nil_append] at ho
           have hf:Rw w6 w5.heap.size 58 X.l:=(Rw.fresh w5 _ _).below hb1 (by simp)
           exact ⟨HSK.out _ hb,hb,own_low ho (show w5.heap.size≤(w5.alloc (.cells #[.int .i64 X.m.id,.int .i64 X.m.rt,.int .i64 X.m.ep,.int .i64 X.m.ct,.int .i64 X.m.gn,.int .i64 X.m.st,.string X.m.bd,.int .i64 X.dl] 58)).heap.size by simp),rfl,fun _=>⟨_,0,rfl,hf.lt,fun j u hu=>by rw [Nat.zero_add];exact hf.cell hu⟩⟩)
          have HPC:=Lh (fun wx w7 v1 v2 (hbx:Below w5.heap.size w5 wx) (hox:wx.ownsRow w5.heap.size 58 8 v1 i (ecs (l.take i))) (ho:w7.ownsRow w5.heap.size 58 8 v2 (i+1) (ecs (l.take i)++X.l)) (hg:wx.grownBy w7 v1.ownBlock)=>show (w7.cell? ⟨p,0,none⟩=some (.slice (some ⟨b,o,none⟩) l.length c)∧w7.cell? ⟨q,0,none⟩=some (.int .i64 X.m.id)∧w7.cell? ⟨q,1,none⟩=some (.int .i64 X.m.rt)∧w7.cell? ⟨q,2,none⟩=some (.int .i64 X.m.ep)∧w7.cell? ⟨q,3,none⟩=some (.int .i64 X.m.ct)∧w7.cell? ⟨q,4,none⟩=some (.int .i64 X.m.gn)∧w7.cell? ⟨q,5,none⟩=some (.int .i64 X.m.st)∧w7.cell? ⟨q,6,none⟩=some (.string X.m.bd))∧Below w5.heap.size w5 w7∧w7.ownsRow w5.heap.size 58 8 v2 (i+1) (ecs (l.take i)++X.l) from by
           have hb:Below w5.heap.size w5 w7:=below_own hbx hox hg
           exact ⟨HSK.out _ hb,hb,ho⟩)
          have hil:i≤l.length:=hj
          have hcut:=run_eupto (some ⟨b,o,none⟩) l.length c .i64 i (by omega)
          obtain ⟨A',hA',hcut2⟩:=run_ecut (some ⟨b,o,none⟩) l.length c .i64 i (by omega)
          have h1:=HW.out.upto i (by omega)
          have h3:=HW.out.cut i (by omega)
          rw [←hA'] at h3
          have HE1:=Lh h1
          have HE3:=Lh h3
          have hic:(i:Int)≤(c:Int):=by omega
          have hiL:(i:Int)≤(l.length:Int):=by omega
          have HLX:=Lh (show i+1+(l.length - i)=(l.take i++X::l.drop i).length by simp;omega)
          have HEC:=Lh (show ecs (l.take i++X::l.drop i)=(ecs (l.take i)++X.l)++ecs (l.drop i) by rw [ecs_mid,List.append_assoc])
          have HFF:=Lh (fun (w8:World) (A8:Option Addr) (c8:Nat) (ho:w8.ownsRow w5.heap.size 58 8 (.slice A8 (l.take i++X::l.drop i).length c8) (l.take i++X::l.drop i).length (ecs (l.take i++X::l.drop i))) (hb:Below w5.heap.size w5 w8)=>show TE w (l.take i++X::l.drop i) K 0 (.returned (.tuple #[.agg #[.slice A8 (l.take i++X::l.drop i).length c8,.slice A5 K.length c5],.int .i64 0])) (set2 w8 r (.slice A8 (l.take i++X::l.drop i).length c8) (.slice A5 K.length c5)) from by
           have hn:Nw w5.heap.size A8:=nwv_of (nwv_own ho (Nat.le_refl _))
           refine ⟨A8,c8,A5,c5,rfl,nw_low hn HBW.out.size,nw_low HNW.out HNL.out.2,?_,?_,set2_below (HBW.out.trans (hb.mono HBW.out.size)) (by have:=H5.out.ne;omega)⟩
           ·exact ((El.of_own ho).set2 hn H5.out.rt.lt).more (by simp)
           ·exact ((HK.out.below hb).set2 HNW.out HNL.out.1).more (by have:=hb.size;simp;omega))
          generalize (l.take i++X::l.drop i)=LX at*
          clear h1 h3 hA'
          go_wp2_with fail
          go_region_held3 (fun W=>W.cell? ⟨p,0,none⟩=some (.slice (some ⟨b,o,none⟩) l.length c)∧W.cell? ⟨q,0,none⟩=some (.int .i64 X.m.id)∧W.cell? ⟨q,1,none⟩=some (.int .i64 X.m.rt)∧W.cell? ⟨q,2,none⟩=some (.int .i64 X.m.ep)∧W.cell? ⟨q,3,none⟩=some (.int .i64 X.m.ct)∧W.cell? ⟨q,4,none⟩=some (.int .i64 X.m.gn)∧W.cell? ⟨q,5,none⟩=some (.int .i64 X.m.st)∧W.cell? ⟨q,6,none⟩=some (.string X.m.bd))
           (first | with_reducible exact HT0.out | with_reducible exact HT1.out | with_reducible exact HT2.out | with_reducible exact HT3.out | with_reducible exact HT4.out)
           (first
           | (refine step_append_rd _ (by rfl) _ _ _ (by rfl) w5.heap.size 58 i0 _ 8 72 Tryz.underlying28 HI.out HZ.out.1 HZ.out.2.1 HZ.out.2.2 rfl (by omega) v1 i (ecs (l.take i)) (by rfl) HOX.out _ _ 1 1 X.l (by rfl) HRX.out X.l_one (by have:=HL12.out;unfold maxLen;omega) (by have:=HL12.out;omega) HBX.out.size ?_;intro v2 w7 hown2 hg2 hat2;obtain ⟨k1,k2,k3⟩:=HPC.out _ _ _ _ HBX.out HOX.out hown2 hg2;have HT4:=Lh k1;have HB7:=Lh k2;have HO7:=Lh k3;clear hown2 hg2 hat2 k1 k2 k3)
           | (refine step_append_rd _ (by rfl) _ _ _ (by rfl) w5.drew.heap.size 58 i0 _ 8 72 Tryz.underlying28 HI.out HZ.out.1 HZ.out.2.1 HZ.out.2.2 rfl (by omega) (.slice none 0 0) 0 [] (by rfl) (World.ownsRow_nil _ _ _ _) _ (some ⟨b,o,none⟩) i c (ecs (l.take i)) (by rfl) ((HE1.out.below (HBW.out.trans (HD.out.mono HBW.out.size))).rd) (ecs_one _) (by have:=HL12.out;unfold maxLen;omega) (by have:=HL12.out;omega) (Nat.le_refl _) ?_;intro v1 w6 hown1 hg1 hat1;obtain ⟨k1,k2,k3,k4,k5⟩:=HPA.out _ _ hown1 hg1;have HT2:=Lh k1;have HT3:=Lh k2;have HBX:=Lh k3;have HOX:=Lh k4;have HRX:=Lh k5;clear hown1 hg1 hat1 k1 k2 k3 k4 k5)
           | (refine step_append_rd _ (by rfl) _ _ _ (by rfl) (w5.alloc (.cells #[.int .i64 X.m.id,.int .i64 X.m.rt,.int .i64 X.m.ep,.int .i64 X.m.ct,.int .i64 X.m.gn,.int .i64 X.m.st,.string X.m.bd,.int .i64 X.dl] 58)).drew.heap.size 58 i0 _ 8 72 Tryz.underlying28 HI.out HZ.out.1 HZ.out.2.1 HZ.out.2.2 rfl (by omega) (.slice none 0 0) 0 [] (by rfl) (World.ownsRow_nil _ _ _ _) _ (some ⟨b,o,none⟩) i c (ecs (l.take i)) (by rfl) ((HE1.out.below (HBW.out.trans (HXa.out.drew.mono HBW.out.size))).rd) (ecs_one _) (by have:=HL12.out;unfold maxLen;omega) (by have:=HL12.out;omega) (Nat.le_refl _) ?_;intro v1 w6 hown1 hg1 hat1;obtain ⟨k1,k3,k4,k5⟩:=HPB.out _ _ hown1 hg1;have HT3:=Lh k1;have HBX:=Lh k3;have HOX:=Lh k4;have HRX:=Lh k5;clear hown1 hg1 hat1 k1 k3 k4 k5))
          all_goals
           have t7:=(HSK.out w7 HB7.out).1
           go_wp2_with (at_builtin;refine wpList_append_rd _ rfl _ _ 28 rfl w5.heap.size 58 i0 _ 8 72 Tryz.underlying28 HI.out HZ.out.1 HZ.out.2.1 HZ.out.2.2 rfl (by omega) v2 (i+1) (ecs (l.take i)++X.l) rfl HO7.out _ A' (l.length - i) (c - i) (ecs (l.drop i)) rfl ((HE3.out.below (HBW.out.trans (HB7.out.mono HBW.out.size))).rd) (ecs_one _) (by have:=HL12.out;unfold maxLen;omega) (by have:=HL12.out;omega) HB7.out.size ?_;intro v3 w8 hown3 hg3 hat3;rw [HLX.out,←HEC.out] at hown3;obtain ⟨A8,c8,rfl⟩:=own_form hown3;have hb8:=below_own HB7.out HO7.out hg3;have H8:=Lh (H5.out.below hb8);have HF:=Lh (HFF.out _ _ _ hown3 hb8);obtain ⟨r0,r1,f0,f1,rl⟩:=H8.out.rt;clear hown3 hg3 hat3 hb8 t7)
           go_wp2
           exact bodyPost_ret (v:=.tuple #[.agg #[.slice A8 LX.length c8,.slice A5 K.length c5],.int .i64 0]) (by simp only [results,Tryz.results137];go_simp <;> rfl) rfl HF.out
        ·have hij:i=j:=by rw [←HKH.out j hj (fun i hi=>HLT.out i hi _) (fun hk=>absurd hk hlt)]
         clear m1 m2 m3 m4 m5 m6
         go_wp2_with fail
         go_quiet (fail)
         obtain rfl:i=j:=hij
         have HG2:=Lh (show GrV w p q r A c l A2 c2 h X (wr.drewN nq) from HG.out.below (below_drewN (Below.refl _ _) nq))
         go_wp2_with fail
         clear m0 t0 t1 tl ml
         refine (HPU.out _ _ HG2.out.va).mono ?_
         rintro e w5 ⟨A5,c5,rfl,hnw,hl,hb⟩
         have H5:=Lh (HG2.out.below hb)
         have HK:=Lh hl
         have HNW:=Lh hnw
         clear hb hnw hl
         have HNL:=Lh (And.intro HG2.out.rt.lt HG2.out.va.bel.size)
         have HBW:=Lh H5.out.va.bel
         have HSK:=Lh (fun W (hb:Below w5.heap.size w5 W)=>show W.cell? ⟨p,0,none⟩=some (.slice A l.length c)∧W.cell? ⟨q,0,none⟩=some (.int .i64 X.m.id)∧W.cell? ⟨q,1,none⟩=some (.int .i64 X.m.rt)∧W.cell? ⟨q,2,none⟩=some (.int .i64 X.m.ep)∧W.cell? ⟨q,3,none⟩=some (.int .i64 X.m.ct)∧W.cell? ⟨q,4,none⟩=some (.int .i64 X.m.gn)∧W.cell? ⟨q,5,none⟩=some (.int .i64 X.m.st)∧W.cell? ⟨q,6,none⟩=some (.string X.m.bd) from by
          have k:=H5.out.below hb
          exact ⟨k.va.tb.1,k.mq.1,k.mq.2.1,k.mq.2.2.1,k.mq.2.2.2.1,k.mq.2.2.2.2.1,k.mq.2.2.2.2.2.1,k.mq.2.2.2.2.2.2.1⟩)
         have HD:=Lh (show Below w5.heap.size w5 w5.drew from (Below.refl _ _).drew)
         have HXa:=Lh (show Below w5.heap.size w5 (w5.alloc (.cells #[.int .i64 X.m.id,.int .i64 X.m.rt,.int .i64 X.m.ep,.int .i64 X.m.ct,.int .i64 X.m.gn,.int .i64 X.m.st,.string X.m.bd,.int .i64 X.dl] 58)) from (Below.refl _ _).alloc (Nat.le_refl _) _)
         have HT0:=Lh (HSK.out w5.drew HD.out)
         have HT1:=Lh (HSK.out (w5.alloc (.cells #[.int .i64 X.m.id,.int .i64 X.m.rt,.int .i64 X.m.ep,.int .i64 X.m.ct,.int .i64 X.m.gn,.int .i64 X.m.st,.string X.m.bd,.int .i64 X.dl] 58)).drew HXa.out.drew)
         have HPA:=Lh (fun w6 v1 (ho:w6.ownsRow w5.drew.heap.size 58 8 v1 (0+i) ([]++ecs (l.take i))) (hg:w5.drew.grownBy w6 (Value.slice none 0 0).ownBlock)=>show (w6.cell? ⟨p,0,none⟩=some (.slice A l.length c)∧w6.cell? ⟨q,0,none⟩=some (.int .i64 X.m.id)∧w6.cell? ⟨q,1,none⟩=some (.int .i64 X.m.rt)∧w6.cell? ⟨q,2,none⟩=some (.int .i64 X.m.ep)∧w6.cell? ⟨q,3,none⟩=some (.int .i64 X.m.ct)∧w6.cell? ⟨q,4,none⟩=some (.int .i64 X.m.gn)∧w6.cell? ⟨q,5,none⟩=some (.int .i64 X.m.st)∧w6.cell? ⟨q,6,none⟩=some (.string X.m.bd))∧((w6.alloc (.cells #[.int .i64 X.m.id,.int .i64 X.m.rt,.int .i64 X.m.ep,.int .i64 X.m.ct,.int .i64 X.m.gn,.int .i64 X.m.st,.string X.m.bd,.int .i64 X.dl] 58)).cell? ⟨p,0,none⟩=some (.slice A l.length c)∧(w6.alloc (.cells #[.int .i64 X.m.id,.int .i64 X.m.rt,.int .i64 X.m.ep,.int .i64 X.m.ct,.int .i64 X.m.gn,.int .i64 X.m.st,.string X.m.bd,.int .i64 X.dl] 58)).cell? ⟨q,0,none⟩=some (.int .i64 X.m.id)∧(w6.alloc (.cells #[.int .i64 X.m.id,.int .i64 X.m.rt,.int .i64 X.m.ep,.int .i64 X.m.ct,.int .i64 X.m.gn,.int .i64 X.m.st,.string X.m.bd,.int .i64 X.dl] 58)).cell? ⟨q,1,none⟩=some (.int .i64 X.m.rt)∧(w6.alloc (.cells #[.int .i64 X.m.id,.int .i64 X.m.rt,.int .i64 X.m.ep,.int .i64 X.m.ct,.int .i64 X.m.gn,.int .i64 X.m.st,.string X.m.bd,.int .i64 X.dl] 58)).cell? ⟨q,2,none⟩=some (.int .i64 X.m.ep)∧(w6.alloc (.cells #[.int .i64 X.m.id,.int .i64 X.m.rt,.int .i64 X.m.ep,.int .i64 X.m.ct,.int .i64 X.m.gn,.int .i64 X.m.st,.string X.m.bd,.int .i64 X.dl] 58)).cell? ⟨q,3,none⟩=some (.int .i64 X.m.ct)∧(w6.alloc (.cells #[.int .i64 X.m.id,.int .i64 X.m.rt,.int .i64 X.m.ep,.int .i64 X.m.ct,.int .i64 X.m.gn,.int .i64 X.m.st,.string X.m.bd,.int .i64 X.dl] 58)).cell? ⟨q,4,none⟩=some (.int .i64 X.m.gn)∧(w6.alloc (.cells #[.int .i64 X.m.id,.int .i64 X.m.rt,.int .i64 X.m.ep,.int .i64 X.m.ct,.int .i64 X.m.gn,.int .i64 X.m.st,.string X.m.bd,.int .i64 X.dl] 58)).cell? ⟨q,5,none⟩=some (.int .i64 X.m.st)∧(w6.alloc (.cells #[.int .i64 X.m.id,.int .i64 X.m.rt,.int .i64 X.m.ep,.int .i64 X.m.ct,.int .i64 X.m.gn,.int .i64 X.m.st,.string X.m.bd,.int .i64 X.dl] 58)).cell? ⟨q,6,none⟩=some (.string X.m.bd))∧Below w5.heap.size w5 (w6.alloc (.cells #[.int .i64 X.m.id,.int .i64 X.m.rt,.int .i64 X.m.ep,.int .i64 X.m.ct,.int .i64 X.m.gn,.int .i64 X.m.st,.string X.m.bd,.int .i64 X.dl] 58))∧(w6.alloc (.cells #[.int .i64 X.m.id,.int .i64 X.m.rt,.int .i64 X.m.ep,.int .i64 X.m.ct,.int .i64 X.m.gn,.int .i64 X.m.st,.string X.m.bd,.int .i64 X.dl] 58)).ownsRow w5.heap.size 58 8 v1 i (ecs (l.take i))∧Rd (w6.alloc (.cells #[.int .i64 X.m.id,.int .i64 X.m.rt,.int .i64 X.m.ep,.int .i64 X.m.ct,.int .i64 X.m.gn,.int .i64 X.m.st,.string X.m.bd,.int .i64 X.dl] 58)) (w6.alloc (.cells #[.int .i64 X.m.id,.int .i64 X.m.rt,.int .i64 X.m.ep,.int .i64 X.m.ct,.int .i64 X.m.gn,.int .i64 X.m.st,.string X.m.bd,.int .i64 X.dl] 58)).heap.size 8 (some ⟨w6.heap.size,0,none⟩) 1 X.l from by
          have hb:Below w5.heap.size w5 w6:=HD.out.trans (below_nil hg rfl)
          have hb2:=hb.alloc hb.size (.cells #[.int .i64 X.m.id,.int .i64 X.m.rt,.int .i64 X.m.ep,.int .i64 X.m.ct,.int .i64 X.m.gn,.int .i64 X.m.st,.string X.m.bd,.int .i64 X.dl] 58)
          rw [Nat.zero_add,List.nil_append] at ho
          have hf:Rw (w6.alloc (.cells #[.int .i64 X.m.id,.int .i64 X.m.rt,.int .i64 X.m.ep,.int .i64 X.m.ct,.int .i64 X.m.gn,.int .i64 X.m.st,.string X.m.bd,.int .i64 X.dl] 58)) w6.heap.size 58 X.l:=Rw.fresh w6 _ _
          exact ⟨HSK.out _ hb,HSK.out _ hb2,hb2,World.ownsRow.alloc (show w6.ownsRow w5.heap.size 58 8 v1 i (ecs (l.take i)) from ho) _,rfl,fun _=>⟨_,0,rfl,hf.lt,fun j u hu=>by rw [Nat.zero_add];exact hf.cell hu⟩⟩)
         have HPB:=Lh (fun w6 v1 (ho:w6.ownsRow (w5.alloc (.cells #[.int .i64 X.m.id,.int .i64 X.m.rt,.int .i64 X.m.ep,.int .i64 X.m.ct,.int .i64 X.m.gn,.int .i64 X.m.st,.string X.m.bd,.int .i64 X.dl] 58)).drew.heap.size 58 8 v1 (0+i) ([]++ecs (l.take i))) (hg:(w5.alloc (.cells #[.int .i64 X.m.id,.int .i64 X.m.rt,.int .i64 X.m.ep,.int .i64 X.m.ct,.int .i64 X.m.gn,.int .i64 X.m.st,.string X.m.bd,.int .i64 X.dl] 58)).drew.grownBy w6 (Value.slice none 0 0).ownBlock)=>show (w6.cell? ⟨p,0,none⟩=some (.slice A l.length c)∧w6.cell? ⟨q,0,none⟩=some (.int .i64 X.m.id)∧w6.cell? ⟨q,1,none⟩=some (.int .i64 X.m.rt)∧w6.cell? ⟨q,2,none⟩=some (.int .i64 X.m.ep)∧w6.cell? ⟨q,3,none⟩=some (.int .i64 X.m.ct)∧w6.cell? ⟨q,4,none⟩=some (.int .i64 X.m.gn)∧w6.cell? ⟨q,5,none⟩=some (.int .i64 X.m.st)∧w6.cell? ⟨q,6,none⟩=some (.string X.m.bd))∧Below w5.heap.size w5 w6∧w6.ownsRow w5.heap.size 58 8 v1 i (ecs (l.take i))∧Rd w6 w6.heap.size 8 (some ⟨w5.heap.size,0,none⟩) 1 X.l from by
          have hb1:Below (w5.alloc (.cells #[.int .i64 X.m.id,.int .i64 X.m.rt,.int .i64 X.m.ep,.int .i64 X.m.ct,.int .i64 X.m.gn,.int .i64 X.m.st,.string X.m.bd,.int .i64 X.dl] 58)).heap.size (w5.alloc (.cells #[.int .i64 X.m.id,.int .i64 X.m.rt,.int .i64 X.m.ep,.int .i64 X.m.ct,.int .i64 X.m.gn,.int .i64 X.m.st,.string X.m.bd,.int .i64 X.dl] 58)) w6:=drew_bel (below_nil hg rfl)
          have hb:Below w5.heap.size w5 w6:=HXa.out.trans (hb1.mono HXa.out.size)
          rw [Nat.zero_add,List.nil_append] at ho
          have hf:Rw w6 w5.heap.size 58 X.l:=(Rw.fresh w5 _ _).below hb1 (by simp)
          exact ⟨HSK.out _ hb,hb,own_low ho (show w5.heap.size≤(w5.alloc (.cells #[.int .i64 X.m.id,.int .i64 X.m.rt,.int .i64 X.m.ep,.int .i64 X.m.ct,.int .i64 X.m.gn,.int .i64 X.m.st,.string X.m.bd,.int .i64 X.dl] 58)).heap.size by simp),rfl,fun _=>⟨_,0,rfl,hf.lt,fun j u hu=>by rw [Nat.zero_add];exact hf.cell hu⟩⟩)
         have HPC:=Lh (fun wx w7 v1 v2 (hbx:Below w5.heap.size w5 wx) (hox:wx.ownsRow w5.heap.size 58 8 v1 i (ecs (l.take i))) (ho:w7.ownsRow w5.heap.size 58 8 v2 (i+1) (ecs (l.take i)++X.l)) (hg:wx.grownBy w7 v1.ownBlock)=>show (w7.cell? ⟨p,0,none⟩=some (.slice A l.length c)∧w7.cell? ⟨q,0,none⟩=some (.int .i64 X.m.id)∧w7.cell? ⟨q,1,none⟩=some (.int .i64 X.m.rt)∧w7.cell? ⟨q,2,none⟩=some (.int .i64 X.m.ep)∧w7.cell? ⟨q,3,none⟩=some (.int .i64 X.m.ct)∧w7.cell? ⟨q,4,none⟩=some (.int .i64 X.m.gn)∧w7.cell? ⟨q,5,none⟩=some (.int .i64 X.m.st)∧w7.cell? ⟨q,6,none⟩=some (.string X.m.bd))∧Below w5.heap.size w5 w7∧w7.ownsRow w5.heap.size 58 8 v2 (i+1) (ecs (l.take i)++X.l) from by
          have hb:Below w5.heap.size w5 w7:=below_own hbx hox hg
          exact ⟨HSK.out _ hb,hb,ho⟩)
         have hil:i≤l.length:=hj
         have hcut:=run_eupto A l.length c .i64 i (by omega)
         obtain ⟨A',hA',hcut2⟩:=run_ecut A l.length c .i64 i (by omega)
         have h1:=HW.out.upto i (by omega)
         have h3:=HW.out.cut i (by omega)
         rw [←hA'] at h3
         have HE1:=Lh h1
         have HE3:=Lh h3
         have hic:(i:Int)≤(c:Int):=by omega
         have hiL:(i:Int)≤(l.length:Int):=by omega
         have HLX:=Lh (show i+1+(l.length - i)=(l.take i++X::l.drop i).length by simp;omega)
         have HEC:=Lh (show ecs (l.take i++X::l.drop i)=(ecs (l.take i)++X.l)++ecs (l.drop i) by rw [ecs_mid,List.append_assoc])
         have HFF:=Lh (fun (w8:World) (A8:Option Addr) (c8:Nat) (ho:w8.ownsRow w5.heap.size 58 8 (.slice A8 (l.take i++X::l.drop i).length c8) (l.take i++X::l.drop i).length (ecs (l.take i++X::l.drop i))) (hb:Below w5.heap.size w5 w8)=>show TE w (l.take i++X::l.drop i) K 0 (.returned (.tuple #[.agg #[.slice A8 (l.take i++X::l.drop i).length c8,.slice A5 K.length c5],.int .i64 0])) (set2 w8 r (.slice A8 (l.take i++X::l.drop i).length c8) (.slice A5 K.length c5)) from by
          have hn:Nw w5.heap.size A8:=nwv_of (nwv_own ho (Nat.le_refl _))
          refine ⟨A8,c8,A5,c5,rfl,nw_low hn HBW.out.size,nw_low HNW.out HNL.out.2,?_,?_,set2_below (HBW.out.trans (hb.mono HBW.out.size)) (by have:=H5.out.ne;omega)⟩
          ·exact ((El.of_own ho).set2 hn H5.out.rt.lt).more (by simp)
          ·exact ((HK.out.below hb).set2 HNW.out HNL.out.1).more (by have:=hb.size;simp;omega))
         generalize (l.take i++X::l.drop i)=LX at*
         clear h1 h3 hA'
         go_wp2_with fail
         go_region_held3 (fun W=>W.cell? ⟨p,0,none⟩=some (.slice A l.length c)∧W.cell? ⟨q,0,none⟩=some (.int .i64 X.m.id)∧W.cell? ⟨q,1,none⟩=some (.int .i64 X.m.rt)∧W.cell? ⟨q,2,none⟩=some (.int .i64 X.m.ep)∧W.cell? ⟨q,3,none⟩=some (.int .i64 X.m.ct)∧W.cell? ⟨q,4,none⟩=some (.int .i64 X.m.gn)∧W.cell? ⟨q,5,none⟩=some (.int .i64 X.m.st)∧W.cell? ⟨q,6,none⟩=some (.string X.m.bd))
          (first | with_reducible exact HT0.out | with_reducible exact HT1.out | with_reducible exact HT2.out | with_reducible exact HT3.out | with_reducible exact HT4.out)
          (first
          | (refine step_append_rd _ (by rfl) _ _ _ (by rfl) w5.heap.size 58 i0 _ 8 72 Tryz.underlying28 HI.out HZ.out.1 HZ.out.2.1 HZ.out.2.2 rfl (by omega) v1 i (ecs (l.take i)) (by rfl) HOX.out _ _ 1 1 X.l (by rfl) HRX.out X.l_one (by have:=HL12.out;unfold maxLen;omega) (by have:=HL12.out;omega) HBX.out.size ?_;intro v2 w7 hown2 hg2 hat2;obtain ⟨k1,k2,k3⟩:=HPC.out _ _ _ _ HBX.out HOX.out hown2 hg2;have HT4:=Lh k1;have HB7:=Lh k2;have HO7:=Lh k3;clear hown2 hg2 hat2 k1 k2 k3)
          | (refine step_append_rd _ (by rfl) _ _ _ (by rfl) w5.drew.heap.size 58 i0 _ 8 72 Tryz.underlying28 HI.out HZ.out.1 HZ.out.2.1 HZ.out.2.2 rfl (by omega) (.slice none 0 0) 0 [] (by rfl) (World.ownsRow_nil _ _ _ _) _ A i c (ecs (l.take i)) (by rfl) ((HE1.out.below (HBW.out.trans (HD.out.mono HBW.out.size))).rd) (ecs_one _) (by have:=HL12.out;unfold maxLen;omega) (by have:=HL12.out;omega) (Nat.le_refl _) ?_;intro v1 w6 hown1 hg1 hat1;obtain ⟨k1,k2,k3,k4,k5⟩:=HPA.out _ _ hown1 hg1;have HT2:=Lh k1;have HT3:=Lh k2;have HBX:=Lh k3;have HOX:=Lh k4;have HRX:=Lh k5;clear hown1 hg1 hat1 k1 k2 k3 k4 k5)
          | (refine step_append_rd _ (by rfl) _ _ _ (by rfl) (w5.alloc (.cells #[.int .i64 X.m.id,.int .i64 X.m.rt,.int .i64 X.m.ep,.int .i64 X.m.ct,.int .i64 X.m.gn,.int .i64 X.m.st,.string X.m.bd,.int .i64 X.dl] 58)).drew.heap.size 58 i0 _ 8 72 Tryz.underlying28 HI.out HZ.out.1 HZ.out.2.1 HZ.out.2.2 rfl (by omega) (.slice none 0 0) 0 [] (by rfl) (World.ownsRow_nil _ _ _ _) _ A i c (ecs (l.take i)) (by rfl) ((HE1.out.below (HBW.out.trans (HXa.out.drew.mono HBW.out.size))).rd) (ecs_one _) (by have:=HL12.out;unfold maxLen;omega) (by have:=HL12.out;omega) (Nat.le_refl _) ?_;intro v1 w6 hown1 hg1 hat1;obtain ⟨k1,k3,k4,k5⟩:=HPB.out _ _ hown1 hg1;have HT3:=Lh k1;have HBX:=Lh k3;have HOX:=Lh k4;have HRX:=Lh k5;clear hown1 hg1 hat1 k1 k3 k4 k5))
         all_goals
          have t7:=(HSK.out w7 HB7.out).1
          go_wp2_with (at_builtin;refine wpList_append_rd _ rfl _ _ 28 rfl w5.heap.size 58 i0 _ 8 72 Tryz.underlying28 HI.out HZ.out.1 HZ.out.2.1 HZ.out.2.2 rfl (by omega) v2 (i+1) (ecs (l.take i)++X.l) rfl HO7.out _ A' (l.length - i) (c - i) (ecs (l.drop i)) rfl ((HE3.out.below (HBW.out.trans (HB7.out.mono HBW.out.size))).rd) (ecs_one _) (by have:=HL12.out;unfold maxLen;omega) (by have:=HL12.out;omega) HB7.out.size ?_;intro v3 w8 hown3 hg3 hat3;rw [HLX.out,←HEC.out] at hown3;obtain ⟨A8,c8,rfl⟩:=own_form hown3;have hb8:=below_own HB7.out HO7.out hg3;have H8:=Lh (H5.out.below hb8);have HF:=Lh (HFF.out _ _ _ hown3 hb8);obtain ⟨r0,r1,f0,f1,rl⟩:=H8.out.rt;clear hown3 hg3 hat3 hb8 t7)
          go_wp2
          exact bodyPost_ret (v:=.tuple #[.agg #[.slice A8 LX.length c8,.slice A5 K.length c5],.int .i64 0]) (by simp only [results,Tryz.results137];go_simp <;> rfl) rfl HF.out
  ·have he:=grE_vf h1 h2
   have HN:=Lh (grE_ne (l:=l) (h:=h) (x:=X) (by rw [he];exact h2))
   have hne:(vf X.m != 0)=true:=bne_iff_ne.2 h2
   rw [HN.out.1,HN.out.2,he]
   generalize vf X.m=x at*
   clear he h1 h2 HN
   go_enter Tryz.func137,Tryz.ntmps137
   obtain ⟨t0,t1,tl⟩:=H0.out.va.tb
   go_wp2_with fail
   clear t0 t1 tl
   obtain ⟨p,hp⟩:∃ p,p=w.heap.size:=⟨_,rfl⟩
   obtain ⟨q,hq⟩:∃ q,q=w.heap.size+1:=⟨_,rfl⟩
   obtain ⟨r,hr⟩:∃ r,r=w.heap.size+1+1:=⟨_,rfl⟩
   rw [←hr,←hq,←hp] at H0 ⊢
   clear hp hq hr
   generalize (((w.alloc (.cells #[.slice A l.length c,.slice A2 h.length c2] 31)).alloc (.cells #[.int .i64 X.m.id,.int .i64 X.m.rt,.int .i64 X.m.ep,.int .i64 X.m.ct,.int .i64 X.m.gn,.int .i64 X.m.st,.string X.m.bd] 56)).alloc (.cells #[.slice none 0 0,.slice none 0 0] 31))=w1 at*
   refine (HV.out _ _ H0.out.va).mono ?_
   rintro e w2 ⟨rfl,hb⟩
   have H1:=Lh (H0.out.below hb)
   clear hb
   obtain ⟨m0,m1,m2,m3,m4,m5,m6,ml⟩:=H1.out.mq
   go_wp2_with fail
   clear m0 m1 m2 m3 m4 m5 m6 ml
   refine (HM.out _).mono ?_
   rintro e w3 ⟨rfl,hb⟩
   have H2:=Lh (H1.out.below hb)
   clear hb
   obtain ⟨r0,r1,f0,f1,rl⟩:=H2.out.rt
   have HB:=Lh (show Below w.heap.size w (set2 w3 r (.slice none 0 0) (.slice none 0 0)) from set2_below H2.out.va.bel (by have:=H2.out.ne;omega))
   go_wp2
   exact bodyPost_ret (v:=.tuple #[.agg #[.slice none 0 0,.slice none 0 0],.int .i64 x]) (by simp only [results,Tryz.results137];go_simp <;> rfl) rfl (te_nil rfl rfl rfl HB.out)
 ·have he:=grE_tb (x:=X) h1
  have HN:=Lh (grE_ne (l:=l) (h:=h) (x:=X) (by rw [he];exact h1))
  have hne:(tbV l h != 0)=true:=bne_iff_ne.2 h1
  rw [HN.out.1,HN.out.2,he]
  generalize tbV l h=x at*
  clear he h1 HN
  go_enter Tryz.func137,Tryz.ntmps137
  obtain ⟨t0,t1,tl⟩:=H0.out.va.tb
  go_wp2_with fail
  clear t0 t1 tl
  obtain ⟨p,hp⟩:∃ p,p=w.heap.size:=⟨_,rfl⟩
  obtain ⟨q,hq⟩:∃ q,q=w.heap.size+1:=⟨_,rfl⟩
  obtain ⟨r,hr⟩:∃ r,r=w.heap.size+1+1:=⟨_,rfl⟩
  rw [←hr,←hq,←hp] at H0 ⊢
  clear hp hq hr
  generalize (((w.alloc (.cells #[.slice A l.length c,.slice A2 h.length c2] 31)).alloc (.cells #[.int .i64 X.m.id,.int .i64 X.m.rt,.int .i64 X.m.ep,.int .i64 X.m.ct,.int .i64 X.m.gn,.int .i64 X.m.st,.string X.m.bd] 56)).alloc (.cells #[.slice none 0 0,.slice none 0 0] 31))=w1 at*
  refine (HV.out _ _ H0.out.va).mono ?_
  rintro e w2 ⟨rfl,hb⟩
  have H1:=Lh (H0.out.below hb)
  clear hb
  obtain ⟨r0,r1,f0,f1,rl⟩:=H1.out.rt
  have HB:=Lh (show Below w.heap.size w (set2 w2 r (.slice none 0 0) (.slice none 0 0)) from set2_below H1.out.va.bel (by have:=H1.out.ne;omega))
  go_wp2
  exact bodyPost_ret (v:=.tuple #[.agg #[.slice none 0 0,.slice none 0 0],.int .i64 x]) (by simp only [results,Tryz.results137];go_simp <;> rfl) rfl (te_nil rfl rfl rfl HB.out)
set_option maxHeartbeats 2000000 in
set_option maxRecDepth 20000 in
theorem raw_any (B g:Nat) (w:World) (h:SrcAt w B g):Calls Tryz.prog 39 #[.pointer (some ⟨g,0,none⟩)] w (SrInt B g (-9223372036854775808) 9223372036854775807 w):=by
 have H:=Lh h
 obtain ⟨hB,hg,A,n,c,k,zs,a1,a2,a3,a4,a5,a6,a7,a8,a9⟩:=h
 have HA:=Lh a8
 have HZ:=Lh a9
 have a2' : (n:Int)≤4000:=by omega
 clear hB hg a2 a3 a4 a8 a9
 by_cases hk:k<n
 ·have hk' : ¬((n:Int)≤(k:Int)):=by omega
  have hd:decide ((n:Int)≤(k:Int))=false:=decide_eq_false hk'
  obtain ⟨b,o,rfl,hb,hcell⟩:=HA.out.2 (by omega)
  have hzl:k<zs.length:=by have:=HA.out.1;simp at this;omega
  have hz:=HZ.out zs[k] (List.getElem_mem hzl)
  have hcz:=hcell k (i64v zs[k]) (by simp [hzl])
  unfold i64v at hcz
  generalize zs[k]=z at*
  have HZ2:=Lh hz
  have hne1:b≠g:=by have:=H.out.1;omega
  have hne2:g≠b:=fun e=>hne1 e.symm
  have hk63:(k:Int)<(n:Int):=by omega
  have hk0:(0:Int)≤(k:Int):=Int.natCast_nonneg _
  have hs:IntKind.i64.wrap ((k:Int)+1 - 1)=k:=by rw [IntWalk.i64_in _ (by omega)];omega
  clear hcell hzl hz
  go_enter Tryz.func39,Tryz.ntmps39
  go_wp2
  go_quiet (fail)
  go_wp2
  go_quiet (fail)
  go_wp2
  go_ret
  exact ⟨z,rfl,HZ2.out.1,HZ2.out.2,((H.out.drewN _).next a5 a6 (by omega)).drewN _,only_drewN (only_set (only_drewN (World.grownBy.refl _ _) _) (.inl rfl) _) _⟩
 ·have hk' : (n:Int)≤(k:Int):=by omega
  have hd:decide ((n:Int)≤(k:Int))=true:=decide_eq_true hk'
  go_enter Tryz.func39,Tryz.ntmps39
  go_wp2
  go_quiet (fail)
  go_wp2
  go_ret
  exact ⟨0,rfl,by omega,by omega,H.out.drewN _,only_drewN (World.grownBy.refl _ _) _⟩
theorem tmod_gt (x n:Int) (h:0<n):-n<x.tmod n:=by
 have h1:=Int.tmod_lt_of_pos (-x) h
 rw [Int.neg_tmod] at h1
 omega
set_option maxHeartbeats 2000000 in
theorem n_any (B g:Nat) (w:World) (h:SrcAt w B g) (n:Int) (h1:1≤n) (h2:n≤1073741824):Calls Tryz.prog 14 #[.pointer (some ⟨g,0,none⟩),.int .i64 n] w (SrInt B g 0 (n - 1) w):=by
 have HC:=Lh (raw_any B g w h)
 clear h
 go_enter Tryz.func14,Tryz.ntmps14
 go_wp2_with fail
 refine HC.out.mono ?_
 rintro e w1 ⟨x,rfl,hx1,hx2,hs,hg⟩
 have HS:=Lh hs
 have HG:=Lh hg
 have hr1:x.tmod n<n:=Int.tmod_lt_of_pos x (by omega)
 have hr2:-n<x.tmod n:=tmod_gt x n (by omega)
 clear hs hg
 by_cases hr:x.tmod n<0
 ·go_wp2
  go_ret
  exact ⟨x.tmod n+n,rfl,by omega,by omega,HS.out,HG.out⟩
 ·go_wp2
  go_ret
  exact ⟨x.tmod n,rfl,by omega,by omega,HS.out,HG.out⟩
set_option maxHeartbeats 2000000 in
theorem range_any (B g:Nat) (w:World) (h:SrcAt w B g) (lo hi:Int) (h0:0≤lo) (h1:lo≤hi) (h2:hi≤1073741823):Calls Tryz.prog 22 #[.pointer (some ⟨g,0,none⟩),.int .i64 lo,.int .i64 hi] w (SrInt B g lo hi w):=by
 have HC:=Lh (n_any B g w h (hi - lo+1) (by omega) (by omega))
 clear h
 go_enter Tryz.func22,Tryz.ntmps22
 go_wp2_with fail
 refine HC.out.mono ?_
 rintro e w1 ⟨x,rfl,hx1,hx2,hs,hg⟩
 have HS:=Lh hs
 have HG:=Lh hg
 clear hs hg
 go_wp2
 go_ret
 exact ⟨lo+x,rfl,by omega,by omega,HS.out,HG.out⟩
/-- The number n as s bytes, the highest one first. -/
def be (s n:Nat):List UInt8:=(List.range s).map fun j=>UInt8.ofNat (n / 2 ^ (8*(s - 1 - j)))
theorem be_length (s n:Nat):(be s n).length=s:=by simp [be]
theorem be_get (s n j:Nat) (h:j<s):(be s n)[j]'(by rw [be_length];exact h)=UInt8.ofNat (n / 2 ^ (8*(s - 1 - j))):=by simp [be]
theorem oct_mod (x:Nat):oct (UInt8.ofNat x)=.int .u8 ((x:Int) % 256):=by
 unfold oct
 rw [show (UInt8.ofNat x).toNat=x % 256 from by simp]
 simp
theorem Bs.of_row {w:World} {B g:Nat} {t:TypeId} {n c:Nat} {f:Nat→Value} {bs:List UInt8} (h:w.rowIs g t n f) (hg:g<B) (hl:bs.length=n) (hc:n≤c) (hm:c≤maxLen) (hf:∀ j (hj:j<bs.length),f j=oct bs[j]):Bs w B (.slice (some ⟨g,0,none⟩) n c) bs:=by
 subst hl
 refine ⟨_,c,rfl,hc,hm,by simp,fun _=>⟨g,0,rfl,hg,fun j u hu=>?_⟩⟩
 rw [Nat.zero_add]
 simp only [List.getElem?_map,Option.map_eq_some_iff] at hu
 obtain ⟨x,hx,rfl⟩:=hu
 obtain ⟨hj,rfl⟩:=List.getElem?_eq_some_iff.1 hx
 rw [h.cell hj,hf j hj]
theorem pow_le48 (s:Nat) (h:s≤6):(2:Int) ^ (8*s)≤281474976710656∧(0:Int)≤2 ^ (8*s)∧((2 ^ (8*s):Nat):Int)=(2:Int) ^ (8*s):=by
 match s,h with
 | 0,_=>decide
 | 1,_=>decide
 | 2,_=>decide
 | 3,_=>decide
 | 4,_=>decide
 | 5,_=>decide
 | 6,_=>decide
theorem be_take (s n j:Nat) (hj:j+1≤s):(be s n).take (s - j)=(be s n).take (s - (j+1))++[UInt8.ofNat (n / 2 ^ (8*j))]:=by
 have hl:s - (j+1)<(be s n).length:=by rw [be_length];omega
 rw [show s - j=s - (j+1)+1 by omega,List.take_succ_eq_append_getElem hl,be_get s n _ (by omega),show s - 1 - (s - (j+1))=j by omega]
/-- What Put returns. -/
def ptOk (n s:Int):Bool:=decide (1≤s∧s≤6∧0≤n∧n<2 ^ (8*s.toNat))
def ptE (n s:Int):Int:=if ptOk n s then 0 else 1
def ptB (bs:List UInt8) (n s:Int):List UInt8:=if ptOk n s then bs++be s.toNat n.toNat else []
theorem pt4 (id:Int) (h0:0≤id) (h1:id≤1073741824):ptE id 4=0∧ptB [] id 4=be 4 id.toNat:=by
 have hk:ptOk id 4=true:=by
  refine decide_eq_true ⟨by omega,by omega,h0,?_⟩
  rw [show (2:Int) ^ (8*(4:Int).toNat)=4294967296 by decide]
  omega
 unfold ptE ptB
 rw [if_pos hk,if_pos hk]
 exact ⟨rfl,rfl⟩
/-- A short body, made by a source. -/
def SrBody (B g:Nat) (w:World) (e:Ending) (w' : World):Prop:=∃ s:ByteArray,e=.returned (.string s)∧s.size≤3∧SrcAt w' B g∧w.grownBy w' (some g)
theorem rowIs_grown {w w' : World} {b g:Nat} {t:TypeId} {n:Nat} {f:Nat→Value} (h:w.rowIs b t n f) (hg:w.grownBy w' (some g)) (hne:b≠g) (hb:b<w.heap.size):w'.rowIs b t n f:=by
 obtain ⟨c,h1,h2⟩:=h
 exact ⟨c,(hg.block b hb (fun e=>hne (by injection e))).trans h1,h2⟩
set_option maxHeartbeats 2000000 in
set_option maxRecDepth 20000 in
theorem body_any (B g:Nat) (w:World) (h:SrcAt w B g):Calls Tryz.prog 88 #[.pointer (some ⟨g,0,none⟩)] w (SrBody B g w):=by
 have HC:=Lh (n_any B g w h 4 (by omega) (by omega))
 have HG0:=Lh h.2.1
 have HBg:=Lh h.1
 clear h
 go_enter Tryz.func88,Tryz.ntmps88
 go_wp2_with fail
 refine HC.out.mono ?_
 rintro e w1 ⟨x,rfl,hx1,hx2,hs,hg⟩
 obtain ⟨m,rfl⟩:=Int.eq_ofNat_of_zero_le hx1
 have hm3:(m:Int)≤3:=by omega
 have hmk:=run_make_row' (P:=Tryz.prog) 148 5 (.int .u8 0) 1 Tryz.underlying148 info_u8 rfl .i64 .i64 m (by omega) (by omega) w1
 have HR:=Lh (World.rowIs_made w1 (.int .u8 0) m 5)
 have HS:=Lh (hs.alloc (.cells (madeCells #[.int .u8 0] m) 5))
 have HG:=Lh (only_alloc hg (.cells (madeCells #[.int .u8 0] m) 5))
 have hne:w1.heap.size≠g:=by have:=hs.2.1;omega
 have HNE:=Lh hne
 have hle:w.heap.size≤w1.heap.size:=hg.size
 have HLE:=Lh hle
 obtain ⟨b,hbb⟩:∃ b,b=w1.heap.size:=⟨_,rfl⟩
 have HSZ:=Lh (show b<(w1.alloc (.cells (madeCells #[.int .u8 0] m) 5)).heap.size by simp [hbb])
 have HBB:=Lh hbb
 clear hs hg hx1 hx2 hne hle hbb
 go_wp2
 rw [←HBB.out]
 rw [←HBB.out] at HR HNE HLE
 clear hmk
 go_loopw [4] (fun i wr=>∃ (k:Nat) (f:Nat→UInt8),k≤m∧i=.int .i64 k∧wr.rowIs b 5 m (fun j=>oct (f j))∧b<wr.heap.size∧SrcAt wr B g∧w.grownBy wr (some g)) (fun i _=>m - (intOf i).toNat)
 case atStart=>exact ⟨0,fun _=>0,by omega,rfl,HR.out.congr (fun j hj=>rfl),HSZ.out,HS.out,HG.out⟩
 case round=>
  obtain ⟨k,f,hk,rfl,hrow,hsz,hs,hg⟩:=hrel
  by_cases hlt:k<m
  ·have HV:=Lh (n_any B g wr hs 3 (by omega) (by omega))
   have HRow:=Lh hrow
   have HSr:=Lh hs
   have HGr:=Lh hg
   clear hrow hs hg
   go_wp2_with fail
   refine HV.out.mono ?_
   rintro e w2 ⟨y,rfl,hy1,hy2,hs2,hg2⟩
   obtain ⟨z,rfl⟩:=Int.eq_ofNat_of_zero_le hy1
   have hz3:(z:Int)≤2:=by omega
   have HRow2:=Lh (rowIs_grown HRow.out hg2 HNE.out hsz)
   have hsz2:b<w2.heap.size:=Nat.lt_of_lt_of_le hsz hg2.size
   have HS2:=Lh hs2
   have HG2:=Lh (HGr.out.trans hg2)
   have hcell:=HRow2.out.cell (i:=k) hlt
   have hfr:=HRow2.out.frozen k
   have HO:=Lh (show oct (UInt8.ofNat (97+z))=.int .u8 (97+(z:Int)) by rw [oct_mod];congr 1;omega)
   clear hs2 hg2 hy1 hy2
   go_wp2
   go_roundw
   case rel=>
    refine ⟨k+1,fun j=>if j=k then UInt8.ofNat (97+z) else f j,by omega,by go_num,(HRow2.out.set k _).congr (fun j hj=>?_),by simpa using hsz2,HS2.out.other (fun e=>HNE.out e) (by have:=HLE.out;have:=HG0.out;have:=HBg.out;simp;omega) _,only_set HG2.out (.inr HLE.out) _⟩
    by_cases e:j=k
    ·subst e;simp only [if_true];exact HO.out.symm
    ·simp only [if_neg e]
   case measure=>simp [intOf];omega
  ·obtain rfl:k=m:=by omega
   have hb1:Bs wr wr.heap.size (.slice (some ⟨b,0,none⟩) k k) ((List.range k).map f):=Bs.of_row hrow hsz (by simp) (Nat.le_refl _) (by unfold maxLen;omega) (fun j hj=>by simp)
   have hconv:=run_convert_bs (P:=Tryz.prog) wr 148 5 9 Tryz.underlying148 Tryz.underlying5 Tryz.underlying9 hb1
   have HSr:=Lh hs
   have HGr:=Lh hg
   clear hrow hs hg hb1
   go_wp2
   go_ret
   exact ⟨_,rfl,(by show (List.map f (List.range k)).toArray.size≤3;simp;omega),HSr.out,HGr.out⟩
end Go.Proofs.YtncgbldcjfbknaaGreat
