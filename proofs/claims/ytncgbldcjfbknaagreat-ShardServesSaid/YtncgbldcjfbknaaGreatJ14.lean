/- What is proved here: due.without by a contract; what a pop and a removal return: their posts, the box of an element; Tre; Shd; Shm. -/
import Derived.Test.YtncgbldcjfbknaaGreatJ13
namespace Go.Proofs.YtncgbldcjfbknaaGreat
open Go.RowKit
set_option linter.unusedVariables false
def DlV (w:World) (l:List Du) (e:Ending) (w' : World):Prop:=∃ A c,e=.returned (.slice A l.length c)∧Nw w.heap.size A∧Dl w' w'.heap.size (.slice A l.length c) l∧Below w.heap.size w w'
theorem DRow.dl' {W:World} {q n cap:Nat} {h:List Du} (r:DRow W q n (ge h)) (hn:h.length=n) (hc:n≤cap) (hm:cap≤maxLen):Dl W W.heap.size (.slice (some ⟨q,0,none⟩) n cap) h:=by
 have h1:=r.dl n cap (Nat.le_refl _) hc hm
 have h2:(List.range n).map (ge h)=h:=by rw [←hn];exact ge_row h
 rw [h2] at h1
 exact h1
theorem own_row {W:World} {base n:Nat} {l:List Du} {v:Value} (ho:W.ownsRow base 127 2 v n (dcs l)) (h0:0<n):∃ q cap,v=.slice (some ⟨q,0,none⟩) n cap∧base≤q∧n≤cap∧cap≤maxLen∧DRow W q n (ge l):=by
 rcases ho.2 with ⟨_,h⟩ | ⟨q,cap,cur,hv,hq,_,hl,hm,_⟩
 ·omega
 ·subst hv
  exact ⟨q,cap,rfl,hq,hl,hm,DRow.of_own ho⟩
theorem RwAt.put {w W:World} {q n i:Nat} {h:List Du} (r:RwAt w q n h W) (hi:i<n) (d:Du):RwAt w q n (h.set i d) ((W.setCell ⟨q,i*2,none⟩ (.int .i64 d.dl)).setCell ⟨q,i*2+1,none⟩ (.int .i64 d.id)):=
 ⟨(r.row.put hi d).congr fun t ht=>by rw [ge_set _ _ _ _ (by rw [r.len];exact hi)],by rw [List.length_set];exact r.len,(r.bel.setCell (p:=⟨q,i*2,none⟩) (Nat.le_refl _) _).setCell (p:=⟨q,i*2+1,none⟩) (Nat.le_refl _) _⟩
theorem cuF_last {l:List Du} {m:Nat} (hl:l.length=m+1):cuF l m=l.take m:=by
 unfold cuF;rw [hl,Nat.add_sub_cancel,if_pos rfl]
theorem cuF_up {l:List Du} {m i:Nat} (hl:l.length=m+1) (hi:i≠m) (hb:bef (ge ((l.take m).set i (ge l m)) i) (ge ((l.take m).set i (ge l m)) ((i - 1) / 2))=true):cuF l i=upF ((l.take m).set i (ge l m)) i:=by
 have h0:0<i:=by
  rcases Nat.eq_zero_or_pos i with e | e
  ·subst e;rw [bef_irr] at hb;cases hb
  ·exact e
 unfold cuF;rw [hl,Nat.add_sub_cancel,if_neg hi,if_pos ⟨h0,hb⟩]
theorem cuF_dn {l:List Du} {m i:Nat} (hl:l.length=m+1) (hi:i≠m) (hb:bef (ge ((l.take m).set i (ge l m)) i) (ge ((l.take m).set i (ge l m)) ((i - 1) / 2))=false):cuF l i=dnF ((l.take m).set i (ge l m)) i:=by
 unfold cuF;rw [hl,Nat.add_sub_cancel,if_neg hi,if_neg (fun hc=>by rw [hb] at hc;exact absurd hc.2 (by decide))]
set_option maxHeartbeats 4000000 in
set_option maxRecDepth 20000 in
theorem dwithout_any (A:Option Addr) (m c i:Nat) (l:List Du) (w:World) (hv:Dl w w.heap.size (.slice A (m+1) c) l) (hi:i≤m) (h100:m≤99) :
  Calls Tryz.prog 199 #[.slice A (m+1) c,.int .i64 i] w (DlV w (cuF l i)):=by
 obtain ⟨hn,hm1,hm2⟩:=hv.len
 have hlen:l.length=m+1:=hn.symm
 have HLEN:=Lh hlen
 obtain ⟨b,o,rfl,hb,c0,c1⟩:=hv.atg (k:=m) (by omega)
 obtain ⟨X,hX⟩:∃ X,ge l m=X:=⟨_,rfl⟩
 have HX:=Lh hX
 rw [hX] at c0 c1
 have hlt:(l.take m).length=m:=by rw [List.length_take];omega
 have HB:=Lh ((Below.refl w.heap.size w).alloc (Nat.le_refl _) (.cells #[.int .i64 X.dl,.int .i64 X.id] 127))
 have HV0:=Lh (((hv.alloc (Nat.le_refl _) (.cells #[.int .i64 X.dl,.int .i64 X.id] 127)).more (show w.heap.size≤(w.alloc (.cells #[.int .i64 X.dl,.int .i64 X.id] 127)).heap.size by simp)).upto m (by omega))
 have HD0:=Lh (D2.start w X 127)
 have hcut:=run_dupto (some ⟨b,o,none⟩) (m+1) c .i64 m (by omega)
 have HCL:=Lh (fun w1 hv=>dclone_any (some ⟨b,o,none⟩) m c (l.take m) w1 hv (by omega))
 have hm9:(m:Int)≤99:=by omega
 have him:(i:Int)≤(m:Int):=by omega
 have hmlt:(m:Int)<((m+1:Nat):Int):=by omega
 clear hv hn hlen hm1 hm2 hX hb
 go_enter Tryz.func199,Tryz.ntmps199
 go_wp2_with fail
 obtain ⟨p,hp⟩:∃ p,p=w.heap.size:=⟨_,rfl⟩
 have HPP:=Lh hp
 rw [←hp] at HD0 ⊢
 clear hp
 refine (HCL.out _ HV0.out).mono ?_
 rintro e w1 ⟨v,rfl,ho,hb⟩
 rw [hlt] at ho
 have HB1:=Lh (HB.out.trans (hb.mono HB.out.size))
 have HD1:=Lh (HD0.out.below hb (by have:=HPP.out;simp;omega))
 have HSZ:=Lh (show (w.alloc (.cells #[.int .i64 X.dl,.int .i64 X.id] 127)).heap.size=w.heap.size+1 by simp)
 have HPL:=Lh (World.block_lt_of_cell? w1 ⟨p,0,none⟩ HD1.out.1)
 have HO:=Lh ho
 clear ho hb hlt hcut c0 c1
 by_cases hime:i=m
 ·subst hime
  have HF:=Lh (show DlV w (cuF l i) (.returned v) w1 from by
   have ho:=HO.out
   have hl:=HLEN.out
   obtain ⟨A',c',rfl⟩:=own_form ho
   have hd:=Dl.of_own ho
   have hlt:(l.take i).length=i:=by rw [List.length_take];omega
   refine ⟨A',c',by rw [cuF_last hl,hlt],nwv_of (nwv_own ho (by rw [HSZ.out];omega)),?_,HB1.out⟩
   rw [cuF_last hl,hlt]
   exact hd)
  go_wp2
  go_ret
  exact HF.out
 ·obtain ⟨q,cap,rfl,hq,hle,hmx,hrow⟩:=own_row HO.out (by omega)
  have hlt:(l.take m).length=m:=by rw [List.length_take];have:=HLEN.out;omega
  have hilt:i<m:=by omega
  have HR:=Lh (RwAt.mk (w:=w1) hrow hlt (Below.refl q w1))
  have HQ:=Lh (show w.heap.size≤q∧p<q from by have:=HPP.out;have:=HSZ.out;omega)
  have HM:=Lh (And.intro hle hmx)
  have hieq:((i:Int)==(m:Int))=false:=by simp;omega
  have hilt' : (i:Int)<(m:Int):=by omega
  clear hrow hq hle hmx hlt hime
  obtain ⟨x0,x1⟩:=HD1.out
  obtain ⟨c0,c1,f0,f1,hql⟩:=HR.out.row.at_ hilt
  go_wp2
  have HR2:=Lh (HR.out.put hilt X)
  have HD2:=Lh (show D2 ((w1.setCell ⟨q,i*2,none⟩ (.int .i64 X.dl)).setCell ⟨q,i*2+1,none⟩ (.int .i64 X.id)) p X from ⟨by rw [World.cell?_setCell_other _ _ _ _ (fun e=>by injection e with e _ _;have:=HQ.out;omega),World.cell?_setCell_other _ _ _ _ (fun e=>by injection e with e _ _;have:=HQ.out;omega)];exact x0,by rw [World.cell?_setCell_other _ _ _ _ (fun e=>by injection e with e _ _;have:=HQ.out;omega),World.cell?_setCell_other _ _ _ _ (fun e=>by injection e with e _ _;have:=HQ.out;omega)];exact x1⟩)
  clear x0 x1 c0 c1 f0 f1 hql
  generalize ((w1.setCell ⟨q,i*2,none⟩ (.int .i64 X.dl)).setCell ⟨q,i*2+1,none⟩ (.int .i64 X.id))=w2 at*
  obtain ⟨y,hy⟩:∃ y,y=(l.take m).set i X:=⟨_,rfl⟩
  rw [←hy] at HR2
  have HY:=Lh hy
  have HYI:=Lh (show ge y i=X from by rw [hy,ge_set _ _ _ _ (by rw [List.length_take];have:=HLEN.out;omega),if_pos rfl])
  clear hy
  obtain ⟨r,hr⟩:∃ r,r=(i - 1) / 2:=⟨_,rfl⟩
  have hrm:r<m:=by omega
  have HPA:=Lh (fun w=>parent_any i (by omega) w)
  rw [←hr] at HPA
  have HRR:=Lh hr
  clear hr
  obtain ⟨Y,hY⟩:∃ Y,ge y r=Y:=⟨_,rfl⟩
  obtain ⟨x0,x1⟩:=HD2.out
  obtain ⟨c0,c1,f0,f1,hql⟩:=HR2.out.row.at_ hrm
  rw [hY] at c0 c1
  have HBE:=Lh (fun w=>before_any X Y w)
  have hrm' : (r:Int)<(m:Int):=by omega
  have HS0:=Lh (show w2.drew.cell? ⟨p,0,none⟩=some (.int .i64 X.dl)∧w2.drew.cell? ⟨p,1,none⟩=some (.int .i64 X.id)∧w2.drew.cell? ⟨q,r*2,none⟩=some (.int .i64 Y.dl)∧w2.drew.cell? ⟨q,r*2+1,none⟩=some (.int .i64 Y.id) from ⟨x0,x1,c0,c1⟩)
  have hpl2:=World.block_lt_of_cell? w2 ⟨p,0,none⟩ x0
  have HSC:=Lh (fun w3 (hb:Below w2.drew.heap.size w2.drew w3)=>show (w3.cell? ⟨p,0,none⟩=some (.int .i64 X.dl)∧w3.cell? ⟨p,1,none⟩=some (.int .i64 X.id)∧w3.cell? ⟨q,r*2,none⟩=some (.int .i64 Y.dl)∧w3.cell? ⟨q,r*2+1,none⟩=some (.int .i64 Y.id))∧RwAt w1 q m y w3 from ⟨⟨(hb.cell (p:=⟨p,0,none⟩) hpl2).trans x0,(hb.cell (p:=⟨p,1,none⟩) hpl2).trans x1,(hb.cell (p:=⟨q,r*2,none⟩) hql).trans c0,(hb.cell (p:=⟨q,r*2+1,none⟩) hql).trans c1⟩,HR2.out.drew.below hb⟩)
  clear f0 f1 hql hpl2
  have HFI:=Lh (fun (z:List Du) (hz:z=cuF l i) w4 (hr4:RwAt w1 q m z w4)=>show DlV w (cuF l i) (.returned (.slice (some ⟨q,0,none⟩) m cap)) w4 from by
   subst hz
   have hcl:(cuF l i).length=m:=hr4.len
   exact ⟨some ⟨q,0,none⟩,cap,by rw [hcl],nw_some HQ.out.1,by rw [hcl];exact hr4.row.dl' hcl HM.out.1 HM.out.2,HB1.out.trans (hr4.bel.mono HQ.out.1)⟩)
  cases hb:bef X Y with
  | true=>
   have HCU:=Lh (show upF y i=cuF l i from by
    rw [HY.out,←HX.out,cuF_up HLEN.out (by omega)]
    rw [HX.out,←HY.out,HYI.out,←HRR.out,hY]
    exact hb)
   rw [hb] at HBE
   clear hb hY
   go_region_held3 (fun W=>W.cell? ⟨p,0,none⟩=some (.int .i64 X.dl)∧W.cell? ⟨p,1,none⟩=some (.int .i64 X.id)∧W.cell? ⟨q,r*2,none⟩=some (.int .i64 Y.dl)∧W.cell? ⟨q,r*2+1,none⟩=some (.int .i64 Y.id))
    (first | with_reducible exact HS0.out | with_reducible exact HS1.out)
    (first
    | (go_at_call 195;(with_reducible refine (HPA.out _).mono ?_);rintro e w3 ⟨rfl,rfl⟩)
    | (go_at_call 196;(with_reducible refine (HBE.out _).mono ?_);rintro e w3 ⟨rfl,hb3⟩;obtain ⟨hs3,hr3⟩:=HSC.out _ hb3;have HS1:=Lh hs3;have HR3:=Lh hr3;clear hb3 hs3 hr3))
   have HSU:=Lh (siftup_any q m cap i y w3 HR3.out.row HR3.out.len hilt (by omega))
   go_wp2_with fail
   refine HSU.out.mono ?_
   rintro e w4 ⟨rfl,hr4⟩
   have HF:=Lh (HFI.out _ HCU.out w4 ⟨hr4.row,hr4.len,HR3.out.bel.trans hr4.bel⟩)
   clear hr4
   go_wp2
   go_ret
   exact HF.out
  | false=>
   have HCU:=Lh (show dnF y i=cuF l i from by
    rw [HY.out,←HX.out,cuF_dn HLEN.out (by omega)]
    rw [HX.out,←HY.out,HYI.out,←HRR.out,hY]
    exact hb)
   rw [hb] at HBE
   clear hb hY
   go_region_held3 (fun W=>W.cell? ⟨p,0,none⟩=some (.int .i64 X.dl)∧W.cell? ⟨p,1,none⟩=some (.int .i64 X.id)∧W.cell? ⟨q,r*2,none⟩=some (.int .i64 Y.dl)∧W.cell? ⟨q,r*2+1,none⟩=some (.int .i64 Y.id))
    (first | with_reducible exact HS0.out | with_reducible exact HS1.out)
    (first
    | (go_at_call 195;(with_reducible refine (HPA.out _).mono ?_);rintro e w3 ⟨rfl,rfl⟩)
    | (go_at_call 196;(with_reducible refine (HBE.out _).mono ?_);rintro e w3 ⟨rfl,hb3⟩;obtain ⟨hs3,hr3⟩:=HSC.out _ hb3;have HS1:=Lh hs3;have HR3:=Lh hr3;clear hb3 hs3 hr3))
   have HSU:=Lh (siftdown_any q m cap i y w3 HR3.out.row HR3.out.len hilt (by omega))
   go_wp2_with fail
   refine HSU.out.mono ?_
   rintro e w4 ⟨rfl,hr4⟩
   have HF:=Lh (HFI.out _ HCU.out w4 ⟨hr4.row,hr4.len,HR3.out.bel.trans hr4.bel⟩)
   clear hr4
   go_wp2
   go_ret
   exact HF.out
theorem Dl.off {W:World} {B lo n c:Nat} {A:Option Addr} {l:List Du} (h:Dl W B (.slice A n c) l) (hA:Nw lo A) {p:Addr} (hp:p.block<lo) (v:Value):Dl (W.setCell p v) B (.slice A n c) l:=by
 obtain ⟨A',c',e,hl,hm,hr⟩:=h
 injection e with e1 e2 e3
 subst e1;subst e3
 refine ⟨A,c,by rw [e2],hl,hm,hr.1,fun h0=>?_⟩
 obtain ⟨b,o,e,hb,hc⟩:=hr.2 h0
 have hlo:=hA _ e
 exact ⟨b,o,e,hb,fun j u hu=>(World.cell?_setCell_other W _ _ v (fun e'=>by have e2:=congrArg Addr.block e';simp at e2 hlo;omega)).trans (hc j u hu)⟩
abbrev D2F (W:World) (p:Nat) (d:Du):Prop:=W.cell? ⟨p,0,none⟩=some (.int .i64 d.dl)∧W.cell? ⟨p,1,none⟩=some (.int .i64 d.id)∧W.frozen? ⟨p,0,none⟩=false∧W.frozen? ⟨p,1,none⟩=false∧p<W.heap.size
end Go.Proofs.YtncgbldcjfbknaaGreat
/- Plain: what Grant, Release, Extend of a table return; boxes of a table and of a message that may be written. -/
namespace Go.Proofs.YtncgbldcjfbknaaGreat
open Go.RowKit
set_option linter.unusedVariables false
noncomputable def rlH (l:List Le) (h:List Du) (id:Int):List Du:=if rlE l h id=0 then rmR h id else []
noncomputable def rlL (l:List Le) (h:List Du) (id:Int):List Le:=if rlE l h id=0 then l.eraseIdx (kAt Le.id l id) else []
noncomputable def rlM (l:List Le) (h:List Du) (id:Int):Msg:=if rlE l h id=0 then (lg l (kAt Le.id l id)).m else zM
noncomputable def grL (l:List Le) (h:List Du) (x:Le):List Le:=if grE l h x=0 then kIns Le.id l x else []
noncomputable def grH (l:List Le) (h:List Du) (x:Le):List Du:=if grE l h x=0 then hpu h x.du else []
def Le.till (x:Le) (d:Int):Le:=⟨x.m,d⟩
noncomputable def exL (l:List Le) (h:List Du) (id dl:Int):List Le:=if exE l h id dl=0 then l.set (kAt Le.id l id) ((lg l (kAt Le.id l id)).till dl) else []
noncomputable def exH (l:List Le) (h:List Du) (id dl:Int):List Du:=if exE l h id dl=0 then hpu (rmR h id) ⟨dl,id⟩ else []
section
variable {l:List Le} {h:List Du} {id dl:Int} {x:Le}
theorem hrm_tb (t:TbOk l h):hrmE h id=if kFi Le.id l id<0 then 4 else 0:=by
 rcases kFi_cases Le.id l id with ⟨e,_⟩ | ⟨k,hk,e,hi,_⟩
 ·rw [if_pos (by omega)]
  unfold hrmE
  rw [if_neg (by simpa using t.va),if_pos (by rw [t.no (by omega)];decide)]
 ·rw [if_neg (by omega),←hi]
  exact t.rm hk
theorem rlE_tb (t:TbOk l h):rlE l h id=hrmE h id:=by
 rw [hrm_tb t]
 unfold rlE
 rw [if_neg (by simpa using (tbV_iff l h).2 t)]
theorem rlE_bad (hv:tbV l h≠0):rlE l h id=tbV l h:=if_pos hv
theorem rlH_tb (t:TbOk l h):rlH l h id=rmR h id:=by
 unfold rlH
 rw [rlE_tb t]
 by_cases e:hrmE h id=0
 ·rw [if_pos e]
 ·rw [if_neg e];unfold rmR;rw [if_neg e]
theorem rlE_ne (e:rlE l h id≠0):rlH l h id=[]∧rlL l h id=[]∧rlM l h id=zM:=⟨if_neg e,if_neg e,if_neg e⟩
theorem rlE_at (e:rlE l h id=0):TbOk l h∧∃ k,∃ hk:k<l.length,kAt Le.id l id=k∧l[k].id=id∧rlH l h id=rmR h id∧rlL l h id=l.eraseIdx k∧rlM l h id=l[k].m:=by
 obtain ⟨t,k,hk,e1,e2⟩:=rlE_zero e
 have e3:kAt Le.id l id=k:=by have:=(kAt_fi t.asc (x:=id) (by omega)).1;omega
 refine ⟨t,k,hk,e3,e2,rlH_tb t,?_,?_⟩
 ·unfold rlL;rw [if_pos e,e3]
 ·unfold rlM;rw [if_pos e,e3,lg_get hk]
theorem grE_ne (e:grE l h x≠0):grL l h x=[]∧grH l h x=[]:=⟨if_neg e,if_neg e⟩
theorem exE_ne (e:exE l h id dl≠0):exL l h id dl=[]∧exH l h id dl=[]:=⟨if_neg e,if_neg e⟩
theorem exE_rl (e:rlE l h id≠0):exE l h id dl=rlE l h id:=by
 unfold exE
 unfold rlE at e ⊢
 by_cases h1:tbV l h≠0
 ·rw [if_pos h1,if_pos h1]
 ·rw [if_neg h1] at e ⊢
  rw [if_neg h1]
  by_cases h2:kFi Le.id l id<0
  ·rw [if_pos h2,if_pos h2]
  ·rw [if_neg h2] at e;exact absurd rfl e
theorem exE_ok (e:rlE l h id=0):exE l h id dl=hpuE (rmR h id) ⟨dl,id⟩:=by
 obtain ⟨t,k,hk,e3,e2,-,-,-⟩:=rlE_at e
 have t2:=t.release hk
 rw [e2] at t2
 have hid:=(vf_id (t.ok _ (List.getElem_mem hk)).1)
 have h1:exE l h id dl=if dl<0∨1073741824<dl then 1 else 0:=by
  unfold exE
  unfold rlE at e
  by_cases h1:tbV l h≠0
  ·rw [if_pos h1] at e;exact absurd e h1
  ·rw [if_neg h1] at e ⊢
   by_cases h2:kFi Le.id l id<0
   ·rw [if_pos h2] at e;exact absurd e (by decide)
   ·rw [if_neg h2]
 rw [h1]
 by_cases hd:dl<0∨1073741824<dl
 ·rw [if_pos hd]
  have hs:snd (⟨dl,id⟩:Du)=false:=decide_eq_false (fun h=>by have h0:0≤dl:=h.1;have h1:dl≤1073741824:=h.2.1;omega)
  unfold hpuE
  rw [if_neg (by simpa using t2.va),if_pos hs]
 ·rw [if_neg hd]
  have hs:snd (⟨dl,id⟩:Du)=true:=decide_eq_true ⟨by show 0≤dl;omega,by show dl≤1073741824;omega,by show 1≤id;rw [←e2];exact hid.1,by show id≤1073741824;rw [←e2];exact hid.2⟩
  have:=t.again hk hs (show (⟨dl,id⟩:Du).id=l[k].id from e2.symm)
  rw [e2] at this
  exact this.symm
theorem exE_at (e:exE l h id dl=0):TbOk l h∧∃ k,∃ hk:k<l.length,kAt Le.id l id=k∧l[k].id=id∧exH l h id dl=puR (rmR h id) ⟨dl,id⟩∧exL l h id dl=l.set k (l[k].till dl):=by
 have e0:rlE l h id=0:=(exE_zero e).1
 obtain ⟨t,k,hk,e3,e2,-,-,-⟩:=rlE_at e0
 refine ⟨t,k,hk,e3,e2,?_,?_⟩
 ·unfold exH puR;rw [if_pos e,if_pos (by rw [←exE_ok e0];exact e)]
 ·unfold exL;rw [if_pos e,e3,lg_get hk]
theorem grE_tb (h1:tbV l h≠0):grE l h x=tbV l h:=if_pos h1
theorem grE_le (h1:tbV l h=0) (h2:leE x≠0):grE l h x=leE x:=by
 unfold grE
 rw [if_neg (by simpa using h1)]
 unfold leE at h2 ⊢
 split
 ·rfl
 ·split
  ·rfl
  ·split
   ·rfl
   ·rename_i a b c;exact absurd (by rw [if_neg a,if_neg b,if_neg c]) h2
theorem grE_pu (h1:tbV l h=0) (h2:leE x=0):grE l h x=hpuE h x.du:=by
 have t:=(tbV_iff l h).1 h1
 obtain ⟨a,b,c,d⟩:=leE_zero.1 h2
 have ok:leOk x:=⟨a,b,c,d⟩
 have e2:hpuE h x.du=if l.length=12 then 3 else if 0≤ixD h x.id then 10 else 0:=by
  unfold hpuE
  rw [if_neg (by simpa using t.va),if_neg (by rw [ok.snd];decide),t.hlen]
  rfl
 rw [e2]
 unfold grE
 rw [if_neg (by simpa using h1),if_neg (by simpa using a),if_neg b,if_neg (by omega)]
 by_cases h3:l.length=12
 ·rw [if_pos h3,if_pos h3]
 ·rw [if_neg h3,if_neg h3]
  by_cases h4:0≤kFi Le.id l x.id
  ·rw [if_pos h4]
   rcases kFi_cases Le.id l x.id with ⟨e,_⟩ | ⟨k,hk,e,hi,_⟩
   ·omega
   ·obtain ⟨i,_,_,e2⟩:=t.at_ hk
    rw [if_pos (by show 0≤ixD h x.id;rw [←hi,e2];omega)]
  ·rw [if_neg h4,if_neg (by show ¬0≤ixD h x.id;rw [t.no (by omega)];decide)]
theorem grE_at (e:grE l h x=0):TbOk l h∧grH l h x=puR h x.du∧grL l h x=l.take (kAt Le.id l x.id)++x::l.drop (kAt Le.id l x.id)∧l.length<12:=by
 obtain ⟨t,ok,hl,hf⟩:=grE_zero e
 refine ⟨t,?_,?_,hl⟩
 ·unfold grH puR;rw [if_pos e,if_pos (t.push ok.snd hl hf)]
 ·unfold grL;rw [if_pos e];rfl
end
def TE (w:World) (l:List Le) (h:List Du) (x:Int) (e:Ending) (w' : World):Prop:=∃ A c A2 c2,e=.returned (.tuple #[.agg #[.slice A l.length c,.slice A2 h.length c2],.int .i64 x])∧Nw w.heap.size A∧Nw w.heap.size A2∧El w' w'.heap.size (.slice A l.length c) l∧Dl w' w'.heap.size (.slice A2 h.length c2) h∧Below w.heap.size w w'
def TME (w:World) (l:List Le) (h:List Du) (M:Msg) (x:Int) (e:Ending) (w' : World):Prop:=∃ A c A2 c2,e=.returned (.tuple #[.agg #[.slice A l.length c,.slice A2 h.length c2],M.v,.int .i64 x])∧Nw w.heap.size A∧Nw w.heap.size A2∧El w' w'.heap.size (.slice A l.length c) l∧Dl w' w'.heap.size (.slice A2 h.length c2) h∧Below w.heap.size w w'
theorem te_nil {w w' : World} {l:List Le} {h:List Du} {x y:Int} (hl:l=[]) (hh:h=[]) (hx:y=x) (hb:Below w.heap.size w w'):TE w l h x (.returned (.tuple #[.agg #[.slice none 0 0,.slice none 0 0],.int .i64 y])) w':=by
 subst hl hh hx;exact ⟨none,0,none,0,rfl,nw_none,nw_none,El.nil,Dl.nil,hb⟩
theorem tme_nil {w w' : World} {l:List Le} {h:List Du} {M:Msg} {x y:Int} (hl:l=[]) (hh:h=[]) (hM:M=zM) (hx:y=x) (hb:Below w.heap.size w w'):TME w l h M x (.returned (.tuple #[.agg #[.slice none 0 0,.slice none 0 0],zM.v,.int .i64 y])) w':=by
 subst hl hh hx hM;exact ⟨none,0,none,0,rfl,nw_none,nw_none,El.nil,Dl.nil,hb⟩
structure RT (W:World) (r:Nat) (A:Option Addr) (n c:Nat) (A2:Option Addr) (n2 c2:Nat):Prop where
 c0:W.cell? ⟨r,0,none⟩=some (.slice A n c)
 c1:W.cell? ⟨r,1,none⟩=some (.slice A2 n2 c2)
 f0:W.frozen? ⟨r,0,none⟩=false
 f1:W.frozen? ⟨r,1,none⟩=false
 lt:r<W.heap.size
section
variable {W W' w:World} {r n c n2 c2:Nat} {A A2:Option Addr}
theorem RT.below {B:Nat} (h:RT W r A n c A2 n2 c2) (hb:Below B W W') (hr:r<B):RT W' r A n c A2 n2 c2:=
 ⟨(hb.cell (p:=⟨r,0,none⟩) hr).trans h.c0,(hb.cell (p:=⟨r,1,none⟩) hr).trans h.c1,(hb.frozen (p:=⟨r,0,none⟩) hr).trans h.f0,(hb.frozen (p:=⟨r,1,none⟩) hr).trans h.f1,Nat.lt_of_lt_of_le h.lt hb.size⟩
theorem RT.start (w:World) (A:Option Addr) (n c:Nat) (A2:Option Addr) (n2 c2:Nat) (t:TypeId):RT (w.alloc (.cells #[.slice A n c,.slice A2 n2 c2] t)) w.heap.size A n c A2 n2 c2:=
 ⟨by simp [go_sem],by simp [go_sem],by simp [go_sem],by simp [go_sem],by simp⟩
abbrev set2 (W:World) (r:Nat) (v v2:Value):World:=(W.setCell ⟨r,0,none⟩ v).setCell ⟨r,1,none⟩ v2
theorem set2_far {v v2:Value} {p:Addr} (hp:p.block≠r):(set2 W r v v2).cell? p=W.cell? p:=by
 rw [World.cell?_setCell_other _ _ _ _ (fun e=>hp (by rw [←e])),World.cell?_setCell_other _ _ _ _ (fun e=>hp (by rw [←e]))]
theorem set2_frozen {v v2:Value} {p:Addr}:(set2 W r v v2).frozen? p=W.frozen? p:=by rw [World.frozen?_setCell,World.frozen?_setCell]
theorem set2_size {v v2:Value}:(set2 W r v v2).heap.size=W.heap.size:=by simp
theorem set2_below {B:Nat} {v v2:Value} (h:Below B w W) (hr:B≤r):Below B w (set2 W r v v2):=(h.setCell (p:=⟨r,0,none⟩) hr _).setCell (p:=⟨r,1,none⟩) hr _
theorem El.set2 {B lo m d:Nat} {D:Option Addr} {l:List Le} {v v2:Value} (h:El W B (.slice D m d) l) (hA:Nw lo D) (hr:r<lo):El (set2 W r v v2) B (.slice D m d) l:=(h.off hA (p:=⟨r,0,none⟩) hr _).off hA (p:=⟨r,1,none⟩) hr _
theorem Dl.set2 {B lo m d:Nat} {D:Option Addr} {l:List Du} {v v2:Value} (h:Dl W B (.slice D m d) l) (hA:Nw lo D) (hr:r<lo):Dl (set2 W r v v2) B (.slice D m d) l:=(h.off hA (p:=⟨r,0,none⟩) hr _).off hA (p:=⟨r,1,none⟩) hr _
theorem El.offs {B lo m d:Nat} {D:Option Addr} {l:List Le} {s:Nat} (hA:Nw lo D) (hr:s<lo):∀ (vs:List Value) (o:Nat) {W:World},El W B (.slice D m d) l→El (W.setCells s o vs) B (.slice D m d) l
 | [],_,_,h=>h
 | v::vs,o,W,h=>El.offs hA hr vs (o+1) (h.off hA (p:=⟨s,o,none⟩) hr v)
theorem Dl.offs {B lo m d:Nat} {D:Option Addr} {l:List Du} {s:Nat} (hA:Nw lo D) (hr:s<lo):∀ (vs:List Value) (o:Nat) {W:World},Dl W B (.slice D m d) l→Dl (W.setCells s o vs) B (.slice D m d) l
 | [],_,_,h=>h
 | v::vs,o,W,h=>Dl.offs hA hr vs (o+1) (h.off hA (p:=⟨s,o,none⟩) hr v)
end
end Go.Proofs.YtncgbldcjfbknaaGreat
/- Plain: shards: their first error, valid shards, what changes of their rings and tables give. -/
namespace Go.Proofs.YtncgbldcjfbknaaGreat
open Go.RowKit
set_option linter.unusedVariables false
structure Sh where
 lv:Bool
 lo:Int
 hi:Int
 cs:List Msg
 hd:Int
 sz:Int
 l:List Le
 h:List Du
def zS:Sh:=⟨false,0,0,[],0,0,[],[]⟩
structure Sx where
 A:Option Addr
 c:Nat
 A2:Option Addr
 c2:Nat
 A3:Option Addr
 c3:Nat
noncomputable def Sh.al (S:Sh):List Msg:=lsF S.cs S.hd S.sz++S.l.map Le.m
def spB (lo hi:Int):Bool:=decide (0≤lo∧lo≤hi∧hi<65536)
theorem spB_iff {lo hi:Int}:spB lo hi=true↔0≤lo∧lo≤hi∧hi<65536:=decide_eq_true_iff
def rtB (lo hi:Int) (l:List Msg):Bool:=l.any (fun M=>!wi M.rt lo hi)
theorem rtB_no {lo hi:Int} {l:List Msg}:rtB lo hi l=false↔∀ M∈l,lo≤M.rt∧M.rt≤hi:=by
 unfold rtB
 rw [List.any_eq_false]
 refine forall_congr' fun M=>imp_congr_right fun _=>?_
 cases h:wi M.rt lo hi with
 | true=>have:=wi_of h;simp;omega
 | false=>
  simp
  intro h1
  have h2:¬M.rt≤hi:=fun h2=>by rw [wi_true h1 h2] at h;cases h
  omega
noncomputable def liE (S:Sh):Int:=if spB S.lo S.hi=false then 1 else if (S.cs.length:Int)<S.sz+S.l.length then 3 else if rtB S.lo S.hi S.al=true then 12 else if dpB S.al=true then 10 else 0
noncomputable def shV (S:Sh):Int:=if rgV S.cs S.hd S.sz≠0 then rgV S.cs S.hd S.sz else if tbV S.l S.h≠0 then tbV S.l S.h else if S.lv=true then liE S else if S.lo≠0∨S.hi≠0∨0<S.sz+S.l.length then 7 else 0
noncomputable def exS (S:Sh) (b:Bool):Int:=if shV S≠0 then shV S else if S.lv=false then 7 else if b=true then 0 else 1
theorem exS_bad {S:Sh} (b:Bool) (h:shV S≠0):exS S b=shV S:=if_pos h
theorem exS_off {S:Sh} (b:Bool) (h:shV S=0) (h1:S.lv=false):exS S b=7:=by unfold exS;rw [if_neg (by simpa using h),if_pos h1]
theorem exS_num {S:Sh} {b:Bool} (h:shV S=0) (h1:S.lv=true) (hb:b=false):exS S b=1:=by unfold exS;rw [if_neg (by simpa using h),if_neg (by simp [h1]),if_neg (by simp [hb])]
theorem exS_ok {S:Sh} {b:Bool} (h:shV S=0) (h1:S.lv=true) (hb:b=true):exS S b=0:=by unfold exS;rw [if_neg (by simpa using h),if_neg (by simp [h1]),if_pos hb]
theorem exS_zero {S:Sh} {b:Bool} (h:exS S b=0):shV S=0∧S.lv=true∧b=true:=by
 by_cases h0:shV S=0
 ·cases h1:S.lv with
  | false=>rw [exS_off b h0 h1] at h;exact absurd h (by decide)
  | true=>
   cases hb:b with
   | false=>rw [exS_num h0 h1 hb] at h;exact absurd h (by decide)
   | true=>exact ⟨h0,rfl,rfl⟩
 ·rw [exS_bad b h0] at h;exact absurd h h0
structure Vs where
 lo:Int
 hi:Int
 n:Nat
 hd:Nat
 L:List Msg
 l:List Le
 h:List Du
def Vs.sh (V:Vs):Sh:=⟨true,V.lo,V.hi,fil V.n V.hd V.L,V.hd,V.L.length,V.l,V.h⟩
def Vs.al (V:Vs):List Msg:=V.L++V.l.map Le.m
structure Vs.Ok (V:Vs):Prop where
 n1:1≤V.n
 n2:V.n≤12
 hh:V.hd<V.n
 tb:TbOk V.l V.h
 sp:0≤V.lo∧V.lo≤V.hi∧V.hi<65536
 room:V.L.length+V.l.length≤V.n
 gd:Gd V.al
 own:∀ M∈V.al,V.lo≤M.rt∧M.rt≤V.hi
section
variable {V:Vs}
theorem Vs.Ok.gL (k:V.Ok):Gd V.L:=gd_sub (List.sublist_append_left _ _) k.gd
theorem Vs.Ok.lenL (k:V.Ok):V.L.length≤V.n:=by have:=k.room;omega
theorem Vs.Ok.ls (k:V.Ok):lsF (fil V.n V.hd V.L) (V.hd:Int) (V.L.length:Int)=V.L:=lsF_fil k.n1 k.n2 k.hh k.lenL k.gL
theorem Vs.Ok.al_sh (k:V.Ok):V.sh.al=V.al:=by
 show lsF (fil V.n V.hd V.L) (V.hd:Int) (V.L.length:Int)++_=_
 rw [k.ls];rfl
theorem Vs.Ok.rg (k:V.Ok):rgV (fil V.n V.hd V.L) (V.hd:Int) (V.L.length:Int)=0:=rgV_fil k.n1 k.n2 k.hh k.lenL k.gL
theorem Vs.Ok.li (k:V.Ok):liE V.sh=0:=by
 unfold liE
 rw [if_neg (by rw [show spB V.sh.lo V.sh.hi=true from spB_iff.2 k.sp];decide),if_neg (by show ¬((fil V.n V.hd V.L).length:Int)<(V.L.length:Int)+V.l.length;rw [fil_len];have:=k.room;omega),k.al_sh,
  if_neg (by rw [show rtB V.sh.lo V.sh.hi V.al=false from rtB_no.2 k.own];decide),if_neg (by rw [dpB_no k.gd.2];decide)]
theorem Vs.Ok.va (k:V.Ok):shV V.sh=0:=by
 unfold shV
 rw [if_neg (fun h=>h k.rg),if_neg (fun h=>h ((tbV_iff V.l V.h).2 k.tb)),if_pos (show V.sh.lv=true from rfl)]
 exact k.li
theorem Vs.Ok.ex (k:V.Ok) (b:Bool):exS V.sh b=if b=true then 0 else 1:=by
 cases b with
 | true=>exact exS_ok k.va rfl rfl
 | false=>exact exS_num k.va rfl rfl
end
theorem vs_of {S:Sh} (h:shV S=0) (h1:S.lv=true):∃ V:Vs,V.Ok∧S=V.sh:=by
 unfold shV at h
 by_cases e1:rgV S.cs S.hd S.sz=0
 ·rw [if_neg (by simpa using e1)] at h
  by_cases e2:tbV S.l S.h=0
  ·rw [if_neg (by simpa using e2),if_pos h1] at h
   obtain ⟨g1,g2,g3,g4⟩:=rgV_zero e1
   obtain ⟨⟨n1,n2⟩,⟨d1,d2⟩,⟨s1,s2⟩⟩:=nm_of g1
   obtain ⟨d,hd⟩:=Int.eq_ofNat_of_zero_le d1
   obtain ⟨s,hs⟩:=Int.eq_ofNat_of_zero_le s1
   have hL:lsF S.cs S.hd S.sz=ord S.cs d s:=by
    unfold lsF
    rw [if_pos e1,hd,hs];simp only [Int.toNat_natCast]
   have hal:S.al=ord S.cs d s++S.l.map Le.m:=by unfold Sh.al;rw [hL]
   have hcs:fil S.cs.length d (ord S.cs d s)=S.cs:=fil_ord (by omega) (fun k hk hlt=>g2 k (by rw [hs];simpa using hk) hlt |> fun e=>by rw [hd] at e;simpa using e)
   have t:=(tbV_iff S.l S.h).1 e2
   unfold liE at h
   cases q1:spB S.lo S.hi with
   | false=>rw [if_pos q1] at h;exact absurd h (by decide)
   | true=>
    rw [if_neg (by simp [q1])] at h
    by_cases q2:(S.cs.length:Int)<S.sz+S.l.length
    ·rw [if_pos q2] at h;exact absurd h (by decide)
    ·rw [if_neg q2] at h
     cases q3:rtB S.lo S.hi S.al with
     | true=>rw [if_pos q3] at h;exact absurd h (by decide)
     | false=>
      rw [if_neg (by simp [q3])] at h
      cases q4:dpB S.al with
      | true=>rw [if_pos q4] at h;exact absurd h (by decide)
      | false=>
       refine ⟨⟨S.lo,S.hi,S.cs.length,d,ord S.cs d s,S.l,S.h⟩,⟨by show 1≤S.cs.length;omega,by show S.cs.length≤12;omega,by show d<S.cs.length;omega,t,spB_iff.1 q1,by show (ord S.cs d s).length+S.l.length≤S.cs.length;rw [ord_len];omega,⟨?_,?_⟩,?_⟩,?_⟩
       ·intro M hM
        rcases List.mem_append.1 hM with hM | hM
        ·exact fe_zero (by rw [hd,hs] at g3;simpa using g3) M hM
        ·obtain ⟨x,hx,rfl⟩:=List.mem_map.1 hM
         exact (t.ok x hx).1
       ·show ¬dupP (ord S.cs d s++S.l.map Le.m)
        rw [←hal];exact dpB_not q4
       ·intro M hM
        exact rtB_no.1 q3 M (by rw [hal];exact hM)
       ·cases S with
        | mk lv lo hi cs hd' sz l hh=>
         simp only at*
         subst h1 hd hs
         show _=Sh.mk true lo hi (fil cs.length d (ord cs d s)) d (ord cs d s).length l hh
         rw [hcs,ord_len]
  ·rw [if_pos e2] at h;exact absurd h e2
 ·rw [if_pos e1] at h;exact absurd h e1
theorem vs_ex {S:Sh} {b:Bool} (h:exS S b=0):b=true∧∃ V:Vs,V.Ok∧S=V.sh:=by
 obtain ⟨h0,h1,h2⟩:=exS_zero h
 exact ⟨h2,vs_of h0 h1⟩
end Go.Proofs.YtncgbldcjfbknaaGreat
/- Plain: shards in memory: where the lists of a shard lie, a box of the call's own that holds a shard. -/
namespace Go.Proofs.YtncgbldcjfbknaaGreat
open Go.RowKit
set_option linter.unusedVariables false
abbrev sv (S:Sh) (D:Sx):Value:=.agg #[.bool S.lv,.int .i64 S.lo,.int .i64 S.hi,.slice D.A S.cs.length D.c,.int .i64 S.hd,.int .i64 S.sz,.slice D.A2 S.l.length D.c2,.slice D.A3 S.h.length D.c3]
structure SR (W:World) (B:Nat) (S:Sh) (D:Sx):Prop where
 ls:Ls W B (.slice D.A S.cs.length D.c) S.cs
 el:El W B (.slice D.A2 S.l.length D.c2) S.l
 dl:Dl W B (.slice D.A3 S.h.length D.c3) S.h
def OffB (p n:Nat) (A:Option Addr):Prop:=0<n→∀ a,A=some a→a.block≠p
theorem offb_none {p n:Nat}:OffB p n none:=fun _ a h=>by cases h
theorem offb_nw {p n lo:Nat} {A:Option Addr} (h:Nw lo A) (hp:p<lo):OffB p n A:=fun _ a e=>by have:=h a e;omega
structure SOff (S:Sh) (D:Sx) (p:Nat):Prop where
 o1:OffB p S.cs.length D.A
 o2:OffB p S.l.length D.A2
 o3:OffB p S.h.length D.A3
structure Sx.nw (D:Sx) (lo:Nat):Prop where
 n1:Nw lo D.A
 n2:Nw lo D.A2
 n3:Nw lo D.A3
theorem Sx.nw.off {S:Sh} {D:Sx} {lo p:Nat} (h:D.nw lo) (hp:p<lo):SOff S D p:=⟨offb_nw h.n1 hp,offb_nw h.n2 hp,offb_nw h.n3 hp⟩
theorem Sx.nw.low {D:Sx} {lo lo' : Nat} (h:D.nw lo) (hp:lo'≤lo):D.nw lo':=⟨nw_low h.n1 hp,nw_low h.n2 hp,nw_low h.n3 hp⟩
def zX:Sx:=⟨none,0,none,0,none,0⟩
theorem zX_nw (lo:Nat):zX.nw lo:=⟨nw_none,nw_none,nw_none⟩
section
variable {W W' : World} {B B' : Nat} {S:Sh} {D:Sx}
theorem SR.below (h:SR W B S D) (hb:Below B W W'):SR W' B S D:=⟨h.ls.below hb,h.el.below hb,h.dl.below hb⟩
theorem SR.more (h:SR W B S D) (hB:B≤B'):SR W B' S D:=⟨h.ls.more hB,h.el.more hB,h.dl.more hB⟩
theorem SR.up (h:SR W W.heap.size S D) (hb:Below W.heap.size W W'):SR W' W'.heap.size S D:=(h.below hb).more hb.size
theorem SR.zero:SR W B zS zX:=⟨Ls.nil,El.nil,Dl.nil⟩
theorem rd_off {size n:Nat} {A:Option Addr} {xs:List Value} (h:Rd W B size A n xs) {p:Nat} (hp:B≤p):OffB p n A:=fun hn a e=>by
 obtain ⟨b,o,e2,hb,_⟩:=h.2 hn
 rw [e2] at e;injection e with e;subst e;show b≠p;omega
theorem Rd.offp {size n:Nat} {A:Option Addr} {xs:List Value} (h:Rd W B size A n xs) {p:Addr} (ho:OffB p.block n A) (v:Value):Rd (W.setCell p v) B size A n xs:=
 ⟨h.1,fun hn=>by
  obtain ⟨b,o,e,hb,hc⟩:=h.2 hn
  have:=ho hn _ e
  exact ⟨b,o,e,hb,fun j u hu=>(World.cell?_setCell_other W p _ v (fun e'=>by have e2:=congrArg Addr.block e';simp at e2 this;omega)).trans (hc j u hu)⟩⟩
theorem Ls.offp {A:Option Addr} {n c:Nat} {l:List Msg} (h:Ls W B (.slice A n c) l) {p:Addr} (ho:OffB p.block n A) (v:Value):Ls (W.setCell p v) B (.slice A n c) l:=by
 obtain ⟨h1,h2,h3⟩:=h.len
 subst h1
 exact ⟨A,c,rfl,h2,h3,h.rd.offp ho v⟩
theorem El.offp {A:Option Addr} {n c:Nat} {l:List Le} (h:El W B (.slice A n c) l) {p:Addr} (ho:OffB p.block n A) (v:Value):El (W.setCell p v) B (.slice A n c) l:=by
 obtain ⟨h1,h2,h3⟩:=h.len
 subst h1
 exact ⟨A,c,rfl,h2,h3,h.rd.offp ho v⟩
theorem Dl.offp {A:Option Addr} {n c:Nat} {l:List Du} (h:Dl W B (.slice A n c) l) {p:Addr} (ho:OffB p.block n A) (v:Value):Dl (W.setCell p v) B (.slice A n c) l:=by
 obtain ⟨h1,h2,h3⟩:=h.len
 subst h1
 exact ⟨A,c,rfl,h2,h3,h.rd.offp ho v⟩
theorem SR.offp (h:SR W B S D) {p:Addr} (ho:SOff S D p.block) (v:Value):SR (W.setCell p v) B S D:=⟨h.ls.offp ho.o1 v,h.el.offp ho.o2 v,h.dl.offp ho.o3 v⟩
end
structure SB8 (W:World) (p:Nat) (S:Sh) (D:Sx):Prop where
 c0:W.cell? ⟨p,0,none⟩=some (.bool S.lv)
 c1:W.cell? ⟨p,1,none⟩=some (.int .i64 S.lo)
 c2:W.cell? ⟨p,2,none⟩=some (.int .i64 S.hi)
 c3:W.cell? ⟨p,3,none⟩=some (.slice D.A S.cs.length D.c)
 c4:W.cell? ⟨p,4,none⟩=some (.int .i64 S.hd)
 c5:W.cell? ⟨p,5,none⟩=some (.int .i64 S.sz)
 c6:W.cell? ⟨p,6,none⟩=some (.slice D.A2 S.l.length D.c2)
 c7:W.cell? ⟨p,7,none⟩=some (.slice D.A3 S.h.length D.c3)
 fr:∀ o,W.frozen? ⟨p,o,none⟩=false
 lt:p<W.heap.size
section
variable {W W' : World} {p:Nat} {S:Sh} {D:Sx}
theorem SB8.keep (h:SB8 W p S D) (hc:∀ o,W'.cell? ⟨p,o,none⟩=W.cell? ⟨p,o,none⟩) (hf:∀ o,W'.frozen? ⟨p,o,none⟩=W.frozen? ⟨p,o,none⟩) (hs:W.heap.size≤W'.heap.size):SB8 W' p S D:=
 ⟨(hc 0).trans h.c0,(hc 1).trans h.c1,(hc 2).trans h.c2,(hc 3).trans h.c3,(hc 4).trans h.c4,(hc 5).trans h.c5,(hc 6).trans h.c6,(hc 7).trans h.c7,fun o=>(hf o).trans (h.fr o),Nat.lt_of_lt_of_le h.lt hs⟩
theorem SB8.below {B:Nat} (h:SB8 W p S D) (hb:Below B W W') (hp:p<B):SB8 W' p S D:=h.keep (fun o=>hb.cell (p:=⟨p,o,none⟩) hp) (fun o=>hb.frozen (p:=⟨p,o,none⟩) hp) hb.size
theorem SB8.up (h:SB8 W p S D) (hb:Below W.heap.size W W'):SB8 W' p S D:=h.below hb h.lt
theorem SB8.other (h:SB8 W p S D) {q:Addr} (hq:q.block≠p) (v:Value):SB8 (W.setCell q v) p S D:=
 h.keep (fun o=>World.cell?_setCell_other W q _ v (fun e=>hq (by rw [e]))) (fun o=>by rw [World.frozen?_setCell]) (by simp)
theorem SB8.start (w:World) (S:Sh) (D:Sx) (t:TypeId):SB8 (w.alloc (.cells #[.bool S.lv,.int .i64 S.lo,.int .i64 S.hi,.slice D.A S.cs.length D.c,.int .i64 S.hd,.int .i64 S.sz,.slice D.A2 S.l.length D.c2,.slice D.A3 S.h.length D.c3] t)) w.heap.size S D:=
 ⟨by simp [go_sem],by simp [go_sem],by simp [go_sem],by simp [go_sem],by simp [go_sem],by simp [go_sem],by simp [go_sem],by simp [go_sem],fun o=>by simp [go_sem],by simp⟩
theorem SB8.zero (w:World) (t:TypeId):SB8 (w.alloc (.cells #[.bool false,.int .i64 0,.int .i64 0,.slice none 0 0,.int .i64 0,.int .i64 0,.slice none 0 0,.slice none 0 0] t)) w.heap.size zS zX:=SB8.start w zS zX t
theorem SB8.facts (h:SB8 W p S D):W.cell? ⟨p,0,none⟩=some (.bool S.lv)∧W.cell? ⟨p,1,none⟩=some (.int .i64 S.lo)∧W.cell? ⟨p,2,none⟩=some (.int .i64 S.hi)∧W.cell? ⟨p,3,none⟩=some (.slice D.A S.cs.length D.c)∧W.cell? ⟨p,4,none⟩=some (.int .i64 S.hd)∧W.cell? ⟨p,5,none⟩=some (.int .i64 S.sz)∧W.cell? ⟨p,6,none⟩=some (.slice D.A2 S.l.length D.c2)∧W.cell? ⟨p,7,none⟩=some (.slice D.A3 S.h.length D.c3)∧p<W.heap.size:=
 ⟨h.c0,h.c1,h.c2,h.c3,h.c4,h.c5,h.c6,h.c7,h.lt⟩
theorem SB8.free (h:SB8 W p S D):W.frozen? ⟨p,0,none⟩=false∧W.frozen? ⟨p,1,none⟩=false∧W.frozen? ⟨p,2,none⟩=false∧W.frozen? ⟨p,3,none⟩=false∧W.frozen? ⟨p,4,none⟩=false∧W.frozen? ⟨p,5,none⟩=false∧W.frozen? ⟨p,6,none⟩=false∧W.frozen? ⟨p,7,none⟩=false:=
 ⟨h.fr 0,h.fr 1,h.fr 2,h.fr 3,h.fr 4,h.fr 5,h.fr 6,h.fr 7⟩
theorem addr_ne {p a b:Nat} (h:a≠b):(⟨p,a,none⟩:Addr)≠⟨p,b,none⟩:=fun e=>h (by injection e)
theorem SB8.setRing (h:SB8 W p S D) (A:Option Addr) (c:Nat) (cs:List Msg) (hd sz:Int):SB8 (((W.setCell ⟨p,3,none⟩ (.slice A cs.length c)).setCell ⟨p,4,none⟩ (.int .i64 hd)).setCell ⟨p,5,none⟩ (.int .i64 sz)) p ⟨S.lv,S.lo,S.hi,cs,hd,sz,S.l,S.h⟩ ⟨A,c,D.A2,D.c2,D.A3,D.c3⟩:=by
 refine ⟨?_,?_,?_,?_,?_,?_,?_,?_,fun o=>by rw [World.frozen?_setCell,World.frozen?_setCell,World.frozen?_setCell];exact h.fr o,by simpa using h.lt⟩
 ·rw [World.cell?_setCell_other _ _ _ _ (addr_ne (by decide)),World.cell?_setCell_other _ _ _ _ (addr_ne (by decide)),World.cell?_setCell_other _ _ _ _ (addr_ne (by decide))];exact h.c0
 ·rw [World.cell?_setCell_other _ _ _ _ (addr_ne (by decide)),World.cell?_setCell_other _ _ _ _ (addr_ne (by decide)),World.cell?_setCell_other _ _ _ _ (addr_ne (by decide))];exact h.c1
 ·rw [World.cell?_setCell_other _ _ _ _ (addr_ne (by decide)),World.cell?_setCell_other _ _ _ _ (addr_ne (by decide)),World.cell?_setCell_other _ _ _ _ (addr_ne (by decide))];exact h.c2
 ·rw [World.cell?_setCell_other _ _ _ _ (addr_ne (by decide)),World.cell?_setCell_other _ _ _ _ (addr_ne (by decide)),World.cell?_setCell_same' _ _ _ (by rw [h.c3];rfl)]
 ·rw [World.cell?_setCell_other _ _ _ _ (addr_ne (by decide)),World.cell?_setCell_same' _ _ _ (by rw [World.cell?_setCell_other _ _ _ _ (addr_ne (by decide)),h.c4];rfl)]
 ·rw [World.cell?_setCell_same' _ _ _ (by rw [World.cell?_setCell_other _ _ _ _ (addr_ne (by decide)),World.cell?_setCell_other _ _ _ _ (addr_ne (by decide)),h.c5];rfl)]
 ·rw [World.cell?_setCell_other _ _ _ _ (addr_ne (by decide)),World.cell?_setCell_other _ _ _ _ (addr_ne (by decide)),World.cell?_setCell_other _ _ _ _ (addr_ne (by decide))];exact h.c6
 ·rw [World.cell?_setCell_other _ _ _ _ (addr_ne (by decide)),World.cell?_setCell_other _ _ _ _ (addr_ne (by decide)),World.cell?_setCell_other _ _ _ _ (addr_ne (by decide))];exact h.c7
theorem SB8.setTab (h:SB8 W p S D) (A2:Option Addr) (c2:Nat) (A3:Option Addr) (c3:Nat) (l:List Le) (hh:List Du):SB8 ((W.setCell ⟨p,6,none⟩ (.slice A2 l.length c2)).setCell ⟨p,7,none⟩ (.slice A3 hh.length c3)) p ⟨S.lv,S.lo,S.hi,S.cs,S.hd,S.sz,l,hh⟩ ⟨D.A,D.c,A2,c2,A3,c3⟩:=by
 have g:∀ (j:Nat) (v:Value),j≠6→j≠7→W.cell? ⟨p,j,none⟩=some v→((W.setCell ⟨p,6,none⟩ (.slice A2 l.length c2)).setCell ⟨p,7,none⟩ (.slice A3 hh.length c3)).cell? ⟨p,j,none⟩=some v:=fun j v h6 h7 e=>by
  rw [World.cell?_setCell_other _ _ _ _ (addr_ne h7.symm),World.cell?_setCell_other _ _ _ _ (addr_ne h6.symm)];exact e
 refine ⟨g 0 _ (by decide) (by decide) h.c0,g 1 _ (by decide) (by decide) h.c1,g 2 _ (by decide) (by decide) h.c2,g 3 _ (by decide) (by decide) h.c3,g 4 _ (by decide) (by decide) h.c4,g 5 _ (by decide) (by decide) h.c5,?_,?_,fun o=>by rw [World.frozen?_setCell,World.frozen?_setCell];exact h.fr o,by simpa using h.lt⟩
 ·rw [World.cell?_setCell_other _ _ _ _ (addr_ne (by decide)),World.cell?_setCell_same' _ _ _ (by rw [h.c6];rfl)]
 ·rw [World.cell?_setCell_same' _ _ _ (by rw [World.cell?_setCell_other _ _ _ _ (addr_ne (by decide)),h.c7];rfl)]
abbrev set8s (W:World) (p:Nat) (S:Sh) (D:Sx):World:=(((((((W.setCell ⟨p,0,none⟩ (.bool S.lv)).setCell ⟨p,1,none⟩ (.int .i64 S.lo)).setCell ⟨p,2,none⟩ (.int .i64 S.hi)).setCell ⟨p,3,none⟩ (.slice D.A S.cs.length D.c)).setCell ⟨p,4,none⟩ (.int .i64 S.hd)).setCell ⟨p,5,none⟩ (.int .i64 S.sz)).setCell ⟨p,6,none⟩ (.slice D.A2 S.l.length D.c2)).setCell ⟨p,7,none⟩ (.slice D.A3 S.h.length D.c3)
def Sh.l8 (S:Sh) (D:Sx):List Value:=[.bool S.lv,.int .i64 S.lo,.int .i64 S.hi,.slice D.A S.cs.length D.c,.int .i64 S.hd,.int .i64 S.sz,.slice D.A2 S.l.length D.c2,.slice D.A3 S.h.length D.c3]
theorem set8s_eq (W:World) (p:Nat) (S:Sh) (D:Sx):set8s W p S D=W.setCells p 0 (S.l8 D):=rfl
theorem set8s_size (W:World) (p:Nat) (S:Sh) (D:Sx):(set8s W p S D).heap.size=W.heap.size:=sets_size p (S.l8 D) 0 W
theorem set8s_below {B:Nat} {a:World} (hp:B≤p) (h:Below B a W) (S:Sh) (D:Sx):Below B a (set8s W p S D):=sets_below hp (S.l8 D) 0 W h
theorem set8s_far {q:Addr} (hq:q.block≠p):(set8s W p S D).cell? q=W.cell? q:=sets_far hq 0 (S.l8 D)
theorem SB8.put {S0:Sh} {D0:Sx} (h:SB8 W p S0 D0) (S:Sh) (D:Sx):SB8 (set8s W p S D) p S D:=by
 have ht:∀ j,j<(S.l8 D).length→(W.cell? ⟨p,0+j,none⟩).isSome=true:=by
  intro j hj
  rw [Nat.zero_add]
  have hj8:j<8:=hj
  match j,hj8 with
  | 0,_=>rw [h.c0];rfl
  | 1,_=>rw [h.c1];rfl
  | 2,_=>rw [h.c2];rfl
  | 3,_=>rw [h.c3];rfl
  | 4,_=>rw [h.c4];rfl
  | 5,_=>rw [h.c5];rfl
  | 6,_=>rw [h.c6];rfl
  | 7,_=>rw [h.c7];rfl
 have g:∀ j,j<8→(set8s W p S D).cell? ⟨p,j,none⟩=(S.l8 D)[j]?:=fun j hj=>by
  have e:=World.cell?_setCells_in p (S.l8 D) 0 W ht j hj
  rw [Nat.zero_add] at e
  rw [set8s_eq,e,List.getElem?_eq_getElem (show j<(S.l8 D).length from hj)]
  rfl
 exact ⟨g 0 (by decide),g 1 (by decide),g 2 (by decide),g 3 (by decide),g 4 (by decide),g 5 (by decide),g 6 (by decide),g 7 (by decide),fun o=>by rw [set8s_eq,World.frozen?_setCells];exact h.fr o,by rw [set8s_size];exact h.lt⟩
end
structure SAt (w:World) (p:Nat) (S:Sh) (D:Sx) (W:World):Prop where
 s8:SB8 W p S D
 sr:SR W W.heap.size S D
 off:SOff S D p
 bel:Below w.heap.size w W
 old:w.heap.size≤p
theorem SR.offs {w:World} {S:Sh} {D:Sx} {B p:Nat} (h:SR w B S D) (hp:B≤p):SOff S D p:=⟨rd_off h.ls.rd hp,rd_off h.el.rd hp,rd_off h.dl.rd hp⟩
section
variable {w W W' : World} {p:Nat} {S:Sh} {D:Sx}
theorem SAt.below (h:SAt w p S D W) (hb:Below W.heap.size W W'):SAt w p S D W':=⟨h.s8.up hb,h.sr.up hb,h.off,h.bel.trans (hb.mono h.bel.size),h.old⟩
theorem SAt.alloc (h:SAt w p S D W) (o:Obj):SAt w p S D (W.alloc o):=h.below ((Below.refl _ _).alloc (Nat.le_refl _) o)
theorem SAt.drew (h:SAt w p S D W):SAt w p S D W.drew:=h.below ((Below.refl _ _).drew)
theorem SAt.start (t:TypeId) (h:SR w w.heap.size S D):SAt w w.heap.size S D (w.alloc (.cells #[.bool S.lv,.int .i64 S.lo,.int .i64 S.hi,.slice D.A S.cs.length D.c,.int .i64 S.hd,.int .i64 S.sz,.slice D.A2 S.l.length D.c2,.slice D.A3 S.h.length D.c3] t)):=
 ⟨SB8.start w S D t,h.up ((Below.refl _ _).alloc (Nat.le_refl _) _),h.offs (Nat.le_refl _),(Below.refl _ _).alloc (Nat.le_refl _) _,Nat.le_refl _⟩
theorem SAt.setRing (h:SAt w p S D W) {A:Option Addr} {c:Nat} {cs:List Msg} (hd sz:Int) (hl:Ls W W.heap.size (.slice A cs.length c) cs) (ho:OffB p cs.length A):SAt w p ⟨S.lv,S.lo,S.hi,cs,hd,sz,S.l,S.h⟩ ⟨A,c,D.A2,D.c2,D.A3,D.c3⟩ (((W.setCell ⟨p,3,none⟩ (.slice A cs.length c)).setCell ⟨p,4,none⟩ (.int .i64 hd)).setCell ⟨p,5,none⟩ (.int .i64 sz)):=
 ⟨h.s8.setRing A c cs hd sz,⟨(((hl.offp ho _).offp ho _).offp ho _).more (by simp),(((h.sr.el.offp (p:=⟨p,3,none⟩) h.off.o2 _).offp (p:=⟨p,4,none⟩) h.off.o2 _).offp (p:=⟨p,5,none⟩) h.off.o2 _).more (by simp),(((h.sr.dl.offp (p:=⟨p,3,none⟩) h.off.o3 _).offp (p:=⟨p,4,none⟩) h.off.o3 _).offp (p:=⟨p,5,none⟩) h.off.o3 _).more (by simp)⟩,⟨ho,h.off.o2,h.off.o3⟩,
  ((h.bel.setCell (p:=⟨p,3,none⟩) h.old _).setCell (p:=⟨p,4,none⟩) h.old _).setCell (p:=⟨p,5,none⟩) h.old _,h.old⟩
theorem SAt.setTab (h:SAt w p S D W) {A2:Option Addr} {c2:Nat} {A3:Option Addr} {c3:Nat} {l:List Le} {hh:List Du} (hl:El W W.heap.size (.slice A2 l.length c2) l) (hd:Dl W W.heap.size (.slice A3 hh.length c3) hh) (o2:OffB p l.length A2) (o3:OffB p hh.length A3):SAt w p ⟨S.lv,S.lo,S.hi,S.cs,S.hd,S.sz,l,hh⟩ ⟨D.A,D.c,A2,c2,A3,c3⟩ ((W.setCell ⟨p,6,none⟩ (.slice A2 l.length c2)).setCell ⟨p,7,none⟩ (.slice A3 hh.length c3)):=
 ⟨h.s8.setTab A2 c2 A3 c3 l hh,⟨((h.sr.ls.offp (p:=⟨p,6,none⟩) h.off.o1 _).offp (p:=⟨p,7,none⟩) h.off.o1 _).more (by simp),((hl.offp (p:=⟨p,6,none⟩) o2 _).offp (p:=⟨p,7,none⟩) o2 _).more (by simp),((hd.offp (p:=⟨p,6,none⟩) o3 _).offp (p:=⟨p,7,none⟩) o3 _).more (by simp)⟩,⟨h.off.o1,o2,o3⟩,
  (h.bel.setCell (p:=⟨p,6,none⟩) h.old _).setCell (p:=⟨p,7,none⟩) h.old _,h.old⟩
theorem SR.sets (ho:SOff S D p):∀ (vs:List Value) (m:Nat) (W:World),SR W W.heap.size S D→SR (W.setCells p m vs) (W.setCells p m vs).heap.size S D
 | [],_,_,h=>h
 | v::r,m,W,h=>SR.sets ho r (m+1) _ ((h.offp (p:=⟨p,m,none⟩) ho v).more (by simp))
theorem SAt.setA (h:SAt w p S D W) {A:Option Addr} {c:Nat} (hl:Ls W W.heap.size (.slice A S.cs.length c) S.cs) (ho:OffB p S.cs.length A):SAt w p S ⟨A,c,D.A2,D.c2,D.A3,D.c3⟩ (W.setCell ⟨p,3,none⟩ (.slice A S.cs.length c)):=by
 have g:∀ (j:Nat) (v:Value),j≠3→W.cell? ⟨p,j,none⟩=some v→(W.setCell ⟨p,3,none⟩ (.slice A S.cs.length c)).cell? ⟨p,j,none⟩=some v:=fun j v h3 e=>by
  rw [World.cell?_setCell_other _ _ _ _ (addr_ne h3.symm)];exact e
 exact ⟨⟨g 0 _ (by decide) h.s8.c0,g 1 _ (by decide) h.s8.c1,g 2 _ (by decide) h.s8.c2,by rw [World.cell?_setCell_same' _ _ _ (by rw [h.s8.c3];rfl)],g 4 _ (by decide) h.s8.c4,g 5 _ (by decide) h.s8.c5,g 6 _ (by decide) h.s8.c6,g 7 _ (by decide) h.s8.c7,fun o=>by rw [World.frozen?_setCell];exact h.s8.fr o,by simpa using h.s8.lt⟩,
  ⟨(hl.offp (p:=⟨p,3,none⟩) ho _).more (by simp),(h.sr.el.offp (p:=⟨p,3,none⟩) h.off.o2 _).more (by simp),(h.sr.dl.offp (p:=⟨p,3,none⟩) h.off.o3 _).more (by simp)⟩,⟨ho,h.off.o2,h.off.o3⟩,h.bel.setCell (p:=⟨p,3,none⟩) h.old _,h.old⟩
theorem SAt.setL (h:SAt w p S D W) {A:Option Addr} {c:Nat} (hl:El W W.heap.size (.slice A S.l.length c) S.l) (ho:OffB p S.l.length A):SAt w p S ⟨D.A,D.c,A,c,D.A3,D.c3⟩ (W.setCell ⟨p,6,none⟩ (.slice A S.l.length c)):=by
 have g:∀ (j:Nat) (v:Value),j≠6→W.cell? ⟨p,j,none⟩=some v→(W.setCell ⟨p,6,none⟩ (.slice A S.l.length c)).cell? ⟨p,j,none⟩=some v:=fun j v h3 e=>by
  rw [World.cell?_setCell_other _ _ _ _ (addr_ne h3.symm)];exact e
 exact ⟨⟨g 0 _ (by decide) h.s8.c0,g 1 _ (by decide) h.s8.c1,g 2 _ (by decide) h.s8.c2,g 3 _ (by decide) h.s8.c3,g 4 _ (by decide) h.s8.c4,g 5 _ (by decide) h.s8.c5,by rw [World.cell?_setCell_same' _ _ _ (by rw [h.s8.c6];rfl)],g 7 _ (by decide) h.s8.c7,fun o=>by rw [World.frozen?_setCell];exact h.s8.fr o,by simpa using h.s8.lt⟩,
  ⟨(h.sr.ls.offp (p:=⟨p,6,none⟩) h.off.o1 _).more (by simp),(hl.offp (p:=⟨p,6,none⟩) ho _).more (by simp),(h.sr.dl.offp (p:=⟨p,6,none⟩) h.off.o3 _).more (by simp)⟩,⟨h.off.o1,ho,h.off.o3⟩,h.bel.setCell (p:=⟨p,6,none⟩) h.old _,h.old⟩
theorem SAt.setH (h:SAt w p S D W) {A:Option Addr} {c:Nat} (hl:Dl W W.heap.size (.slice A S.h.length c) S.h) (ho:OffB p S.h.length A):SAt w p S ⟨D.A,D.c,D.A2,D.c2,A,c⟩ (W.setCell ⟨p,7,none⟩ (.slice A S.h.length c)):=by
 have g:∀ (j:Nat) (v:Value),j≠7→W.cell? ⟨p,j,none⟩=some v→(W.setCell ⟨p,7,none⟩ (.slice A S.h.length c)).cell? ⟨p,j,none⟩=some v:=fun j v h3 e=>by
  rw [World.cell?_setCell_other _ _ _ _ (addr_ne h3.symm)];exact e
 exact ⟨⟨g 0 _ (by decide) h.s8.c0,g 1 _ (by decide) h.s8.c1,g 2 _ (by decide) h.s8.c2,g 3 _ (by decide) h.s8.c3,g 4 _ (by decide) h.s8.c4,g 5 _ (by decide) h.s8.c5,g 6 _ (by decide) h.s8.c6,by rw [World.cell?_setCell_same' _ _ _ (by rw [h.s8.c7];rfl)],fun o=>by rw [World.frozen?_setCell];exact h.s8.fr o,by simpa using h.s8.lt⟩,
  ⟨(h.sr.ls.offp (p:=⟨p,7,none⟩) h.off.o1 _).more (by simp),(h.sr.el.offp (p:=⟨p,7,none⟩) h.off.o2 _).more (by simp),(hl.offp (p:=⟨p,7,none⟩) ho _).more (by simp)⟩,⟨h.off.o1,h.off.o2,ho⟩,h.bel.setCell (p:=⟨p,7,none⟩) h.old _,h.old⟩
theorem SAt.put {S0:Sh} {D0:Sx} (h:SAt w p S0 D0 W) (hr:SR W W.heap.size S D) (ho:SOff S D p):SAt w p S D (set8s W p S D):=
 ⟨h.s8.put S D,SR.sets ho (S.l8 D) 0 W hr,ho,set8s_below h.old h.bel S D,h.old⟩
theorem SAt.other (h:SAt w p S D W) {q:Addr} (hq:q.block≠p) (ho:SOff S D q.block) (hw:w.heap.size≤q.block) (v:Value):SAt w p S D (W.setCell q v):=
 ⟨h.s8.other hq v,(h.sr.offp ho v).more (by simp),h.off,h.bel.setCell hw v,h.old⟩
theorem SAt.lt (h:SAt w p S D W):p<W.heap.size:=h.s8.lt
end
def SV (w:World) (S:Sh) (e:Ending) (w' : World):Prop:=∃ D,e=.returned (sv S D)∧D.nw w.heap.size∧SR w' w'.heap.size S D∧Below w.heap.size w w'
def SE (w:World) (S:Sh) (x:Int) (e:Ending) (w' : World):Prop:=∃ D,e=.returned (.tuple #[sv S D,.int .i64 x])∧D.nw w.heap.size∧SR w' w'.heap.size S D∧Below w.heap.size w w'
end Go.Proofs.YtncgbldcjfbknaaGreat
