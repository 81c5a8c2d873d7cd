/- What is proved here: parts of the proof: Uab Uac. -/
import Derived.Test.YtkecnihgjepfeaaGreatJ46
import Derived.Test.YtkecnihgjepfeaaGreatJ48
/- Plain: the steps of a section of the slot 0 that stores, in an arena of one slot (the example of chapter 15). -/
namespace Go.Proofs.YtkecnihgjepfeaaGreat
open Go.RowKit
set_option linter.unusedVariables false
set_option linter.unusedSimpArgs false
set_option maxHeartbeats 8000000
set_option maxRecDepth 20000
structure Bw (H:Sh) (a:Ar) (o:Int) (u:St):Prop where
 sl:a.sl=[⟨o,H⟩]
 st:a.st=[u]
 fw:a.Few
 ep:a.ep=0
 ck:a.ck=0
section
variable {H:Sh} {a:Ar} {o:Int} {u v:St}
theorem Bw.n (h:Bw H a o u):a.sl.length=1/\a.st.length=1:=⟨by rw [h.sl];rfl,by rw [h.st];rfl⟩
theorem Bw.own0 (h:Bw H a o u):a.own 0=o:=by
 unfold Ar.own
 rw [if_neg (by rw [h.n.1];decide),h.sl]
 rfl
theorem Bw.sh0 (h:Bw H a o u):(og a.sl 0).sh=H:=by rw [h.sl];rfl
theorem Bw.tg0 (h:Bw H a o u):tg a.st 0=u:=by rw [h.st];rfl
theorem Bw.isl (h:Bw H a o u):islB a ((0:Nat):Int)=true:=isl_t h.n.1 h.n.2 (by decide)
theorem Bw.sle (h:Bw H a 1 u):slE a ((0:Nat):Int) 1=0:=by rw [slE_t h.n.1 h.n.2 (by decide) (by decide) (by decide),h.own0];rfl
theorem Bw.owe (h:Bw H a 1 u):owE a ((0:Nat):Int) 1=0:=by rw [ow_t h.n.1 (by decide) (by decide) (by decide),h.own0];rfl
theorem Bw.own_ (h:Bw H a o u) (m:Int):Bw H (a.setOwn 0 m) m u:=by
 have e:a.setOwn 0 m=⟨a.sl.set 0 ⟨m,(og a.sl 0).sh⟩,a.st,a.ow,a.cap,a.dl,a.dir,a.ep,a.ck,a.ni⟩:=if_neg (by rw [h.n.1];decide)
 have hf:=h.fw.own 0 m
 rw [e] at hf ⊢
 exact ⟨by rw [h.sl];rfl,h.st,hf,h.ep,h.ck⟩
theorem Bw.str (h:Bw H a o u) (v:St):Bw H (a.setSt 0 v) o v:=⟨h.sl,by show a.st.set 0 v=[v];rw [h.st];rfl,h.fw.stripe 0 v,h.ep,h.ck⟩
theorem Bw.shd (h:Bw H a o u):Bw H (a.setSh 0 H) o u:=by
 have e:(a.setSh 0 H).sl=[⟨o,H⟩]:=by show a.sl.set 0 ⟨(og a.sl 0).ow,H⟩=_;rw [h.sl];rfl
 refine ⟨e,h.st,⟨by rw [e];exact ⟨by simp,by simp⟩,h.fw.st,h.fw.dl,h.fw.dr,fun x hx=>?_⟩,h.ep,h.ck⟩
 rw [e] at hx
 obtain rfl:x=⟨o,H⟩:=by simpa using hx
 exact h.fw.sh ⟨o,H⟩ (by rw [h.sl];simp)
theorem Bw.ssa (h:Bw H a 1 u) (v:St):ssA a ((0:Nat):Int) 1 v=a.setSt 0 v:=by
 unfold ssA
 rw [if_pos h.sle]
 rfl
theorem Bw.hl (h:Bw H a o u):H.cs.length<=1000/\H.l.length<=1000/\H.h.length<=1000:=h.fw.sh ⟨o,H⟩ (by rw [h.sl];simp)
theorem aw_lock (h:Bw H a 0 u):stE13 a (⟨[0],0,0,0,0⟩:Lk) 1=0/\stL13 a (⟨[0],0,0,0,0⟩:Lk) 1=(⟨[0],3,1,0,0⟩:Lk)/\stA13 a (⟨[0],0,0,0,0⟩:Lk) 1=a.setOwn 0 1:=by
 have hl:=h.n.1
 have h1:=tl_t (v:=0) (t:=1) hl (by decide) (by decide) (by decide) h.own0
 have hk:lkE a.sl.length 0 1=0:=by rw [hl];exact lk_09 (v:=0) (by decide) (by decide) (by decide)
 have hq:aqE a (⟨[0],0,0,0,0⟩:Lk) 1=0:=hk
 refine ⟨(if_pos rfl).trans hq,?_,?_⟩
 ·show (if (0:Int)=0 then aqR a (⟨[0],0,0,0,0⟩:Lk) 1 else _)=(⟨[0],3,1,0,0⟩:Lk)
  rw [if_pos rfl]
  unfold aqR
  rw [if_pos hq,show tlB a (ctF [0] 0) 1=true from h1.2]
  rfl
 ·show (if (0:Int)=0 then tlA a (ctF [0] 0) 1 else _)=_
  rw [if_pos rfl]
  exact h1.1
theorem aw_free (h:Bw H a 1 u):stE13 a (⟨[0],4,1,0,0⟩:Lk) 1=0/\stL13 a (⟨[0],4,1,0,0⟩:Lk) 1=(⟨[0],5,0,0,0⟩:Lk)/\stA13 a (⟨[0],4,1,0,0⟩:Lk) 1=a.setOwn 0 0:=by
 have hq:owE a (ctF [0] (1 - 1)) 1=0:=h.owe
 have hg:gbE a (⟨[0],4,1,0,0⟩:Lk) 1=0:=hq
 refine ⟨?_,?_,?_⟩
 ·exact hg
 ·show (if (4:Int)=0 then _ else if (4:Int)=1\/(4:Int)=4 then gbR a (⟨[0],4,1,0,0⟩:Lk) 1 else _)=(⟨[0],5,0,0,0⟩:Lk)
  rw [if_neg (by decide),if_pos (.inr rfl)]
  unfold gbR
  rw [if_pos hg]
  rfl
 ·show (if (4:Int)=0 then _ else if (4:Int)=1\/(4:Int)=4 then ulA a (ctF [0] (1 - 1)) 1 else _)=_
  rw [if_neg (by decide),if_pos (.inr rfl)]
  unfold ulA
  rw [if_pos hq]
  rfl
theorem aw_end (hV:shV H=0) (hl:H.cs.length<=1000/\H.l.length<=1000):enE ⟨1,0,0,0⟩ H 0 1=0/\(enT ⟨1,0,0,0⟩ H 0 1).sq=2/\(wi (enT ⟨1,0,0,0⟩ H 0 1).sq 0 1099511627776=true/\wi (enT ⟨1,0,0,0⟩ H 0 1).ep 0 1099511627776=true/\wi (enT ⟨1,0,0,0⟩ H 0 1).rd 0 1099511627776=true/\wi (enT ⟨1,0,0,0⟩ H 0 1).ls 0 1099511627776=true):=by
 have hE:enE ⟨1,0,0,0⟩ H 0 1=0:=by
  unfold enE
  rw [if_neg (by decide),if_neg (by decide),if_neg (by rw [hV];decide),if_pos (by decide)]
 have hT:enT ⟨1,0,0,0⟩ H 0 1=⟨2,0,ctR H 0 1,ctL H 0 1⟩:=by unfold enT;rw [if_pos hE];rfl
 have c1:0<=ctR H 0 1/\ctR H 0 1<=1000:=by
  unfold ctR
  split
  ·have h1:=List.countP_le_length (p:=fun M=>!puF M 0&&!spF M 1) (l:=lsF H.cs H.hd H.sz)
   have h2:=lsF_le H.cs H.hd H.sz
   omega
  ·decide
 have c2:0<=ctL H 0 1/\ctL H 0 1<=1000:=by
  unfold ctL
  split
  ·have h1:=List.countP_le_length (p:=fun M=>!puF M 0) (l:=H.l.map Le.m)
   rw [List.length_map] at h1
   omega
  ·decide
 rw [hT]
 exact ⟨hE,rfl,wi_true (show (0:Int)<=2 by decide) (show (2:Int)<=1099511627776 by decide),wi_true (show (0:Int)<=0 by decide) (show (0:Int)<=1099511627776 by decide),wi_true c1.1 (show ctR H 0 1<=1099511627776 by omega),wi_true c2.1 (show ctL H 0 1<=1099511627776 by omega)⟩
end
theorem sm_l (l:Lk) (h:(-9<=l.hv/\l.hv<=9)/\(-9<=l.tr/\l.tr<=1000000)/\(-9<=l.wt/\l.wt<=9)/\l.cs.length<=9):l.sm:=h
theorem smo0:SmO zOu:=⟨⟨by decide,fun s hs=>absurd hs (by simp [zOu])⟩,by decide,by decide,by decide,rfl⟩
theorem sms0:SmS []:=⟨by decide,fun s hs=>absurd hs (by simp)⟩
theorem sms1 {H:Sh} (h:H.cs.length<=1000/\H.l.length<=1000/\H.h.length<=1000):SmS [H]:=⟨by simp,fun s hs=>by
 rw [show s=H by simpa using hs]
 exact h⟩
theorem smo1 {H:Sh} (h:H.cs.length<=1000/\H.l.length<=1000/\H.h.length<=1000):SmO (⟨[H],0,[],[0],[],[]⟩:Ou):=⟨sms1 h,by simp,by simp,by simp,rfl⟩
theorem smc_ {ph at_:Int} {l:Lk} {sn:Sn} {sh:List Sh} {st:List St} {o:Ou} (hl:l.cs=[0]) (hs:SmS sh) (ht:st.length<=1) (ho:SmO o):SmC ⟨ph,at_,l,sn,sh,0,[],st,zD10,o,1,[]⟩:=⟨by show l.cs.length<=9;rw [hl];decide,hs,by simp,by show st.length<=1000;omega,⟨by simp [zD10],by simp [zD10]⟩,by simp,ho⟩
section
variable {H:Sh} {a:Ar} {Y:Ax} {X:Sex} {w:World} {u:St}
theorem aw_s1 (h:Bw H a 0 u) (har:AR w w.heap.size a Y) (hse:SeR w w.heap.size (⟨0,0,(⟨[0],0,0,0,0⟩:Lk),zSn,[],0,[],[],zD10,zOu,1,[]⟩:Se) X):Calls Tryz.prog 13 #[av a Y,sev (⟨0,0,(⟨[0],0,0,0,0⟩:Lk),zSn,[],0,[],[],zD10,zOu,1,[]⟩:Se) X,.int .i64 1,.int .i64 1] w (SE15n w (a.setOwn 0 1) (⟨1,0,(⟨[0],3,1,0,0⟩:Lk),zSn,[],0,[],[],zD10,zOu,1,[]⟩:Se) 0):=by
 have hb:=aw_lock h
 have hp:slP a (⟨0,0,(⟨[0],0,0,0,0⟩:Lk),zSn,[],0,[],[],zD10,zOu,1,[]⟩:Se) 1 3 1=(⟨1,0,(⟨[0],3,1,0,0⟩:Lk),zSn,[],0,[],[],zD10,zOu,1,[]⟩:Se):=by
  unfold slP
  rw [show ((⟨0,0,(⟨[0],0,0,0,0⟩:Lk),zSn,[],0,[],[],zD10,zOu,1,[]⟩:Se):Se).lk=(⟨[0],0,0,0,0⟩:Lk) from rfl,hb.2.1,hb.2.2,(h.own_ 1).n.1]
  rfl
 have k:=ust_lock (t:=1) (n:=1) w har hse h.fw (smc_ rfl sms0 (by simp) smo0) rfl (sm_l (⟨[0],0,0,0,0⟩:Lk) (by decide)) (by show (stL13 a (⟨[0],0,0,0,0⟩:Lk) 1).cs.length<=9;rw [hb.2.1];decide) hb.1 (by
  unfold slE15
  rw [show ((⟨0,0,(⟨[0],0,0,0,0⟩:Lk),zSn,[],0,[],[],zD10,zOu,1,[]⟩:Se):Se).lk=(⟨[0],0,0,0,0⟩:Lk) from rfl,hb.2.1,hb.2.2,(h.own_ 1).n.1]
  rfl)
 rw [hp,show slA a (⟨0,0,(⟨[0],0,0,0,0⟩:Lk),zSn,[],0,[],[],zD10,zOu,1,[]⟩:Se) 1=a.setOwn 0 1 from hb.2.2] at k
 exact k
theorem aw_s2 (h:Bw H a 1 ⟨0,0,0,0⟩) (har:AR w w.heap.size a Y) (hse:SeR w w.heap.size (⟨1,0,(⟨[0],3,1,0,0⟩:Lk),zSn,[],0,[],[],zD10,zOu,1,[]⟩:Se) X):Calls Tryz.prog 13 #[av a Y,sev (⟨1,0,(⟨[0],3,1,0,0⟩:Lk),zSn,[],0,[],[],zD10,zOu,1,[]⟩:Se) X,.int .i64 1,.int .i64 2] w (SE15n w (a) (⟨1,1,(⟨[0],3,1,0,0⟩:Lk),zSn,[],0,[],[⟨0,0,0,0⟩],zD10,zOu,1,[]⟩:Se) 0):=by
 have k:=ust_marke (t:=1) (n:=2) w har hse h.fw (smc_ rfl sms0 (by simp) smo0) rfl 0 0 rfl (by decide) rfl h.isl (by decide) (by rw [h.n.1,h.tg0];rfl)
 rw [h.n.1,h.tg0] at k
 exact k
theorem aw_s3 (h:Bw H a 1 ⟨0,0,0,0⟩) (har:AR w w.heap.size a Y) (hse:SeR w w.heap.size (⟨1,1,(⟨[0],3,1,0,0⟩:Lk),zSn,[],0,[],[⟨0,0,0,0⟩],zD10,zOu,1,[]⟩:Se) X):Calls Tryz.prog 13 #[av a Y,sev (⟨1,1,(⟨[0],3,1,0,0⟩:Lk),zSn,[],0,[],[⟨0,0,0,0⟩],zD10,zOu,1,[]⟩:Se) X,.int .i64 1,.int .i64 3] w (SE15n w (a.setSt 0 ⟨1,0,0,0⟩) (⟨2,0,(⟨[0],3,1,0,0⟩:Lk),zSn,[],0,[],[⟨1,0,0,0⟩],zD10,zOu,1,[]⟩:Se) 0):=by
 have hA:ssA a (ig [0] 0) 1 (bgT (tg [⟨0,0,0,0⟩] 0))=a.setSt 0 ⟨1,0,0,0⟩:=h.ssa ⟨1,0,0,0⟩
 have k:=ust_marko (t:=1) (n:=3) w har hse h.fw (smc_ rfl sms0 (by simp) smo0) rfl 0 rfl (by decide) (by decide) (by decide) (by decide) h.sle (by
  show avE (ssA a (ig [0] 0) 1 (bgT (tg [⟨0,0,0,0⟩] 0))).sl.length _ (2*(slF (ssA a (ig [0] 0) 1 (bgT (tg [⟨0,0,0,0⟩] 0))).sl.length [0]:Int)) 2=0
  rw [hA,(h.str ⟨1,0,0,0⟩).n.1];rfl)
 have k2:Calls _ _ _ w (SE15n w (ssA a (ig [0] 0) 1 (bgT (tg [⟨0,0,0,0⟩] 0))) (avP (ssA a (ig [0] 0) 1 (bgT (tg [⟨0,0,0,0⟩] 0))).sl.length _ (2*(slF (ssA a (ig [0] 0) 1 (bgT (tg [⟨0,0,0,0⟩] 0))).sl.length [0]:Int)) 2) 0):=k
 rw [hA,(h.str ⟨1,0,0,0⟩).n.1] at k2
 exact k2
theorem aw_s4 (h:Bw H a 1 ⟨1,0,0,0⟩) (har:AR w w.heap.size a Y) (hse:SeR w w.heap.size (⟨2,0,(⟨[0],3,1,0,0⟩:Lk),zSn,[],0,[],[⟨1,0,0,0⟩],zD10,zOu,1,[]⟩:Se) X):Calls Tryz.prog 13 #[av a Y,sev (⟨2,0,(⟨[0],3,1,0,0⟩:Lk),zSn,[],0,[],[⟨1,0,0,0⟩],zD10,zOu,1,[]⟩:Se) X,.int .i64 1,.int .i64 4] w (SE15n w (a) (⟨3,0,(⟨[0],3,1,0,0⟩:Lk),zSn,[H],0,[],[⟨1,0,0,0⟩],zD10,zOu,1,[]⟩:Se) 0):=by
 have k:=ust_loads (t:=1) (n:=4) w har hse h.fw (smc_ rfl sms0 (by simp) smo0) rfl 0 0 rfl (by decide) rfl h.isl (by rw [h.n.1,h.sh0];rfl)
 rw [h.n.1,h.sh0] at k
 exact k
theorem aw_s5 (h:Bw H a 1 ⟨1,0,0,0⟩) (har:AR w w.heap.size a Y) (hse:SeR w w.heap.size (⟨3,0,(⟨[0],3,1,0,0⟩:Lk),zSn,[H],0,[],[⟨1,0,0,0⟩],zD10,zOu,1,[]⟩:Se) X):Calls Tryz.prog 13 #[av a Y,sev (⟨3,0,(⟨[0],3,1,0,0⟩:Lk),zSn,[H],0,[],[⟨1,0,0,0⟩],zD10,zOu,1,[]⟩:Se) X,.int .i64 1,.int .i64 5] w (SE15n w (a) (⟨3,0,(⟨[0],3,1,0,0⟩:Lk),(⟨1,0,0,0⟩:Sn),[H],0,[],[⟨1,0,0,0⟩],zD10,zOu,1,[]⟩:Se) 0):=by
 have k:=ust_snap (t:=1) (n:=5) w har hse h.fw (smc_ rfl (sms1 h.hl) (nLR 1) smo0) rfl rfl
 unfold spP at k
 rw [h.n.1,h.ep,h.ck] at k
 exact k
theorem aw_s6 (h:Bw H a 1 ⟨1,0,0,0⟩) (har:AR w w.heap.size a Y) (hse:SeR w w.heap.size (⟨3,0,(⟨[0],3,1,0,0⟩:Lk),(⟨1,0,0,0⟩:Sn),[H],0,[],[⟨1,0,0,0⟩],zD10,zOu,1,[]⟩:Se) X):Calls Tryz.prog 13 #[av a Y,sev (⟨3,0,(⟨[0],3,1,0,0⟩:Lk),(⟨1,0,0,0⟩:Sn),[H],0,[],[⟨1,0,0,0⟩],zD10,zOu,1,[]⟩:Se) X,.int .i64 1,.int .i64 6] w (SE15n w (a) (⟨3,0,(⟨[0],3,1,0,0⟩:Lk),(⟨2,0,0,6⟩:Sn),[H],0,[],[⟨1,0,0,0⟩],zD10,zOu,1,[]⟩:Se) 0):=by
 have k:=ust_snap (t:=1) (n:=6) w har hse h.fw (smc_ rfl (sms1 h.hl) (nLR 1) smo0) rfl rfl
 unfold spP at k
 rw [h.n.1,h.ep,h.ck] at k
 exact k
theorem aw_s7 (h:Bw H a 1 ⟨1,0,0,0⟩) (har:AR w w.heap.size a Y) (hse:SeR w w.heap.size (⟨3,0,(⟨[0],3,1,0,0⟩:Lk),(⟨2,0,0,6⟩:Sn),[H],0,[],[⟨1,0,0,0⟩],zD10,zOu,1,[]⟩:Se) X):Calls Tryz.prog 13 #[av a Y,sev (⟨3,0,(⟨[0],3,1,0,0⟩:Lk),(⟨2,0,0,6⟩:Sn),[H],0,[],[⟨1,0,0,0⟩],zD10,zOu,1,[]⟩:Se) X,.int .i64 1,.int .i64 7] w (SE15n w (a) (⟨4,0,(⟨[0],3,1,0,0⟩:Lk),(⟨3,0,0,6⟩:Sn),[H],0,[],[⟨1,0,0,0⟩],zD10,zOu,1,[]⟩:Se) 0):=by
 have k:=ust_snap (t:=1) (n:=7) w har hse h.fw (smc_ rfl (sms1 h.hl) (nLR 1) smo0) rfl rfl
 unfold spP at k
 rw [h.n.1,h.ep,h.ck] at k
 exact k
theorem aw_s8 (hV:shV H=0) (h:Bw H a 1 ⟨1,0,0,0⟩) (har:AR w w.heap.size a Y) (hse:SeR w w.heap.size (⟨5,0,(⟨[0],3,1,0,0⟩:Lk),(⟨3,0,0,6⟩:Sn),[H],0,[],[⟨1,0,0,0⟩],zD10,(⟨[H],0,[],[0],[],[]⟩:Ou),1,[]⟩:Se) X):Calls Tryz.prog 13 #[av a Y,sev (⟨5,0,(⟨[0],3,1,0,0⟩:Lk),(⟨3,0,0,6⟩:Sn),[H],0,[],[⟨1,0,0,0⟩],zD10,(⟨[H],0,[],[0],[],[]⟩:Ou),1,[]⟩:Se) X,.int .i64 1,.int .i64 8] w (SE15n w (a.setSh 0 H) (⟨7,0,(⟨[0],3,1,0,0⟩:Lk),(⟨3,0,0,6⟩:Sn),[H],0,[],[⟨1,0,0,0⟩],zD10,(⟨[H],0,[],[0],[],[]⟩:Ou),1,[]⟩:Se) 0):=by
 have hsg:sgS [H] 0=H:=rfl
 have k:=ust_stores (t:=1) (n:=8) w har hse h.fw (smc_ rfl (sms1 h.hl) (nLR 1) (smo1 h.hl)) rfl 0 0 0 rfl Nat.zero_lt_one rfl Nat.zero_lt_one rfl Nat.zero_lt_one h.sle hV (by rw [h.sh0];rfl) h.hl (by
  show avE (a.setSh 0 H).sl.length _ _ 6=0
  rw [h.shd.n.1];rfl)
 have k2:Calls _ _ _ w (SE15n w (a.setSh 0 H) (avP (a.setSh 0 H).sl.length _ _ 6) 0):=k
 rw [h.shd.n.1] at k2
 exact k2
theorem aw_s9 (hV:shV H=0) (h:Bw H a 1 ⟨1,0,0,0⟩) (har:AR w w.heap.size a Y) (hse:SeR w w.heap.size (⟨7,0,(⟨[0],3,1,0,0⟩:Lk),(⟨3,0,0,6⟩:Sn),[H],0,[],[⟨1,0,0,0⟩],zD10,(⟨[H],0,[],[0],[],[]⟩:Ou),1,[]⟩:Se) X):Calls Tryz.prog 13 #[av a Y,sev (⟨7,0,(⟨[0],3,1,0,0⟩:Lk),(⟨3,0,0,6⟩:Sn),[H],0,[],[⟨1,0,0,0⟩],zD10,(⟨[H],0,[],[0],[],[]⟩:Ou),1,[]⟩:Se) X,.int .i64 1,.int .i64 9] w (SE15n w (a.setSt 0 (enT ⟨1,0,0,0⟩ H 0 1)) (⟨8,0,(⟨[0],4,1,0,0⟩:Lk),(⟨3,0,0,6⟩:Sn),[H],0,[],[⟨1,0,0,0⟩],zD10,(⟨[H],0,[],[0],[],[]⟩:Ou),1,[]⟩:Se) 0):=by
 have he:=aw_end hV ⟨h.hl.1,h.hl.2.1⟩
 have hA:ssA a (ig [0] 0) 1 (enT ⟨1,0,0,0⟩ H 0 1)=a.setSt 0 (enT ⟨1,0,0,0⟩ H 0 1):=h.ssa _
 have k:=ust_unmark (t:=1) (n:=9) w har hse h.fw (smc_ rfl (sms1 h.hl) (nLR 1) (smo1 h.hl)) rfl 0 rfl Nat.zero_lt_one Nat.zero_lt_one Nat.zero_lt_one Nat.zero_lt_one he.1 he.2.2 h.sle (by
  show avE (ssA a (ig [0] 0) 1 (enT ⟨1,0,0,0⟩ H 0 1)).sl.length _ _ 8=0
  rw [hA,(h.str (enT ⟨1,0,0,0⟩ H 0 1)).n.1];rfl)
 have k2:Calls _ _ _ w (SE15n w (ssA a (ig [0] 0) 1 (enT ⟨1,0,0,0⟩ H 0 1)) (avP (ssA a (ig [0] 0) 1 (enT ⟨1,0,0,0⟩ H 0 1)).sl.length _ _ 8) 0):=k
 rw [hA,(h.str (enT ⟨1,0,0,0⟩ H 0 1)).n.1] at k2
 exact k2
theorem aw_s10 (h:Bw H a 1 u) (har:AR w w.heap.size a Y) (hse:SeR w w.heap.size (⟨8,0,(⟨[0],4,1,0,0⟩:Lk),(⟨3,0,0,6⟩:Sn),[H],0,[],[⟨1,0,0,0⟩],zD10,(⟨[H],0,[],[0],[],[]⟩:Ou),1,[]⟩:Se) X):Calls Tryz.prog 13 #[av a Y,sev (⟨8,0,(⟨[0],4,1,0,0⟩:Lk),(⟨3,0,0,6⟩:Sn),[H],0,[],[⟨1,0,0,0⟩],zD10,(⟨[H],0,[],[0],[],[]⟩:Ou),1,[]⟩:Se) X,.int .i64 1,.int .i64 10] w (SE15n w (a.setOwn 0 0) (⟨9,0,(⟨[0],5,0,0,0⟩:Lk),(⟨3,0,0,6⟩:Sn),[H],0,[],[⟨1,0,0,0⟩],zD10,(⟨[H],0,[],[0],[],[]⟩:Ou),1,[]⟩:Se) 0):=by
 have hb:=aw_free h
 have hp:slP a (⟨8,0,(⟨[0],4,1,0,0⟩:Lk),(⟨3,0,0,6⟩:Sn),[H],0,[],[⟨1,0,0,0⟩],zD10,(⟨[H],0,[],[0],[],[]⟩:Ou),1,[]⟩:Se) 1 5 9=(⟨9,0,(⟨[0],5,0,0,0⟩:Lk),(⟨3,0,0,6⟩:Sn),[H],0,[],[⟨1,0,0,0⟩],zD10,(⟨[H],0,[],[0],[],[]⟩:Ou),1,[]⟩:Se):=by
  unfold slP
  rw [show ((⟨8,0,(⟨[0],4,1,0,0⟩:Lk),(⟨3,0,0,6⟩:Sn),[H],0,[],[⟨1,0,0,0⟩],zD10,(⟨[H],0,[],[0],[],[]⟩:Ou),1,[]⟩:Se):Se).lk=(⟨[0],4,1,0,0⟩:Lk) from rfl,hb.2.1,hb.2.2,(h.own_ 0).n.1]
  rfl
 have k:=ust_free (t:=1) (n:=10) w har hse h.fw (smc_ rfl (sms1 h.hl) (nLR 1) (smo1 h.hl)) rfl (sm_l (⟨[0],4,1,0,0⟩:Lk) (by decide)) (by show (stL13 a (⟨[0],4,1,0,0⟩:Lk) 1).cs.length<=9;rw [hb.2.1];decide) hb.1 (by
  unfold slE15
  rw [show ((⟨8,0,(⟨[0],4,1,0,0⟩:Lk),(⟨3,0,0,6⟩:Sn),[H],0,[],[⟨1,0,0,0⟩],zD10,(⟨[H],0,[],[0],[],[]⟩:Ou),1,[]⟩:Se):Se).lk=(⟨[0],4,1,0,0⟩:Lk) from rfl,hb.2.1,hb.2.2,(h.own_ 0).n.1]
  rfl)
 rw [hp,show slA a (⟨8,0,(⟨[0],4,1,0,0⟩:Lk),(⟨3,0,0,6⟩:Sn),[H],0,[],[⟨1,0,0,0⟩],zD10,(⟨[H],0,[],[0],[],[]⟩:Ou),1,[]⟩:Se) 1=a.setOwn 0 0 from hb.2.2] at k
 exact k
end
end Go.Proofs.YtkecnihgjepfeaaGreat
/- Plain: what the calls of shardqueuelaw15.awake give. -/
namespace Go.Proofs.YtkecnihgjepfeaaGreat
open Go.RowKit
set_option linter.unusedVariables false
set_option linter.unusedSimpArgs false
set_option maxHeartbeats 8000000
set_option maxRecDepth 20000
theorem new_sh15 {n:Nat} {lo hi:Int} (h1:1<=n) (h2:n<=12) (hs:0<=lo/\lo<=hi/\hi<65536):shV (neS n lo hi)=0:=by
 obtain ⟨e1,e2⟩:=nwC_fil h1 h2 0 (by omega)
 have e:neE n lo hi=0:=by unfold neE;rw [if_neg (fun g=>g e2),if_pos (spB_iff.2 hs)]
 have k:(⟨lo,hi,n,0,[],[],[]⟩:Vs).Ok:=⟨h1,h2,by show 0<n;omega,TbOk.nil,hs,by show 0+0<=n;omega,gd_nil,fun M hM=>by cases hM⟩
 have e3:neS n lo hi=(⟨lo,hi,n,0,[],[],[]⟩:Vs).sh:=by
  unfold neS
  rw [if_pos e,e1]
  rfl
 rw [e3]
 exact k.va
abbrev su15:Su:=⟨1,1,2,1,1,0,1,0⟩
theorem aw_nw:∃ H,shV H=0/\Bw H (nwA su15) 0 ⟨0,0,0,0⟩:=by
 have hs:suB su15=true:=by decide
 have hf:=few_nw hs
 have e:nwA su15=grA su15 1 1 1:=if_pos hs
 rw [e] at hf ⊢
 refine ⟨ffS (nwD 1 1) 0 2,?_,⟨rfl,rfl,hf,rfl,rfl⟩⟩
 have e2:=ffS_nw (n:=1) (m:=1) (by decide) (by decide) (by decide) 0 2
 rw [if_pos (by decide)] at e2
 show shV (ffS (nwD ((1:Nat):Int) ((1:Nat):Int)) ((0:Nat):Int) 2)=0
 rw [e2]
 exact new_sh15 (n:=2) (by decide) (by decide) (by decide)
structure Ca15 (H:Sh) (A:Nat->Ar) (T S:Nat->Se):Prop where
 nw:∀ W,Calls Tryz.prog 6 #[.agg #[.int .i64 1,.int .i64 1,.int .i64 2,.int .i64 1,.int .i64 1,.int .i64 0,.int .i64 1,.int .i64 0]] W (AE W (A 0) 0)
 sn:∀ B c W,Fl W W.heap.size (.slice B 1 c) [0]->Calls Tryz.prog 9 #[.slice B 1 c,.int .i64 1] W (SNr W (S 0) 0)
 st:∀ k,k<10->∀ Y X W,AR W W.heap.size (A k) Y->SeR W W.heap.size (S k) X->Calls Tryz.prog 13 #[av (A k) Y,sev (S k) X,.int .i64 1,.int .i64 ((k:Int)+1)] W (SE15n W (A (k+1)) (T (k+1)) 0)
 sd:∀ k,k<10->k≠6->T (k+1)=S (k+1)/\((T (k+1)).ph==4)=false
 p7:(T 7).ph=4/\(T 7).sh.length=1
 un:∀ X W,SeR W W.heap.size (T 7) X->Calls Tryz.prog 10 #[sev (T 7) X] W (OV15 W ⟨[H],0,[],[],[],[]⟩)
 dc:∀ X Z W,SeR W W.heap.size (T 7) X->OuR W W.heap.size (⟨[H],0,[],[0],[],[]⟩:Ou) Z->Calls Tryz.prog 12 #[sev (T 7) X,ouv (⟨[H],0,[],[0],[],[]⟩:Ou) Z] W (DE15 W (S 7) 0)
 fin:(S 10).ph=9/\∃ x,(A 10).st=[x]/\x.sq=2
theorem ca15:∃ H A T S,Ca15 H A T S:=by
 obtain ⟨H,hV,h0⟩:=aw_nw
 have h1:=h0.own_ 1
 have h2:=h1.str ⟨1,0,0,0⟩
 have h3:=h2.shd
 have h4:=h3.str (enT ⟨1,0,0,0⟩ H 0 1)
 have h5:=h4.own_ 0
 have hs7:SmC (⟨4,0,(⟨[0],3,1,0,0⟩:Lk),(⟨3,0,0,6⟩:Sn),[H],0,[],[⟨1,0,0,0⟩],zD10,zOu,1,[]⟩:Se):=smc_ rfl (sms1 h2.hl) (nLR 1) smo0
 have hn:=fun W=>anew_any su15 W
 rw [show nwAE su15=0 by decide] at hn
 refine ⟨H,(fun k=>match k with | 0=>nwA su15 | 1=>(nwA su15).setOwn 0 1 | 2=>(nwA su15).setOwn 0 1 | 8=>(((nwA su15).setOwn 0 1).setSt 0 ⟨1,0,0,0⟩).setSh 0 H | 9=>((((nwA su15).setOwn 0 1).setSt 0 ⟨1,0,0,0⟩).setSh 0 H).setSt 0 (enT ⟨1,0,0,0⟩ H 0 1) | 10=>(((((nwA su15).setOwn 0 1).setSt 0 ⟨1,0,0,0⟩).setSh 0 H).setSt 0 (enT ⟨1,0,0,0⟩ H 0 1)).setOwn 0 0 | _=>((nwA su15).setOwn 0 1).setSt 0 ⟨1,0,0,0⟩),(fun k=>match k with | 0=>(⟨0,0,(⟨[0],0,0,0,0⟩:Lk),zSn,[],0,[],[],zD10,zOu,1,[]⟩:Se) | 1=>(⟨1,0,(⟨[0],3,1,0,0⟩:Lk),zSn,[],0,[],[],zD10,zOu,1,[]⟩:Se) | 2=>(⟨1,1,(⟨[0],3,1,0,0⟩:Lk),zSn,[],0,[],[⟨0,0,0,0⟩],zD10,zOu,1,[]⟩:Se) | 3=>(⟨2,0,(⟨[0],3,1,0,0⟩:Lk),zSn,[],0,[],[⟨1,0,0,0⟩],zD10,zOu,1,[]⟩:Se) | 4=>(⟨3,0,(⟨[0],3,1,0,0⟩:Lk),zSn,[H],0,[],[⟨1,0,0,0⟩],zD10,zOu,1,[]⟩:Se) | 5=>(⟨3,0,(⟨[0],3,1,0,0⟩:Lk),(⟨1,0,0,0⟩:Sn),[H],0,[],[⟨1,0,0,0⟩],zD10,zOu,1,[]⟩:Se) | 6=>(⟨3,0,(⟨[0],3,1,0,0⟩:Lk),(⟨2,0,0,6⟩:Sn),[H],0,[],[⟨1,0,0,0⟩],zD10,zOu,1,[]⟩:Se) | 7=>(⟨4,0,(⟨[0],3,1,0,0⟩:Lk),(⟨3,0,0,6⟩:Sn),[H],0,[],[⟨1,0,0,0⟩],zD10,zOu,1,[]⟩:Se) | 8=>(⟨7,0,(⟨[0],3,1,0,0⟩:Lk),(⟨3,0,0,6⟩:Sn),[H],0,[],[⟨1,0,0,0⟩],zD10,(⟨[H],0,[],[0],[],[]⟩:Ou),1,[]⟩:Se) | 9=>(⟨8,0,(⟨[0],4,1,0,0⟩:Lk),(⟨3,0,0,6⟩:Sn),[H],0,[],[⟨1,0,0,0⟩],zD10,(⟨[H],0,[],[0],[],[]⟩:Ou),1,[]⟩:Se) | _=>(⟨9,0,(⟨[0],5,0,0,0⟩:Lk),(⟨3,0,0,6⟩:Sn),[H],0,[],[⟨1,0,0,0⟩],zD10,(⟨[H],0,[],[0],[],[]⟩:Ou),1,[]⟩:Se)),(fun k=>match k with | 0=>(⟨0,0,(⟨[0],0,0,0,0⟩:Lk),zSn,[],0,[],[],zD10,zOu,1,[]⟩:Se) | 1=>(⟨1,0,(⟨[0],3,1,0,0⟩:Lk),zSn,[],0,[],[],zD10,zOu,1,[]⟩:Se) | 2=>(⟨1,1,(⟨[0],3,1,0,0⟩:Lk),zSn,[],0,[],[⟨0,0,0,0⟩],zD10,zOu,1,[]⟩:Se) | 3=>(⟨2,0,(⟨[0],3,1,0,0⟩:Lk),zSn,[],0,[],[⟨1,0,0,0⟩],zD10,zOu,1,[]⟩:Se) | 4=>(⟨3,0,(⟨[0],3,1,0,0⟩:Lk),zSn,[H],0,[],[⟨1,0,0,0⟩],zD10,zOu,1,[]⟩:Se) | 5=>(⟨3,0,(⟨[0],3,1,0,0⟩:Lk),(⟨1,0,0,0⟩:Sn),[H],0,[],[⟨1,0,0,0⟩],zD10,zOu,1,[]⟩:Se) | 6=>(⟨3,0,(⟨[0],3,1,0,0⟩:Lk),(⟨2,0,0,6⟩:Sn),[H],0,[],[⟨1,0,0,0⟩],zD10,zOu,1,[]⟩:Se) | 7=>(⟨5,0,(⟨[0],3,1,0,0⟩:Lk),(⟨3,0,0,6⟩:Sn),[H],0,[],[⟨1,0,0,0⟩],zD10,(⟨[H],0,[],[0],[],[]⟩:Ou),1,[]⟩:Se) | 8=>(⟨7,0,(⟨[0],3,1,0,0⟩:Lk),(⟨3,0,0,6⟩:Sn),[H],0,[],[⟨1,0,0,0⟩],zD10,(⟨[H],0,[],[0],[],[]⟩:Ou),1,[]⟩:Se) | 9=>(⟨8,0,(⟨[0],4,1,0,0⟩:Lk),(⟨3,0,0,6⟩:Sn),[H],0,[],[⟨1,0,0,0⟩],zD10,(⟨[H],0,[],[0],[],[]⟩:Ou),1,[]⟩:Se) | _=>(⟨9,0,(⟨[0],5,0,0,0⟩:Lk),(⟨3,0,0,6⟩:Sn),[H],0,[],[⟨1,0,0,0⟩],zD10,(⟨[H],0,[],[0],[],[]⟩:Ou),1,[]⟩:Se)),⟨hn,?_,?_,?_,⟨rfl,rfl⟩,?_,?_,⟨rfl,_,h5.st,(aw_end hV ⟨h3.hl.1,h3.hl.2.1⟩).2.1⟩⟩⟩
 ·intro B c W hf
  have k:=unew15_any B c [0] 1 W hf
  have e:nwE15 [0] 1=0:=by decide
  rw [show nwS15 [0] 1=(⟨0,0,(⟨[0],0,0,0,0⟩:Lk),zSn,[],0,[],[],zD10,zOu,1,[]⟩:Se) from by unfold nwS15;rw [if_pos e];rfl,e] at k
  exact k
 ·intro k hk Y X W har hse
  match k,hk with
  | 0,_=>exact aw_s1 h0 har hse
  | 1,_=>exact aw_s2 h1 har hse
  | 2,_=>exact aw_s3 h1 har hse
  | 3,_=>exact aw_s4 h2 har hse
  | 4,_=>exact aw_s5 h2 har hse
  | 5,_=>exact aw_s6 h2 har hse
  | 6,_=>exact aw_s7 h2 har hse
  | 7,_=>exact aw_s8 hV h2 har hse
  | 8,_=>exact aw_s9 hV h3 har hse
  | 9,_=>exact aw_s10 h4 har hse
  | k+10,h=>exact absurd h (by omega)
 ·intro k hk h7
  match k,hk with
  | 0,_=>exact ⟨rfl,rfl⟩
  | 1,_=>exact ⟨rfl,rfl⟩
  | 2,_=>exact ⟨rfl,rfl⟩
  | 3,_=>exact ⟨rfl,rfl⟩
  | 4,_=>exact ⟨rfl,rfl⟩
  | 5,_=>exact ⟨rfl,rfl⟩
  | 6,_=>exact absurd rfl h7
  | 7,_=>exact ⟨rfl,rfl⟩
  | 8,_=>exact ⟨rfl,rfl⟩
  | 9,_=>exact ⟨rfl,rfl⟩
  | k+10,h=>exact absurd h (by omega)
 ·intro X W hse
  exact uunch_any (⟨4,0,(⟨[0],3,1,0,0⟩:Lk),(⟨3,0,0,6⟩:Sn),[H],0,[],[⟨1,0,0,0⟩],zD10,zOu,1,[]⟩:Se) X W hse hs7
 ·intro X Z W hse ho
  exact udecide_any (⟨4,0,(⟨[0],3,1,0,0⟩:Lk),(⟨3,0,0,6⟩:Sn),[H],0,[],[⟨1,0,0,0⟩],zD10,zOu,1,[]⟩:Se) X (⟨[H],0,[],[0],[],[]⟩:Ou) Z W hse ho hs7 (smo1 h2.hl) rfl rfl (show (1:Nat)<=9 by decide) (fun i hi=>by
   obtain rfl:i=0:=by have:i<1:=hi;omega
   exact ⟨⟨show (0:Int)<=0 by decide,show (0:Int)<((1:Nat):Int) by decide⟩,show ¬(0:Int)∈([]:List Int) by decide⟩) rfl
end Go.Proofs.YtkecnihgjepfeaaGreat
