/- What is proved here: parts of the proof: Uaa. -/
import Derived.Test.YtkecnihgjepfeaaGreatJ42
import Derived.Test.YtkecnihgjepfeaaGreatJ45
namespace Go.Proofs.YtkecnihgjepfeaaGreat
open Go.RowKit
set_option linter.unusedVariables false
set_option linter.unusedSimpArgs false
set_option maxHeartbeats 8000000
set_option maxRecDepth 20000
theorem ust_lock {s:Se} {X:Sex} {a:Ar} {Y:Ax} {t n:Int} (w:World) (har:AR w w.heap.size a Y) (hse:SeR w w.heap.size s X) (hw:a.Few) (hs:SmC s) (hph:s.ph=0) (hk:s.lk.sm) (hl:(stL13 a s.lk t).cs.length<=9) (hE:stE13 a s.lk t=0) (h0:slE15 a s t 3 1=0):Calls Tryz.prog 13 #[av a Y,sev s X,.int .i64 t,.int .i64 n] w (SE15n w (slA a s t) (slP a s t 3 1) 0):=by
 have hm:∀ (wr:World) (p:Nat) (X' : Sex) (Y' : Ax) (W:World),UrS wr p s X' a Y' t n W->Calls Tryz.prog 58 #[.pointer (some ⟨p,0,none⟩)] W (UrP wr.heap.size p t n (slP a s t 3 1) (slA a s t) 0 W):=by
  intro wr p X' Y' W hu
  have k:=ulockm_any W hu.ur hw hk hl hE
  rw [h0] at k
  exact k
 exact ustep_any (K:=0) (fm:=58) w har hse hw hs hph (by decide) (fun p=>rfl) (fun _ _=>rfl) hm
theorem ust_free {s:Se} {X:Sex} {a:Ar} {Y:Ax} {t n:Int} (w:World) (har:AR w w.heap.size a Y) (hse:SeR w w.heap.size s X) (hw:a.Few) (hs:SmC s) (hph:s.ph=8) (hk:s.lk.sm) (hl:(stL13 a s.lk t).cs.length<=9) (hE:stE13 a s.lk t=0) (h0:slE15 a s t 5 9=0):Calls Tryz.prog 13 #[av a Y,sev s X,.int .i64 t,.int .i64 n] w (SE15n w (slA a s t) (slP a s t 5 9) 0):=by
 have hm:∀ (wr:World) (p:Nat) (X' : Sex) (Y' : Ax) (W:World),UrS wr p s X' a Y' t n W->Calls Tryz.prog 65 #[.pointer (some ⟨p,0,none⟩)] W (UrP wr.heap.size p t n (slP a s t 5 9) (slA a s t) 0 W):=by
  intro wr p X' Y' W hu
  have k:=ufreem_any W hu.ur hw hk hl hE
  rw [h0] at k
  exact k
 exact ustep_any (K:=8) (fm:=65) w har hse hw hs hph (by decide) (fun p=>rfl) (fun _ _=>rfl) hm
theorem ust_marke {s:Se} {X:Sex} {a:Ar} {Y:Ax} {t n:Int} (w:World) (har:AR w w.heap.size a Y) (hse:SeR w w.heap.size s X) (hw:a.Few) (hs:SmC s) (hph:s.ph=1) (i c:Nat) (hat:s.at_=2*(i:Int)) (hk:i<s.lk.cs.length) (hc:ig s.lk.cs i=(c:Int)) (hi:islB a (c:Int)=true) (hl2:s.st.length<=9) (h0:avE a.sl.length { s with st:=s.st++[tg a.st c] } (2*(slF a.sl.length s.lk.cs:Int)) 2=0):Calls Tryz.prog 13 #[av a Y,sev s X,.int .i64 t,.int .i64 n] w (SE15n w (a) (avP a.sl.length { s with st:=s.st++[tg a.st c] } (2*(slF a.sl.length s.lk.cs:Int)) 2) 0):=by
 have hm:∀ (wr:World) (p:Nat) (X' : Sex) (Y' : Ax) (W:World),UrS wr p s X' a Y' t n W->Calls Tryz.prog 59 #[.pointer (some ⟨p,0,none⟩)] W (UrP wr.heap.size p t n (avP a.sl.length { s with st:=s.st++[tg a.st c] } (2*(slF a.sl.length s.lk.cs:Int)) 2) (a) 0 W):=by
  intro wr p X' Y' W hu
  have k:=umark_e i c W hu.ur hw hs.lk hat hk hu.us hc hi hl2
  rw [h0] at k
  exact k
 exact ustep_any (K:=1) (fm:=59) w har hse hw hs hph (by decide) (fun p=>rfl) (fun _ _=>rfl) hm
theorem ust_marko {s:Se} {X:Sex} {a:Ar} {Y:Ax} {t n:Int} (w:World) (har:AR w w.heap.size a Y) (hse:SeR w w.heap.size s X) (hw:a.Few) (hs:SmC s) (hph:s.ph=1) (i:Nat) (hat:s.at_=2*(i:Int)+1) (hk:i<s.lk.cs.length) (hk2:i<s.st.length) (hE:bgE (tg s.st i)=0) (hr:wi (bgT (tg s.st i)).sq 0 1099511627776=true/\wi (bgT (tg s.st i)).ep 0 1099511627776=true/\wi (bgT (tg s.st i)).rd 0 1099511627776=true/\wi (bgT (tg s.st i)).ls 0 1099511627776=true) (hsl:slE a (ig s.lk.cs i) t=0) (h0:avE (ssA a (ig s.lk.cs i) t (bgT (tg s.st i))).sl.length { s with st:=s.st.set i (bgT (tg s.st i)) } (2*(slF (ssA a (ig s.lk.cs i) t (bgT (tg s.st i))).sl.length s.lk.cs:Int)) 2=0):Calls Tryz.prog 13 #[av a Y,sev s X,.int .i64 t,.int .i64 n] w (SE15n w ((ssA a (ig s.lk.cs i) t (bgT (tg s.st i)))) (avP (ssA a (ig s.lk.cs i) t (bgT (tg s.st i))).sl.length { s with st:=s.st.set i (bgT (tg s.st i)) } (2*(slF (ssA a (ig s.lk.cs i) t (bgT (tg s.st i))).sl.length s.lk.cs:Int)) 2) 0):=by
 have hm:∀ (wr:World) (p:Nat) (X' : Sex) (Y' : Ax) (W:World),UrS wr p s X' a Y' t n W->Calls Tryz.prog 59 #[.pointer (some ⟨p,0,none⟩)] W (UrP wr.heap.size p t n (avP (ssA a (ig s.lk.cs i) t (bgT (tg s.st i))).sl.length { s with st:=s.st.set i (bgT (tg s.st i)) } (2*(slF (ssA a (ig s.lk.cs i) t (bgT (tg s.st i))).sl.length s.lk.cs:Int)) 2) ((ssA a (ig s.lk.cs i) t (bgT (tg s.st i)))) 0 W):=by
  intro wr p X' Y' W hu
  have k:=umark_o i 0 W hu.ur hw hs.lk hat hk hu.us hk2 hE hr hsl
  rw [h0] at k
  exact k
 exact ustep_any (K:=1) (fm:=59) w har hse hw hs hph (by decide) (fun p=>rfl) (fun _ _=>rfl) hm
theorem ust_loadd {s:Se} {X:Sex} {a:Ar} {Y:Ax} {t n:Int} (w:World) (har:AR w w.heap.size a Y) (hse:SeR w w.heap.size s X) (hw:a.Few) (hs:SmC s) (hph:s.ph=2) (i:Nat) (hat:s.at_=(i:Int)) (hk:i<s.lk.cs.length) (hc:ig s.lk.cs i=(a.sl.length:Int)) (h0:avE a.sl.length { s with dc:=a.cap,dl:=a.dl } (s.lk.cs.length:Int) 3=0):Calls Tryz.prog 13 #[av a Y,sev s X,.int .i64 t,.int .i64 n] w (SE15n w (a) (avP a.sl.length { s with dc:=a.cap,dl:=a.dl } (s.lk.cs.length:Int) 3) 0):=by
 have hm:∀ (wr:World) (p:Nat) (X' : Sex) (Y' : Ax) (W:World),UrS wr p s X' a Y' t n W->Calls Tryz.prog 60 #[.pointer (some ⟨p,0,none⟩)] W (UrP wr.heap.size p t n (avP a.sl.length { s with dc:=a.cap,dl:=a.dl } (s.lk.cs.length:Int) 3) (a) 0 W):=by
  intro wr p X' Y' W hu
  have k:=uload_d i W hu.ur hw hs.lk hat hk hc
  rw [h0] at k
  exact k
 exact ustep_any (K:=2) (fm:=60) w har hse hw hs hph (by decide) (fun p=>rfl) (fun _ _=>rfl) hm
theorem ust_loads {s:Se} {X:Sex} {a:Ar} {Y:Ax} {t n:Int} (w:World) (har:AR w w.heap.size a Y) (hse:SeR w w.heap.size s X) (hw:a.Few) (hs:SmC s) (hph:s.ph=2) (i c:Nat) (hat:s.at_=(i:Int)) (hk:i<s.lk.cs.length) (hc:ig s.lk.cs i=(c:Int)) (hi:islB a (c:Int)=true) (h0:avE a.sl.length { s with sh:=s.sh++[(og a.sl c).sh] } (s.lk.cs.length:Int) 3=0):Calls Tryz.prog 13 #[av a Y,sev s X,.int .i64 t,.int .i64 n] w (SE15n w (a) (avP a.sl.length { s with sh:=s.sh++[(og a.sl c).sh] } (s.lk.cs.length:Int) 3) 0):=by
 have hm:∀ (wr:World) (p:Nat) (X' : Sex) (Y' : Ax) (W:World),UrS wr p s X' a Y' t n W->Calls Tryz.prog 60 #[.pointer (some ⟨p,0,none⟩)] W (UrP wr.heap.size p t n (avP a.sl.length { s with sh:=s.sh++[(og a.sl c).sh] } (s.lk.cs.length:Int) 3) (a) 0 W):=by
  intro wr p X' Y' W hu
  have k:=uload_s i W hu.ur hw hs.lk hat hk c hu.uo hc hi hs.sh.1
  rw [h0] at k
  exact k
 exact ustep_any (K:=2) (fm:=60) w har hse hw hs hph (by decide) (fun p=>rfl) (fun _ _=>rfl) hm
theorem ust_snap {s:Se} {X:Sex} {a:Ar} {Y:Ax} {t n:Int} (w:World) (har:AR w w.heap.size a Y) (hse:SeR w w.heap.size s X) (hw:a.Few) (hs:SmC s) (hph:s.ph=3) (hE:nsE s.sn=0):Calls Tryz.prog 13 #[av a Y,sev s X,.int .i64 t,.int .i64 n] w (SE15n w (a) (spP a.sl.length a s n) 0):=by
 have hm:∀ (wr:World) (p:Nat) (X' : Sex) (Y' : Ax) (W:World),UrS wr p s X' a Y' t n W->Calls Tryz.prog 61 #[.pointer (some ⟨p,0,none⟩)] W (UrP wr.heap.size p t n (spP a.sl.length a s n) (a) 0 W):=by
  intro wr p X' Y' W hu
  exact usnap_any W hu.ur hs.lk hE
 exact ustep_any (K:=3) (fm:=61) w har hse hw hs hph (by decide) (fun p=>rfl) (fun _ _=>rfl) hm
theorem ust_stored {s:Se} {X:Sex} {a:Ar} {Y:Ax} {t n:Int} (w:World) (har:AR w w.heap.size a Y) (hse:SeR w w.heap.size s X) (hw:a.Few) (hs:SmC s) (hph:s.ph=5) (i k c:Nat) (hat:s.at_=(i:Int)) (hi:i<s.o.od.length) (hik:ig s.o.od i=(k:Int)) (hk:k<s.lk.cs.length) (hc:ig s.lk.cs k=(c:Int)) (hd:c=a.sl.length) (hE:owE a (a.sl.length:Int) t=0) (hV1:va8 s.o.dc s.o.dl=0) (hC:s.o.dc=a.cap) (h0:avE (a.setDl s.o.dl).sl.length { s with ca:=soC s } (s.o.od.length:Int) 6=0):Calls Tryz.prog 13 #[av a Y,sev s X,.int .i64 t,.int .i64 n] w (SE15n w (a.setDl s.o.dl) (avP (a.setDl s.o.dl).sl.length { s with ca:=soC s } (s.o.od.length:Int) 6) 0):=by
 have hm:∀ (wr:World) (p:Nat) (X' : Sex) (Y' : Ax) (W:World),UrS wr p s X' a Y' t n W->Calls Tryz.prog 62 #[.pointer (some ⟨p,0,none⟩)] W (UrP wr.heap.size p t n (avP (a.setDl s.o.dl).sl.length { s with ca:=soC s } (s.o.od.length:Int) 6) (a.setDl s.o.dl) 0 W):=by
  intro wr p X' Y' W hu
  have k1:=ustore_any (TA:=a.setDl s.o.dl) i W hu.ur hs.lk hat hi hs.o.od hs.o.ca (fun V hV=>by rw [hik];exact ustorecell_d k c V (hu.ur.up hV) hw hk hc hd hE hV1 hC hs.o.dl)
  rw [h0] at k1
  exact k1
 exact ustep_any (K:=5) (fm:=62) w har hse hw hs hph (by decide) (fun p=>rfl) (fun _ _=>rfl) hm
theorem ust_stores {s:Se} {X:Sex} {a:Ar} {Y:Ax} {t n:Int} (w:World) (har:AR w w.heap.size a Y) (hse:SeR w w.heap.size s X) (hw:a.Few) (hs:SmC s) (hph:s.ph=5) (i k c:Nat) (hat:s.at_=(i:Int)) (hi:i<s.o.od.length) (hik:ig s.o.od i=(k:Int)) (hk:k<s.lk.cs.length) (hc:ig s.lk.cs k=(c:Int)) (hko:k<s.o.sh.length) (hE:slE a (c:Int) t=0) (hV1:shV (sgS s.o.sh k)=0) (hL:(sgS s.o.sh k).cs.length=(og a.sl c).sh.cs.length) (hb3:(sgS s.o.sh k).cs.length<=1000/\(sgS s.o.sh k).l.length<=1000/\(sgS s.o.sh k).h.length<=1000) (h0:avE (a.setSh c (sgS s.o.sh k)).sl.length { s with ca:=soC s } (s.o.od.length:Int) 6=0):Calls Tryz.prog 13 #[av a Y,sev s X,.int .i64 t,.int .i64 n] w (SE15n w (a.setSh c (sgS s.o.sh k)) (avP (a.setSh c (sgS s.o.sh k)).sl.length { s with ca:=soC s } (s.o.od.length:Int) 6) 0):=by
 have hm:∀ (wr:World) (p:Nat) (X' : Sex) (Y' : Ax) (W:World),UrS wr p s X' a Y' t n W->Calls Tryz.prog 62 #[.pointer (some ⟨p,0,none⟩)] W (UrP wr.heap.size p t n (avP (a.setSh c (sgS s.o.sh k)).sl.length { s with ca:=soC s } (s.o.od.length:Int) 6) (a.setSh c (sgS s.o.sh k)) 0 W):=by
  intro wr p X' Y' W hu
  have k1:=ustore_any (TA:=a.setSh c (sgS s.o.sh k)) i W hu.ur hs.lk hat hi hs.o.od hs.o.ca (fun V hV=>by rw [hik];exact ustorecell_s k c V (hu.ur.up hV) hw hk hc hko hE hV1 hL hb3)
  rw [h0] at k1
  exact k1
 exact ustep_any (K:=5) (fm:=62) w har hse hw hs hph (by decide) (fun p=>rfl) (fun _ _=>rfl) hm
theorem ust_unmark {s:Se} {X:Sex} {a:Ar} {Y:Ax} {t n:Int} (w:World) (har:AR w w.heap.size a Y) (hse:SeR w w.heap.size s X) (hw:a.Few) (hs:SmC s) (hph:s.ph=7) (i:Nat) (hat:s.at_=(i:Int)) (hi:i<s.st.length) (hk:i<s.lk.cs.length) (hi2:i<s.sh.length) (hi3:i<s.o.sh.length) (hE:enE (tg s.st i) (nwS15s s i) s.sn.ep s.lim=0) (hr:wi (enT (tg s.st i) (nwS15s s i) s.sn.ep s.lim).sq 0 1099511627776=true/\wi (enT (tg s.st i) (nwS15s s i) s.sn.ep s.lim).ep 0 1099511627776=true/\wi (enT (tg s.st i) (nwS15s s i) s.sn.ep s.lim).rd 0 1099511627776=true/\wi (enT (tg s.st i) (nwS15s s i) s.sn.ep s.lim).ls 0 1099511627776=true) (hsl:slE a (ig s.lk.cs i) t=0) (h0:avE (ssA a (ig s.lk.cs i) t (enT (tg s.st i) (nwS15s s i) s.sn.ep s.lim)).sl.length s (s.sh.length:Int) 8=0):Calls Tryz.prog 13 #[av a Y,sev s X,.int .i64 t,.int .i64 n] w (SE15n w ((ssA a (ig s.lk.cs i) t (enT (tg s.st i) (nwS15s s i) s.sn.ep s.lim))) (avP (ssA a (ig s.lk.cs i) t (enT (tg s.st i) (nwS15s s i) s.sn.ep s.lim)).sl.length s (s.sh.length:Int) 8) 0):=by
 have hm:∀ (wr:World) (p:Nat) (X' : Sex) (Y' : Ax) (W:World),UrS wr p s X' a Y' t n W->Calls Tryz.prog 64 #[.pointer (some ⟨p,0,none⟩)] W (UrP wr.heap.size p t n (avP (ssA a (ig s.lk.cs i) t (enT (tg s.st i) (nwS15s s i) s.sn.ep s.lim)).sl.length s (s.sh.length:Int) 8) ((ssA a (ig s.lk.cs i) t (enT (tg s.st i) (nwS15s s i) s.sn.ep s.lim))) 0 W):=by
  intro wr p X' Y' W hu
  have hpr:∀ V,Below W.heap.size W V->Calls Tryz.prog 96 #[.pointer (some ⟨p,0,none⟩),.int .i64 (i:Int)] V fun e w'=>∃ D,e=.returned (sv (nwS15s s i) D)/\SR w' w'.heap.size (nwS15s s i) D/\Below V.heap.size V w':=fun V hV=>by
   by_cases hm:(i:Int)∈s.o.od
   ·rw [show nwS15s s i=sgS s.o.sh i from if_pos hm]
    exact upresent_y i V (hu.ur.up hV) hi3 hs.o.od hm
   ·rw [show nwS15s s i=sgS s.sh i from if_neg hm]
    exact upresent_n i V (hu.ur.up hV) hi2 hs.o.od hm
  have k:=uunmark_any i (nwS15s s i) W hu.ur hw hs.lk hat hi hk hpr hE hr hsl
  rw [h0] at k
  exact k
 exact ustep_any (K:=7) (fm:=64) w har hse hw hs hph (by decide) (fun p=>rfl) (fun _ _=>rfl) hm
end Go.Proofs.YtkecnihgjepfeaaGreat
