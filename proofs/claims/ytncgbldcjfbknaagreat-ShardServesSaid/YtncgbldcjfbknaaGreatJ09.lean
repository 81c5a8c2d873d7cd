/- What is proved here: shardqueueref04.Validate by a contract; (plain) what removals from a ring that is filled with valid messages of different IDs give; (plain) heaps of deadlines: sifting up and down keeps the elements and makes a heap; (plain) heaps of deadlines: the place of an ID, what is due in order, insertion into a sorted row; Tbd. -/
import Derived.Test.YtncgbldcjfbknaaGreatJ08
import Derived.Deep.QuietTactic
import Derived.BigQuiet
import Derived.ProofKit
namespace Go.Proofs.YtncgbldcjfbknaaGreat
open Go.RowKit
set_option linter.unusedVariables false
theorem ix_self {l:List Msg} (h:¬dupP l) {k:Nat} (hk:k<l.length):ixF l l[k].id=k:=
 ixF_hit hk rfl (fun j hj hlt e=>h ⟨j,k,hj,hk,hlt,e⟩)
theorem ix_other {l:List Msg} {k:Nat} (hk:k<l.length) (h:ixF l l[k].id≠k):dupP l:=by
 rcases ixF_cases l l[k].id with ⟨_,hn⟩ | ⟨j,hj,e,hi,hn⟩
 ·exact absurd rfl (hn k hk)
 ·rw [e] at h
  have hjk:j≠k:=fun e=>h (by rw [e])
  rcases Nat.lt_or_ge j k with hlt | hge
  ·exact ⟨j,k,hj,hk,hlt,hi⟩
  ·exact absurd rfl (hn k hk (by omega))
theorem dup_none {l:List Msg} (h:∀ k (hk:k<l.length),ixF l l[k].id=k):¬dupP l:=by
 rintro ⟨i,j,hi,hj,hij,e⟩
 have h1:=h i hi
 have h2:=h j hj
 rw [e,h2] at h1
 omega
set_option maxHeartbeats 2000000 in
theorem rvalid_no (A:Option Addr) (c:Nat) (cs:List Msg) (hd sz:Int) (w:World) (hm2:cs.length≤maxLen) (h:nmB cs.length hd sz=false) :
  Calls Tryz.prog 60 #[.agg #[.slice A cs.length c,.int .i64 hd,.int .i64 sz]] w (VlT w 1):=by
 have HB:=Lh (RgAt.start w A cs.length c hd sz 27).bel
 have hL:(cs.length:Int)≤9223372036854775807:=by unfold maxLen at hm2;omega
 generalize cs.length=n at*
 by_cases a1:(n:Int)<1
 ·obtain rfl:n=0:=by omega
  clear h hm2
  go_enter Tryz.func60,Tryz.ntmps60
  go_wp2
  go_ret
  exact ⟨rfl,HB.out⟩
 by_cases a2:(12:Int)<(n:Int)
 ·clear h hm2
  go_enter Tryz.func60,Tryz.ntmps60
  go_wp2
  go_ret
  exact ⟨rfl,HB.out⟩
 by_cases a3:hd<0
 ·clear h hm2
  go_enter Tryz.func60,Tryz.ntmps60
  go_wp2
  go_ret
  exact ⟨rfl,HB.out⟩
 by_cases a4:(n:Int)≤hd
 ·clear h hm2
  go_enter Tryz.func60,Tryz.ntmps60
  go_wp2
  go_ret
  exact ⟨rfl,HB.out⟩
 by_cases a5:sz<0
 ·clear h hm2
  go_enter Tryz.func60,Tryz.ntmps60
  go_wp2
  go_ret
  exact ⟨rfl,HB.out⟩
 by_cases a6:(n:Int)<sz
 ·clear h hm2
  go_enter Tryz.func60,Tryz.ntmps60
  go_wp2
  go_ret
  exact ⟨rfl,HB.out⟩
 rw [nm_mk (by omega)] at h
 cases h
set_option maxHeartbeats 8000000 in
set_option maxRecDepth 20000 in
theorem rvalid_any (A:Option Addr) (n c:Nat) (cs:List Msg) (hd sz:Int) (w:World) (hv:Ls w w.heap.size (.slice A n c) cs) :
  Calls Tryz.prog 60 #[.agg #[.slice A n c,.int .i64 hd,.int .i64 sz]] w (VlT w (rgV cs hd sz)):=by
 obtain ⟨rfl,hm1,hm2⟩:=hv.len
 cases h0:nmB cs.length hd sz with
 | false=>rw [rgV_num h0];exact rvalid_no A c cs hd sz w (by omega) h0
 | true=>
  have HV:=Lh hv
  clear hm1 hm2 hv
  obtain ⟨⟨n1,n2⟩,⟨h1,h2⟩,⟨s1,s2⟩⟩:=nm_of h0
  obtain ⟨hd,rfl⟩:=Int.eq_ofNat_of_zero_le h1
  obtain ⟨sz,rfl⟩:=Int.eq_ofNat_of_zero_le s1
  have HO:=Lh (fun w1 (h:Ls w1 w1.heap.size (.slice A cs.length c) cs)=>rorder_any A cs.length c cs hd sz w1 h h0)
  have HZN:=Lh (fun k (hk:sz≤k) (hl:k<cs.length) (h:cel cs hd k≠zM)=>rgV_free (sz:=(sz:Int)) (hd:=(hd:Int)) h0 (fun g=>h (g k (by simpa using hk) hl)))
  have HE:=Lh (fun hz=>rgV_msg (cs:=cs) (hd:=hd) (sz:=sz) h0 hz)
  have HD:=Lh (fun hz=>rgV_dup (cs:=cs) (hd:=hd) (sz:=sz) h0 hz)
  have HK:=Lh (fun hz=>rgV_ok (cs:=cs) (hd:=hd) (sz:=sz) h0 hz)
  simp only [Int.toNat_natCast] at HE HD HK
  have hlen:=ord_len cs hd sz
  have HLL:=Lh (show (ord cs hd sz).length≤12 by omega)
  generalize ord cs hd sz=l at*
  generalize rgV cs hd sz=R at*
  clear hlen h0
  have hc1:¬((cs.length:Int)<1):=by omega
  have hc2:¬((12:Int)<(cs.length:Int)):=by omega
  have hc3:¬((cs.length:Int)≤(hd:Int)):=by omega
  have hc4:¬((cs.length:Int)<(sz:Int)):=by omega
  have hn1i:(1:Int)≤(cs.length:Int):=by omega
  have hn2i:(cs.length:Int)≤12:=by omega
  have hnil:¬(cs=[]):=fun e=>by rw [e] at n1;simp at n1
  have hnl0:¬(cs.length=0):=by omega
  go_enter Tryz.func60,Tryz.ntmps60
  go_wp2
  have HS:=Lh (RgAt.start w A cs.length c hd sz 27)
  obtain ⟨p,hp⟩:∃ p,p=w.heap.size:=⟨_,rfl⟩
  rw [←hp] at HS ⊢
  have HPP:=Lh hp
  clear hp
  go_loopw [4] (fun i wr=>∃ k:Nat,k≤cs.length∧sz≤k∧i=.int .i64 k∧RgAt w p A cs.length c hd sz wr∧∀ j,sz≤j→j<k→cel cs hd j=zM) (fun i _=>cs.length - (intOf i).toNat)
  case atStart=>exact ⟨sz,by omega,Nat.le_refl _,rfl,HS.out,fun j h h'=>absurd h (by omega)⟩
  case round=>
   obtain ⟨k,hk,hsk,rfl,hr,hz⟩:=hrel
   have HR:=Lh hr
   have HZ:=Lh hz
   have HVK:=Lh (HV.out.below hr.bel)
   obtain ⟨r0,r1,r2,hpl⟩:=hr.facts
   clear hr hz
   by_cases hlt:k<cs.length
   ·obtain ⟨m,hm⟩:∃ m,m=(hd+k) % cs.length:=⟨_,rfl⟩
    have hml:m<cs.length:=by rw [hm];exact Nat.mod_lt _ (by omega)
    have HX:=Lh (cel_get (by omega) m hm hml)
    have hmi:((hd:Int)+(k:Int)) % (cs.length:Int)=(m:Int):=by rw [hm];simp
    have hhk:IntKind.i64.wrap ((hd:Int)+(k:Int))=(hd:Int)+(k:Int):=IntWalk.i64_in _ (by omega)
    have hmt:((hd:Int)+(k:Int)).tmod (cs.length:Int)=(m:Int):=by rw [Int.tmod_eq_emod_of_nonneg (show 0≤(hd:Int)+(k:Int) by omega)];exact hmi
    have hml' : (m:Int)<(cs.length:Int):=by omega
    obtain ⟨b,o,rfl,hb,c0,c1,c2,c3,c4,c5,c6⟩:=HVK.out.at_ hml
    generalize cs[m]=X at*
    clear hm hb
    by_cases he:X=zM
    ·have hne:∀ W,(binOp .neq 56 X.v (.agg #[.int .i64 0,.int .i64 0,.int .i64 0,.int .i64 0,.int .i64 0,.int .i64 0,.string ⟨#[]⟩])).run Tryz.prog W=.ok (.bool false) W:=by rw [he];exact neqm zM
     have HE0:=Lh he
     clear he
     go_wp2
     go_quiet (fail)
     go_wp2
     go_roundw
     case rel=>
      refine ⟨k+1,by omega,by omega,by go_num,HR.out.drewN _,fun j h h'=>?_⟩
      by_cases e:j=k
      ·rw [e,←HX.out,HE0.out]
      ·exact HZ.out j h (by omega)
     case measure=>simp [intOf];omega
    ·have hne:∀ W,(binOp .neq 56 X.v (.agg #[.int .i64 0,.int .i64 0,.int .i64 0,.int .i64 0,.int .i64 0,.int .i64 0,.string ⟨#[]⟩])).run Tryz.prog W=.ok (.bool true) W:=neqm_ne X zM he
     have HF:=Lh (HZN.out k hsk hlt (by rw [←HX.out];exact he))
     clear he
     go_wp2
     go_quiet (fail)
     go_wp2
     go_ret
     exact ⟨ret_i64 HF.out.symm,(HR.out.drewN _).bel⟩
   ·have HZA:=Lh (show ∀ k,sz≤k→k<cs.length→cel cs hd k=zM from fun j h h'=>HZ.out j h (by omega))
    have HE':=Lh (HE.out HZA.out)
    have HD':=Lh (HD.out HZA.out)
    have HK':=Lh (HK.out HZA.out)
    clear HE HD HK HZN
    go_wp2_with fail
    refine (HO.out _ (HVK.out.more HR.out.bel.size)).mono ?_
    rintro e w3 ⟨v,rfl,hnw,hl,hb⟩
    have HB3:=Lh (HR.out.bel.trans (hb.mono HR.out.bel.size))
    obtain ⟨A2,cap2,rfl,_,_⟩:=hl.form
    have HL3:=Lh hl
    have hl12:=HLL.out
    clear hb r0 r1 r2 hpl hl hnw
    go_wp2
    go_loopw [6] (fun i wx=>∃ k:Nat,k≤l.length∧i=.int .i64 k∧Below w.heap.size w wx∧Below w3.heap.size w3 wx∧∀ j (hj:j<l.length),j<k→vf l[j]=0) (fun i _=>l.length - (intOf i).toNat)
    case atStart=>exact ⟨0,by omega,rfl,HB3.out,Below.refl _ _,fun j _ h=>absurd h (by omega)⟩
    case round=>
     obtain ⟨k2,hk2,rfl,hb,hb3,hno⟩:=hrel
     have HNO:=Lh hno
     have HLK:=Lh (HL3.out.below hb3)
     have HBW:=Lh hb
     have HB3W:=Lh hb3
     clear hno hb hb3
     by_cases hlt2:k2<l.length
     ·have HEK:=Lh (fun h=>fe_hit hlt2 HNO.out h)
      have HVD:=Lh (fun w=>rvalidate_any l[k2] w)
      obtain ⟨b,o,rfl,hb,c0,c1,c2,c3,c4,c5,c6⟩:=HLK.out.at_ hlt2
      by_cases he:vf l[k2]=0
      ·rw [he] at HVD
       have HNN:=Lh (show ∀ j (hj:j<l.length),j<k2+1→vf l[j]=0 from fun j hj h=>by
        by_cases e:j=k2
        ·subst e;exact he
        ·exact HNO.out j hj (by omega))
       clear he HEK
       generalize l[k2]=X at*
       go_wp2_with fail
       refine (HVD.out _).mono ?_
       rintro e w4 ⟨rfl,hb4⟩
       have HB4:=Lh (HBW.out.trans (hb4.mono HBW.out.size))
       have HB34:=Lh (HB3W.out.trans (hb4.mono HB3W.out.size))
       clear hb4
       go_wp2
       go_roundw
       case rel=>exact ⟨k2+1,by omega,by go_num,HB4.out,HB34.out,HNN.out⟩
       case measure=>simp [intOf];omega
      ·have HRR:=Lh (show R=vf l[k2] by rw [←HEK.out he];exact HE'.out (by rw [HEK.out he];exact he))
       have hne:(vf l[k2] != 0)=true:=bne_iff_ne.2 he
       clear he HEK
       generalize l[k2]=X at*
       generalize vf X=x at*
       go_wp2_with fail
       refine (HVD.out _).mono ?_
       rintro e w4 ⟨rfl,hb4⟩
       have HB4:=Lh (HBW.out.trans (hb4.mono HBW.out.size))
       clear hb4
       go_wp2
       go_ret
       exact ⟨ret_i64 HRR.out.symm,HB4.out⟩
     ·have HFE:=Lh (show fe l=0 from fe_all fun M hM=>by
       obtain ⟨j,hj,rfl⟩:=List.getElem_of_mem hM
       exact HNO.out j hj (by omega))
      go_wp2
      go_loop [8] (fun i=>∃ k:Nat,k≤l.length∧i=.int .i64 k∧∀ j (hj:j<l.length),j<k→ixF l l[j].id=j) (fun i=>l.length - (intOf i).toNat)
      case atStart=>exact ⟨0,by omega,rfl,fun j _ h=>absurd h (by omega)⟩
      case round=>
       obtain ⟨k3,hk3,rfl,hix⟩:=hrel
       have HIX:=Lh hix
       clear hix
       by_cases hlt3:k3<l.length
       ·obtain ⟨b,o,rfl,hb,c0,c1,c2,c3,c4,c5,c6⟩:=HLK.out.at_ hlt3
        have HRI:=Lh (fun wz=>rindex_any (some ⟨b,o,none⟩) l.length cap2 l l[k3].id wz w3.heap.size)
        have HOT:=Lh (fun h=>ix_other hlt3 h)
        have HNX:=Lh (fun (h:ixF l l[k3].id=k3)=>(show ∀ j (hj:j<l.length),j<k3+1→ixF l l[j].id=j from fun j hj hjk=>by
         by_cases e:j=k3
         ·subst e;exact h
         ·exact HIX.out j hj (by omega)))
        by_cases he:ixF l l[k3].id=k3
        ·have HRI':=Lh (HRI.out _ HLK.out)
         rw [he] at HRI'
         have HNY:=Lh (HNX.out he)
         clear he HRI HOT HNX
         generalize l[k3]=X at*
         go_wp2_with fail
         refine HRI'.out.mono ?_
         rintro e w5 ⟨rfl,rfl⟩
         go_wp2
         go_round
         case rel=>exact ⟨k3+1,by omega,by go_num,HNY.out⟩
         case measure=>simp [intOf];omega
        ·have HRI':=Lh (HRI.out _ HLK.out)
         have HRR:=Lh (HD'.out HFE.out (HOT.out he))
         have hne:(ixF l l[k3].id != (k3:Int))=true:=bne_iff_ne.2 he
         have hne2:(ixF l l[k3].id==(k3:Int))=false:=beq_eq_false_iff_ne.2 he
         clear he HRI HOT HNX
         generalize l[k3]=X at*
         generalize ixF l X.id=x at*
         go_wp2_with fail
         refine HRI'.out.mono ?_
         rintro e w5 ⟨rfl,rfl⟩
         go_wp2
         go_ret
         exact ⟨ret_i64 HRR.out.symm,HBW.out⟩
       ·have HRR:=Lh (HK'.out HFE.out (dup_none (l:=l) fun k hk=>HIX.out k hk (by omega)))
        go_wp2
        go_ret
        exact ⟨ret_i64 HRR.out.symm,HBW.out⟩
theorem dup_pair (l:List Msg):¬dupP l↔l.Pairwise (fun a b=>a.id≠b.id):=by
 rw [List.pairwise_iff_getElem]
 constructor
 ·intro h i j hi hj hij e;exact h ⟨i,j,hi,hj,hij,e⟩
 ·rintro h ⟨i,j,hi,hj,hij,e⟩;exact h i j hi hj hij e
theorem gd_sub {l m:List Msg} (hs:List.Sublist m l) (hg:Gd l):Gd m:=
 ⟨fun M hM=>hg.1 M (hs.subset hM),(dup_pair m).2 (((dup_pair l).1 hg.2).sublist hs)⟩
section
variable {n hd:Nat} {l:List Msg}
theorem rm_fil (h1:1≤n) (h2:n≤12) (hh:hd<n) (hl:l.length≤n) (hg:Gd l) {i:Nat} (hi:i<l.length) :
  rmE (fil n hd l) (hd:Int) (l.length:Int) l[i].id=0∧rmC (fil n hd l) (hd:Int) (l.length:Int) l[i].id=fil n hd (l.eraseIdx i)∧rmM (fil n hd l) (hd:Int) (l.length:Int) l[i].id=l[i]:=by
 have hv:=rgV_fil h1 h2 hh hl hg
 have ho:ord (fil n hd l) (hd:Int).toNat (l.length:Int).toNat=l:=by simp only [Int.toNat_natCast];exact ord_fil l hh hl
 have hx:=ix_self hg.2 hi
 have he:rmE (fil n hd l) (hd:Int) (l.length:Int) l[i].id=0:=by
  unfold rmE
  rw [if_neg (by simpa using hv),ho,hx,if_neg (by omega)]
 refine ⟨he,?_,?_⟩
 ·unfold rmC
  rw [if_pos he,ho,hx,fil_len]
  simp only [Int.toNat_natCast]
 ·unfold rmM
  rw [if_pos he,ho,hx]
  simp only [Int.toNat_natCast]
  rw [cel_fil l hh (by omega)]
  simp [List.getD,hi]
end
end Go.Proofs.YtncgbldcjfbknaaGreat
namespace Go.Proofs.YtncgbldcjfbknaaGreat
set_option linter.unusedVariables false
structure Du where
 dl:Int
 id:Int
def zD:Du:=⟨0,0⟩
def bef (a b:Du):Bool:=decide (a.dl<b.dl∨(a.dl=b.dl∧a.id<b.id))
theorem bef_iff {a b:Du}:bef a b=true↔a.dl<b.dl∨(a.dl=b.dl∧a.id<b.id):=by unfold bef;exact decide_eq_true_iff
theorem bef_no {a b:Du}:bef a b=false↔b.dl<a.dl∨(b.dl=a.dl∧b.id≤a.id):=by
 rw [←Bool.not_eq_true,bef_iff];omega
theorem bef_irr (a:Du):bef a a=false:=bef_no.2 (by omega)
theorem bef_asym {a b:Du} (h:bef a b=true):bef b a=false:=by
 rw [bef_iff] at h;rw [bef_no];omega
theorem nbef_trans {a b c:Du} (h:bef a b=false) (k:bef b c=false):bef a c=false:=by
 rw [bef_no] at *;omega
theorem bef_nbef {a b c:Du} (h:bef a b=true) (k:bef c b=false):bef c a=false:=by
 rw [bef_iff] at h;rw [bef_no] at *;omega
def ge (h:List Du) (i:Nat):Du:=h.getD i zD
def swp (h:List Du) (i k:Nat):List Du:=(h.set i (ge h k)).set k (ge h i)
theorem swp_len (h:List Du) (i k:Nat):(swp h i k).length=h.length:=by simp [swp]
theorem ge_set (h:List Du) (i j:Nat) (x:Du) (hi:i<h.length):ge (h.set i x) j=if j=i then x else ge h j:=by
 unfold ge
 by_cases e:j=i
 ·subst e;simp [List.getD,hi]
 ·rw [if_neg e]
  simp [List.getD,Ne.symm e]
theorem ge_swp {h:List Du} {i k:Nat} (hi:i<h.length) (hk:k<h.length) (j:Nat):ge (swp h i k) j=if j=k then ge h i else if j=i then ge h k else ge h j:=by
 unfold swp
 rw [ge_set _ _ _ _ (by simpa using hk)]
 by_cases e:j=k
 ·rw [if_pos e,if_pos e]
 ·rw [if_neg e,if_neg e,ge_set _ _ _ _ hi]
def Hp (h:List Du):Prop:=∀ j,0<j→j<h.length→bef (ge h j) (ge h ((j - 1) / 2))=false
def upF (h:List Du) (i:Nat):List Du:=
 if hc:0<i∧bef (ge h i) (ge h ((i - 1) / 2))=true then upF (swp h i ((i - 1) / 2)) ((i - 1) / 2) else h
termination_by i
decreasing_by omega
def chF (h:List Du) (i:Nat):Nat:=if 2*i+2<h.length∧bef (ge h (2*i+2)) (ge h (2*i+1))=true then 2*i+2 else 2*i+1
theorem chF_cases (h:List Du) (i:Nat):chF h i=2*i+1∨chF h i=2*i+2:=by unfold chF;split <;> simp
theorem chF_lt {h:List Du} {i:Nat} (hi:2*i+1<h.length):i<chF h i∧chF h i<h.length:=by
 unfold chF
 split
 ·rename_i hc;omega
 ·omega
def dnF (h:List Du) (i:Nat):List Du:=
 if hc:2*i+1<h.length∧bef (ge h (chF h i)) (ge h i)=true then dnF (swp h i (chF h i)) (chF h i) else h
termination_by h.length - i
decreasing_by
 have:=chF_lt hc.1
 rw [swp_len]
 omega
theorem perm_set_set {h:List Du} {i k:Nat} (hi:i<h.length) (hk:k<h.length):(swp h i k).Perm h:=by
 unfold swp ge
 rw [List.getD_eq_getElem?_getD,List.getD_eq_getElem?_getD,List.getElem?_eq_getElem hi,List.getElem?_eq_getElem hk]
 simp only [Option.getD_some]
 exact List.set_set_perm hi hk
theorem upF_len (h:List Du) (i:Nat):(upF h i).length=h.length:=by
 induction h,i using upF.induct with
 | case1 h i hc ih=>rw [upF,dif_pos hc,ih,swp_len]
 | case2 h i hc=>rw [upF,dif_neg hc]
theorem dnF_len (h:List Du) (i:Nat):(dnF h i).length=h.length:=by
 induction h,i using dnF.induct with
 | case1 h i hc ih=>rw [dnF,dif_pos hc,ih,swp_len]
 | case2 h i hc=>rw [dnF,dif_neg hc]
theorem upF_perm (h:List Du) (i:Nat) (hi:i<h.length):(upF h i).Perm h:=by
 induction h,i using upF.induct with
 | case1 h i hc ih=>
  rw [upF,dif_pos hc]
  exact (ih (by rw [swp_len];omega)).trans (perm_set_set hi (by omega))
 | case2 h i hc=>rw [upF,dif_neg hc]
theorem dnF_perm (h:List Du) (i:Nat) (hi:i<h.length):(dnF h i).Perm h:=by
 induction h,i using dnF.induct with
 | case1 h i hc ih=>
  have:=chF_lt hc.1
  rw [dnF,dif_pos hc]
  exact (ih (by rw [swp_len];omega)).trans (perm_set_set hi this.2)
 | case2 h i hc=>rw [dnF,dif_neg hc]
def UpOk (h:List Du) (i:Nat):Prop:=(∀ j,0<j→j<h.length→j≠i→bef (ge h j) (ge h ((j - 1) / 2))=false)∧∀ j,0<j→j<h.length→(j - 1) / 2=i→0<i→bef (ge h j) (ge h ((i - 1) / 2))=false
theorem upF_heap (h:List Du) (i:Nat) (hi:i<h.length) (hu:UpOk h i):Hp (upF h i):=by
 induction h,i using upF.induct with
 | case1 h i hc ih=>
  obtain ⟨h0,hb⟩:=hc
  rw [upF,dif_pos ⟨h0,hb⟩]
  have hp:(i - 1) / 2<h.length:=by omega
  refine ih (by rw [swp_len];exact hp) ⟨fun j j0 jl jn=>?_,fun j j0 jl je p0=>?_⟩
  ·rw [swp_len] at jl
   rw [ge_swp hi hp,ge_swp hi hp,if_neg jn]
   by_cases e:j=i
   ·subst e
    rw [if_pos rfl,if_pos rfl]
    exact bef_asym hb
   ·rw [if_neg e]
    by_cases e1:(j - 1) / 2=(i - 1) / 2
    ·rw [if_pos e1]
     exact bef_nbef hb (by have:=hu.1 j j0 jl e;rw [e1] at this;exact this)
    ·rw [if_neg e1]
     by_cases e2:(j - 1) / 2=i
     ·rw [if_pos e2]
      exact hu.2 j j0 jl e2 h0
     ·rw [if_neg e2]
      exact hu.1 j j0 jl e
  ·rw [swp_len] at jl
   have hne:(((i - 1) / 2) - 1) / 2≠(i - 1) / 2:=by omega
   have hne2:(((i - 1) / 2) - 1) / 2≠i:=by omega
   rw [ge_swp hi hp,ge_swp hi hp,if_neg hne,if_neg hne2,if_neg (by omega)]
   have hpp:=hu.1 ((i - 1) / 2) p0 hp (by omega)
   by_cases e:j=i
   ·rw [if_pos e];exact hpp
   ·rw [if_neg e]
    have:=hu.1 j j0 jl e
    rw [je] at this
    exact nbef_trans this hpp
 | case2 h i hc=>
  rw [upF,dif_neg hc]
  intro j j0 jl
  by_cases e:j=i
  ·subst e
   cases hb:bef (ge h j) (ge h ((j - 1) / 2)) with
   | false=>rfl
   | true=>exact absurd ⟨j0,hb⟩ hc
  ·exact hu.1 j j0 jl e
def DnOk (h:List Du) (i:Nat):Prop:=(∀ j,0<j→j<h.length→(j - 1) / 2≠i→bef (ge h j) (ge h ((j - 1) / 2))=false)∧∀ j,0<j→j<h.length→(j - 1) / 2=i→0<i→bef (ge h j) (ge h ((i - 1) / 2))=false
theorem dnF_heap (h:List Du) (i:Nat) (hi:i<h.length) (hd:DnOk h i):Hp (dnF h i):=by
 induction h,i using dnF.induct with
 | case1 h i hc ih=>
  obtain ⟨hl,hb⟩:=hc
  have hk:=chF_lt hl
  rw [dnF,dif_pos ⟨hl,hb⟩]
  have hcc:=chF_cases h i
  have hpar:(chF h i - 1) / 2=i:=by omega
  -- the other child is not before the chosen one
  have hoth:∀ j,0<j→j<h.length→(j - 1) / 2=i→bef (ge h j) (ge h (chF h i))=false:=by
   intro j j0 jl je
   by_cases e:j=chF h i
   ·rw [e];exact bef_irr _
   ·unfold chF at e ⊢
    by_cases hx:2*i+2<h.length∧bef (ge h (2*i+2)) (ge h (2*i+1))=true
    ·rw [if_pos hx] at e ⊢
     have:j=2*i+1:=by omega
     rw [this]
     exact bef_asym hx.2
    ·rw [if_neg hx] at e ⊢
     have e2:j=2*i+2:=by omega
     rw [e2] at jl ⊢
     cases hb2:bef (ge h (2*i+2)) (ge h (2*i+1)) with
     | false=>rfl
     | true=>exact absurd ⟨jl,hb2⟩ hx
  generalize chF h i=k at*
  refine ih (by rw [swp_len];omega) ⟨fun j j0 jl jn=>?_,fun j j0 jl je p0=>?_⟩
  ·rw [swp_len] at jl
   rw [ge_swp hi hk.2,ge_swp hi hk.2]
   by_cases e:j=k
   ·subst e
    rw [if_pos rfl,hpar,if_neg (by omega),if_pos rfl]
    exact bef_asym hb
   ·rw [if_neg e,if_neg jn]
    by_cases e1:j=i
    ·subst e1
     rw [if_pos rfl,if_neg (by omega)]
     exact hd.2 k (by omega) hk.2 hpar j0
    ·rw [if_neg e1]
     by_cases e2:(j - 1) / 2=i
     ·rw [if_pos e2]
      exact hoth j j0 jl e2
     ·rw [if_neg e2]
      exact hd.1 j j0 jl e2
  ·rw [swp_len] at jl
   rw [ge_swp hi hk.2,ge_swp hi hk.2,if_neg (by omega),if_neg (by omega),hpar,if_neg (by omega),if_pos rfl]
   have:=hd.1 j j0 jl (by omega)
   rw [je] at this
   exact this
 | case2 h i hc=>
  rw [dnF,dif_neg hc]
  intro j j0 jl
  by_cases e:(j - 1) / 2=i
  ·rw [e]
   have hl:2*i+1<h.length:=by omega
   have hk:bef (ge h (chF h i)) (ge h i)=false:=by
    cases hb:bef (ge h (chF h i)) (ge h i) with
    | false=>rfl
    | true=>exact absurd ⟨hl,hb⟩ hc
   unfold chF at hk
   by_cases hx:2*i+2<h.length∧bef (ge h (2*i+2)) (ge h (2*i+1))=true
   ·rw [if_pos hx] at hk
    by_cases e2:j=2*i+2
    ·rw [e2];exact hk
    ·rw [show j=2*i+1 by omega]
     exact nbef_trans (bef_asym hx.2) hk
   ·rw [if_neg hx] at hk
    by_cases e2:j=2*i+1
    ·rw [e2];exact hk
    ·have e3:j=2*i+2:=by omega
     rw [e3] at jl ⊢
     have:bef (ge h (2*i+2)) (ge h (2*i+1))=false:=by
      cases hb2:bef (ge h (2*i+2)) (ge h (2*i+1)) with
      | false=>rfl
      | true=>exact absurd ⟨jl,hb2⟩ hx
     exact nbef_trans this hk
  ·exact hd.1 j j0 jl e
theorem hp_root {h:List Du} (hh:Hp h):∀ j,j<h.length→bef (ge h j) (ge h 0)=false:=by
 intro j
 induction j using Nat.strongRecOn with
 | ind j ih=>
  intro jl
  rcases Nat.eq_zero_or_pos j with e | j0
  ·subst e;exact bef_irr _
  ·exact nbef_trans (hh j j0 jl) (ih ((j - 1) / 2) (by omega) (by omega))
theorem ge_take {h:List Du} {n j:Nat} (hj:j<n):ge (h.take n) j=ge h j:=by
 unfold ge
 rw [List.getD_eq_getElem?_getD,List.getD_eq_getElem?_getD,List.getElem?_take,if_pos hj]
theorem hp_take {h:List Du} (hh:Hp h) (n:Nat):Hp (h.take n):=by
 intro j j0 jl
 rw [List.length_take] at jl
 rw [ge_take (by omega),ge_take (by omega)]
 exact hh j j0 (by omega)
def cuF (h:List Du) (i:Nat):List Du:=
 if i=h.length - 1 then h.take (h.length - 1)
 else if 0<i∧bef (ge ((h.take (h.length - 1)).set i (ge h (h.length - 1))) i) (ge ((h.take (h.length - 1)).set i (ge h (h.length - 1))) ((i - 1) / 2))=true then upF ((h.take (h.length - 1)).set i (ge h (h.length - 1))) i
 else dnF ((h.take (h.length - 1)).set i (ge h (h.length - 1))) i
theorem cuF_len {h:List Du} {i:Nat} (hi:i<h.length):(cuF h i).length=h.length - 1:=by
 unfold cuF
 split
 ·rw [List.length_take];omega
 ·split
  ·rw [upF_len,List.length_set,List.length_take];omega
  ·rw [dnF_len,List.length_set,List.length_take];omega
theorem take_last {h:List Du} (h0:0<h.length):h=h.take (h.length - 1)++[ge h (h.length - 1)]:=by
 have e:ge h (h.length - 1)=h[h.length - 1]'(by omega):=by
  unfold ge;rw [List.getD_eq_getElem?_getD,List.getElem?_eq_getElem (by omega)];rfl
 have k:=List.take_append_getElem (l:=h) (i:=h.length - 1) (by omega)
 rw [e,k,List.take_of_length_le (by omega)]
theorem set_perm (x:Du):∀ (ys:List Du) (i:Nat),i<ys.length→(ys.set i x).Perm (x::ys.eraseIdx i)
 | [],i,h=>by simp at h
 | a::ys,0,_=>by simp
 | a::ys,i+1,h=>by
  simp only [List.set_cons_succ,List.eraseIdx_cons_succ]
  exact ((set_perm x ys i (by simpa using h)).cons a).trans (List.Perm.swap _ _ _)
theorem cuF_perm {h:List Du} {i:Nat} (hi:i<h.length):(cuF h i).Perm (h.eraseIdx i):=by
 have ht:=take_last (h:=h) (by omega)
 have hl:(h.take (h.length - 1)).length=h.length - 1:=by rw [List.length_take];omega
 unfold cuF
 by_cases e:i=h.length - 1
 ·rw [if_pos e,e,List.eraseIdx_eq_take_drop_succ,List.drop_eq_nil_of_le (by omega),List.append_nil]
 ·rw [if_neg e]
  have hs:((h.take (h.length - 1)).set i (ge h (h.length - 1))).Perm (h.eraseIdx i):=by
   have h1:=set_perm (ge h (h.length - 1)) (h.take (h.length - 1)) i (by omega)
   refine h1.trans ?_
   have h2:h.eraseIdx i=(h.take (h.length - 1)).eraseIdx i++[ge h (h.length - 1)]:=by
    have this:h.eraseIdx i=(h.take (h.length - 1)++[ge h (h.length - 1)]).eraseIdx i:=congrArg (fun x=>List.eraseIdx x i) ht
    rw [this,List.eraseIdx_append_of_lt_length (by omega)]
   rw [h2]
   exact (List.perm_append_singleton _ _).symm
  have hsl:i<((h.take (h.length - 1)).set i (ge h (h.length - 1))).length:=by rw [List.length_set];omega
  split
  ·exact (upF_perm _ _ hsl).trans hs
  ·exact (dnF_perm _ _ hsl).trans hs
theorem cuF_heap {h:List Du} {i:Nat} (hi:i<h.length) (hh:Hp h):Hp (cuF h i):=by
 have hl:(h.take (h.length - 1)).length=h.length - 1:=by rw [List.length_take];omega
 unfold cuF
 by_cases e:i=h.length - 1
 ·rw [if_pos e];exact hp_take hh _
 ·rw [if_neg e]
  have hi1:i<h.length - 1:=by omega
  obtain ⟨y,hy⟩:∃ y,y=(h.take (h.length - 1)).set i (ge h (h.length - 1)):=⟨_,rfl⟩
  have hyl:y.length=h.length - 1:=by rw [hy,List.length_set,hl]
  have hg:∀ j,j<h.length - 1→ge y j=if j=i then ge h (h.length - 1) else ge h j:=fun j hj=>by
   rw [hy,ge_set _ _ _ _ (by omega)]
   split
   ·rfl
   ·exact ge_take hj
  rw [←hy]
  by_cases hc:0<i∧bef (ge y i) (ge y ((i - 1) / 2))=true
  ·rw [if_pos hc]
   obtain ⟨h0,hb⟩:=hc
   rw [hg i hi1,if_pos rfl,hg _ (by omega),if_neg (by omega)] at hb
   refine upF_heap y i (by omega) ⟨fun j j0 jl jn=>?_,fun j j0 jl je p0=>?_⟩
   ·rw [hg j (by omega),if_neg jn,hg _ (by omega)]
    by_cases e1:(j - 1) / 2=i
    ·rw [if_pos e1]
     have k1:=hh j j0 (by omega)
     rw [e1] at k1
     exact bef_nbef hb (nbef_trans k1 (hh i h0 (by omega)))
    ·rw [if_neg e1];exact hh j j0 (by omega)
   ·rw [hg j (by omega),if_neg (by omega),hg _ (by omega),if_neg (by omega)]
    have k1:=hh j j0 (by omega)
    rw [je] at k1
    exact nbef_trans k1 (hh i h0 (by omega))
  ·rw [if_neg hc]
   refine dnF_heap y i (by omega) ⟨fun j j0 jl jn=>?_,fun j j0 jl je p0=>?_⟩
   ·rw [hg _ (show (j - 1) / 2<h.length - 1 by omega),if_neg jn]
    by_cases e1:j=i
    ·rw [e1]
     rw [e1] at j0 jn
     cases hb:bef (ge y i) (ge h ((i - 1) / 2)) with
     | false=>rfl
     | true=>exact absurd ⟨j0,by rw [hg _ (show (i - 1) / 2<h.length - 1 by omega),if_neg (by omega)];exact hb⟩ hc
    ·rw [hg j (by omega),if_neg e1]
     exact hh j j0 (by omega)
   ·rw [hg j (by omega),if_neg (by omega),hg _ (show (i - 1) / 2<h.length - 1 by omega),if_neg (by omega)]
    have k1:=hh j j0 (by omega)
    rw [je] at k1
    exact nbef_trans k1 (hh i p0 (by omega))
def hpu (h:List Du) (d:Du):List Du:=upF (h++[d]) h.length
theorem puF_len (h:List Du) (d:Du):(hpu h d).length=h.length+1:=by unfold hpu;rw [upF_len];simp
theorem puF_perm (h:List Du) (d:Du):(hpu h d).Perm (d::h):=(upF_perm _ _ (by simp)).trans (List.perm_append_singleton _ _)
theorem ge_snoc {h:List Du} {d:Du} {j:Nat} (hj:j<h.length):ge (h++[d]) j=ge h j:=by
 unfold ge
 simp [List.getD,List.getElem?_append_left hj]
theorem puF_heap {h:List Du} (hh:Hp h) (d:Du):Hp (hpu h d):=by
 refine upF_heap _ _ (by simp) ⟨fun j j0 jl jn=>?_,fun j j0 jl je p0=>?_⟩
 ·simp at jl
  rw [ge_snoc (by omega),ge_snoc (by omega)]
  exact hh j j0 (by omega)
 ·simp at jl
  omega
def unF (h:List Du) (now:Int):List Int:=
 if hc:0<h.length∧(ge h 0).dl≤now then (ge h 0).id::unF (cuF h 0) now else []
termination_by h.length
decreasing_by
 rw [cuF_len hc.1]
 omega
theorem ge_zero {h:List Du} (h0:0<h.length):h=ge h 0::h.eraseIdx 0:=by
 cases h with
 | nil=>simp at h0
 | cons a l=>rfl
theorem ge_mem {h:List Du} {d:Du} (hd:d∈h):∃ j,j<h.length∧ge h j=d:=by
 obtain ⟨j,hj,e⟩:=List.getElem_of_mem hd
 exact ⟨j,hj,by unfold ge;rw [List.getD_eq_getElem?_getD,List.getElem?_eq_getElem hj];exact e⟩
theorem mem_ge {h:List Du} {j:Nat} (hj:j<h.length):ge h j∈h:=by
 unfold ge
 rw [List.getD_eq_getElem?_getD,List.getElem?_eq_getElem hj]
 exact List.getElem_mem hj
theorem hp_late {h:List Du} (hh:Hp h) {now:Int} (hl:now<(ge h 0).dl) {d:Du} (hd:d∈h):now<d.dl:=by
 obtain ⟨j,hj,rfl⟩:=ge_mem hd
 have:=bef_no.1 (hp_root hh j hj)
 omega
theorem unF_perm (h:List Du) (now:Int):Hp h→(unF h now).Perm ((h.filter (fun d=>decide (d.dl≤now))).map Du.id):=by
 induction h using unF.induct (now:=now) with
 | case1 h hc ih=>
  intro hh
  rw [unF,dif_pos hc]
  have h1:=ih (cuF_heap hc.1 hh)
  have h2:((cuF h 0).filter (fun d=>decide (d.dl≤now))).Perm ((h.eraseIdx 0).filter (fun d=>decide (d.dl≤now))):=(cuF_perm hc.1).filter _
  have h3:=ge_zero hc.1
  have h4:h.filter (fun d=>decide (d.dl≤now))=ge h 0::(h.eraseIdx 0).filter (fun d=>decide (d.dl≤now)):=by
   have e:h.filter (fun d=>decide (d.dl≤now))=(ge h 0::h.eraseIdx 0).filter (fun d=>decide (d.dl≤now)):=congrArg (List.filter _) h3
   rw [e,List.filter_cons_of_pos (by simpa using hc.2)]
  rw [h4]
  exact (h1.trans (h2.map _)).cons _
 | case2 h hc=>
  intro hh
  rw [unF,dif_neg hc]
  have:h.filter (fun d=>decide (d.dl≤now))=[]:=by
   rw [List.filter_eq_nil_iff]
   intro d hd
   have h0:0<h.length:=List.length_pos_of_mem hd
   have:=hp_late hh (now:=now) (by have:¬(ge h 0).dl≤now:=fun k=>hc ⟨h0,k⟩;omega) hd
   simp
   omega
  rw [this]
  exact List.Perm.refl _
theorem unF_mem {h:List Du} (hh:Hp h) (now x:Int):x∈unF h now↔∃ d∈h,d.dl≤now∧d.id=x:=by
 rw [(unF_perm h now hh).mem_iff]
 simp only [List.mem_map,List.mem_filter,decide_eq_true_eq]
 exact ⟨fun ⟨d,⟨h1,h2⟩,h3⟩=>⟨d,h1,h2,h3⟩,fun ⟨d,h1,h2,h3⟩=>⟨d,⟨h1,h2⟩,h3⟩⟩
theorem unF_len {h:List Du} (hh:Hp h) (now:Int):(unF h now).length=(h.filter (fun d=>decide (d.dl≤now))).length:=by
 rw [(unF_perm h now hh).length_eq,List.length_map]
def snd (d:Du):Bool:=decide (0≤d.dl∧d.dl≤1073741824∧1≤d.id∧d.id≤1073741824)
def dupD (h:List Du):Prop:=∃ (i j:Nat),i<j∧j<h.length∧(ge h i).id=(ge h j).id
open Classical in
noncomputable def vaF (h:List Du):Int:=
 if 12<h.length then 2 else if ¬(∀ j,j<h.length→snd (ge h j)=true) then 1 else if dupD h then 10 else if ¬Hp h then 11 else 0
theorem vaF_zero {h:List Du} (e:vaF h=0):h.length≤12∧(∀ j,j<h.length→snd (ge h j)=true)∧¬dupD h∧Hp h:=by
 unfold vaF at e
 by_cases h1:12<h.length
 ·rw [if_pos h1] at e;exact absurd e (by decide)
 ·rw [if_neg h1] at e
  by_cases h2:∀ j,j<h.length→snd (ge h j)=true
  ·rw [if_neg (by simpa using h2)] at e
   by_cases h3:dupD h
   ·rw [if_pos h3] at e;exact absurd e (by decide)
   ·rw [if_neg h3] at e
    by_cases h4:Hp h
    ·exact ⟨by omega,h2,h3,h4⟩
    ·rw [if_pos h4] at e;exact absurd e (by decide)
  ·rw [if_pos h2] at e;exact absurd e (by decide)
theorem vaF_ok {h:List Du} (h1:h.length≤12) (h2:∀ j,j<h.length→snd (ge h j)=true) (h3:¬dupD h) (h4:Hp h):vaF h=0:=by
 unfold vaF
 rw [if_neg (by omega),if_neg (by simpa using h2),if_neg h3,if_neg (by simpa using h4)]
theorem dupD_iff (h:List Du):¬dupD h↔(h.map Du.id).Nodup:=by
 rw [List.nodup_iff_pairwise_ne,List.pairwise_map,List.pairwise_iff_getElem]
 have e:∀ i (hi:i<h.length),ge h i=h[i]:=fun i hi=>by unfold ge;rw [List.getD_eq_getElem?_getD,List.getElem?_eq_getElem hi];rfl
 constructor
 ·intro k i j hi hj hij he;exact k ⟨i,j,hij,hj,by rw [e i hi,e j hj];exact he⟩
 ·rintro k ⟨i,j,hij,hj,he⟩;exact k i j (by omega) hj hij (by rw [←e i (by omega),←e j hj];exact he)
theorem snd_iff (h:List Du):(∀ j,j<h.length→snd (ge h j)=true)↔∀ d∈h,snd d=true:=
 ⟨fun k d hd=>by obtain ⟨j,hj,rfl⟩:=ge_mem hd;exact k j hj,fun k j hj=>k _ (mem_ge hj)⟩
theorem vaF_push {h:List Du} {d:Du} (hv:vaF h=0) (hd:snd d=true) (hl:h.length<12) (hi:∀ x∈h,x.id≠d.id):vaF (hpu h d)=0:=by
 obtain ⟨h1,h2,h3,h4⟩:=vaF_zero hv
 have hp:=puF_perm h d
 refine vaF_ok (by rw [puF_len];omega) ((snd_iff _).2 fun x hx=>?_) ((dupD_iff _).2 ?_) (puF_heap h4 d)
 ·rcases List.mem_cons.1 (hp.mem_iff.1 hx) with e | e
  ·rw [e];exact hd
  ·exact (snd_iff h).1 h2 x e
 ·rw [(hp.map Du.id).nodup_iff,List.map_cons,List.nodup_cons]
  refine ⟨fun k=>?_,(dupD_iff h).1 h3⟩
  obtain ⟨x,hx,e⟩:=List.mem_map.1 k
  exact hi x hx e
theorem vaF_cut {h:List Du} {i:Nat} (hv:vaF h=0) (hi:i<h.length):vaF (cuF h i)=0:=by
 obtain ⟨h1,h2,h3,h4⟩:=vaF_zero hv
 have hp:=cuF_perm hi
 refine vaF_ok (by rw [cuF_len hi];omega) ((snd_iff _).2 fun x hx=>?_) ((dupD_iff _).2 ?_) (cuF_heap hi h4)
 ·exact (snd_iff h).1 h2 x ((List.eraseIdx_sublist h i).subset (hp.mem_iff.1 hx))
 ·rw [(hp.map Du.id).nodup_iff]
  exact ((dupD_iff h).1 h3).sublist ((List.eraseIdx_sublist h i).map _)
theorem ge_get {h:List Du} {k:Nat} (hk:k<h.length):h[k]=ge h k:=by
 unfold ge;rw [List.getD_eq_getElem?_getD,List.getElem?_eq_getElem hk];rfl
def ixE (h:List Du) (id:Int):Nat:=h.findIdx (fun d=>d.id==id)
def ixD (h:List Du) (id:Int):Int:=if ixE h id<h.length then (ixE h id:Int) else -1
theorem ixD_hit {h:List Du} {id:Int} {k:Nat} (hk:k<h.length) (e:(ge h k).id=id) (hn:∀ j,j<k→(ge h j).id≠id):ixD h id=k:=by
 have e:ixE h id=k:=(List.findIdx_eq hk).2 ⟨by rw [ge_get hk];simpa using e,fun j hj=>by rw [ge_get (by omega)];simpa using hn j hj⟩
 unfold ixD
 rw [e,if_pos hk]
theorem ixD_none {h:List Du} {id:Int} (hn:∀ j,j<h.length→(ge h j).id≠id):ixD h id = -1:=by
 unfold ixD
 rw [if_neg]
 intro hl
 have:=List.findIdx_getElem (w:=hl)
 have this' : h[ixE h id].id=id:=beq_iff_eq.1 this
 rw [ge_get hl] at this'
 exact hn _ hl this'
theorem ixD_cases (h:List Du) (id:Int):(ixD h id = -1∧∀ j,j<h.length→(ge h j).id≠id)∨∃ k,k<h.length∧ixD h id=k∧(ge h k).id=id∧∀ j,j<k→(ge h j).id≠id:=by
 by_cases hh:∀ j,j<h.length→(ge h j).id≠id
 ·exact .inl ⟨ixD_none hh,hh⟩
 ·right
  have hl:ixE h id<h.length:=by
   apply Decidable.byContradiction
   intro hc
   have e:ixE h id=h.length:=Nat.le_antisymm List.findIdx_le_length (by omega)
   exact hh fun j hj hid=>by
    have:=(List.findIdx_eq_length.1 e) h[j] (List.getElem_mem hj)
    rw [ge_get hj] at this
    simp [hid] at this
  have hi:h[ixE h id].id=id:=beq_iff_eq.1 (List.findIdx_getElem (p:=fun d:Du=>d.id==id) (w:=hl))
  rw [ge_get hl] at hi
  refine ⟨ixE h id,hl,by unfold ixD;rw [if_pos hl],hi,fun j hlt=>?_⟩
  have:=List.not_of_lt_findIdx hlt
  rw [ge_get (by omega)] at this
  simpa using this
theorem ixD_ge (h:List Du) (id:Int):0≤ixD h id↔∃ d∈h,d.id=id:=by
 rcases ixD_cases h id with ⟨e,hn⟩ | ⟨k,hk,e,hi,_⟩
 ·rw [e]
  refine ⟨fun hx=>absurd hx (by omega),fun ⟨d,hd,hid⟩=>?_⟩
  obtain ⟨j,hj,rfl⟩:=ge_mem hd
  exact absurd hid (hn j hj)
 ·rw [e]
  exact ⟨fun _=>⟨ge h k,mem_ge hk,hi⟩,fun _=>by omega⟩
theorem ixD_lt (h:List Du) (id:Int):-1≤ixD h id∧ixD h id<h.length:=by
 rcases ixD_cases h id with ⟨e,_⟩ | ⟨k,hk,e,_,_⟩ <;> rw [e] <;> omega
theorem ixD_neg {h:List Du} {id:Int} (hx:¬0≤ixD h id):ixD h id = -1:=by have:=ixD_lt h id;omega
def cmF (a b:Du):Int:=if bef a b=true then -1 else if bef b a=true then 1 else 0
theorem cmF_neg (a b:Du):cmF a b<0↔bef a b=true:=by
 unfold cmF
 split
 ·rename_i h;simp [h]
 ·rename_i h
  split <;> simp [h]
theorem cmF_lt {a b:Du} (h:bef a b=true):cmF a b = -1:=if_pos h
/-! Insertion into a sorted row. -/
def Srt (l:List Du):Prop:=l.Pairwise (fun a b=>bef b a=false)
theorem bef_anti {a b:Du} (h:bef a b=false) (k:bef b a=false):a=b:=by
 rw [bef_no] at h k
 cases a;cases b
 simp only [Du.mk.injEq] at*
 omega
theorem srt_uniq:∀ {l m:List Du},l.Perm m→Srt l→Srt m→l=m
 | [],m,hp,_,_=>(List.nil_perm.1 hp).symm
 | a::l,[],hp,_,_=>absurd (List.Perm.symm hp) (by simp)
 | a::l,b::m,hp,hl,hm=>by
  have h1:=List.pairwise_cons.1 hl
  have h2:=List.pairwise_cons.1 hm
  have hab:a=b:=by
   have ha:a∈b::m:=hp.mem_iff.1 (List.mem_cons_self ..)
   have hb:b∈a::l:=hp.mem_iff.2 (List.mem_cons_self ..)
   rcases List.mem_cons.1 ha with e | e
   ·exact e
   ·rcases List.mem_cons.1 hb with e' | e'
    ·exact e'.symm
    ·exact bef_anti (h2.1 a e) (h1.1 b e')
  subst hab
  rw [srt_uniq (List.Perm.cons_inv hp) h1.2 h2.2]
structure SrtTo (l:List Du) (i:Nat) (g:List Du):Prop where
 perm:g.Perm l
 ord:∀ x y,x<y→y<i→bef (ge g y) (ge g x)=false
structure Ins (l:List Du) (i j:Nat) (g:List Du):Prop where
 perm:g.Perm l
 a:∀ x y,x<y→y≤i→x≠j→y≠j→bef (ge g y) (ge g x)=false
 b:∀ y,j<y→y≤i→bef (ge g y) (ge g j)=false
theorem SrtTo.start (l:List Du):SrtTo l 1 l:=⟨List.Perm.refl _,fun x y h1 h2=>absurd h1 (by omega)⟩
theorem SrtTo.ins {l g:List Du} {i:Nat} (h:SrtTo l i g):Ins l i i g:=⟨h.perm,fun x y h1 h2 _ h3=>h.ord x y h1 (by omega),fun y h1 h2=>absurd h1 (by omega)⟩
theorem Ins.step {l g:List Du} {i j:Nat} (h:Ins l i j g) (h0:0<j) (hj:j≤i) (hi:i<g.length) (hb:bef (ge g j) (ge g (j - 1))=true):Ins l i (j - 1) (swp g j (j - 1)):=by
 have g1:∀ t,ge (swp g j (j - 1)) t=if t=j - 1 then ge g j else if t=j then ge g (j - 1) else ge g t:=fun t=>ge_swp (by omega) (by omega) t
 refine ⟨(perm_set_set (by omega) (by omega)).trans h.perm,fun x y h1 h2 h3 h4=>?_,fun y h1 h2=>?_⟩
 ·rw [g1,g1,if_neg h3,if_neg h4]
  by_cases ex:x=j
  ·rw [if_pos ex,if_neg (by omega)]
   exact h.a (j - 1) y (by omega) h2 (by omega) (by omega)
  ·rw [if_neg ex]
   by_cases ey:y=j
   ·rw [if_pos ey];exact h.a x (j - 1) (by omega) (by omega) ex (by omega)
   ·rw [if_neg ey];exact h.a x y h1 h2 ex ey
 ·rw [g1,g1,if_pos rfl,if_neg (by omega)]
  by_cases ey:y=j
  ·rw [if_pos ey];exact bef_asym hb
  ·rw [if_neg ey];exact h.b y (by omega) h2
theorem Ins.done {l g:List Du} {i j:Nat} (h:Ins l i j g) (hj:j≤i) (hc:j=0∨bef (ge g j) (ge g (j - 1))=false):SrtTo l (i+1) g:=by
 refine ⟨h.perm,fun x y h1 h2=>?_⟩
 by_cases ex:x=j
 ·rw [ex];exact h.b y (by omega) (by omega)
 ·by_cases ey:y=j
  ·rcases hc with hc | hc
   ·omega
   ·rw [ey]
    by_cases e1:x=j - 1
    ·rw [e1];exact hc
    ·exact nbef_trans hc (h.a x (j - 1) (by omega) (by omega) ex (by omega))
  ·exact h.a x y h1 (by omega) ex ey
theorem SrtTo.srt {l g:List Du} {i:Nat} (h:SrtTo l i g) (hi:g.length≤i):Srt g:=by
 unfold Srt
 rw [List.pairwise_iff_getElem]
 intro x y hx hy hxy
 rw [ge_get hx,ge_get hy]
 exact h.ord x y hxy (by omega)
def unL (h:List Du) (now:Int):List Du:=
 if hc:0<h.length∧(ge h 0).dl≤now then ge h 0::unL (cuF h 0) now else []
termination_by h.length
decreasing_by
 rw [cuF_len hc.1]
 omega
theorem unF_eq (h:List Du) (now:Int):unF h now=(unL h now).map Du.id:=by
 induction h using unF.induct (now:=now) with
 | case1 h hc ih=>rw [unF,dif_pos hc,unL,dif_pos hc,ih];rfl
 | case2 h hc=>rw [unF,dif_neg hc,unL,dif_neg hc];rfl
theorem unL_sub (h:List Du) (now:Int):∀ d∈unL h now,d∈h:=by
 induction h using unF.induct (now:=now) with
 | case1 h hc ih=>
  intro d hd
  rw [unL,dif_pos hc] at hd
  rcases List.mem_cons.1 hd with e | e
  ·rw [e];exact mem_ge hc.1
  ·exact (List.eraseIdx_sublist h 0).subset ((cuF_perm hc.1).mem_iff.1 (ih d e))
 | case2 h hc=>
  intro d hd
  rw [unL,dif_neg hc] at hd
  cases hd
theorem unL_srt (h:List Du) (now:Int):Hp h→Srt (unL h now):=by
 induction h using unF.induct (now:=now) with
 | case1 h hc ih=>
  intro hh
  rw [unL,dif_pos hc]
  refine List.pairwise_cons.2 ⟨fun d hd=>?_,ih (cuF_heap hc.1 hh)⟩
  have h1:=(List.eraseIdx_sublist h 0).subset ((cuF_perm hc.1).mem_iff.1 (unL_sub _ _ d hd))
  obtain ⟨j,hj,rfl⟩:=ge_mem h1
  exact hp_root hh j hj
 | case2 h hc=>
  intro _
  rw [unL,dif_neg hc]
  exact List.Pairwise.nil
theorem unL_perm (h:List Du) (now:Int):Hp h→(unL h now).Perm (h.filter (fun d=>decide (d.dl≤now))):=by
 induction h using unF.induct (now:=now) with
 | case1 h hc ih=>
  intro hh
  rw [unL,dif_pos hc]
  have h1:=ih (cuF_heap hc.1 hh)
  have h2:((cuF h 0).filter (fun d=>decide (d.dl≤now))).Perm ((h.eraseIdx 0).filter (fun d=>decide (d.dl≤now))):=(cuF_perm hc.1).filter _
  have h3:=ge_zero hc.1
  have h4:h.filter (fun d=>decide (d.dl≤now))=ge h 0::(h.eraseIdx 0).filter (fun d=>decide (d.dl≤now)):=by
   have e:h.filter (fun d=>decide (d.dl≤now))=(ge h 0::h.eraseIdx 0).filter (fun d=>decide (d.dl≤now)):=congrArg (List.filter _) h3
   rw [e,List.filter_cons_of_pos (by simpa using hc.2)]
  rw [h4]
  exact (h1.trans h2).cons _
 | case2 h hc=>
  intro hh
  rw [unL,dif_neg hc]
  have:h.filter (fun d=>decide (d.dl≤now))=[]:=by
   rw [List.filter_eq_nil_iff]
   intro d hd
   have h0:0<h.length:=List.length_pos_of_mem hd
   have:=hp_late hh (now:=now) (by have:¬(ge h 0).dl≤now:=fun k=>hc ⟨h0,k⟩;omega) hd
   simp
   omega
  rw [this]
theorem unF_sorted {h g:List Du} (hh:Hp h) (hp:g.Perm h) (hs:Srt g) (now:Int):unF h now=(g.filter (fun d=>decide (d.dl≤now))).map Du.id:=by
 rw [unF_eq,srt_uniq (m:=g.filter (fun d=>decide (d.dl≤now))) ((unL_perm h now hh).trans (hp.symm.filter _)) (unL_srt h now hh) (List.Pairwise.filter _ hs)]
/-! Sifting, step by step. -/
theorem upF_step {h:List Du} {i:Nat} (h0:0<i) (hb:bef (ge h i) (ge h ((i - 1) / 2))=true):upF h i=upF (swp h i ((i - 1) / 2)) ((i - 1) / 2):=by
 rw [upF,dif_pos ⟨h0,hb⟩]
theorem upF_stop {h:List Du} {i:Nat} (hb:bef (ge h i) (ge h ((i - 1) / 2))=false):upF h i=h:=by
 rw [upF,dif_neg (fun hc=>by rw [hb] at hc;exact absurd hc.2 (by decide))]
theorem upF_zero (h:List Du):upF h 0=h:=upF_stop (bef_irr _)
theorem dnF_step {h:List Du} {i c:Nat} (hl:2*i+1<h.length) (hc:chF h i=c) (hb:bef (ge h c) (ge h i)=true):dnF h i=dnF (swp h i c) c:=by
 subst hc
 rw [dnF,dif_pos ⟨hl,hb⟩]
theorem dnF_stop {h:List Du} {i c:Nat} (hc:chF h i=c) (hb:bef (ge h c) (ge h i)=false):dnF h i=h:=by
 subst hc
 rw [dnF,dif_neg (fun hc=>by rw [hb] at hc;exact absurd hc.2 (by decide))]
theorem dnF_leaf {h:List Du} {i:Nat} (hl:¬2*i+1<h.length):dnF h i=h:=by
 rw [dnF,dif_neg (fun hc=>hl hc.1)]
theorem chF_two {h:List Du} {i:Nat} (hl:2*i+2<h.length) (hb:bef (ge h (2*i+2)) (ge h (2*i+1))=true):chF h i=2*i+2:=if_pos ⟨hl,hb⟩
theorem chF_one {h:List Du} {i:Nat} (hb:¬(2*i+2<h.length∧bef (ge h (2*i+2)) (ge h (2*i+1))=true)):chF h i=2*i+1:=if_neg hb
/-! The booleans of Validate. -/
open Classical in
noncomputable def dpD (h:List Du):Bool:=decide (dupD h)
open Classical in
noncomputable def hpD (h:List Du):Bool:=decide (Hp h)
def snD (h:List Du):Bool:=h.all snd
open Classical in
theorem dpD_yes {h:List Du} (x:dupD h):dpD h=true:=decide_eq_true x
open Classical in
theorem dpD_no {h:List Du} (x:¬dupD h):dpD h=false:=decide_eq_false x
open Classical in
theorem dpD_iff (h:List Du):dpD h=true↔dupD h:=decide_eq_true_iff
open Classical in
theorem hpD_yes {h:List Du} (x:Hp h):hpD h=true:=decide_eq_true x
open Classical in
theorem hpD_no {h:List Du} (x:¬Hp h):hpD h=false:=decide_eq_false x
open Classical in
theorem hpD_iff (h:List Du):hpD h=true↔Hp h:=decide_eq_true_iff
theorem snD_iff (h:List Du):snD h=true↔∀ j,j<h.length→snd (ge h j)=true:=by
 rw [snd_iff];unfold snD;exact List.all_eq_true
theorem snD_no {h:List Du} {j:Nat} (hj:j<h.length) (hs:snd (ge h j)=false):snD h=false:=by
 rw [←Bool.not_eq_true,snD_iff];intro k;rw [k j hj] at hs;cases hs
open Classical in
theorem vaF_eq (h:List Du):vaF h=if 12<h.length then 2 else if snD h=false then 1 else if dpD h=true then 10 else if hpD h=false then 11 else 0:=by
 have e1:(snD h=false)↔¬∀ j,j<h.length→snd (ge h j)=true:=by rw [←snD_iff];simp
 have e2:(hpD h=false)↔¬Hp h:=by rw [←hpD_iff];simp
 unfold vaF
 simp only [e1,e2,dpD_iff]
 first | done | rfl | (split <;> (try rfl) <;> split <;> (try rfl) <;> congr)
theorem vaF_2 {h:List Du} (h1:12<h.length):vaF h=2:=by rw [vaF_eq,if_pos h1]
theorem vaF_1 {h:List Du} (h1:h.length≤12) (h2:snD h=false):vaF h=1:=by rw [vaF_eq,if_neg (by omega),if_pos h2]
theorem vaF_10 {h:List Du} (h1:h.length≤12) (h2:snD h=true) (h3:dpD h=true):vaF h=10:=by rw [vaF_eq,if_neg (by omega),if_neg (by simp [h2]),if_pos h3]
theorem vaF_11 {h:List Du} (h1:h.length≤12) (h2:snD h=true) (h3:dpD h=false) (h4:hpD h=false):vaF h=11:=by rw [vaF_eq,if_neg (by omega),if_neg (by simp [h2]),if_neg (by simp [h3]),if_pos h4]
theorem vaF_0 {h:List Du} (h1:h.length≤12) (h2:snD h=true) (h3:dpD h=false) (h4:hpD h=true):vaF h=0:=by rw [vaF_eq,if_neg (by omega),if_neg (by simp [h2]),if_neg (by simp [h3]),if_neg (by simp [h4])]
noncomputable def hpuE (h:List Du) (d:Du):Int:=if vaF h≠0 then vaF h else if snd d=false then 1 else if h.length=12 then 3 else if 0≤ixD h d.id then 10 else 0
noncomputable def hrmE (h:List Du) (id:Int):Int:=if vaF h≠0 then vaF h else if ixD h id<0 then 4 else 0
noncomputable def puR (h:List Du) (d:Du):List Du:=if hpuE h d=0 then hpu h d else []
noncomputable def rmR (h:List Du) (id:Int):List Du:=if hrmE h id=0 then cuF h (ixD h id).toNat else []
noncomputable def unR (h:List Du) (now:Int):List Int:=if vaF h=0 then unF h now else []
theorem hpuE_zero {h:List Du} {d:Du} (e:hpuE h d=0):vaF h=0∧snd d=true∧h.length<12∧∀ x∈h,x.id≠d.id:=by
 unfold hpuE at e
 by_cases h1:vaF h=0
 ·rw [if_neg (by simpa using h1)] at e
  cases h2:snd d with
  | false=>rw [if_pos h2] at e;exact absurd e (by decide)
  | true=>
   rw [if_neg (by simp [h2])] at e
   by_cases h3:h.length=12
   ·rw [if_pos h3] at e;exact absurd e (by decide)
   ·rw [if_neg h3] at e
    by_cases h4:0≤ixD h d.id
    ·rw [if_pos h4] at e;exact absurd e (by decide)
    ·refine ⟨h1,rfl,?_,fun x hx hid=>h4 ((ixD_ge _ _).2 ⟨x,hx,hid⟩)⟩
     have:=(vaF_zero h1).1
     omega
 ·rw [if_pos h1] at e;exact absurd e h1
theorem hrmE_zero {h:List Du} {id:Int} (e:hrmE h id=0):vaF h=0∧∃ k,k<h.length∧ixD h id=k∧(ge h k).id=id:=by
 unfold hrmE at e
 by_cases h1:vaF h=0
 ·rw [if_neg (by simpa using h1)] at e
  by_cases h2:ixD h id<0
  ·rw [if_pos h2] at e;exact absurd e (by decide)
  ·rcases ixD_cases h id with ⟨e',_⟩ | ⟨k,hk,e',hi,_⟩
   ·rw [e'] at h2;omega
   ·exact ⟨h1,k,hk,e',hi⟩
 ·rw [if_pos h1] at e;exact absurd e h1
end Go.Proofs.YtncgbldcjfbknaaGreat
/- Plain: lists in ascending order of a key: what find, insertion, removal and change of an element give; heaps that consist of such a list's elements. -/
namespace Go.Proofs.YtncgbldcjfbknaaGreat
section
variable {α:Type} (key:α→Int)
def kFi (l:List α) (x:Int):Int:=if l.findIdx (fun a=>key a==x)<l.length then (l.findIdx (fun a=>key a==x):Int) else -1
def kAt (l:List α) (x:Int):Nat:=l.findIdx (fun a=>decide (x≤key a))
def Asc (l:List α):Prop:=l.Pairwise (fun a b=>key a<key b)
def kIns (l:List α) (a:α):List α:=l.take (kAt key l (key a))++a::l.drop (kAt key l (key a))
variable {key}
theorem kFi_hit {l:List α} {x:Int} {k:Nat} (hk:k<l.length) (e:key l[k]=x) (hn:∀ j (hj:j<k),key (l[j]'(Nat.lt_trans hj hk))≠x):kFi key l x=k:=by
 have h:l.findIdx (fun a=>key a==x)=k:=(List.findIdx_eq hk).2 ⟨by simpa using e,fun j hj=>by simpa using hn j hj⟩
 unfold kFi
 rw [h,if_pos hk]
theorem kFi_none {l:List α} {x:Int} (hn:∀ a∈l,key a≠x):kFi key l x = -1:=by
 have h:l.findIdx (fun a=>key a==x)=l.length:=List.findIdx_eq_length.2 fun a ha=>by simpa using hn a ha
 unfold kFi
 rw [h,if_neg (Nat.lt_irrefl _)]
theorem kFi_cases (key:α→Int) (l:List α) (x:Int):(kFi key l x = -1∧∀ a∈l,key a≠x)∨∃ (k:Nat) (hk:k<l.length),kFi key l x=k∧key l[k]=x∧∀ j (hj:j<k),key (l[j]'(Nat.lt_trans hj hk))≠x:=by
 by_cases h:l.findIdx (fun a=>key a==x)<l.length
 ·have h1:key (l[l.findIdx (fun a=>key a==x)])=x:=by simpa using List.findIdx_getElem (w:=h)
  have h2:∀ j (hj:j<l.findIdx (fun a=>key a==x)),key (l[j]'(Nat.lt_trans hj h))≠x:=fun j hj=>by simpa using List.not_of_lt_findIdx hj
  exact .inr ⟨_,h,kFi_hit h h1 h2,h1,h2⟩
 ·have h1:l.findIdx (fun a=>key a==x)=l.length:=Nat.le_antisymm List.findIdx_le_length (Nat.le_of_not_lt h)
  have h2:∀ a∈l,key a≠x:=fun a ha=>by simpa using List.findIdx_eq_length.1 h1 a ha
  exact .inl ⟨kFi_none h2,h2⟩
theorem kFi_ge {l:List α} {x:Int}:0≤kFi key l x↔∃ a∈l,key a=x:=by
 rcases kFi_cases key l x with ⟨e,hn⟩ | ⟨k,hk,e,he,_⟩
 ·rw [e];exact ⟨fun h=>absurd h (by omega),fun ⟨a,ha,h⟩=>absurd h (hn a ha)⟩
 ·rw [e];exact ⟨fun _=>⟨l[k],List.getElem_mem hk,he⟩,fun _=>by omega⟩
theorem kFi_map {β:Type} (f:β→α) (l:List β) (x:Int):kFi key (l.map f) x=kFi (fun b=>key (f b)) l x:=by
 unfold kFi;rw [List.findIdx_map,List.length_map];rfl
theorem kAt_le (l:List α) (x:Int):kAt key l x≤l.length:=List.findIdx_le_length
theorem kAt_lo {l:List α} {x:Int} {j:Nat} (hj:j<kAt key l x):key (l[j]'(Nat.lt_of_lt_of_le hj (kAt_le l x)))<x:=by
 have h:=List.not_of_lt_findIdx hj
 have h':=of_decide_eq_false h
 omega
theorem kAt_hi {l:List α} {x:Int} (h:kAt key l x<l.length):x≤key l[kAt key l x]:=by
 exact of_decide_eq_true (List.findIdx_getElem (w:=h))
theorem kAt_hit {l:List α} {x:Int} {k:Nat} (hk:k≤l.length) (h1:∀ j (hj:j<k),key (l[j]'(Nat.lt_of_lt_of_le hj hk))<x) (h2:∀ hk:k<l.length,x≤key l[k]):kAt key l x=k:=by
 have h:=kAt_le (key:=key) l x
 rcases Nat.lt_trichotomy (kAt key l x) k with hl | he | hg
 ·have a:=h1 _ hl
  have b:=kAt_hi (key:=key) (l:=l) (x:=x) (by omega)
  omega
 ·exact he
 ·have a:=kAt_lo hg
  have b:=h2 (by omega)
  omega
theorem kAt_map {β:Type} (f:β→α) (l:List β) (x:Int):kAt key (l.map f) x=kAt (fun b=>key (f b)) l x:=by
 unfold kAt;rw [List.findIdx_map];rfl
theorem kIns_map {β:Type} (f:β→α) (l:List β) (b:β):kIns key (l.map f) (f b)=(kIns (fun b=>key (f b)) l b).map f:=by
 unfold kIns;rw [kAt_map];simp [List.map_take,List.map_drop]
theorem kIns_perm (l:List α) (a:α):(kIns key l a).Perm (a::l):=by
 unfold kIns
 refine List.perm_middle.trans ?_
 rw [List.take_append_drop]
theorem kIns_len (l:List α) (a:α):(kIns key l a).length=l.length+1:=(kIns_perm l a).length_eq
theorem Asc.lt {l:List α} (h:Asc key l) {i j:Nat} (hi:i<j) (hj:j<l.length):key (l[i]'(Nat.lt_trans hi hj))<key l[j]:=List.pairwise_iff_getElem.1 h i j _ hj hi
theorem asc_iff {l:List α}:Asc key l↔∀ j (hj:j+1<l.length),key (l[j]'(Nat.lt_of_succ_lt hj))<key l[j+1]:=by
 refine ⟨fun h j hj=>h.lt (Nat.lt_succ_self _) hj,fun h=>List.pairwise_iff_getElem.2 ?_⟩
 have H:∀ d i (hj:i+d+1<l.length),key (l[i]'(by omega))<key l[i+d+1]:=by
  intro d
  induction d with
  | zero=>intro i hj;exact h i hj
  | succ d ih=>intro i hj;exact Int.lt_trans (ih i (by omega)) (h (i+d+1) (by omega))
 intro i j hi hj hij
 have:=H (j - i - 1) i (by omega)
 simpa [show i+(j - i - 1)+1=j by omega] using this
theorem Asc.inj {l:List α} (h:Asc key l) {i j:Nat} (hi:i<l.length) (hj:j<l.length) (e:key l[i]=key l[j]):i=j:=by
 rcases Nat.lt_trichotomy i j with a | a | a
 ·have:=h.lt a hj;omega
 ·exact a
 ·have:=h.lt a hi;omega
theorem Asc.hit {l:List α} (h:Asc key l) {x:Int} {k:Nat} (hk:k<l.length) (e:key l[k]=x):kFi key l x=k:=
 kFi_hit hk e fun j hj e'=>by have:=h.lt hj hk;omega
theorem Asc.nodup {l:List α} (h:Asc key l):(l.map key).Nodup:=List.pairwise_map.2 (h.imp fun h=>by omega)
theorem Asc.nil:Asc key ([]:List α):=List.Pairwise.nil
theorem Asc.ins {l:List α} (h:Asc key l) {a:α} (ha:∀ b∈l,key b≠key a):Asc key (kIns key l a):=by
 unfold kIns
 have h1:∀ x∈l.take (kAt key l (key a)),key x<key a:=fun x hx=>by
  obtain ⟨j,hj,e⟩:=List.mem_iff_getElem.1 hx
  subst e
  have hj2:j<kAt key l (key a):=by have:=List.length_take_le (kAt key l (key a)) l;omega
  rw [List.getElem_take]
  exact kAt_lo hj2
 have h2:∀ x∈l.drop (kAt key l (key a)),key a<key x:=fun x hx=>by
  obtain ⟨j,hj,e⟩:=List.mem_iff_getElem.1 hx
  subst e
  rw [List.getElem_drop]
  have hl:kAt key l (key a)+j<l.length:=by rw [List.length_drop] at hj;omega
  have b:=kAt_hi (key:=key) (l:=l) (x:=key a) (by omega)
  have c:=ha _ (List.getElem_mem hl)
  rcases Nat.eq_zero_or_pos j with h0 | h0
  ·subst h0
   have:key a≤key (l[kAt key l (key a)+0]):=b
   omega
  ·have:=h.lt (show kAt key l (key a)<kAt key l (key a)+j by omega) hl
   omega
 refine List.pairwise_append.2 ⟨h.sublist (List.take_sublist _ _),List.pairwise_cons.2 ⟨fun x hx=>h2 x hx,h.sublist (List.drop_sublist _ _)⟩,fun x hx y hy=>?_⟩
 rcases List.mem_cons.1 hy with e | hy
 ·rw [e];exact h1 x hx
 ·exact Int.lt_trans (h1 x hx) (h2 y hy)
theorem Asc.erase {l:List α} (h:Asc key l) (k:Nat):Asc key (l.eraseIdx k):=h.sublist (List.eraseIdx_sublist l k)
end
end Go.Proofs.YtncgbldcjfbknaaGreat
