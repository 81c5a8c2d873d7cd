/- What is proved here: parts of the proof: Grn. -/
import Derived.Test.YtkecnihgjepfeaaGreatJ34
namespace Go.Proofs.YtkecnihgjepfeaaGreat
open Go.RowKit
set_option linter.unusedVariables false
set_option linter.unusedSimpArgs false
set_option maxHeartbeats 8000000
set_option maxRecDepth 20000
def nwE15 (cs:List Int) (lim:Int):Int:=if nwE13 cs≠0 then nwE13 cs else if lim<1\/8<lim then 1 else 0
def nwS15 (cs:List Int) (lim:Int):Se:=if nwE15 cs lim=0 then ⟨0,0,nwL13 cs,zSn,[],0,[],[],zD10,zOu,lim,[]⟩ else zSe
def SNr (w:World) (s:Se) (x:Int) (e:Ending) (w' : World):Prop:=∃ X,e=.returned (.tuple #[sev s X,.int .i64 x])/\RNw (s.rows X) w.heap.size/\SeR w' w'.heap.size s X/\Below w.heap.size w w'
abbrev lkS (l:Lk) (lim:Int):Se:=⟨0,0,l,zSn,[],0,[],[],zD10,zOu,lim,[]⟩
abbrev lkX (A:Option Addr) (c:Nat):Sex:=⟨A,c,[],none,0,none,0,none,0,zDx,zOux,none,0⟩
section
variable {W:World} {B lo c:Nat} {l:Lk} {lim:Int} {A:Option Addr}
theorem lkS_rows:(lkS l lim).rows (lkX A c)=[⟨1,A,l.cs.length,ics l.cs⟩,⟨8,none,0,[]⟩,⟨7,none,0,[]⟩,⟨4,none,0,[]⟩,⟨3,none,0,[]⟩,⟨1,none,0,[]⟩,⟨7,none,0,[]⟩,⟨8,none,0,[]⟩,⟨7,none,0,[]⟩,⟨1,none,0,[]⟩,⟨7,none,0,[]⟩,⟨4,none,0,[]⟩]:=rfl
theorem lkS_nw (h:Nw lo A):RNw ((lkS l lim).rows (lkX A c)) lo:=fun r hr=>by
 rw [lkS_rows] at hr
 simp only [List.mem_cons,List.not_mem_nil,or_false] at hr
 rcases hr with rfl | rfl | rfl | rfl | rfl | rfl | rfl | rfl | rfl | rfl | rfl | rfl
 ·exact h
 all_goals exact nw_none
theorem zSe_nw:RNw (zSe.rows zSex) lo:=lkS_nw (l:=zK) (lim:=0) (A:=none) (c:=0) nw_none
theorem SeR.newlock (h:Fl W B (.slice A l.cs.length c) l.cs):SeR W B (lkS l lim) (lkX A c):=by
 refine ⟨fun r hr=>?_,⟨rfl,fun h hh=>absurd hh (by simp),⟨h.len.2,cp0,cp0,cp0,cp0,cp0,cp0⟩,zOux_ok⟩⟩
 rw [lkS_rows] at hr
 simp only [List.mem_cons,List.not_mem_nil,or_false] at hr
 rcases hr with rfl | rfl | rfl | rfl | rfl | rfl | rfl | rfl | rfl | rfl | rfl | rfl
 ·exact h.rd
 all_goals exact Rd.nil none
theorem snr_out {w W:World} {r:Nat} {s:Se} {X:Sex} {vs:List Value} (hr:w.heap.size<=r) (hb:Below w.heap.size w W) (hn:RNw (s.rows X) (r+1)) (hs:SeR W W.heap.size s X) (x:Int):SNr w s x (.returned (.tuple #[sev s X,.int .i64 x])) (stN15 W r 0 vs):=
 ⟨X,rfl,hn.low (by omega),(hs.stN (hn.off (Nat.lt_succ_self r))).more (by rw [stN15_size];exact nLR _),stN15_below hb hr 0⟩
end
theorem info_se:(Tryz.prog.info? 53).map (·.size)=some 26:=by kernel_rfl
end Go.Proofs.YtkecnihgjepfeaaGreat
