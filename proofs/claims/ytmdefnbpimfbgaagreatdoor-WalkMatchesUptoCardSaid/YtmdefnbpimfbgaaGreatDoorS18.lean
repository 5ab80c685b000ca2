/-
  Lemmas on automata, dictionaries and the walk over them, the program's calls and the given ones.
-/
import Derived.Test.YtmdefnbpimfbgaaGreatDoorS12
set_option maxRecDepth 100000
set_option maxHeartbeats 16000000
namespace Go.Proofs.YtmdefnbpimfbgaaGreatDoor
section
open Go.RowKit
namespace Ut
def among (c:Int):List Int→Bool
 | a :: b :: r=>decide (a≤c∧c≤b)||among c r
 | _=>false
def letter (c:Int):Bool:=among c [97,122,65,90,48,57,192,214,216,246,248,591,880,893,895,1153,1155,1327,19968,40959]
def fold (c:Int):Int:=
 if among c [65,90,192,214,216,222,913,929,931,937,1040,1071]=true then c+32
 else if 1024≤c∧c≤1039 then c+80 else if c=962 then 963 else c
theorem fold_far (c:Int) (h:c<0∨1071<c):fold c=c:=by
 have hn:among c [65,90,192,214,216,222,913,929,931,937,1040,1071]=false:=by
  simp only [among,Bool.or_eq_false_iff,decide_eq_false_iff_not]
  refine ⟨?_,?_,?_,?_,?_,?_,trivial⟩ <;> omega
 unfold fold
 rw [hn,if_neg Bool.false_ne_true,if_neg (by omega),if_neg (by omega)]
theorem fold_near:∀n:Fin 1072,((n.val:Int)≤fold (n.val:Int)∧fold (n.val:Int)≤(n.val:Int)+80)∧fold (fold (n.val:Int))=fold (n.val:Int)∧(letter (n.val:Int)=true→letter (fold (n.val:Int))=true):=by decide +kernel
theorem fold_all (c:Int):(c≤fold c∧fold c≤c+80)∧fold (fold c)=fold c∧(letter c=true→letter (fold c)=true):=by
 by_cases h:c<0∨1071<c
 ·rw [fold_far c h,fold_far c h]
  exact ⟨by omega,rfl,id⟩
 ·have:=fold_near ⟨c.toNat,by omega⟩
  rw [show (((⟨c.toNat,by omega⟩:Fin 1072).val:Nat):Int)=c from by show ((c.toNat:Nat):Int)=c;omega] at this
  exact this
theorem fold_bound (c:Int):c≤fold c∧fold c≤c+80:=(fold_all c).1
theorem whole_fold (c:Int) (h:whole c=true):whole (fold c)=true:=by
 by_cases hf:c<0∨1071<c
 ·rw [fold_far c hf];exact h
 ·have:=fold_bound c
  rw [whole_iff] at *
  omega
end Ut
theorem ret_bool {a b:Bool} (h:a=b):Ending.returned (.bool a)=.returned (.bool b):=by rw [h]
theorem ret_i {k:IntKind} {a b:Int} (h:a=b):Ending.returned (.int k a)=.returned (.int k b):=by rw [h]
theorem within_any (c lo hi:Int) (w:World):
  Calls Tryz.prog 96 #[.int .i64 c,.int .i64 lo,.int .i64 hi] w fun e w'=>e=.returned (.bool (decide (lo≤c∧c≤hi)))∧w=w':=by
 by_cases h1:lo≤c
 ·by_cases h2:c≤hi
  ·have e:decide (lo≤c∧c≤hi)=true:=decide_eq_true ⟨h1,h2⟩
   rw [e]
   go_enter Tryz.func96,Tryz.ntmps96
   go_wp2_with fail
   go_ret
   exact ⟨rfl,rfl⟩
  ·have e:decide (lo≤c∧c≤hi)=false:=decide_eq_false (fun h=>h2 h.2)
   rw [e]
   go_enter Tryz.func96,Tryz.ntmps96
   go_wp2_with fail
   go_ret
   exact ⟨rfl,rfl⟩
 ·have e:decide (lo≤c∧c≤hi)=false:=decide_eq_false (fun h=>h1 h.1)
  rw [e]
  go_enter Tryz.func96,Tryz.ntmps96
  go_wp2_with fail
  go_ret
  exact ⟨rfl,rfl⟩
theorem whole_any (c:Int) (w:World):
  Calls Tryz.prog 135 #[.int .i64 c] w fun e w'=>e=.returned (.bool (Ut.whole c))∧w=w':=by
 have h1:=lh (within_any c 0 55295 w)
 have h2:=lh (within_any c 57344 1114111 w)
 have hw:Hid (Ut.whole c=(decide (0≤c∧c≤55295)||decide (57344≤c∧c≤1114111))):=by
  show _=_
  rw [Bool.eq_iff_iff,Ut.whole_iff,Bool.or_eq_true,decide_eq_true_iff,decide_eq_true_iff]
  omega
 generalize decide (0≤c∧c≤55295)=a at *
 generalize decide (57344≤c∧c≤1114111)=b at *
 go_enter Tryz.func135,Tryz.ntmps135
 go_wp2_with fail
 refine h1.out.mono ?_
 rintro e w1 ⟨rfl,rfl⟩
 cases a
 ·go_wp2_with fail
  refine h2.out.mono ?_
  rintro e w1 ⟨rfl,rfl⟩
  go_wp2_with fail
  go_ret
  exact ⟨by rw [hw.out];rfl,rfl⟩
 ·go_wp2_with fail
  go_ret
  exact ⟨by rw [hw.out];rfl,rfl⟩
theorem letter_split (c:Int) (h1:¬c=215) (h2:¬c=247) (h3:¬c=894) (h4:¬c=1154):
  Ut.letter c=(decide (97≤c∧c≤122)||(decide (65≤c∧c≤90)||(decide (48≤c∧c≤57)||(decide (192≤c∧c≤591)||(decide (880≤c∧c≤1327)||decide (19968≤c∧c≤40959)))))):=by
 have e1:decide (192≤c∧c≤591)=(decide (192≤c∧c≤214)||(decide (216≤c∧c≤246)||decide (248≤c∧c≤591))):=by
  rw [←Bool.decide_or,←Bool.decide_or]
  exact decide_eq_decide.2 (by omega)
 have e2:decide (880≤c∧c≤1327)=(decide (880≤c∧c≤893)||(decide (895≤c∧c≤1153)||decide (1155≤c∧c≤1327))):=by
  rw [←Bool.decide_or,←Bool.decide_or]
  exact decide_eq_decide.2 (by omega)
 rw [e1,e2]
 simp only [Ut.letter,Ut.among,Bool.or_assoc,Bool.or_false]
theorem letter_any (c:Int) (w:World):
  Calls Tryz.prog 73 #[.int .i64 c] w fun e w'=>e=.returned (.bool (Ut.letter c))∧w=w':=by
 by_cases h:c=215∨c=247∨c=894∨c=1154
 ·rcases h with rfl | rfl | rfl | rfl
  all_goals
   go_enter Tryz.func73,Tryz.ntmps73
   go_wp2_with fail
   go_ret
   exact ⟨ret_bool (by decide +kernel),rfl⟩
 ·have hs:=lh (letter_split c (by omega) (by omega) (by omega) (by omega))
  have n1:(c==215)=false:=by simp;omega
  have n2:(c==247)=false:=by simp;omega
  have n3:(c==894)=false:=by simp;omega
  have n4:(c==1154)=false:=by simp;omega
  have H1:=lh (within_any c 97 122 w)
  have H2:=lh (within_any c 65 90 w)
  have H3:=lh (within_any c 48 57 w)
  have H4:=lh (within_any c 192 591 w)
  have H5:=lh (within_any c 880 1327 w)
  have H6:=lh (within_any c 19968 40959 w)
  generalize decide (97≤c∧c≤122)=a1 at *
  generalize decide (65≤c∧c≤90)=a2 at *
  generalize decide (48≤c∧c≤57)=a3 at *
  generalize decide (192≤c∧c≤591)=a4 at *
  generalize decide (880≤c∧c≤1327)=a5 at *
  generalize decide (19968≤c∧c≤40959)=a6 at *
  clear h
  go_enter Tryz.func73,Tryz.ntmps73
  go_wp2_with fail
  refine H1.out.mono ?_
  rintro e w1 ⟨rfl,rfl⟩
  cases a1
  case true=>(go_wp2_with fail;go_ret;exact ⟨ret_bool (by rw [hs.out];simp),rfl⟩)
  go_wp2_with fail
  refine H2.out.mono ?_
  rintro e w1 ⟨rfl,rfl⟩
  cases a2
  case true=>(go_wp2_with fail;go_ret;exact ⟨ret_bool (by rw [hs.out];simp),rfl⟩)
  go_wp2_with fail
  refine H3.out.mono ?_
  rintro e w1 ⟨rfl,rfl⟩
  cases a3
  case true=>(go_wp2_with fail;go_ret;exact ⟨ret_bool (by rw [hs.out];simp),rfl⟩)
  go_wp2_with fail
  refine H4.out.mono ?_
  rintro e w1 ⟨rfl,rfl⟩
  cases a4
  case true=>(go_wp2_with fail;go_ret;exact ⟨ret_bool (by rw [hs.out];simp),rfl⟩)
  go_wp2_with fail
  refine H5.out.mono ?_
  rintro e w1 ⟨rfl,rfl⟩
  cases a5
  case true=>(go_wp2_with fail;go_ret;exact ⟨ret_bool (by rw [hs.out];simp),rfl⟩)
  go_wp2_with fail
  refine H6.out.mono ?_
  rintro e w1 ⟨rfl,rfl⟩
  cases a6
  ·go_wp2_with fail
   go_ret
   exact ⟨ret_bool (by rw [hs.out];simp),rfl⟩
  ·go_wp2_with fail
   go_ret
   exact ⟨ret_bool (by rw [hs.out];simp),rfl⟩
theorem fold_split (c:Int) (h1:¬c=215) (h2:¬c=930):
  Ut.fold c=if (decide (65≤c∧c≤90)||(decide (192≤c∧c≤222)||(decide (913≤c∧c≤937)||decide (1040≤c∧c≤1071))))=true then c+32 else if decide (1024≤c∧c≤1039)=true then c+80 else if c=962 then 963 else c:=by
 have e1:decide (192≤c∧c≤222)=(decide (192≤c∧c≤214)||decide (216≤c∧c≤222)):=by
  rw [←Bool.decide_or]
  exact decide_eq_decide.2 (by omega)
 have e2:decide (913≤c∧c≤937)=(decide (913≤c∧c≤929)||decide (931≤c∧c≤937)):=by
  rw [←Bool.decide_or]
  exact decide_eq_decide.2 (by omega)
 rw [e1,e2]
 simp only [Ut.fold,Ut.among,Bool.or_assoc,Bool.or_false,decide_eq_true_iff]
theorem fold_any (c:Int) (w:World):
  Calls Tryz.prog 114 #[.int .i64 c] w fun e w'=>e=.returned (.int .i64 (Ut.fold c))∧w=w':=by
 by_cases h:c=215∨c=930
 ·rcases h with rfl | rfl
  all_goals
   go_enter Tryz.func114,Tryz.ntmps114
   go_wp2_with fail
   go_ret
   exact ⟨ret_i (by decide +kernel),rfl⟩
 ·have hs:=lh (fold_split c (by omega) (by omega))
  have n1:(c==215)=false:=by simp;omega
  have n2:(c==930)=false:=by simp;omega
  have H1:=lh (within_any c 65 90 w)
  have H2:=lh (within_any c 192 222 w)
  have H3:=lh (within_any c 913 937 w)
  have H4:=lh (within_any c 1040 1071 w)
  have H5:=lh (within_any c 1024 1039 w)
  have hb:-10≤c∧c≤2000∨(decide (65≤c∧c≤90)=false∧decide (192≤c∧c≤222)=false∧decide (913≤c∧c≤937)=false∧decide (1040≤c∧c≤1071)=false∧decide (1024≤c∧c≤1039)=false):=by
   by_cases hc:-10≤c∧c≤2000
   ·exact .inl hc
   ·refine .inr ⟨?_,?_,?_,?_,?_⟩ <;> exact decide_eq_false (by omega)
  generalize decide (65≤c∧c≤90)=a1 at *
  generalize decide (192≤c∧c≤222)=a2 at *
  generalize decide (913≤c∧c≤937)=a3 at *
  generalize decide (1040≤c∧c≤1071)=a4 at *
  generalize decide (1024≤c∧c≤1039)=a5 at *
  have HB:=lh hb
  clear h hb
  go_enter Tryz.func114,Tryz.ntmps114
  go_wp2_with fail
  refine H1.out.mono ?_
  rintro e w1 ⟨rfl,rfl⟩
  cases a1
  case true=>
   have hb:=HB.out
   simp only [Bool.true_eq_false,false_and,or_false] at hb
   go_wp2_with fail
   go_ret
   exact ⟨ret_i (by rw [hs.out];simp <;> omega),rfl⟩
  go_wp2_with fail
  refine H2.out.mono ?_
  rintro e w1 ⟨rfl,rfl⟩
  cases a2
  case true=>
   have hb:=HB.out
   simp only [Bool.true_eq_false,false_and,and_false,or_false] at hb
   go_wp2_with fail
   go_ret
   exact ⟨ret_i (by rw [hs.out];simp <;> omega),rfl⟩
  go_wp2_with fail
  refine H3.out.mono ?_
  rintro e w1 ⟨rfl,rfl⟩
  cases a3
  case true=>
   have hb:=HB.out
   simp only [Bool.true_eq_false,false_and,and_false,or_false] at hb
   go_wp2_with fail
   go_ret
   exact ⟨ret_i (by rw [hs.out];simp <;> omega),rfl⟩
  go_wp2_with fail
  refine H4.out.mono ?_
  rintro e w1 ⟨rfl,rfl⟩
  cases a4
  case true=>
   have hb:=HB.out
   simp only [Bool.true_eq_false,false_and,and_false,or_false] at hb
   go_wp2_with fail
   go_ret
   exact ⟨ret_i (by rw [hs.out];simp <;> omega),rfl⟩
  go_wp2_with fail
  refine H5.out.mono ?_
  rintro e w1 ⟨rfl,rfl⟩
  cases a5
  case true=>
   have hb:=HB.out
   simp only [Bool.true_eq_false,and_false,or_false] at hb
   go_wp2_with fail
   go_ret
   exact ⟨ret_i (by rw [hs.out];simp <;> omega),rfl⟩
  by_cases h9:c=962
  ·subst h9
   go_wp2_with fail
   go_ret
   exact ⟨ret_i (by rw [hs.out];simp),rfl⟩
  ·have n9:(c==962)=false:=by simp;omega
   go_wp2_with fail
   go_ret
   exact ⟨ret_i (by rw [hs.out];simp [h9]),rfl⟩
end
section
open Go.RowKit
theorem wpList_pushI {ops:Array Oper} {rest:List Oper} {o:Oper} {a:Act} {Q:Exit→Act→World→Prop} {w:World} (hgd:o.guard=none) (s x:Operand)
  (ho:o.op=.call { callee:=.builtin .append,args:=#[s,x],argTypes:=#[82,82]})
  (B:Nat) (hB:B≤w.heap.size) (v:Value) (l:List Int) (c:Int) (hs:a.eval s=v) (h:OwnI w B v l) (hx:a.eval x=.slice (some ⟨w.heap.size,0,none⟩) 1 1)
  (hb:l.length+1≤17592186044416)
  (hk:∀v' w',OwnI w' B v' (l++[c])→Below B w w'→(w.alloc (.cells #[.int .i64 c] 3)).grownBy w' v.ownBlock→wpList Tryz.prog ops Q rest (a.put o.dst v') w'):
  wpList Tryz.prog ops Q (o :: rest) a (w.alloc (.cells #[.int .i64 c] 3)):=by
 obtain ⟨ii,hi,hz0,hz1,hz2⟩:=info_parts Tryz.infoI
 have hown:w.ownsRow B 3 1 v l.length (intsV5 l):=h
 refine wpList_append_own _ hgd s x 82 ho B 3 ii (.int .i64 0) 1 8 Tryz.underlying82 hi hz0 hz1 hz2 rfl (by decide) _ _ _ hs (hown.alloc _) ⟨w.heap.size,0,none⟩ 1 1 [.int .i64 c] hx rfl ?_ ?_ (by unfold maxLen;omega) (by omega) (by simp;omega) ?_
 ·intro j u hj
  match j,hj with
  | 0,hj=>simp at hj;subst hj;simp [Addr.add]
 ·intro u hu
  simp at hu
  subst hu
  rfl
 ·intro v' w' h1 h2 _
  obtain ⟨h3,h4⟩:=ownI_push hB h (Below.refl B w) h1 h2
  exact hk v' w' h3 h4 h2
theorem OwnI.of_heap {w w':World} {B:Nat} {v:Value} {l:List Int} (h:OwnI w B v l) (e:∀k,v.ownBlock=some k→k<w.heap.size→w'.heap[k]?=w.heap[k]?):OwnI w' B v l:=by
 have hown:w.ownsRow B 3 1 v l.length (intsV5 l):=h
 refine ⟨h.1,?_⟩
 rcases h.2 with ⟨h1,h2⟩ | ⟨g,cap,cur,h1,hg,hh,hnc,hcp,hcs,htake⟩
 ·exact .inl ⟨h1,h2⟩
 ·have hlt:g<w.heap.size:=(hown.lt g (by rw [h1];rfl)).2
  exact .inr ⟨g,cap,cur,h1,hg,(e g (by rw [h1];rfl) hlt).trans hh,hnc,hcp,hcs,htake⟩
theorem OwnI.ne_iter {w:World} {B:Nat} {v:Value} {l:List Int} {K:Nat} {s:ByteArray} {pos:Nat} (h:OwnI w B v l) (hk:w.heap[K]?=some (.stringIter s pos)):∀k,v.ownBlock=some k→k≠K:=by
 intro k hv e
 subst e
 rcases h.2 with ⟨h1,_⟩ | ⟨g,cap,cur,h1,hg,hh,_⟩
 ·rw [h1] at hv;cases hv
 ·rw [h1] at hv
  obtain rfl:g=k:=by simpa [Value.ownBlock] using hv
  rw [hk] at hh
  cases hh
theorem OwnI.iterAt {w:World} {B:Nat} {v:Value} {l:List Int} {K:Nat} {s:ByteArray} {pos:Nat} (h:OwnI w B v l) (hk:w.heap[K]?=some (.stringIter s pos)) (pos':Nat):OwnI (w.iterAt K s pos') B v l:=
 h.of_heap fun k hv _=>by
  have hne:=h.ne_iter hk k hv
  simp only [World.iterAt]
  rw [Array.getElem?_setIfInBounds_ne (Ne.symm hne)]
theorem below_iterAt {B:Nat} {w0 w:World} {K:Nat} {s:ByteArray} (h:Below B w0 w) (hK:B≤K) (pos':Nat):Below B w0 (w.iterAt K s pos'):=
 h.trans ⟨rfl,rfl,rfl,by simp [World.iterAt],fun k hk=>by simp only [World.iterAt];rw [Array.getElem?_setIfInBounds_ne (by omega)]⟩
end
end Go.Proofs.YtmdefnbpimfbgaaGreatDoor
