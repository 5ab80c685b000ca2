/-
  Lemmas on automata, dictionaries and the walk over them, the program's calls and the given ones.
-/
import Derived.Test.YtmdefnbpimfbgaaGreatDoorS0
import Derived.Test.YtmdefnbpimfbgaaGreatDoorProg
import Derived.WalkSpells
import Derived.WalkLawsBesides
import Derived.Deep.LoopGhost
import Derived.Deep.OwnRows
import Derived.BigQuiet
import Derived.Laws.AppendOwnNone
import Derived.Deep.AppendLies
import Derived.Deep.RegionHeld3
import Derived.Deep.RegionLaw
set_option maxRecDepth 100000
set_option maxHeartbeats 16000000
namespace Go.Proofs.YtmdefnbpimfbgaaGreatDoor
section
namespace Au
structure Auto (σ:Type) where
 step:σ→Nat→Option σ
 fin:σ→Bool
variable {σ τ:Type}
def Auto.acc (A:Auto σ):Option σ→List Nat→Bool
 | none,_=>false
 | some s,[]=>A.fin s
 | some s,c :: w=>A.acc (A.step s c) w
theorem acc_none (A:Auto σ) (w:List Nat):A.acc none w=false:=by cases w <;> rfl
theorem acc_nil (A:Auto σ) (s:σ):A.acc (some s) []=A.fin s:=rfl
theorem acc_cons (A:Auto σ) (s:σ) (c:Nat) (w:List Nat):A.acc (some s) (c :: w)=A.acc (A.step s c) w:=rfl
def Eqv (A:Auto σ) (B:Auto τ) (s:σ) (t:τ):Prop:=∀w,A.acc (some s) w=B.acc (some t) w
theorem Eqv.refl (A:Auto σ) (s:σ):Eqv A A s s:=fun _=>rfl
theorem Eqv.symm {A:Auto σ} {B:Auto τ} {s:σ} {t:τ} (h:Eqv A B s t):Eqv B A t s:=fun w=>(h w).symm
theorem Eqv.fin {A:Auto σ} {B:Auto τ} {s:σ} {t:τ} (h:Eqv A B s t):A.fin s=B.fin t:=h []
theorem Eqv.next {A:Auto σ} {B:Auto τ} {s:σ} {t:τ} (h:Eqv A B s t) (c:Nat) (w:List Nat):A.acc (A.step s c) w=B.acc (B.step t c) w:=h (c :: w)
def Dead (A:Auto σ) (s:Option σ):Prop:=∀w,A.acc s w=false
theorem dead_none (A:Auto σ):Dead A none:=acc_none A
open Classical in
noncomputable def Auto.go (A:Auto σ) (s:σ) (c:Nat):Option σ:=if Dead A (A.step s c) then none else A.step s c
open Classical in
noncomputable def Auto.same (A:Auto σ) (s t:σ):Bool:=decide (Eqv A A s t)
theorem same_iff (A:Auto σ) (s t:σ):A.same s t=true↔Eqv A A s t:=by
 simp [Auto.same]
theorem go_some {A:Auto σ} {s t:σ} {c:Nat} (h:A.go s c=some t):A.step s c=some t∧¬Dead A (some t):=by
 unfold Auto.go at h
 split at h
 ·cases h
 ·rename_i hd
  rw [h] at hd
  exact ⟨h,hd⟩
theorem go_none {A:Auto σ} {s:σ} {c:Nat} (h:A.go s c=none):Dead A (A.step s c):=by
 unfold Auto.go at h
 split at h
 ·assumption
 ·rw [h];exact dead_none A
theorem go_dead {A:Auto σ} {s:σ} {c:Nat} (hd:Dead A (A.step s c)):A.go s c=none:=by
 unfold Auto.go
 rw [if_pos hd]
theorem go_eqv {A:Auto σ} {B:Auto τ} {s:σ} {t:τ} (h:Eqv A B s t) (c:Nat):(A.go s c=none∧B.go t c=none)∨∃s' t',A.go s c=some s'∧B.go t c=some t'∧Eqv A B s' t':=by
 cases hs:A.go s c with
 | none=>
  left
  refine ⟨rfl,go_dead fun w=>?_⟩
  rw [←h.next c w]
  exact go_none hs w
 | some s'=>
  right
  obtain ⟨h1,h2⟩:=go_some hs
  cases ht:B.go t c with
  | none=>
   exfalso
   apply h2
   intro w
   have:=h.next c w
   rw [h1] at this
   rw [this]
   exact go_none ht w
  | some t'=>
   obtain ⟨h3,_⟩:=go_some ht
   refine ⟨s',t',rfl,rfl,fun w=>?_⟩
   have:=h.next c w
   rwa [h1,h3] at this
structure Arc where
 lo:Int
 hi:Int
 to:Int
 deriving DecidableEq
structure St where
 fin:Bool
 arcs:List Arc
 deriving DecidableEq
def grown (l:List Arc) (c k:Nat):List Arc:=
 match l.getLast? with
 | some a=>if a.hi=(c:Int)-1∧a.to=(k:Int) then l.dropLast++[⟨a.lo,c,k⟩] else l++[⟨c,c,k⟩]
 | none=>[⟨c,c,k⟩]
def find (same:σ→σ→Bool):List σ→σ→Nat
 | [],_=>0
 | m :: r,n=>if same m n=true then 0 else find same r n+1
theorem find_le (same:σ→σ→Bool) (l:List σ) (n:σ):find same l n≤l.length:=by
 induction l with
 | nil=>exact Nat.le_refl _
 | cons m r ih=>simp only [find,List.length_cons];split <;> omega
theorem find_hit (same:σ→σ→Bool) (l:List σ) (n:σ) (h:find same l n<l.length):same l[find same l n] n=true:=by
 induction l with
 | nil=>simp at h
 | cons m r ih=>
  by_cases hm:same m n=true
  ·simp only [find,hm,if_true,List.getElem_cons_zero]
  ·have e:find same (m :: r) n=find same r n+1:=by simp only [find,hm];rfl
   simp only [e,List.getElem_cons_succ]
   exact ih (by rw [e,List.length_cons] at h;omega)
theorem find_miss (same:σ→σ→Bool) (l:List σ) (n:σ) (k:Nat) (hk:k<find same l n):∃h:k<l.length,same l[k] n=false:=by
 induction l generalizing k with
 | nil=>simp [find] at hk
 | cons m r ih=>
  by_cases hm:same m n=true
  ·simp only [find,hm,if_true] at hk;omega
  ·have e:find same (m :: r) n=find same r n+1:=by simp only [find,hm];rfl
   rw [e] at hk
   cases k with
   | zero=>exact ⟨by simp,by simpa using hm⟩
   | succ k=>
    obtain ⟨h1,h2⟩:=ih k (by omega)
    exact ⟨by simp only [List.length_cons];omega,by simpa using h2⟩
theorem find_append (same:σ→σ→Bool) (l r:List σ) (n:σ) (h:find same l n<l.length):find same (l++r) n=find same l n:=by
 induction l with
 | nil=>simp at h
 | cons m t ih=>
  by_cases hm:same m n=true
  ·simp only [List.cons_append,find,hm,if_true]
  ·have e:find same (m :: t) n=find same t n+1:=by simp only [find,hm];rfl
   rw [e,List.length_cons] at h
   have:=ih (by omega)
   simp only [List.cons_append,find,hm]
   simp [this]
theorem find_snoc (same:σ→σ→Bool) (hr:∀s,same s s=true) (l:List σ) (n:σ) (h:find same l n=l.length):find same (l++[n]) n=l.length:=by
 induction l with
 | nil=>simp [find,hr]
 | cons m t ih=>
  by_cases hm:same m n=true
  ·simp [find,hm] at h
  ·have e:find same (m :: t) n=find same t n+1:=by simp only [find,hm];rfl
   rw [e,List.length_cons] at h
   have:=ih (by omega)
   simp only [List.cons_append,find,hm]
   simp [this]
structure Walk (σ:Type) where
 go:σ→Nat→Option σ
 same:σ→σ→Bool
 fin:σ→Bool
def Walk.byte (W:Walk σ) (s:σ) (c:Nat) (p:List σ × List Arc):List σ × List Arc:=
 match W.go s c with
 | none=>p
 | some n=>(if find W.same p.1 n=p.1.length then p.1++[n] else p.1,grown p.2 c (find W.same p.1 n))
def Walk.bytes (W:Walk σ) (s:σ) (met:List σ):Nat→List σ × List Arc
 | 0=>(met,[])
 | c+1=>W.byte s c (W.bytes s met c)
def Walk.states (W:Walk σ) (start:σ):Nat→List σ × List St
 | 0=>([start],[])
 | i+1=>
  match (W.states start i).1[i]? with
  | none=>W.states start i
  | some s=>((W.bytes s (W.states start i).1 256).1,(W.states start i).2++[⟨W.fin s,(W.bytes s (W.states start i).1 256).2⟩])
inductive All2 (R:σ→τ→Prop):List σ→List τ→Prop
 | nil:All2 R [] []
 | cons {a b l m}:R a b→All2 R l m→All2 R (a :: l) (b :: m)
theorem All2.length {R:σ→τ→Prop} {l:List σ} {m:List τ} (h:All2 R l m):l.length=m.length:=by
 induction h with
 | nil=>rfl
 | cons _ _ ih=>simp [ih]
theorem All2.snoc {R:σ→τ→Prop} {l:List σ} {m:List τ} (h:All2 R l m) {a:σ} {b:τ} (hab:R a b):All2 R (l++[a]) (m++[b]):=by
 induction h with
 | nil=>exact .cons hab .nil
 | cons h1 _ ih=>exact .cons h1 ih
theorem All2.get {R:σ→τ→Prop} {l:List σ} {m:List τ} (h:All2 R l m) (i:Nat):(l[i]?=none∧m[i]?=none)∨∃a b,l[i]?=some a∧m[i]?=some b∧R a b:=by
 induction h generalizing i with
 | nil=>left;simp
 | cons h1 _ ih=>
  cases i with
  | zero=>right;exact ⟨_,_,rfl,rfl,h1⟩
  | succ i=>simpa using ih i
structure Alike (V:Walk σ) (W:Walk τ) (R:σ→τ→Prop):Prop where
 fin:∀s t,R s t→V.fin s=W.fin t
 go:∀s t,R s t→∀c,(V.go s c=none∧W.go t c=none)∨∃s' t',V.go s c=some s'∧W.go t c=some t'∧R s' t'
 same:∀s t s' t',R s t→R s' t'→V.same s s'=W.same t t'
theorem Alike.find {V:Walk σ} {W:Walk τ} {R:σ→τ→Prop} (h:Alike V W R) {l:List σ} {m:List τ} (hl:All2 R l m) {a:σ} {b:τ} (hab:R a b):Au.find V.same l a=Au.find W.same m b:=by
 induction hl with
 | nil=>rfl
 | cons h1 _ ih=>simp only [Au.find];rw [h.same _ _ _ _ h1 hab,ih]
theorem Alike.byte {V:Walk σ} {W:Walk τ} {R:σ→τ→Prop} (h:Alike V W R) {s:σ} {t:τ} (hst:R s t) (c:Nat) {p:List σ × List Arc} {q:List τ × List Arc} (h1:All2 R p.1 q.1) (h2:p.2=q.2):
  All2 R (V.byte s c p).1 (W.byte t c q).1∧(V.byte s c p).2=(W.byte t c q).2:=by
 unfold Walk.byte
 rcases h.go s t hst c with ⟨e1,e2⟩ | ⟨s',t',e1,e2,hr⟩
 ·rw [e1,e2]
  exact ⟨h1,h2⟩
 ·rw [e1,e2]
  dsimp only
  rw [h.find h1 hr,h1.length,h2]
  refine ⟨?_,rfl⟩
  split
  ·exact h1.snoc hr
  ·exact h1
theorem Alike.bytes {V:Walk σ} {W:Walk τ} {R:σ→τ→Prop} (h:Alike V W R) {s:σ} {t:τ} (hst:R s t) {l:List σ} {m:List τ} (hl:All2 R l m) (c:Nat):
  All2 R (V.bytes s l c).1 (W.bytes t m c).1∧(V.bytes s l c).2=(W.bytes t m c).2:=by
 induction c with
 | zero=>exact ⟨hl,rfl⟩
 | succ c ih=>exact h.byte hst c ih.1 ih.2
theorem Alike.states {V:Walk σ} {W:Walk τ} {R:σ→τ→Prop} (h:Alike V W R) {s:σ} {t:τ} (hst:R s t) (i:Nat):
  All2 R (V.states s i).1 (W.states t i).1∧(V.states s i).2=(W.states t i).2:=by
 induction i with
 | zero=>exact ⟨.cons hst .nil,rfl⟩
 | succ i ih=>
  simp only [Walk.states]
  rcases ih.1.get i with ⟨e1,e2⟩ | ⟨a,b,e1,e2,hr⟩
  ·rw [e1,e2]
   exact ih
  ·rw [e1,e2]
   obtain ⟨h1,h2⟩:=h.bytes hr ih.1 256
   dsimp only
   rw [h2,ih.2,h.fin _ _ hr]
   exact ⟨h1,rfl⟩
noncomputable def Auto.walk (A:Auto σ):Walk σ:=⟨A.go,A.same,A.fin⟩
end Au
end
section
namespace Au
variable {σ τ:Type}
def look:List Arc→Int→Option Int
 | [],_=>none
 | a :: r,x=>if a.lo≤x∧x≤a.hi then some a.to else look r x
theorem look_append (l r:List Arc) (x:Int):look (l++r) x=(look l x).or (look r x):=by
 induction l with
 | nil=>simp [look]
 | cons a t ih=>
  simp only [List.cons_append,look]
  split
  ·simp
  ·exact ih
def Row (n:Nat) (c:Int) (l:List Arc):Prop:=
 (∀k (h:k<l.length),0≤l[k].lo∧l[k].lo≤l[k].hi∧l[k].hi<c∧0≤l[k].to∧l[k].to<n)∧∀k (h:k+1<l.length),l[k].hi<l[k+1].lo
theorem Row.nil (n:Nat) (c:Int):Row n c []:=⟨fun k h=>by simp at h,fun k h=>by simp at h⟩
theorem Row.mono {n m:Nat} {c d:Int} {l:List Arc} (h:Row n c l) (hn:n≤m) (hc:c≤d):Row m d l:=
 ⟨fun k hk=>by have:=h.1 k hk;omega,h.2⟩
theorem Row.snoc {n:Nat} {c d:Int} {l:List Arc} (h:Row n c l) (a:Arc) (h1:0≤a.lo) (h2:a.lo≤a.hi) (h3:a.hi<d) (h4:0≤a.to) (h5:a.to<n) (h6:∀k (hk:k<l.length),l[k].hi<a.lo) (hcd:c≤d):Row n d (l++[a]):=by
 refine ⟨fun k hk=>?_,fun k hk=>?_⟩
 ·rw [List.length_append] at hk
  by_cases hl:k<l.length
  ·have:=h.1 k hl
   rw [List.getElem_append_left hl]
   omega
  ·have e:k=l.length:=by simp at hk;omega
   subst e
   simp
   omega
 ·rw [List.length_append] at hk
  simp only [List.length_cons,List.length_nil] at hk
  by_cases hl:k+1<l.length
  ·rw [List.getElem_append_left (by omega),List.getElem_append_left hl]
   exact h.2 k hl
  ·have e:k+1=l.length:=by omega
   have h7:=h6 k (by omega)
   rw [List.getElem_append_left (by omega)]
   simp only [e,List.getElem_append_right (Nat.le_refl _),Nat.sub_self,List.getElem_cons_zero]
   exact h7
theorem Row.init {n:Nat} {c:Int} {l:List Arc} {a:Arc} (h:Row n c (l++[a])):Row n c l∧(0≤a.lo∧a.lo≤a.hi∧a.hi<c∧0≤a.to∧a.to<n)∧∀k (hk:k<l.length),l[k].hi<a.lo:=by
 have hlen:(l++[a]).length=l.length+1:=by simp
 refine ⟨⟨fun k hk=>?_,fun k hk=>?_⟩,?_,?_⟩
 ·have:=h.1 k (by omega)
  rwa [List.getElem_append_left hk] at this
 ·have:=h.2 k (by omega)
  rwa [List.getElem_append_left (by omega),List.getElem_append_left hk] at this
 ·have:=h.1 l.length (by omega)
  simpa using this
 ·intro k hk
  have main:∀d k,k+d+1=l.length→∀(hk:k<l.length),l[k].hi<a.lo:=by
   intro d
   induction d with
   | zero=>
    intro k e hk
    have h1:=h.2 k (by omega)
    have e':k+1=l.length:=by omega
    simp only [List.getElem_append_left hk,e',List.getElem_append_right (Nat.le_refl _),Nat.sub_self,List.getElem_cons_zero] at h1
    exact h1
   | succ d ih=>
    intro k e hk
    have h1:=ih (k+1) (by omega) (by omega)
    have h2:=h.2 k (by omega)
    rw [List.getElem_append_left hk,List.getElem_append_left (by omega)] at h2
    have h3:=h.1 (k+1) (by omega)
    rw [List.getElem_append_left (by omega)] at h3
    omega
  exact main (l.length-k-1) k (by omega) hk
theorem look_above {n:Nat} {c:Int} {l:List Arc} (h:Row n c l) (x:Int) (hx:c≤x):look l x=none:=by
 induction l with
 | nil=>rfl
 | cons a r ih=>
  simp only [look]
  have h0:=h.1 0 (by simp)
  simp only [List.getElem_cons_zero] at h0
  rw [if_neg (by omega)]
  apply ih
  exact ⟨fun k hk=>by have:=h.1 (k+1) (by simp;omega);simpa using this,fun k hk=>by have:=h.2 (k+1) (by simp;omega);simpa using this⟩
theorem last_cases (l:List Arc):l=[]∨∃r a,l=r++[a]:=by
 rcases List.eq_nil_or_concat l with h | ⟨r,a,h⟩
 ·exact .inl h
 ·exact .inr ⟨r,a,by rw [h,List.concat_eq_append]⟩
theorem grown_snoc (r:List Arc) (a:Arc) (c k:Nat):grown (r++[a]) c k=if a.hi=(c:Int)-1∧a.to=(k:Int) then r++[⟨a.lo,c,k⟩] else r++[a]++[⟨c,c,k⟩]:=by
 unfold grown
 simp
theorem grown_nil (c k:Nat):grown [] c k=[⟨c,c,k⟩]:=rfl
theorem grown_row {n:Nat} {l:List Arc} {c k:Nat} (h:Row n c l) (hk:k<n):Row n (c+1) (grown l c k):=by
 rcases last_cases l with rfl | ⟨r,a,rfl⟩
 ·rw [grown_nil]
  exact (Row.nil n 0).snoc ⟨c,c,k⟩ (by simp) (by simp) (by simp;omega) (by simp) (by simp;omega) (fun k hk=>by simp at hk) (by omega)
 ·rw [grown_snoc]
  obtain ⟨h1,h2,h3⟩:=h.init
  split
  ·exact h1.snoc ⟨a.lo,c,k⟩ (by simp;omega) (by simp;omega) (by simp;omega) (by simp) (by simp;omega) h3 (by omega)
  ·refine h.snoc ⟨c,c,k⟩ (by simp) (by simp) (by simp;omega) (by simp) (by simp;omega) (fun j hj=>?_) (by omega)
   have:=(h.1 j hj).2.2.1
   simpa using this
theorem grown_look {n:Nat} {l:List Arc} {c k:Nat} (h:Row n c l) (x:Int):look (grown l c k) x=if x=c then some (k:Int) else look l x:=by
 rcases last_cases l with rfl | ⟨r,a,rfl⟩
 ·rw [grown_nil]
  simp only [look]
  by_cases hx:x=c
  ·rw [if_pos hx,if_pos (by omega)]
  ·rw [if_neg hx,if_neg (by omega)]
 ·rw [grown_snoc]
  obtain ⟨h1,h2,h3⟩:=h.init
  split
  ·rename_i hc
   rw [look_append,look_append]
   by_cases hx:x=c
   ·rw [if_pos hx]
    have:look r x=none:=by
     apply look_above (c:=a.lo) (n:=n) ⟨fun k hk=>?_,h1.2⟩
     ·omega
     ·have:=h1.1 k hk
      have:=h3 k hk
      omega
    rw [this]
    simp only [look]
    rw [if_pos (by omega)]
    rfl
   ·rw [if_neg hx]
    congr 1
    simp only [look]
    by_cases hy:a.lo≤x∧x≤a.hi
    ·rw [if_pos hy,if_pos (by omega),hc.2]
    ·rw [if_neg hy,if_neg (by omega)]
  ·rw [look_append _ [_]]
   by_cases hx:x=c
   ·rw [if_pos hx,look_above h x (by omega)]
    simp only [look]
    rw [if_pos (by omega)]
    rfl
   ·rw [if_neg hx]
    simp only [look]
    rw [if_neg (by omega)]
    simp
def ofL (d:List St):Auto Nat where
 step:=fun i c=>match d[i]? with
  | none=>none
  | some s=>(look s.arcs c).map Int.toNat
 fin:=fun i=>match d[i]? with
  | none=>false
  | some s=>s.fin
def Walk.met (W:Walk σ) (s:σ) (i:Nat):List σ:=(W.states s i).1
def Walk.out (W:Walk σ) (s:σ) (i:Nat):List St:=(W.states s i).2
def Walk.Done (W:Walk σ) (s:σ) (i:Nat):Prop:=(W.met s i).length≤i
theorem byte_grows (W:Walk σ) (s:σ) (c:Nat) (p:List σ × List Arc):∃r,(W.byte s c p).1=p.1++r:=by
 unfold Walk.byte
 split
 ·exact ⟨[],by simp⟩
 ·dsimp only
  split
  ·exact ⟨_,rfl⟩
  ·exact ⟨[],by simp⟩
theorem bytes_grows (W:Walk σ) (s:σ) (m:List σ) (c:Nat):∃r,(W.bytes s m c).1=m++r:=by
 induction c with
 | zero=>exact ⟨[],by simp [Walk.bytes]⟩
 | succ c ih=>
  obtain ⟨r,h⟩:=ih
  obtain ⟨t,g⟩:=byte_grows W s c (W.bytes s m c)
  exact ⟨r++t,by rw [Walk.bytes,g,h,List.append_assoc]⟩
theorem met_grows (W:Walk σ) (s:σ) (i:Nat):∃r,W.met s (i+1)=W.met s i++r:=by
 unfold Walk.met
 simp only [Walk.states]
 split
 ·exact ⟨[],by simp⟩
 ·exact bytes_grows W _ _ 256
theorem met_mono (W:Walk σ) (s:σ) (i j:Nat):∃r,W.met s (i+j)=W.met s i++r:=by
 induction j with
 | zero=>exact ⟨[],by simp⟩
 | succ j ih=>
  obtain ⟨r,h⟩:=ih
  obtain ⟨t,g⟩:=met_grows W s (i+j)
  exact ⟨r++t,by rw [←Nat.add_assoc,g,h,List.append_assoc]⟩
theorem done_stays (W:Walk σ) (s:σ) (i j:Nat) (h:W.Done s i):W.states s (i+j)=W.states s i:=by
 induction j with
 | zero=>rfl
 | succ j ih=>
  rw [←Nat.add_assoc,Walk.states,ih]
  have:(W.states s i).1[i+j]?=none:=List.getElem?_eq_none (by unfold Walk.Done Walk.met at h;omega)
  rw [this]
theorem done_same (W:Walk σ) (s:σ) (i j:Nat) (hi:W.Done s i) (hj:W.Done s j):W.states s i=W.states s j:=by
 rcases Nat.le_total i j with h | h
 ·obtain ⟨d,rfl⟩:∃d,j=i+d:=⟨j-i,by omega⟩
  exact (done_stays W s i d hi).symm
 ·obtain ⟨d,rfl⟩:∃d,i=j+d:=⟨i-j,by omega⟩
  exact done_stays W s j d hj
theorem out_length (W:Walk σ) (s:σ) (i:Nat):(W.out s i).length=min i (W.met s i).length:=by
 induction i with
 | zero=>simp [Walk.out,Walk.states]
 | succ i ih=>
  obtain ⟨r,hr⟩:=met_grows W s i
  have hl:=congrArg List.length hr
  rw [List.length_append] at hl
  unfold Walk.out Walk.met at *
  simp only [Walk.states] at hl ⊢
  split
  ·rename_i hn
   rw [hn] at hl
   have:(W.states s i).1.length≤i:=List.getElem?_eq_none_iff.1 hn
   dsimp only at hl
   omega
  ·rename_i a ha
   have:i<(W.states s i).1.length:=(List.getElem?_eq_some_iff.1 ha).1
   rw [ha] at hl
   dsimp only at hl ⊢
   rw [List.length_append,ih]
   simp
   omega
end Au
end
section
namespace Au
variable {σ τ:Type}
structure Told (W:Walk σ) (met:List σ) (s:σ) (c:Nat) (arcs:List Arc):Prop where
 row:Row met.length c arcs
 look:∀x,x<c→look arcs (x:Int)=(W.go s x).map (fun n=>((find W.same met n:Nat):Int))
 found:∀x n,x<c→W.go s x=some n→find W.same met n<met.length
theorem Told.more {W:Walk σ} {met:List σ} {s:σ} {c:Nat} {arcs:List Arc} (h:Told W met s c arcs) (r:List σ):Told W (met++r) s c arcs where
 row:=h.row.mono (by simp) (Int.le_refl _)
 look:=fun x hx=>by
  rw [h.look x hx]
  cases hg:W.go s x with
  | none=>rfl
  | some n=>
   simp only [Option.map_some]
   rw [find_append _ _ _ _ (h.found x n hx hg)]
 found:=fun x n hx hg=>by
  have:=h.found x n hx hg
  rw [find_append _ _ _ _ this,List.length_append]
  omega
theorem bytes_told (W:Walk σ) (hr:∀s,W.same s s=true) (s:σ) (met:List σ) (c:Nat):Told W (W.bytes s met c).1 s c (W.bytes s met c).2:=by
 induction c with
 | zero=>exact ⟨Row.nil _ _,fun x hx=>by omega,fun x n hx=>by omega⟩
 | succ c ih=>
  simp only [Walk.bytes]
  generalize W.bytes s met c=p at *
  unfold Walk.byte
  cases hg:W.go s c with
  | none=>
   refine ⟨ih.row.mono (Nat.le_refl _) (by omega),fun x hx=>?_,fun x n hx hn=>?_⟩
   ·by_cases hxc:x=c
    ·subst hxc
     rw [hg,look_above ih.row _ (Int.le_refl _)]
     rfl
    ·exact ih.look x (by omega)
   ·by_cases hxc:x=c
    ·subst hxc
     rw [hg] at hn
     cases hn
    ·exact ih.found x n (by omega) hn
  | some n=>
   dsimp only
   have key:∀met':List σ,(∃r,met'=p.1++r)→find W.same met' n=find W.same p.1 n→find W.same p.1 n<met'.length→Told W met' s (c+1) (grown p.2 c (find W.same p.1 n)):=by
    rintro met' ⟨r,rfl⟩ h1 h2
    have ih':=ih.more r
    have hrow:Row (p.1++r).length ((c:Int)+1) (grown p.2 c (find W.same p.1 n)):=grown_row ih'.row h2
    refine ⟨hrow,fun x hx=>?_,fun x m hx hm=>?_⟩
    ·rw [grown_look ih'.row]
     by_cases hxc:x=c
     ·subst hxc
      rw [if_pos rfl,hg,Option.map_some,h1]
     ·rw [if_neg (by omega)]
      exact ih'.look x (by omega)
    ·by_cases hxc:x=c
     ·subst hxc
      rw [hg] at hm
      cases hm
      rw [h1]
      exact h2
     ·exact ih'.found x m (by omega) hm
   by_cases hf:find W.same p.1 n=p.1.length
   ·rw [if_pos hf]
    refine key _ ⟨[n],rfl⟩ ?_ ?_
    ·rw [find_snoc _ hr _ _ hf,hf]
    ·rw [hf];simp
   ·rw [if_neg hf]
    have:=find_le W.same p.1 n
    exact key _ ⟨[],by simp⟩ rfl (by omega)
theorem states_told (W:Walk σ) (hr:∀s,W.same s s=true) (s:σ) (i k:Nat) (hk:k<(W.out s i).length):
  ∃a arcs,(W.met s i)[k]?=some a∧(W.out s i)[k]?=some ⟨W.fin a,arcs⟩∧Told W (W.met s i) a 256 arcs:=by
 induction i with
 | zero=>simp [Walk.out,Walk.states] at hk
 | succ i ih=>
  have hol:=out_length W s i
  unfold Walk.out Walk.met at *
  simp only [Walk.states] at hk ⊢
  cases hi:(W.states s i).1[i]? with
  | none=>
   rw [hi] at hk
   exact ih hk
  | some b=>
   rw [hi] at hk
   dsimp only at hk ⊢
   obtain ⟨r,hbr⟩:=bytes_grows W b (W.states s i).1 256
   have hilt:i<(W.states s i).1.length:=(List.getElem?_eq_some_iff.1 hi).1
   have hoi:(W.states s i).2.length=i:=by omega
   by_cases hki:k<(W.states s i).2.length
   ·obtain ⟨a,arcs,h1,h2,h3⟩:=ih hki
    have hkm:k<(W.states s i).1.length:=(List.getElem?_eq_some_iff.1 h1).1
    refine ⟨a,arcs,?_,?_,?_⟩
    ·rw [hbr,List.getElem?_append_left hkm]
     exact h1
    ·rw [List.getElem?_append_left hki]
     exact h2
    ·rw [hbr]
     exact h3.more r
   ·rw [List.length_append] at hk
    simp only [List.length_cons,List.length_nil] at hk
    have e:k=i:=by omega
    subst e
    refine ⟨b,_,?_,?_,bytes_told W hr b (W.states s k).1 256⟩
    ·rw [hbr,List.getElem?_append_left hilt]
     exact hi
    ·rw [List.getElem?_append_right (by omega),hoi,Nat.sub_self]
     rfl
structure Fair (W:Walk σ) (A:Auto σ):Prop where
 fin:∀s,W.fin s=A.fin s
 go:∀s c,(W.go s c=none∧Dead A (A.step s c))∨∃t,W.go s c=some t∧A.step s c=some t
 refl:∀s,W.same s s=true
 same:∀s t,W.same s t=true→Eqv A A s t
 top:∀s c,256≤c→Dead A (A.step s c)
theorem Fair.takes {W:Walk σ} {A:Auto σ} (h:Fair W A) (s:σ) (i:Nat) (hd:W.Done s i) (w:List Nat) (k:Nat) (a:σ) (hk:(W.met s i)[k]?=some a):(ofL (W.out s i)).acc (some k) w=A.acc (some a) w:=by
 have hol:=out_length W s i
 unfold Walk.Done at hd
 have hkl:k<(W.met s i).length:=(List.getElem?_eq_some_iff.1 hk).1
 induction w generalizing k a with
 | nil=>
  obtain ⟨b,arcs,h1,h2,_⟩:=states_told W h.refl s i k (by omega)
  rw [hk] at h1
  cases h1
  simp only [acc_nil,ofL,h2]
  exact h.fin a
 | cons c w ih=>
  obtain ⟨b,arcs,h1,h2,h3⟩:=states_told W h.refl s i k (by omega)
  rw [hk] at h1
  cases h1
  rw [acc_cons,acc_cons]
  have hs:(ofL (W.out s i)).step k c=(look arcs c).map Int.toNat:=by
   simp only [ofL,h2]
  rw [hs]
  by_cases hc:c<256
  ·rw [h3.look c hc]
   rcases h.go a c with ⟨g1,g2⟩ | ⟨t,g1,g2⟩
   ·rw [g1,Option.map_none,Option.map_none,acc_none]
    exact (g2 w).symm
   ·have hf:=h3.found c t hc g1
    rw [g1,Option.map_some,Option.map_some,Int.toNat_natCast,g2,ih _ ((W.met s i)[find W.same (W.met s i) t]) (List.getElem?_eq_getElem hf) hf]
    exact h.same _ _ (find_hit W.same (W.met s i) t hf) w
  ·have:look arcs (c:Int)=none:=look_above h3.row _ (by omega)
   rw [this]
   simp only [Option.map_none,acc_none]
   exact (h.top a c (by omega) w).symm
theorem fair_walk (A:Auto σ) (top:∀s c,256≤c→A.step s c=none):Fair A.walk A where
 fin:=fun _=>rfl
 go:=fun s c=>by
  show (A.go s c=none∧_)∨∃t,A.go s c=some t∧_
  cases h:A.go s c with
  | none=>exact .inl ⟨rfl,go_none h⟩
  | some t=>exact .inr ⟨t,rfl,(go_some h).1⟩
 refl:=fun s=>(same_iff A s s).2 (Eqv.refl A s)
 same:=fun s t h=>(same_iff A s t).1 h
 top:=fun s c h w=>by rw [top s c h];exact acc_none A w
theorem byte_pair (W:Walk σ) (s:σ) (c:Nat) (p:List σ × List Arc) (h:p.1.Pairwise (fun a b=>W.same a b=false)):(W.byte s c p).1.Pairwise (fun a b=>W.same a b=false):=by
 unfold Walk.byte
 split
 ·exact h
 ·rename_i n hn
  dsimp only
  split
  ·rename_i hf
   rw [List.pairwise_append]
   refine ⟨h,List.pairwise_singleton _ _,fun a ha b hb=>?_⟩
   rw [List.mem_singleton] at hb
   subst hb
   obtain ⟨k,hk,rfl⟩:=List.getElem_of_mem ha
   exact (find_miss W.same p.1 b k (by omega)).2
  ·exact h
theorem bytes_pair (W:Walk σ) (s:σ) (m:List σ) (c:Nat) (h:m.Pairwise (fun a b=>W.same a b=false)):(W.bytes s m c).1.Pairwise (fun a b=>W.same a b=false):=by
 induction c with
 | zero=>exact h
 | succ c ih=>exact byte_pair W s c _ ih
theorem met_pair (W:Walk σ) (s:σ) (i:Nat):(W.met s i).Pairwise (fun a b=>W.same a b=false):=by
 induction i with
 | zero=>exact List.pairwise_singleton _ _
 | succ i ih=>
  unfold Walk.met at *
  simp only [Walk.states]
  split
  ·exact ih
  ·exact bytes_pair W _ _ 256 ih
theorem byte_all (W:Walk σ) (P:σ→Prop) (hP:∀s c t,P s→W.go s c=some t→P t) (s:σ) (hs:P s) (c:Nat) (p:List σ × List Arc) (h:∀x∈p.1,P x):∀x∈(W.byte s c p).1,P x:=by
 unfold Walk.byte
 split
 ·exact h
 ·rename_i n hn
  dsimp only
  split
  ·intro x hx
   rw [List.mem_append,List.mem_singleton] at hx
   rcases hx with hx | rfl
   ·exact h x hx
   ·exact hP s c x hs hn
  ·exact h
theorem bytes_all (W:Walk σ) (P:σ→Prop) (hP:∀s c t,P s→W.go s c=some t→P t) (s:σ) (hs:P s) (m:List σ) (c:Nat) (h:∀x∈m,P x):∀x∈(W.bytes s m c).1,P x:=by
 induction c with
 | zero=>exact h
 | succ c ih=>exact byte_all W P hP s hs c _ ih
theorem met_all (W:Walk σ) (P:σ→Prop) (hP:∀s c t,P s→W.go s c=some t→P t) (s:σ) (hs:P s) (i:Nat):∀x∈W.met s i,P x:=by
 induction i with
 | zero=>
  intro x hx
  have:x=s:=by simpa [Walk.met,Walk.states] using hx
  rw [this]
  exact hs
 | succ i ih=>
  unfold Walk.met at *
  simp only [Walk.states]
  split
  ·exact ih
  ·rename_i a ha
   exact bytes_all W P hP a (ih a (List.mem_of_getElem? ha)) _ 256 ih
theorem met_few (W:Walk σ) (hr:∀s,W.same s s=true) (f:σ→Nat) (n:Nat) (P:σ→Prop) (hP:∀s c t,P s→W.go s c=some t→P t) (s:σ) (hs:P s) (hf:∀x,P x→f x<n) (hi:∀x y,P x→P y→f x=f y→x=y) (i:Nat):(W.met s i).length≤n:=by
 have h1:=met_pair W s i
 have h2:=met_all W P hP s hs i
 have hn:((W.met s i).map f).Nodup:=by
  unfold List.Nodup
  rw [List.pairwise_map]
  refine List.Pairwise.imp_of_mem (fun {a b} ha hb hab e=>?_) h1
  have:=hi a b (h2 a ha) (h2 b hb) e
  subst this
  rw [hr] at hab
  cases hab
 have hsub:(W.met s i).map f ⊆ List.range n:=fun x hx=>by
  obtain ⟨a,ha,rfl⟩:=List.mem_map.1 hx
  exact List.mem_range.2 (hf a (h2 a ha))
 have:=hn.length_le_of_subset hsub
 simpa using this
end Au
end
section
namespace Au
variable {σ τ:Type}
structure Fits (d:List St):Prop where
 pos:0<d.length
 top:d.length≤20000
 row:∀i (h:i<d.length),Row d.length 256 d[i].arcs
theorem look_in {n:Nat} {l:List Arc} (h:∀k (h:k<l.length),0≤l[k].to∧l[k].to<n) {x t:Int} (hx:look l x=some t):0≤t∧t<n:=by
 induction l with
 | nil=>cases hx
 | cons a r ih=>
  simp only [look] at hx
  split at hx
  ·cases hx
   exact h 0 (by simp)
  ·exact ih (fun k hk=>by have:=h (k+1) (by simp;omega);simpa using this) hx
theorem ofL_top {d:List St} (hr:∀i (h:i<d.length),Row d.length 256 d[i].arcs) (s c:Nat) (hc:256≤c):(ofL d).step s c=none:=by
 simp only [ofL]
 split
 ·rfl
 ·rename_i a ha
  obtain ⟨hl,rfl⟩:=List.getElem?_eq_some_iff.1 ha
  rw [look_above (hr s hl) _ (by omega)]
  rfl
theorem ofL_in {d:List St} (hr:∀i (h:i<d.length),Row d.length 256 d[i].arcs) {s c t:Nat} (h:(ofL d).step s c=some t):t<d.length:=by
 simp only [ofL] at h
 split at h
 ·cases h
 ·rename_i a ha
  obtain ⟨hl,rfl⟩:=List.getElem?_eq_some_iff.1 ha
  cases hx:look d[s].arcs c with
  | none=>rw [hx] at h;cases h
  | some u=>
   rw [hx] at h
   cases h
   have:=look_in (n:=d.length) (fun k hk=>by have:=(hr s hl).1 k hk;omega) hx
   omega
noncomputable def least (d:List St):List St:=(ofL d).walk.out 0 d.length
theorem go_in {d:List St} (hr:∀i (h:i<d.length),Row d.length 256 d[i].arcs) (s c t:Nat) (_:s<d.length) (h:(ofL d).walk.go s c=some t):t<d.length:=ofL_in hr (go_some h).1
theorem least_done {d:List St} (h0:0<d.length) (hr:∀i (h:i<d.length),Row d.length 256 d[i].arcs):(ofL d).walk.Done 0 d.length:=
 met_few (ofL d).walk (fair_walk _ (ofL_top hr)).refl id d.length (fun x=>x<d.length) (go_in hr) 0 h0 (fun _ h=>h) (fun _ _ _ _ h=>h) d.length
theorem out_pos (W:Walk σ) (s:σ) (i:Nat):0<(W.met s i).length:=by
 obtain ⟨r,h⟩:=met_mono W s 0 i
 rw [Nat.zero_add] at h
 rw [h]
 simp [Walk.met,Walk.states]
theorem out_rows (W:Walk σ) (hr:∀s,W.same s s=true) (s:σ) (i:Nat) (hd:W.Done s i):0<(W.out s i).length∧∀k (h:k<(W.out s i).length),Row (W.out s i).length 256 (W.out s i)[k].arcs:=by
 have hol:=out_length W s i
 have h0:=out_pos W s i
 unfold Walk.Done at hd
 have hl:(W.out s i).length=(W.met s i).length:=by omega
 refine ⟨by omega,fun k hk=>?_⟩
 obtain ⟨a,arcs,h1,h2,h3⟩:=states_told W hr s i k hk
 obtain ⟨_,h4⟩:=List.getElem?_eq_some_iff.1 h2
 rw [h4,hl]
 exact h3.row
theorem start_first (W:Walk σ) (s:σ) (i:Nat):(W.met s i)[0]?=some s:=by
 obtain ⟨r,h⟩:=met_mono W s 0 i
 rw [Nat.zero_add] at h
 rw [h]
 simp [Walk.met,Walk.states]
theorem Fair.eqv {W:Walk σ} {A:Auto σ} (h:Fair W A) (s:σ) (i:Nat) (hd:W.Done s i):Eqv (ofL (W.out s i)) A 0 s:=fun w=>h.takes s i hd w 0 s (start_first W s i)
theorem least_eqv {d:List St} (h0:0<d.length) (hr:∀i (h:i<d.length),Row d.length 256 d[i].arcs):Eqv (ofL (least d)) (ofL d) 0 0:=
 (fair_walk _ (ofL_top hr)).eqv 0 d.length (least_done h0 hr)
theorem least_le (d:List St):(least d).length≤d.length:=by
 have:=out_length (ofL d).walk 0 d.length
 unfold least
 omega
theorem least_fits {d:List St} (h:Fits d):Fits (least d):=by
 obtain ⟨h1,h2⟩:=out_rows (ofL d).walk (fair_walk _ (ofL_top h.row)).refl 0 d.length (least_done h.pos h.row)
 exact ⟨h1,Nat.le_trans (least_le d) h.top,h2⟩
def Auto.plain [DecidableEq σ] (A:Auto σ):Walk σ:=⟨A.step,fun a b=>decide (a=b),A.fin⟩
theorem plain_fair [DecidableEq σ] (A:Auto σ) (top:∀s c,256≤c→A.step s c=none):Fair A.plain A where
 fin:=fun _=>rfl
 go:=fun s c=>by
  show (A.step s c=none∧_)∨∃t,A.step s c=some t∧_
  cases h:A.step s c with
  | none=>exact .inl ⟨rfl,acc_none A⟩
  | some t=>exact .inr ⟨t,rfl,rfl⟩
 refl:=fun s=>decide_eq_true rfl
 same:=fun s t h=>by
  have:=of_decide_eq_true h
  rw [this]
  exact Eqv.refl A t
 top:=fun s c h w=>by rw [top s c h];exact acc_none A w
def pair (A:Auto σ) (B:Auto τ):Auto (σ × τ) where
 step:=fun p c=>match A.step p.1 c,B.step p.2 c with
  | some s,some t=>some (s,t)
  | _,_=>none
 fin:=fun p=>A.fin p.1&&B.fin p.2
theorem pair_acc (A:Auto σ) (B:Auto τ) (s:σ) (t:τ) (w:List Nat):(pair A B).acc (some (s,t)) w=(A.acc (some s) w&&B.acc (some t) w):=by
 induction w generalizing s t with
 | nil=>rfl
 | cons c w ih=>
  rw [acc_cons,acc_cons,acc_cons]
  simp only [pair]
  cases h1:A.step s c with
  | none=>
   simp only [acc_none,Bool.false_and]
  | some s'=>
   cases h2:B.step t c with
   | none=>simp only [acc_none,Bool.and_false]
   | some t'=>exact ih s' t'
theorem pair_top {a b:List St} (ha:∀i (h:i<a.length),Row a.length 256 a[i].arcs) (s:Nat × Nat) (c:Nat) (hc:256≤c):(pair (ofL a) (ofL b)).step s c=none:=by
 simp only [pair]
 rw [ofL_top ha _ _ hc]
theorem pair_few {a b:List St} (ha:∀i (h:i<a.length),Row a.length 256 a[i].arcs) (hb:∀i (h:i<b.length),Row b.length 256 b[i].arcs) (h0:0<a.length) (g0:0<b.length) (i:Nat):((pair (ofL a) (ofL b)).plain.met (0,0) i).length≤a.length*b.length:=by
 refine met_few _ (plain_fair _ (pair_top ha)).refl (fun p=>p.1*b.length+p.2) (a.length*b.length) (fun p=>p.1<a.length∧p.2<b.length) ?_ (0,0) ⟨h0,g0⟩ ?_ ?_ i
 ·rintro ⟨s,t⟩ c ⟨s',t'⟩ _ h
  have h:(pair (ofL a) (ofL b)).step (s,t) c=some (s',t'):=h
  simp only [pair] at h
  split at h
  ·rename_i x y e1 e2
   cases h
   exact ⟨ofL_in ha e1,ofL_in hb e2⟩
  ·cases h
 ·rintro ⟨s,t⟩ ⟨h1,h2⟩
  dsimp only at *
  calc s*b.length+t<s*b.length+b.length:=by omega
   _=(s+1)*b.length:=by rw [Nat.add_mul,Nat.one_mul]
   _≤_:=Nat.mul_le_mul_right _ (by omega)
 ·rintro ⟨s,t⟩ ⟨s',t'⟩ ⟨h1,h2⟩ ⟨h3,h4⟩ e
  dsimp only at *
  have e1:s=s':=by
   have h5:(s*b.length+t)/b.length=(s'*b.length+t')/b.length:=by rw [e]
   rw [Nat.mul_comm s,Nat.mul_comm s',Nat.mul_add_div g0,Nat.mul_add_div g0,Nat.div_eq_of_lt h2,Nat.div_eq_of_lt h4] at h5
   omega
  subst e1
  have:t=t':=by omega
  rw [this]
def pairs (a b:List St):Nat:=((pair (ofL a) (ofL b)).plain.met (0,0) (a.length*b.length)).length
def meets (a b:List St):List St:=(pair (ofL a) (ofL b)).plain.out (0,0) (a.length*b.length)
theorem pairs_done {a b:List St} (ha:∀i (h:i<a.length),Row a.length 256 a[i].arcs) (hb:∀i (h:i<b.length),Row b.length 256 b[i].arcs) (h0:0<a.length) (g0:0<b.length):(pair (ofL a) (ofL b)).plain.Done (0,0) (a.length*b.length):=pair_few ha hb h0 g0 _
theorem meets_rows {a b:List St} (h:Fits a) (g:Fits b):0<(meets a b).length∧∀k (h:k<(meets a b).length),Row (meets a b).length 256 (meets a b)[k].arcs:=
 out_rows _ (plain_fair _ (pair_top h.row)).refl _ _ (pairs_done h.row g.row h.pos g.pos)
theorem meets_eqv {a b:List St} (h:Fits a) (g:Fits b):Eqv (ofL (meets a b)) (pair (ofL a) (ofL b)) 0 (0,0):=
 (plain_fair _ (pair_top h.row)).eqv _ _ (pairs_done h.row g.row h.pos g.pos)
theorem meets_len (a b:List St):(meets a b).length≤pairs a b:=by
 have:=out_length (pair (ofL a) (ofL b)).plain (0,0) (a.length*b.length)
 unfold meets pairs
 omega
theorem both_takes {a b:List St} (h:Fits a) (g:Fits b) (w:List Nat):(ofL (least (meets a b))).acc (some 0) w=((ofL a).acc (some 0) w&&(ofL b).acc (some 0) w):=by
 obtain ⟨h1,h2⟩:=meets_rows h g
 rw [least_eqv h1 h2 w,meets_eqv h g w,pair_acc]
end Au
end
section
namespace Au
structure Lo where
 fin:Bool
 arcs:List Arc
 free:List Int
 deriving DecidableEq
structure May (n:List Lo):Prop where
 pos:0<n.length
 arc:∀i (h:i<n.length),∀a∈n[i].arcs,0≤a.lo∧a.lo≤a.hi∧a.hi≤255∧0≤a.to∧a.to<n.length
 free:∀i (h:i<n.length),∀f∈n[i].free,0≤f∧f<n.length
def has (S:List Bool) (i:Nat):Prop:=S[i]?=some true
inductive Star (n:List Lo) (i:Nat):Nat→Prop
 | refl:Star n i i
 | step {j:Nat} {s:Lo} {f:Int}:Star n i j→n[j]?=some s→f∈s.free→Star n i f.toNat
open Classical in
noncomputable def setOf (m:Nat) (P:Nat→Prop):List Bool:=(List.range m).map (fun i=>decide (P i))
theorem setOf_length (m:Nat) (P:Nat→Prop):(setOf m P).length=m:=by simp [setOf]
theorem has_setOf (m:Nat) (P:Nat→Prop) (i:Nat):has (setOf m P) i↔i<m∧P i:=by
 unfold has setOf
 rw [List.getElem?_map]
 by_cases h:i<m
 ·rw [List.getElem?_range h]
  simp [h]
 ·rw [List.getElem?_eq_none (by simp;omega)]
  simp [h]
theorem set_ext {S T:List Bool} (hl:S.length=T.length) (h:∀i,has S i↔has T i):S=T:=by
 apply List.ext_getElem?
 intro i
 have hi:=h i
 unfold has at hi
 cases hs:S[i]? with
 | none=>
  have:T.length≤i:=by rw [←hl];exact List.getElem?_eq_none_iff.1 hs
  exact (List.getElem?_eq_none this).symm
 | some a=>
  have h1:i<T.length:=by rw [←hl];exact (List.getElem?_eq_some_iff.1 hs).1
  rw [List.getElem?_eq_getElem h1]
  rw [hs,List.getElem?_eq_getElem h1] at hi
  congr 1
  cases a <;> cases hb:T[i] <;> simp_all
noncomputable def spread (n:List Lo) (S:List Bool):List Bool:=setOf n.length (fun i=>∃j,has S j∧Star n j i)
def leads (n:List Lo) (S:List Bool) (c:Nat) (j:Nat):Prop:=∃k s a,has S k∧n[k]?=some s∧a∈s.arcs∧a.lo≤(c:Int)∧(c:Int)≤a.hi∧a.to.toNat=j
noncomputable def over (n:List Lo) (S:List Bool) (c:Nat):List Bool:=spread n (setOf n.length (leads n S c))
noncomputable def first (n:List Lo):List Bool:=spread n (setOf n.length (fun i=>i=0))
open Classical in
noncomputable def ends (n:List Lo) (S:List Bool):Bool:=decide (∃i s,has S i∧n[i]?=some s∧s.fin=true)
open Classical in
noncomputable def empty (S:List Bool):Bool:=decide (∀i,¬has S i)
theorem empty_iff (S:List Bool):empty S=true↔∀i,¬has S i:=by simp [empty]
theorem ends_iff (n:List Lo) (S:List Bool):ends n S=true↔∃i s,has S i∧n[i]?=some s∧s.fin=true:=by simp [ends]
theorem over_length (n:List Lo) (S:List Bool) (c:Nat):(over n S c).length=n.length:=setOf_length _ _
theorem first_length (n:List Lo):(first n).length=n.length:=setOf_length _ _
theorem spread_empty (n:List Lo) (S:List Bool) (h:∀i,¬has S i):∀i,¬has (spread n S) i:=by
 intro i hi
 obtain ⟨_,j,hj,_⟩:=(has_setOf _ _ _).1 hi
 exact h j hj
theorem over_empty (n:List Lo) (S:List Bool) (c:Nat) (h:∀i,¬has S i):∀i,¬has (over n S c) i:=by
 apply spread_empty
 intro i hi
 obtain ⟨_,k,s,a,hk,_⟩:=(has_setOf _ _ _).1 hi
 exact h k hk
noncomputable def sub (n:List Lo):Auto (List Bool) where
 step:=fun S c=>if empty (over n S c)=true then none else some (over n S c)
 fin:=ends n
noncomputable def takes (n:List Lo) (S:List Bool) (w:List Nat):Bool:=ends n (w.foldl (over n) S)
theorem takes_empty (n:List Lo) (S:List Bool) (h:∀i,¬has S i) (w:List Nat):takes n S w=false:=by
 induction w generalizing S with
 | nil=>
  unfold takes
  rw [←Bool.not_eq_true,List.foldl_nil,ends_iff]
  rintro ⟨i,s,hi,_⟩
  exact h i hi
 | cons c w ih=>exact ih (over n S c) (over_empty n S c h)
theorem sub_takes (n:List Lo) (S:List Bool) (w:List Nat):(sub n).acc (some S) w=takes n S w:=by
 induction w generalizing S with
 | nil=>rfl
 | cons c w ih=>
  rw [acc_cons]
  change (sub n).acc (if empty (over n S c)=true then none else some (over n S c)) w=takes n (over n S c) w
  by_cases h:empty (over n S c)=true
  ·rw [if_pos h,acc_none,takes_empty n _ ((empty_iff _).1 h)]
  ·rw [if_neg h]
   exact ih _
theorem sub_top {n:List Lo} (hn:May n) (S:List Bool) (c:Nat) (hc:256≤c):(sub n).step S c=none:=by
 change (if empty (over n S c)=true then none else some (over n S c))=none
 rw [if_pos]
 rw [empty_iff]
 apply spread_empty
 intro i hi
 obtain ⟨_,k,s,a,hk,hs,ha,_,h2,_⟩:=(has_setOf _ _ _).1 hi
 obtain ⟨hl,rfl⟩:=List.getElem?_eq_some_iff.1 hs
 have:=hn.arc k hl a ha
 omega
def Few (n:List Lo) (most:Int) (i:Nat):Prop:=(sub n).plain.Done (first n) i∧((sub n).plain.met (first n) i).length≤most
open Classical in
noncomputable def tight (n:List Lo) (most:Int):Option (List St):=if h:∃i,Few n most i then some (least ((sub n).plain.out (first n) (Classical.choose h))) else none
theorem tight_some {n:List Lo} {most:Int} {i:Nat} (h:Few n most i):tight n most=some (least ((sub n).plain.out (first n) i)):=by
 unfold tight
 have hx:∃i,Few n most i:=⟨i,h⟩
 rw [dif_pos hx]
 have:=done_same (sub n).plain (first n) _ i (Classical.choose_spec hx).1 h.1
 unfold Walk.out
 rw [this]
theorem met_le {σ:Type} (W:Walk σ) (s:σ) (i j:Nat) (hj:W.Done s j):(W.met s i).length≤(W.met s j).length:=by
 rcases Nat.le_total i j with h | h
 ·obtain ⟨d,rfl⟩:∃d,j=i+d:=⟨j-i,by omega⟩
  obtain ⟨r,hr⟩:=met_mono W s i d
  rw [hr,List.length_append]
  omega
 ·obtain ⟨d,rfl⟩:∃d,i=j+d:=⟨i-j,by omega⟩
  unfold Walk.met
  rw [done_stays W s j d hj]
  exact Nat.le_refl _
theorem tight_none {n:List Lo} {most:Int} (i:Nat) (h:most<((sub n).plain.met (first n) i).length):tight n most=none:=by
 unfold tight
 rw [dif_neg]
 rintro ⟨j,hj1,hj2⟩
 have:=met_le (sub n).plain (first n) i j hj1
 omega
theorem few_rows {n:List Lo} (hn:May n) {most:Int} {i:Nat} (h:Few n most i):0<((sub n).plain.out (first n) i).length∧∀k (h:k<((sub n).plain.out (first n) i).length),Row ((sub n).plain.out (first n) i).length 256 ((sub n).plain.out (first n) i)[k].arcs:=
 out_rows _ (plain_fair _ (sub_top hn)).refl _ _ h.1
theorem few_eqv {n:List Lo} (hn:May n) {most:Int} {i:Nat} (h:Few n most i):Eqv (ofL ((sub n).plain.out (first n) i)) (sub n) 0 (first n):=(plain_fair _ (sub_top hn)).eqv _ _ h.1
theorem few_len {n:List Lo} {most:Int} {i:Nat} (h:Few n most i):(((sub n).plain.out (first n) i).length:Int)≤most:=by
 have:=out_length (sub n).plain (first n) i
 have:=h.2
 omega
theorem tight_takes {n:List Lo} (hn:May n) {most:Int} {d:List St} (h:tight n most=some d) (w:List Nat):(ofL d).acc (some 0) w=takes n (first n) w:=by
 have hx:∃i,Few n most i:=by
  unfold tight at h
  split at h
  ·assumption
  ·cases h
 obtain ⟨i,hi⟩:=hx
 rw [tight_some hi] at h
 cases h
 obtain ⟨h1,h2⟩:=few_rows hn hi
 rw [least_eqv h1 h2 w,few_eqv hn hi w,sub_takes]
theorem tight_fits {n:List Lo} (hn:May n) {most:Int} (hm:most≤20000) {d:List St} (h:tight n most=some d):Fits d:=by
 have hx:∃i,Few n most i:=by
  unfold tight at h
  split at h
  ·assumption
  ·cases h
 obtain ⟨i,hi⟩:=hx
 rw [tight_some hi] at h
 cases h
 obtain ⟨h1,h2⟩:=few_rows hn hi
 have h3:=few_len hi
 exact least_fits ⟨h1,by omega,h2⟩
end Au
end
section
open Go.RowKit
theorem belowN {B:Nat} {a w:World} (h:Below B a w) (n:Nat):Below B a (w.drewN n):=h.trans ⟨rfl,rfl,rfl,Nat.le_refl _,fun _ _=>rfl⟩
theorem chain {w w2 w3:World} (h:Below w.heap.size w w2) (hb:Below w2.heap.size w2 w3):Below w.heap.size w w3:=h.trans (hb.mono h.size)
theorem cell_same {w w':World} {a:Addr} (h:w'.heap[a.block]?=w.heap[a.block]?):w'.cell? a=w.cell? a:=World.cell?_of_block (w:=w) h
def ArcS (F:Nat→Prop) (w:World) (v:Value) (l:List Au.Arc):Prop:=
 ∃a cap,v=.slice a l.length cap∧l.length≤cap∧cap≤9223372036854775807∧(0<l.length→∃g o,a=some ⟨g,o,none⟩∧g<w.heap.size∧F g ∧
  ∀j (_:j<l.length),w.cell? ⟨g,o+j*3,none⟩=some (.int .i64 l[j].lo)∧w.cell? ⟨g,o+j*3+1,none⟩=some (.int .i64 l[j].hi)∧w.cell? ⟨g,o+j*3+2,none⟩=some (.int .i64 l[j].to))
theorem ArcS.keep {F:Nat→Prop} {w w':World} {v:Value} {l:List Au.Arc} (h:ArcS F w v l) (hs:w.heap.size≤w'.heap.size) (e:∀g,F g→g<w.heap.size→w'.heap[g]?=w.heap[g]?):ArcS F w' v l:=by
 obtain ⟨a,cap,h1,h2,h3,h4⟩:=h
 refine ⟨a,cap,h1,h2,h3,fun h0=>?_⟩
 obtain ⟨g,o,h5,h6,h7,h8⟩:=h4 h0
 have hb:=e g h7 h6
 refine ⟨g,o,h5,Nat.lt_of_lt_of_le h6 hs,h7,fun j hj=>?_⟩
 obtain ⟨a1,a2,a3⟩:=h8 j hj
 exact ⟨(cell_same hb).trans a1,(cell_same hb).trans a2,(cell_same hb).trans a3⟩
theorem ArcS.wide {F G:Nat→Prop} {w:World} {v:Value} {l:List Au.Arc} (h:ArcS F w v l) (hm:∀g,g<w.heap.size→F g→G g):ArcS G w v l:=by
 obtain ⟨a,cap,h1,h2,h3,h4⟩:=h
 refine ⟨a,cap,h1,h2,h3,fun h0=>?_⟩
 obtain ⟨g,o,h5,h6,h7,h8⟩:=h4 h0
 exact ⟨g,o,h5,h6,hm g h6 h7,h8⟩
def NumS (F:Nat→Prop) (w:World) (v:Value) (l:List Int):Prop:=
 ∃a cap,v=.slice a l.length cap∧l.length≤cap∧cap≤9223372036854775807∧(0<l.length→∃g o,a=some ⟨g,o,none⟩∧g<w.heap.size∧F g∧∀j (_:j<l.length),w.cell? ⟨g,o+j,none⟩=some (.int .i64 l[j]))
theorem NumS.keep {F:Nat→Prop} {w w':World} {v:Value} {l:List Int} (h:NumS F w v l) (hs:w.heap.size≤w'.heap.size) (e:∀g,F g→g<w.heap.size→w'.heap[g]?=w.heap[g]?):NumS F w' v l:=by
 obtain ⟨a,cap,h1,h2,h3,h4⟩:=h
 refine ⟨a,cap,h1,h2,h3,fun h0=>?_⟩
 obtain ⟨g,o,h5,h6,h7,h8⟩:=h4 h0
 have hb:=e g h7 h6
 exact ⟨g,o,h5,Nat.lt_of_lt_of_le h6 hs,h7,fun j hj=>(cell_same hb).trans (h8 j hj)⟩
def StS (F:Nat→Prop) (w:World) (v:Value) (d:List Au.St):Prop:=
 ∃a cap,v=.slice a d.length cap∧d.length≤cap∧cap≤9223372036854775807∧(0<d.length→∃g o,a=some ⟨g,o,none⟩∧g<w.heap.size∧F g ∧
  ∀j (_:j<d.length),w.cell? ⟨g,o+j*2,none⟩=some (.bool d[j].fin)∧∃va,w.cell? ⟨g,o+j*2+1,none⟩=some va∧ArcS F w va d[j].arcs)
theorem StS.keep {F:Nat→Prop} {w w':World} {v:Value} {d:List Au.St} (h:StS F w v d) (hs:w.heap.size≤w'.heap.size) (e:∀g,F g→g<w.heap.size→w'.heap[g]?=w.heap[g]?):StS F w' v d:=by
 obtain ⟨a,cap,h1,h2,h3,h4⟩:=h
 refine ⟨a,cap,h1,h2,h3,fun h0=>?_⟩
 obtain ⟨g,o,h5,h6,h7,h8⟩:=h4 h0
 have hb:=e g h7 h6
 refine ⟨g,o,h5,Nat.lt_of_lt_of_le h6 hs,h7,fun j hj=>?_⟩
 obtain ⟨a1,va,a2,a3⟩:=h8 j hj
 exact ⟨(cell_same hb).trans a1,va,(cell_same hb).trans a2,a3.keep hs e⟩
theorem StS.wide {F G:Nat→Prop} {w:World} {v:Value} {d:List Au.St} (h:StS F w v d) (hm:∀g,g<w.heap.size→F g→G g):StS G w v d:=by
 obtain ⟨a,cap,h1,h2,h3,h4⟩:=h
 refine ⟨a,cap,h1,h2,h3,fun h0=>?_⟩
 obtain ⟨g,o,h5,h6,h7,h8⟩:=h4 h0
 refine ⟨g,o,h5,h6,hm g h6 h7,fun j hj=>?_⟩
 obtain ⟨a1,va,a2,a3⟩:=h8 j hj
 exact ⟨a1,va,a2,a3.wide hm⟩
def LoS (F:Nat→Prop) (w:World) (v:Value) (n:List Au.Lo):Prop:=
 ∃a cap,v=.slice a n.length cap∧n.length≤cap∧cap≤9223372036854775807∧(0<n.length→∃g o,a=some ⟨g,o,none⟩∧g<w.heap.size∧F g ∧
  ∀j (_:j<n.length),w.cell? ⟨g,o+j*3,none⟩=some (.bool n[j].fin)∧(∃va,w.cell? ⟨g,o+j*3+1,none⟩=some va∧ArcS F w va n[j].arcs)∧∃vf,w.cell? ⟨g,o+j*3+2,none⟩=some vf∧NumS F w vf n[j].free)
theorem LoS.keep {F:Nat→Prop} {w w':World} {v:Value} {d:List Au.Lo} (h:LoS F w v d) (hs:w.heap.size≤w'.heap.size) (e:∀g,F g→g<w.heap.size→w'.heap[g]?=w.heap[g]?):LoS F w' v d:=by
 obtain ⟨a,cap,h1,h2,h3,h4⟩:=h
 refine ⟨a,cap,h1,h2,h3,fun h0=>?_⟩
 obtain ⟨g,o,h5,h6,h7,h8⟩:=h4 h0
 have hb:=e g h7 h6
 refine ⟨g,o,h5,Nat.lt_of_lt_of_le h6 hs,h7,fun j hj=>?_⟩
 obtain ⟨a1,⟨va,a2,a3⟩,vf,a4,a5⟩:=h8 j hj
 exact ⟨(cell_same hb).trans a1,⟨va,(cell_same hb).trans a2,a3.keep hs e⟩,vf,(cell_same hb).trans a4,a5.keep hs e⟩
theorem StS.below {F:Nat→Prop} {w w':World} {v:Value} {d:List Au.St} (h:StS F w v d) (hb:Below w.heap.size w w'):StS F w' v d:=h.keep hb.size fun g _ hg=>hb.block g hg
theorem LoS.below {F:Nat→Prop} {w w':World} {v:Value} {d:List Au.Lo} (h:LoS F w v d) (hb:Below w.heap.size w w'):LoS F w' v d:=h.keep hb.size fun g _ hg=>hb.block g hg
theorem ArcS.below {F:Nat→Prop} {w w':World} {v:Value} {l:List Au.Arc} (h:ArcS F w v l) (hb:Below w.heap.size w w'):ArcS F w' v l:=h.keep hb.size fun g _ hg=>hb.block g hg
theorem NumS.below {F:Nat→Prop} {w w':World} {v:Value} {l:List Int} (h:NumS F w v l) (hb:Below w.heap.size w w'):NumS F w' v l:=h.keep hb.size fun g _ hg=>hb.block g hg
namespace Au
def step (d:List St) (s c:Int):Int:=if s<0∨(d.length:Int)≤s then -1 else match d[s.toNat]? with
 | some a=>(look a.arcs c).getD (-1)
 | none=>-1
end Au
end
section
open Go.RowKit
theorem Tryz.infoBo:(Tryz.prog.info? 4).map (fun i=>(i.zero,i.size,i.bytes))=some (some (.bool false),1,1):=by kernel_rfl
def boolsV (l:List Bool):List Value:=l.map (fun c=>.bool c)
theorem boolsV_snoc (l:List Bool) (c:Bool):boolsV l++[.bool c]=boolsV (l++[c]):=by simp [boolsV]
end
section
open Go.RowKit
namespace Au
theorem look_own {n:Nat} {c:Int} {l:List Arc} (h:Row n c l) (k:Nat) (hk:k<l.length):look l l[k].lo=some l[k].to:=by
 induction l generalizing k with
 | nil=>simp at hk
 | cons a r ih=>
  have ht:Row n c r:=⟨fun j hj=>by have:=h.1 (j+1) (by simp;omega);simpa using this,fun j hj=>by have:=h.2 (j+1) (by simp;omega);simpa using this⟩
  cases k with
  | zero=>
   have:=h.1 0 (by simp)
   simp only [List.getElem_cons_zero] at this ⊢
   simp only [look]
   rw [if_pos (by omega)]
  | succ k=>
   have hk':k<r.length:=by simpa using hk
   simp only [List.getElem_cons_succ]
   have hlt:a.hi<r[k].lo:=by
    have hrow:Row n c (a :: r):=h
    have rise:∀j (hj:j<r.length),a.hi<r[j].lo:=by
     intro j
     induction j with
     | zero=>intro hj;have:=h.2 0 (by simp;omega);simpa using this
     | succ j ihj=>
      intro hj
      have h1:=ihj (by omega)
      have h2:=h.2 (j+1) (by simp;omega)
      have h3:=h.1 (j+1) (by simp;omega)
      simp only [List.getElem_cons_succ] at h2 h3
      omega
    exact rise k hk'
   simp only [look]
   rw [if_neg (by omega)]
   exact ih ht k hk'
theorem look_mem {l:List Arc} {x t:Int} (h:look l x=some t):∃k,∃hk:k<l.length,l[k].to=t:=by
 induction l with
 | nil=>cases h
 | cons a r ih=>
  simp only [look] at h
  split at h
  ·cases h;exact ⟨0,by simp,rfl⟩
  ·obtain ⟨k,hk,e⟩:=ih h
   exact ⟨k+1,by simp;omega,by simpa using e⟩
end Au
end
section
open Go.RowKit
theorem Au.look_drop (l:List Au.Arc) (k:Nat) (hk:k<l.length) (c:Int):Au.look (l.drop k) c=if l[k].lo≤c∧c≤l[k].hi then some l[k].to else Au.look (l.drop (k+1)) c:=by
 rw [List.drop_eq_getElem_cons hk]
 rfl
end
section
open Go.RowKit
namespace Au
def okArc (n:Nat) (l:List Arc) (k:Nat):Prop:=∀h:k<l.length,0≤l[k].lo∧l[k].hi≤255∧l[k].lo≤l[k].hi∧0≤l[k].to∧l[k].to<n∧(0<k→l[k-1].hi<l[k].lo)
def okAt (n:Nat) (d:List St) (i:Nat):Prop:=∀s,d[i]?=some s→∀k,okArc n s.arcs k
open Classical in
noncomputable def check (d:List St):Int:=if d.length=0 then 1 else if 20000<d.length then 8 else if ∀i,i<d.length→okAt d.length d i then 0 else 3
theorem okAt_of {n:Nat} {d:List St} {i:Nat} (h:i<d.length):okAt n d i↔∀k,okArc n d[i].arcs k:=by
 constructor
 ·intro g k
  exact g d[i] (List.getElem?_eq_getElem h) k
 ·intro g s hs k
  rw [List.getElem?_eq_getElem h] at hs
  cases hs
  exact g k
theorem row_iff (n:Nat) (l:List Arc):(∀k,okArc n l k)↔Row n 256 l:=by
 constructor
 ·intro h
  refine ⟨fun k hk=>?_,fun k hk=>?_⟩
  ·have:=h k hk
   omega
  ·have:=(h (k+1) hk).2.2.2.2.2 (by omega)
   simpa using this
 ·intro h k hk
  have h1:=h.1 k hk
  refine ⟨by omega,by omega,by omega,by omega,by omega,fun h0=>?_⟩
  have:=h.2 (k-1) (by omega)
  simp only [show k-1+1=k by omega] at this
  exact this
theorem check_iff (d:List St):check d=0↔Fits d:=by
 unfold check
 split
 ·rename_i h
  constructor
  ·intro e;exact absurd e (by decide)
  ·intro f;have:=f.pos;omega
 ·split
  ·rename_i h
   constructor
   ·intro e;exact absurd e (by decide)
   ·intro f;have:=f.top;omega
  ·split
   ·rename_i h0 h1 h
    exact ⟨fun _=>⟨by omega,by omega,fun i hi=>(row_iff _ _).1 ((okAt_of hi).1 (h i hi))⟩,fun _=>rfl⟩
   ·rename_i h0 h1 h
    constructor
    ·intro e;exact absurd e (by decide)
    ·intro f;exact absurd (fun i hi=>(okAt_of hi).2 ((row_iff _ _).2 (f.row i hi))) h
end Au
theorem checkR_any (F:Nat→Prop) (w:World) (v:Value) (d:List Au.St) (hv:StS F w v d):
  Calls Tryz.prog 17 #[v] w fun e w'=>e=.returned (.int .i64 (Au.check d))∧Below w.heap.size w w':=by
 obtain ⟨a,cap,rfl,hc1,hc2,hc⟩:=hv
 by_cases h0:d.length=0
 ·have hr:Au.check d=1:=by unfold Au.check;rw [if_pos h0]
  rw [hr]
  have i0:((d.length:Int)==0)=true:=beq_iff_eq.2 (by omega)
  clear hr hc h0
  go_enter Tryz.func17,Tryz.ntmps17
  go_wp2_with fail
  go_ret
  exact ⟨rfl,Below.refl _ _⟩
 have i0:((d.length:Int)==0)=false:=beq_eq_false_iff_ne.2 (by omega)
 by_cases h1:20000<d.length
 ·have hr:Au.check d=8:=by unfold Au.check;rw [if_neg h0,if_pos h1]
  rw [hr]
  have i1:(20000:Int)<(d.length:Int):=by omega
  clear hr hc h0 h1
  go_enter Tryz.func17,Tryz.ntmps17
  go_wp2_with fail
  go_ret
  exact ⟨rfl,Below.refl _ _⟩
 have i1:¬(20000:Int)<(d.length:Int):=by omega
 obtain ⟨g,o,rfl,hg,hF,hcl⟩:=hc (by omega)
 have hgood:(∀i,i<d.length→Au.okAt d.length d i)→Au.check d=0:=fun h=>by unfold Au.check;rw [if_neg h0,if_neg h1,if_pos h]
 have hbad:∀i,i<d.length→¬Au.okAt d.length d i→Au.check d=3:=fun i hi h=>by unfold Au.check;rw [if_neg h0,if_neg h1,if_neg (fun e=>h (e i hi))]
 generalize Au.check d=r at *
 obtain ⟨n,hn⟩:∃n,n=d.length:=⟨_,rfl⟩
 have hn2:n≤20000:=by omega
 rw [←hn] at hgood hbad
 have HN:=lh hn
 have HC:=lh hcl
 have HG:=lh hgood
 have HB:=lh hbad
 rw [←hn] at i0 i1 ⊢
 clear hc hcl hgood hbad h0 h1 hn hc1
 go_enter Tryz.func17,Tryz.ntmps17
 go_wp2_with fail
 go_loopg [3] n (fun gg vi wx=>∃i:Nat,i≤n∧gg=n-i∧vi=.int .i64 i∧Hid (∀j,j<i→Au.okAt n d j)∧Below w.heap.size w wx)
 case atStart=>exact ⟨0,Nat.zero_le _,rfl,rfl,fun j h=>by omega,Below.refl _ _⟩
 case round=>
  obtain ⟨i,hi,rfl,rfl,hS,hbel⟩:=hrel
  by_cases hin:i<n
  ·have j1:(i:Int)<(n:Int):=by omega
   have hid:i<d.length:=by rw [←HN.out];exact hin
   obtain ⟨_,va,c1,hva⟩:=HC.out i hid
   have HBi:Hid (∀k,¬Au.okArc n d[i].arcs k→r=3):=fun k h=>HB.out i hin (fun e=>h ((Au.okAt_of hid).1 e k))
   have hst:Hid ((∀k,Au.okArc n d[i].arcs k)→∀j,j<i+1→Au.okAt n d j):=fun h j hji=>by
    by_cases e:j=i
    ·subst e;exact (Au.okAt_of hid).2 h
    ·exact hS.out j (by omega)
   clear hS
   generalize d[i].arcs=l at *
   obtain ⟨a2,cap2,rfl,hd1,hd2,hd⟩:=hva
   obtain ⟨m,hm⟩:∃m,m=l.length:=⟨_,rfl⟩
   have HM:=lh hm
   have HD:=lh hd
   have HBE:=lh hbel
   rw [←hm] at c1
   have m2:m≤9223372036854775807:=by omega
   clear hd hd1 hm hbel
   go_wp2_with fail
   go_loopg [4] m (fun gg vk wx=>∃k:Nat,k≤m∧gg=m-k∧vk=.int .i64 k∧Hid (∀j,j<k→Au.okArc n l j)∧Below w.heap.size w wx)
   case atStart=>exact ⟨0,Nat.zero_le _,rfl,rfl,fun j h=>by omega,HBE.out⟩
   case round=>
    obtain ⟨k,hk,rfl,rfl,hS,hbel⟩:=hrel
    have c2:=(hbel.cell (p:=⟨g,o+i*2+1,none⟩) hg).trans c1
    by_cases hkm:k<m
    ·have kl:k<l.length:=by rw [←HM.out];exact hkm
     obtain ⟨g2,o2,rfl,hg2,_,hcl2⟩:=HD.out (by omega)
     obtain ⟨d1,d2,d3⟩:=hcl2 k kl
     have e1:=(hbel.cell (p:=⟨g2,o2+k*3,none⟩) hg2).trans d1
     have e2:=(hbel.cell (p:=⟨g2,o2+k*3+1,none⟩) hg2).trans d2
     have e3:=(hbel.cell (p:=⟨g2,o2+k*3+2,none⟩) hg2).trans d3
     have e4:∀j (h:j<l.length),wr.cell? ⟨g2,o2+j*3+1,none⟩=some (.int .i64 l[j].hi):=fun j hj=>(hbel.cell (p:=⟨g2,o2+j*3+1,none⟩) hg2).trans (hcl2 j hj).2.1
     have hA:Hid (Au.okArc n l k↔0≤l[k].lo∧l[k].hi≤255∧l[k].lo≤l[k].hi∧0≤l[k].to∧l[k].to<n∧(0<k→l[k-1].hi<l[k].lo)):=⟨fun h=>h kl,fun h _=>h⟩
     have j2:(k:Int)<(m:Int):=by omega
     have HBE2:=lh hbel
     have E4:=lh e4
     have hst2:Hid (Au.okArc n l k→∀j,j<k+1→Au.okArc n l j):=fun h j hj=>by
      by_cases e:j=k
      ·subst e;exact h
      ·exact hS.out j (by omega)
     clear hcl2 d1 d2 d3 hS hbel e4
     have hE1:l[k].lo=l[k].lo:=rfl
     generalize hx:l[k]=x at *
     obtain ⟨lo,hi',to⟩:=x
     dsimp only at e1 e2 e3 hA
     clear hx hE1
     by_cases q1:lo<0
     ·have f1:decide (lo<0)=true:=decide_eq_true q1
      obtain rfl:r=3:=HBi.out k (fun h=>by have:=hA.out.1 h;omega)
      clear hA hst2 hst HBi HG HB
      go_wp2_with fail
      go_quiet (fail)
      go_wp2_with fail
      go_ret
      exact ⟨rfl,by first | exact belowN (HBE2.out.alloc HBE2.out.size _) _ | exact HBE2.out.alloc HBE2.out.size _⟩
     have f1:decide (lo<0)=false:=decide_eq_false q1
     by_cases q2:255<hi'
     ·have f2:decide ((255:Int)<hi')=true:=decide_eq_true q2
      obtain rfl:r=3:=HBi.out k (fun h=>by have:=hA.out.1 h;omega)
      clear hA hst2 hst HBi HG HB
      go_wp2_with fail
      go_quiet (fail)
      go_wp2_with fail
      go_ret
      exact ⟨rfl,by first | exact belowN (HBE2.out.alloc HBE2.out.size _) _ | exact HBE2.out.alloc HBE2.out.size _⟩
     have f2:decide ((255:Int)<hi')=false:=decide_eq_false q2
     by_cases q3:hi'<lo
     ·have f3:decide (hi'<lo)=true:=decide_eq_true q3
      obtain rfl:r=3:=HBi.out k (fun h=>by have:=hA.out.1 h;omega)
      clear hA hst2 hst HBi HG HB
      go_wp2_with fail
      go_quiet (fail)
      go_wp2_with fail
      go_ret
      exact ⟨rfl,by first | exact belowN (HBE2.out.alloc HBE2.out.size _) _ | exact HBE2.out.alloc HBE2.out.size _⟩
     have f3:decide (hi'<lo)=false:=decide_eq_false q3
     by_cases q4:to<0
     ·have f4:decide (to<0)=true:=decide_eq_true q4
      obtain rfl:r=3:=HBi.out k (fun h=>by have:=hA.out.1 h;omega)
      clear hA hst2 hst HBi HG HB
      go_wp2_with fail
      go_quiet (fail)
      go_wp2_with fail
      go_ret
      exact ⟨rfl,by first | exact belowN (HBE2.out.alloc HBE2.out.size _) _ | exact HBE2.out.alloc HBE2.out.size _⟩
     have f4:decide (to<0)=false:=decide_eq_false q4
     by_cases q5:(n:Int)≤to
     ·have f5:decide ((n:Int)≤to)=true:=decide_eq_true q5
      obtain rfl:r=3:=HBi.out k (fun h=>by have:=hA.out.1 h;omega)
      clear hA hst2 hst HBi HG HB
      go_wp2_with fail
      go_quiet (fail)
      go_wp2_with fail
      go_ret
      exact ⟨rfl,by first | exact belowN (HBE2.out.alloc HBE2.out.size _) _ | exact HBE2.out.alloc HBE2.out.size _⟩
     have f5:decide ((n:Int)≤to)=false:=decide_eq_false q5
     by_cases q6:k=0
     ·have f6:decide ((0:Int)<(k:Int))=false:=decide_eq_false (by omega)
      have f6n:decide (0<k)=false:=decide_eq_false (by omega)
      have H2:=lh (hst2.out (hA.out.2 ⟨by omega,by omega,by omega,by omega,by omega,fun h=>by omega⟩))
      clear q6
      clear hA hst2
      go_wp2_with fail
      go_quiet (fail)
      go_wp2_with fail
      go_roundg (m-(k+1))
      case rel=>exact ⟨k+1,by omega,rfl,by go_num,H2.out,by first | exact belowN (HBE2.out.alloc HBE2.out.size _) _ | exact HBE2.out.alloc HBE2.out.size _⟩
      case measure=>omega
     have q7:(0:Int)<(k:Int):=by omega
     have f6:decide ((0:Int)<(k:Int))=true:=decide_eq_true q7
     have f6n:decide (0<k)=true:=decide_eq_true (by omega)
     have kz:0<k:=by omega
     have kp:k-1<l.length:=by omega
     have e5:=E4.out (k-1) kp
     have q8:(k:Int)-1<(m:Int):=by omega
     have q9:(0:Int)≤(k:Int)-1:=by omega
     generalize l[k-1].hi=ph at *
     have gl:g<wr.heap.size:=Nat.lt_of_lt_of_le hg HBE2.out.size
     have gl2:g2<wr.heap.size:=Nat.lt_of_lt_of_le hg2 HBE2.out.size
     have c6:(wr.alloc (.cells #[.int .i64 lo,.int .i64 hi',.int .i64 to] 71)).cell? ⟨g,o+i*2+1,none⟩=some (.slice (some ⟨g2,o2,none⟩) m cap2):=(cell_same (Go.Deep.blk_alloc_lt _ _ _ gl)).trans c2
     have c7:(wr.alloc (.cells #[.int .i64 lo,.int .i64 hi',.int .i64 to] 71)).cell? ⟨g2,o2+(k-1)*3+1,none⟩=some (.int .i64 ph):=(cell_same (Go.Deep.blk_alloc_lt _ _ _ gl2)).trans e5
     by_cases q10:lo≤ph
     ·have f7:decide (lo≤ph)=true:=decide_eq_true q10
      obtain rfl:r=3:=HBi.out k (fun h=>by have:=(hA.out.1 h).2.2.2.2.2 (by omega);omega)
      clear hA hst2 hst HBi HG HB
      go_wp2_with fail
      go_quiet (fail)
      go_wp2_with fail
      go_ret
      exact ⟨rfl,by first | exact belowN (HBE2.out.alloc HBE2.out.size _) _ | exact HBE2.out.alloc HBE2.out.size _⟩
     ·have f7:decide (lo≤ph)=false:=decide_eq_false q10
      have H2:=lh (hst2.out (hA.out.2 ⟨by omega,by omega,by omega,by omega,by omega,fun h=>by omega⟩))
      clear hA hst2
      go_wp2_with fail
      go_quiet (fail)
      go_wp2_with fail
      go_roundg (m-(k+1))
      case rel=>exact ⟨k+1,by omega,rfl,by go_num,H2.out,by first | exact belowN (HBE2.out.alloc HBE2.out.size _) _ | exact HBE2.out.alloc HBE2.out.size _⟩
      case measure=>omega
    ·obtain rfl:k=m:=by omega
     have hall:∀j,Au.okArc n l j:=fun j=>by
      by_cases h:j<k
      ·exact hS.out j h
      ·intro hl
       rw [←HM.out] at hl
       exact absurd hl h
     have H2:=lh (hst.out hall)
     have HBE2:=lh hbel
     clear hS hst hall hbel HBi
     go_wp2_with fail
     go_roundg (n-(i+1))
     case rel=>exact ⟨i+1,by omega,rfl,by go_num,H2.out,HBE2.out⟩
     case measure=>omega
  ·obtain rfl:i=n:=by omega
   obtain rfl:r=0:=HG.out (fun j hj=>hS.out j hj)
   have HBE:=lh hbel
   clear hS hbel HG HB
   go_wp2_with fail
   go_ret
   exact ⟨rfl,HBE.out⟩
end
section
open Go.RowKit
namespace Au
def code:Option Nat→Int
 | none=>-1
 | some k=>k
open Classical in
noncomputable def takesL (d:List St) (s:List UInt8):Bool:=decide (Fits d)&&(ofL d).acc (some 0) (s.map UInt8.toNat)
theorem step_code {d:List St} (h:Fits d) (x:Option Nat) (c:Nat):step d (code x) c=code (x.bind fun k=>(ofL d).step k c):=by
 cases x with
 | none=>simp [step,code]
 | some k=>
  simp only [code,Option.bind_some]
  unfold step
  by_cases hk:k<d.length
  ·rw [if_neg (by omega),Int.toNat_natCast,List.getElem?_eq_getElem hk]
   simp only [ofL,List.getElem?_eq_getElem hk]
   cases hl:look d[k].arcs (c:Int) with
   | none=>rfl
   | some t=>
    have:=look_in (n:=d.length) (fun j hj=>by have:=(h.row k hk).1 j hj;omega) hl
    simp only [Option.map_some,Option.getD_some]
    change t=((t.toNat:Nat):Int)
    omega
  ·rw [if_pos (by omega)]
   simp only [ofL,List.getElem?_eq_none (by omega:d.length≤k)]
theorem acc_step {σ:Type} (A:Auto σ) (x:Option σ) (c:Nat) (w:List Nat):A.acc x (c :: w)=A.acc (x.bind fun k=>A.step k c) w:=by
 cases x with
 | none=>simp [acc_none]
 | some k=>rfl
end Au
end
section
open Go.RowKit
theorem heap_other (w:World) (b i k:Nat) (v:Value) (h:k≠b):(w.setCell ⟨b,i,none⟩ v).heap[k]?=w.heap[k]?:=
 Below.heap_setCell _ _ _ _ (by first | exact h | exact fun e=>h e.symm | exact fun e=>h e)
structure KeptF (F:Nat→Prop) (w w':World):Prop where
 os:w'.os=w.os
 tape:w'.tape=w.tape
 output:w'.output=w.output
 size:w.heap.size≤w'.heap.size
 block:∀k,k<w.heap.size→¬F k→w'.heap[k]?=w.heap[k]?
theorem KeptF.refl (F:Nat→Prop) (w:World):KeptF F w w:=⟨rfl,rfl,rfl,Nat.le_refl _,fun _ _ _=>rfl⟩
theorem KeptF.trans {F:Nat→Prop} {w w' w'':World} (h:KeptF F w w') (k:KeptF F w' w''):KeptF F w w'':=
 ⟨k.os.trans h.os,k.tape.trans h.tape,k.output.trans h.output,Nat.le_trans h.size k.size,fun i hi hf=>(k.block i (Nat.lt_of_lt_of_le hi h.size) hf).trans (h.block i hi hf)⟩
theorem KeptF.of_below {F:Nat→Prop} {w w':World} (h:Below w.heap.size w w'):KeptF F w w':=⟨h.os,h.tape,h.output,h.size,fun k hk _=>h.block k hk⟩
theorem KeptF.set {F:Nat→Prop} {w w':World} (h:KeptF F w w') (b i:Nat) (hb:F b) (v:Value):KeptF F w (w'.setCell ⟨b,i,none⟩ v):=
 h.trans ⟨rfl,rfl,rfl,by simp [World.setCell],fun k _ hk=>heap_other _ _ _ _ _ (fun e=>hk (e ▸ hb))⟩
theorem KeptF.drew {F:Nat→Prop} {w w':World} (h:KeptF F w w'):KeptF F w w'.drew:=h.trans ⟨rfl,rfl,rfl,Nat.le_refl _,fun _ _ _=>rfl⟩
theorem KeptF.below {F:Nat→Prop} {B:Nat} {w0 w w':World} (h:Below B w0 w) (k:KeptF F w w') (hF:∀k,F k→B≤k) (hB:B≤w.heap.size):Below B w0 w':=
 h.trans ⟨k.os,k.tape,k.output,k.size,fun i hi=>k.block i (by omega) (fun hf=>by have:=hF i hf;omega)⟩
theorem ownsRow_keep {w w':World} {B:Nat} {t:TypeId} {z:Nat} {v:Value} {n:Nat} {xs:List Value} (h:w.ownsRow B t z v n xs) (e:∀k,v.ownBlock=some k→w'.heap[k]?=w.heap[k]?):w'.ownsRow B t z v n xs:=by
 refine ⟨h.1,?_⟩
 rcases h.2 with h1 | ⟨g,cap,cur,rfl,hg,hh,hr⟩
 ·exact .inl h1
 ·exact .inr ⟨g,cap,cur,rfl,hg,(e g rfl).trans hh,hr⟩
theorem ownsRow_base {w:World} {B C:Nat} {t:TypeId} {z:Nat} {v:Value} {n:Nat} {xs:List Value} (h:w.ownsRow B t z v n xs) (hC:C≤B):w.ownsRow C t z v n xs:=by
 refine ⟨h.1,?_⟩
 rcases h.2 with h1 | ⟨g,cap,cur,rfl,hg,hh,hr⟩
 ·exact .inl h1
 ·exact .inr ⟨g,cap,cur,rfl,Nat.le_trans hC hg,hh,hr⟩
section
variable {P:Program} (w:World)
theorem run_append_two (base:Nat) (t ty e:TypeId) (i:TypeInfo) (z:Value) (size bytes:Nat) (ht:P.underlying t=some (.slice e)) (hi:P.info? e=some i) (hz:i.zero=some z)
  (hsize:i.size=size) (hby:i.bytes=bytes) (hzs:z.cells.size=size) (hsz:0<size)
  (v:Value) (n:Nat) (xs:List Value) (hown:w.ownsRow base e size v n xs)
  (a:Addr) (m c:Nat) (news:List Value) (hl:news.length=m*size) (hnews:∀j u,news[j]?=some u→w.cell? (a.add j)=some u) (h1:∀u∈news,u.oneCell'=true)
  (h63:n+m≤maxLen) (hbytes:(n+m)*bytes≤140737488355328) (hbase:base≤w.heap.size):
  ∃v' w',(Builtin.append_ #[t,t] ty #[v,.slice (some a) m c]).run P w=.ok v' w'∧w'.ownsRow base e size v' (n+m) (xs++news) ∧
   ((v'.ownBlock=v.ownBlock∧w.grownBy w' v.ownBlock)∨((∀b,v'.ownBlock=some b→w.heap.size≤b)∧w.grownBy w' none)):=by
 obtain ⟨v',w',hr,h2,h3,_,h5⟩:=run_append_own_at (P:=P) w base t ty e i z size bytes ht hi hz hsize hby hzs hsz v n xs hown a m c news hl hnews h1 h63 hbytes hbase
 rcases hown.2 with ⟨rfl,rfl⟩ | ⟨g,cap,cur,rfl,hbg,hg,hnc,hcm,hcs,htake⟩
 ·refine ⟨v',w',hr,h2,.inr ⟨fun b hb=>?_,h3⟩⟩
  rcases h5 with h5 | h5
  ·rw [h5] at hb;cases hb
  ·rw [h5] at hb;cases hb;exact Nat.le_refl _
 ·by_cases hroom:n+m≤cap
  ·have hfit:n*i.size+news.length≤cur.size:=by rw [hl,hcs,hsize,←Nat.add_mul];exact Nat.mul_le_mul_right _ hroom
   have hr2:=run_append_room (P:=P) w t ty e i ht hi g n cap cur hg a m c news (by rw [hsize];exact hl) hnews h1 hroom hfit
   rw [hr] at hr2
   injection hr2 with e1 e2
   exact ⟨v',w',hr,h2,.inl ⟨by rw [e1];rfl,h3⟩⟩
  ·have holds:∀j u,xs[j]?=some u→w.cell? ((⟨g,0,none⟩:Addr).add j)=some u:=hown.cells (g:=g) rfl
   obtain ⟨v2,w2,hr2,h6,h7⟩:=run_append_arg_grows (P:=P) w t ty e i z size bytes ht hi hz hsize hby hzs hsz ⟨g,0,none⟩ n cap xs hown.1 holds a m c news hl hnews (by omega) h63 hbytes
   exact ⟨v2,w2,hr2,ownsRow_base h6 hbase,.inr ⟨fun b hb=>(h6.lt b hb).1,h7⟩⟩
theorem wpList_append_two {ops:Array Oper} {rest:List Oper} {o:Oper} {a:Act} {Q:Exit→Act→World→Prop} (hgd:o.guard=none) (s x:Operand) (t:TypeId)
  (ho:o.op=.call { callee:=.builtin .append,args:=#[s,x],argTypes:=#[t,t]})
  (base:Nat) (e:TypeId) (i:TypeInfo) (z:Value) (size bytes:Nat) (ht:P.underlying t=some (.slice e)) (hi:P.info? e=some i) (hz:i.zero=some z)
  (hsize:i.size=size) (hby:i.bytes=bytes) (hzs:z.cells.size=size) (hsz:0<size)
  (v:Value) (n:Nat) (xs:List Value) (hs:a.eval s=v) (hown:w.ownsRow base e size v n xs)
  (ad:Addr) (m c:Nat) (news:List Value) (hx:a.eval x=.slice (some ad) m c) (hl:news.length=m*size) (hnews:∀j u,news[j]?=some u→w.cell? (ad.add j)=some u) (h1:∀u∈news,u.oneCell'=true)
  (h63:n+m≤maxLen) (hbytes:(n+m)*bytes≤140737488355328) (hbase:base≤w.heap.size)
  (h:∀v' w',w'.ownsRow base e size v' (n+m) (xs++news)→((v'.ownBlock=v.ownBlock∧w.grownBy w' v.ownBlock)∨((∀b,v'.ownBlock=some b→w.heap.size≤b)∧w.grownBy w' none))→wpList P ops Q rest (a.put o.dst v') w'):
  wpList P ops Q (o :: rest) a w:=by
 refine wpList_plain hgd fun K hK=>?_
 obtain ⟨v',w',hr,h2,h3⟩:=run_append_two (P:=P) w base t o.type e i z size bytes ht hi hz hsize hby hzs hsz v n xs hown ad m c news hl hnews h1 h63 hbytes hbase
 unfold Oper.wp execOp
 simp only [ho,resolve,invoke,builtin,Sem.run_bind,Sem.run_pure,Result.andThen_ok,List.map_toArray,List.map_cons,List.map_nil,hs,hx,hr]
 exact hK _ _ (h v' w' h2 h3)
end
namespace Ap
def Two (w w':World) (v v':Value):Prop:=(v'.ownBlock=v.ownBlock∧w.grownBy w' v.ownBlock)∨((∀b,v'.ownBlock=some b→w.heap.size≤b)∧w.grownBy w' none)
theorem Two.far {w w':World} {v v':Value} (h:Two w w' v v') {k:Nat} (hk:k<w.heap.size) (hv:v.ownBlock≠some k):w'.heap[k]?=w.heap[k]?:=by
 rcases h with ⟨_,h⟩ | ⟨_,h⟩
 ·exact h.block k hk (fun e=>hv e.symm)
 ·exact h.block k hk (fun e=>by cases e)
theorem Two.at {w w':World} {v v':Value} (h:Two w w' v v') {b:Nat} (hb:v'.ownBlock=some b):v.ownBlock=some b∨w.heap.size≤b:=by
 rcases h with ⟨h,_⟩ | ⟨h,_⟩
 ·exact .inl (h ▸ hb)
 ·exact .inr (h b hb)
theorem Two.size {w w':World} {v v':Value} (h:Two w w' v v'):w.heap.size≤w'.heap.size:=by
 rcases h with ⟨_,h⟩ | ⟨_,h⟩ <;> exact h.size
theorem Two.rest {w w':World} {v v':Value} (h:Two w w' v v'):w'.os=w.os∧w'.tape=w.tape∧w'.output=w.output:=by
 rcases h with ⟨_,h⟩ | ⟨_,h⟩ <;> exact ⟨h.os,h.tape,h.output⟩
theorem Two.drop {w w':World} {v v':Value} {o:Obj} (h:Two (w.alloc o) w' v v'):Two w w' v v':=by
 rcases h with ⟨h1,h⟩ | ⟨h1,h⟩
 ·exact .inl ⟨h1,h.os,h.tape,h.output,Nat.le_trans (by simp) h.size,fun k hk hv=>(h.block k (by simp;omega) hv).trans (Go.Deep.blk_alloc_lt w _ _ hk)⟩
 ·exact .inr ⟨fun b hb=>Nat.le_trans (by simp) (h1 b hb),h.os,h.tape,h.output,Nat.le_trans (by simp) h.size,fun k hk hv=>(h.block k (by simp;omega) hv).trans (Go.Deep.blk_alloc_lt w _ _ hk)⟩
end Ap
theorem Tryz.infoN:(Tryz.prog.info? 3).map (fun i=>(i.zero,i.size,i.bytes))=some (some (.int .i64 0),1,8):=by kernel_rfl
def natsV (l:List Nat):List Value:=l.map (fun (c:Nat)=>.int .i64 (c:Int))
theorem natsV_snoc (l:List Nat) (c:Nat):natsV l++[.int .i64 c]=natsV (l++[c]):=by simp [natsV]
def arcsV (l:List Au.Arc):List Value:=l.flatMap fun x=>[.int .i64 x.lo,.int .i64 x.hi,.int .i64 x.to]
theorem arcsV_length (l:List Au.Arc):(arcsV l).length=l.length*3:=by
 induction l with
 | nil=>rfl
 | cons x t ih=>
  show (_ :: _ :: _ :: arcsV t).length=_
  simp only [List.length_cons,ih]
  omega
theorem arcsV_snoc (l:List Au.Arc) (x:Au.Arc):arcsV l++[.int .i64 x.lo,.int .i64 x.hi,.int .i64 x.to]=arcsV (l++[x]):=by simp [arcsV]
theorem arcsV_at (l:List Au.Arc):∀i (h:i<l.length),(arcsV l)[i*3]?=some (.int .i64 l[i].lo)∧(arcsV l)[i*3+1]?=some (.int .i64 l[i].hi)∧(arcsV l)[i*3+2]?=some (.int .i64 l[i].to):=by
 induction l with
 | nil=>intro i h;cases h
 | cons x t ih=>
  intro i h
  cases i with
  | zero=>exact ⟨rfl,rfl,rfl⟩
  | succ i=>
   simp only [List.length_cons,Nat.add_lt_add_iff_right] at h
   have e:(i+1)*3=i*3+1+1+1:=by omega
   rw [e]
   exact ih i h
theorem Tryz.infoA:(Tryz.prog.info? 71).map (fun i=>(i.zero,i.size,i.bytes))=some (some (.agg #[.int .i64 0,.int .i64 0,.int .i64 0]),3,24):=by kernel_rfl
def OwnA (w:World) (B:Nat) (v:Value) (l:List Au.Arc):Prop:=w.ownsRow B 71 3 v l.length (arcsV l)
theorem OwnA.opened {w:World} {B:Nat} {v:Value} {l:List Au.Arc} (h:OwnA w B v l):∃a cap,v=.slice a l.length cap∧l.length≤cap∧cap≤9223372036854775807∧(0<l.length→∃g,a=some ⟨g,0,none⟩∧B≤g∧g<w.heap.size∧(∀j,w.frozen? ⟨g,j,none⟩=false) ∧
  ∀j (_:j<l.length),w.cell? ⟨g,j*3,none⟩=some (.int .i64 l[j].lo)∧w.cell? ⟨g,j*3+1,none⟩=some (.int .i64 l[j].hi)∧w.cell? ⟨g,j*3+2,none⟩=some (.int .i64 l[j].to)):=by
 rcases h.2 with ⟨rfl,h0⟩ | ⟨g,cap,cur,rfl,hg,hh,hnc,hcp,hcs,htake⟩
 ·exact ⟨none,0,by rw [h0],by omega,by omega,fun h=>by omega⟩
 ·have hown:w.ownsRow B 71 3 (.slice (some ⟨g,0,none⟩) l.length cap) l.length (arcsV l):=h
  refine ⟨_,cap,rfl,hnc,by unfold maxLen at hcp;omega,fun _=>⟨g,rfl,hg,(hown.lt g rfl).2,fun j=>by simp [World.frozen?,hh],fun j hj=>?_⟩⟩
  obtain ⟨a1,a2,a3⟩:=arcsV_at l j hj
  exact ⟨(hown.cellAt _ (by omega)).trans a1,(hown.cellAt _ (by omega)).trans a2,(hown.cellAt _ (by omega)).trans a3⟩
theorem OwnA.arcs {w:World} {B:Nat} {v:Value} {l:List Au.Arc} (h:OwnA w B v l) (F:Nat→Prop) (hF:∀g,B≤g→F g):ArcS F w v l:=by
 obtain ⟨a,cap,h1,h2,h3,h4⟩:=h.opened
 refine ⟨a,cap,h1,h2,h3,fun h0=>?_⟩
 obtain ⟨g,h5,h6,h7,_,h8⟩:=h4 h0
 exact ⟨g,0,h5,h7,hF g h6,fun j hj=>by simpa using h8 j hj⟩
theorem OwnA.keep {w w':World} {B:Nat} {v:Value} {l:List Au.Arc} (h:OwnA w B v l) (e:∀k,v.ownBlock=some k→w'.heap[k]?=w.heap[k]?):OwnA w' B v l:=ownsRow_keep h e
theorem OwnA.lt {w:World} {B:Nat} {v:Value} {l:List Au.Arc} (h:OwnA w B v l):∀k,v.ownBlock=some k→B≤k∧k<w.heap.size:=World.ownsRow.lt h
theorem OwnA.nil0 (w:World) (B:Nat):OwnA w B (.slice none 0 0) []:=World.ownsRow_nil w B _ _
theorem OwnA.kind {w:World} {B:Nat} {v:Value} {l:List Au.Arc} (h:OwnA w B v l):∀g,v.ownBlock=some g→∃c fz,w.heap[g]?=some (.cells c 71 fz):=by
 intro g hv
 rcases h.2 with ⟨h1,_⟩ | ⟨g',cap,cur,h1,hg,hh,_⟩
 ·rw [h1] at hv;cases hv
 ·rw [h1] at hv
  obtain rfl:g'=g:=by simpa [Value.ownBlock] using hv
  exact ⟨_,_,hh⟩
theorem OwnA.last {w:World} {B:Nat} {g cap:Nat} {r:List Au.Arc} {x:Au.Arc} {n:Nat} (h:OwnA w B (.slice (some ⟨g,0,none⟩) n cap) (r++[x])) (hn:n=r.length+1) (c:Int):OwnA (w.setCell ⟨g,r.length*3+1,none⟩ (.int .i64 c)) B (.slice (some ⟨g,0,none⟩) n cap) (r++[⟨x.lo,c,x.to⟩])∧w.grownBy (w.setCell ⟨g,r.length*3+1,none⟩ (.int .i64 c)) (some g):=by
 have hl:(r++[x]).length=n:=by simp [hn]
 have hl2:(r++[(⟨x.lo,c,x.to⟩:Au.Arc)]).length=n:=by simp [hn]
 unfold OwnA at h ⊢
 rw [hl] at h
 rw [hl2]
 have hs:=h.stored (r.length*3+1) (.int .i64 c)
 have he:(arcsV (r++[x])).set (r.length*3+1) (.int .i64 c)=arcsV (r++[(⟨x.lo,c,x.to⟩:Au.Arc)]):=by
  rw [←arcsV_snoc,←arcsV_snoc,List.set_append_right _ _ (by rw [arcsV_length];omega),arcsV_length,show r.length*3+1-r.length*3=1 by omega]
  rfl
 rw [he] at hs
 exact hs
theorem new_arc (w:World) (a b c:Int):∀j u,[Value.int .i64 a,.int .i64 b,.int .i64 c][j]?=some u→(w.alloc (.cells #[.int .i64 a,.int .i64 b,.int .i64 c] 71)).cell? ((⟨w.heap.size,0,none⟩:Addr).add j)=some u:=by
 intro j u hj
 match j,hj with
 | 0,hj=>simp at hj;subst hj;simp [Addr.add]
 | 1,hj=>simp at hj;subst hj;simp [Addr.add]
 | 2,hj=>simp at hj;subst hj;simp [Addr.add]
theorem one_arc (a b c:Int):∀u∈[Value.int .i64 a,.int .i64 b,.int .i64 c],u.oneCell'=true:=by
 intro u hu
 simp only [List.mem_cons,List.mem_nil_iff,or_false] at hu
 rcases hu with rfl | rfl | rfl <;> rfl
theorem wpList_pushA {ops:Array Oper} {rest:List Oper} {o:Oper} {a:Act} {Q:Exit→Act→World→Prop} {w:World} (hgd:o.guard=none) (s x:Operand)
  (ho:o.op=.call { callee:=.builtin .append,args:=#[s,x],argTypes:=#[59,59]})
  (B:Nat) (hB:B≤w.heap.size) (v:Value) (l:List Au.Arc) (p q r:Int) (hs:a.eval s=v) (h:OwnA w B v l) (hx:a.eval x=.slice (some ⟨w.heap.size,0,none⟩) 1 1)
  (hb:l.length+1≤1099511627776)
  (hk:∀v' w',OwnA w' B v' (l++[⟨p,q,r⟩])→Ap.Two w w' v v'→wpList Tryz.prog ops Q rest (a.put o.dst v') w'):
  wpList Tryz.prog ops Q (o :: rest) a (w.alloc (.cells #[.int .i64 p,.int .i64 q,.int .i64 r] 71)):=by
 obtain ⟨ii,hi,hz0,hz1,hz2⟩:=info_parts Tryz.infoA
 have hown:w.ownsRow B 71 3 v l.length (arcsV l):=h
 refine wpList_append_two _ hgd s x 59 ho B 71 ii _ 3 24 Tryz.underlying59 hi hz0 hz1 hz2 rfl (by decide) _ _ _ hs (hown.alloc _) ⟨w.heap.size,0,none⟩ 1 1 [.int .i64 p,.int .i64 q,.int .i64 r] hx rfl (new_arc w p q r) (one_arc p q r) (by unfold maxLen;omega) (by omega) (by simp;omega) ?_
 intro v' w' h1 h2
 refine hk v' w' ?_ (Ap.Two.drop h2)
 unfold OwnA
 rw [arcsV_snoc l ⟨p,q,r⟩] at h1
 simpa using h1
def stsV (l:List (Bool × Value)):List Value:=l.flatMap fun x=>[.bool x.1,x.2]
theorem stsV_snoc (l:List (Bool × Value)) (x:Bool × Value):stsV l++[.bool x.1,x.2]=stsV (l++[x]):=by simp [stsV]
theorem stsV_at (l:List (Bool × Value)):∀i (h:i<l.length),(stsV l)[i*2]?=some (.bool l[i].1)∧(stsV l)[i*2+1]?=some l[i].2:=by
 induction l with
 | nil=>intro i h;cases h
 | cons x t ih=>
  intro i h
  cases i with
  | zero=>exact ⟨rfl,rfl⟩
  | succ i=>
   simp only [List.length_cons,Nat.add_lt_add_iff_right] at h
   have e:(i+1)*2=i*2+1+1:=by omega
   rw [e]
   exact ih i h
theorem Tryz.infoSt:(Tryz.prog.info? 61).map (fun i=>(i.zero,i.size,i.bytes))=some (some (.agg #[.bool false,.slice none 0 0]),2,32):=by kernel_rfl
end
section
open Go.RowKit
namespace Au
theorem least_dead {d:List St} (hf:Fits d) (h:Dead (ofL d) (some 0)):least d=[⟨false,[]⟩]:=by
 have hgo:∀c,(ofL d).walk.go 0 c=none:=fun c=>go_dead fun w=>h (c :: w)
 have hb:∀c,(ofL d).walk.bytes 0 [0] c=([0],[]):=by
  intro c
  induction c with
  | zero=>rfl
  | succ c ih=>
   rw [Walk.bytes,ih]
   unfold Walk.byte
   rw [hgo c]
 have hfin:(ofL d).walk.fin 0=false:=h []
 have h1:(ofL d).walk.states 0 1=([0],[⟨false,[]⟩]):=by
  simp only [Walk.states,List.getElem?_cons_zero,hb,hfin,List.nil_append]
 have hd:(ofL d).walk.Done 0 1:=by
  unfold Walk.Done Walk.met
  rw [h1]
  exact Nat.le_refl _
 have:=done_same (ofL d).walk 0 d.length 1 (least_done hf.pos hf.row) hd
 unfold least Walk.out
 rw [this,h1]
end Au
end
section
open Go.RowKit
namespace Au
open Classical in
noncomputable def may (d:List Lo):Bool:=decide (May d)
theorem may_true (d:List Lo):may d=true↔May d:=by simp [may]
end Au
end
section
open Go.RowKit
namespace Au
noncomputable def tightE (d:List Lo) (most:Int):Int:=if may d=true then (match tight d most with | none=>8 | some _=>0) else 3
noncomputable def tightL (d:List Lo) (most:Int):List St:=if may d=true then (match tight d most with | none=>[] | some a=>a) else []
theorem tight_out_bad {d:List Lo} {most:Int} (h:¬may d=true):tightE d most=3∧tightL d most=[]:=⟨by unfold tightE;rw [if_neg h],by unfold tightL;rw [if_neg h]⟩
theorem tight_out_none {d:List Lo} {most:Int} (h:may d=true) (h2:tight d most=none):tightE d most=8∧tightL d most=[]:=⟨by unfold tightE;rw [if_pos h,h2],by unfold tightL;rw [if_pos h,h2]⟩
theorem tight_out_some {d:List Lo} {most:Int} {a:List St} (h:may d=true) (h2:tight d most=some a):tightE d most=0∧tightL d most=a:=⟨by unfold tightE;rw [if_pos h,h2],by unfold tightL;rw [if_pos h,h2]⟩
theorem tight_outs {d:List Lo} {most:Int} (h:may d=true):(tight d most=none→tightE d most=8∧tightL d most=[])∧(∀a,tight d most=some a→tightE d most=0∧tightL d most=a):=by
 constructor
 ·intro h2
  exact tight_out_none h h2
 ·intro a h2
  exact tight_out_some h h2
end Au
theorem StS.nil (F:Nat→Prop) (w:World):StS F w (.slice none 0 0) []:=⟨none,0,rfl,Nat.le_refl _,by omega,fun h=>by simp at h⟩
end
section
open Go.RowKit Go.Maps
def rV (v:Value):Option (DataW Value × List MemPlace):=some (.held v,[])
def MapG (k:TypeId) (w:World) (b n:Nat) (F:Lit→Option Value):Prop:=
 ∃D:DataW Value,w.ownsMap Tryz.prog k rV b n D∧∀kl z,WideAt.IsKeyLit kl→has D kl=(F kl).isSome∧D.atKey kl (.held z)=.held ((F kl).getD z)
theorem MapG.lt {k:TypeId} {w:World} {b n:Nat} {F:Lit→Option Value} (h:MapG k w b n F):b<w.heap.size:=by
 obtain ⟨D,h,_⟩:=h
 exact h.lt
theorem MapG.keep {k:TypeId} {w w':World} {b n:Nat} {F:Lit→Option Value} (h:MapG k w b n F) (e:w'.heap[b]?=w.heap[b]?):MapG k w' b n F:=by
 obtain ⟨D,⟨es,clock,hb,hr⟩,hs⟩:=h
 exact ⟨D,⟨es,clock,e.trans hb,hr⟩,hs⟩
theorem MapG.mono {k:TypeId} {w:World} {b n n':Nat} {F:Lit→Option Value} (h:MapG k w b n F) (hn:n≤n'):MapG k w b n' F:=by
 obtain ⟨D,h,hs⟩:=h
 exact ⟨D,h.mono hn,hs⟩
theorem MapG.congr {k:TypeId} {w:World} {b n:Nat} {F G:Lit→Option Value} (h:MapG k w b n F) (e:∀kl,WideAt.IsKeyLit kl→F kl=G kl):MapG k w b n G:=by
 obtain ⟨D,h,hs⟩:=h
 exact ⟨D,h,fun kl z hk=>by rw [←e kl hk];exact hs kl z hk⟩
theorem mapG_made (k:TypeId) (w:World):MapG k (w.alloc (.map #[] 0)) w.heap.size 0 (fun _=>none):=⟨.map [],World.ownsMap_made w _ _ _,fun _ _ _=>⟨rfl,rfl⟩⟩
open Classical in
noncomputable def updG (F:Lit→Option Value) (s:Lit) (o:Option Value):Lit→Option Value:=fun t=>if t=s then o else F t
theorem updG_same (F:Lit→Option Value) (s:Lit) (o:Option Value):updG F s o s=o:=by unfold updG;rw [if_pos rfl]
theorem updG_other (F:Lit→Option Value) (s t:Lit) (o:Option Value) (h:t≠s):updG F s o t=F t:=by unfold updG;rw [if_neg h]
section
variable (w:World) {ops:Array Oper} {rest:List Oper} {o:Oper} {a:Act} {Q:Exit→Act→World→Prop}
theorem wpList_lookG (hg:o.guard=none) (m x:Operand) (t k e:TypeId) (hop:o.op=Op.lookup t m x false) (K:Keyed Tryz.prog k) (ht:Tryz.prog.underlying t=some (.map k e)) (z:Value) (hz:∀w,(zeroValue e).run Tryz.prog w=.ok z w)
  (b n:Nat) (F:Lit→Option Value) (hm:a.eval m=.map (some b)) (hM:MapG k w b n F) (key:Value) (kl:Lit) (hx:a.eval x=key) (hkey:keyOf Tryz.prog k key=some kl)
  (hK:wpList Tryz.prog ops Q rest (a.put o.dst ((F kl).getD z)) w):wpList Tryz.prog ops Q (o :: rest) a w:=by
 obtain ⟨D,hown,hF⟩:=hM
 refine wpList_plain hg fun K' hK'=>?_
 obtain ⟨v,ps,hrun,hv⟩:=hown.lookup K ht (hz w) (zd:=.held z) (zp:=[]) rfl hkey
 have e:v=(F kl).getD z:=by
  rw [(hF kl z (K.key hkey)).2] at hv
  unfold rV at hv
  simp only [Option.some.injEq,Prod.mk.injEq,DataW.held.injEq] at hv
  exact hv.1
 subst e
 unfold Oper.wp
 simp [execOp,hop,hm,hx,hrun,Result.andThen]
 exact hK' _ _ hK
theorem wpList_lookOkG (hg:o.guard=none) (m x:Operand) (t k e:TypeId) (hop:o.op=Op.lookup t m x true) (K:Keyed Tryz.prog k) (ht:Tryz.prog.underlying t=some (.map k e)) (z:Value) (hz:∀w,(zeroValue e).run Tryz.prog w=.ok z w)
  (b n:Nat) (F:Lit→Option Value) (hm:a.eval m=.map (some b)) (hM:MapG k w b n F) (key:Value) (kl:Lit) (hx:a.eval x=key) (hkey:keyOf Tryz.prog k key=some kl)
  (hK:wpList Tryz.prog ops Q rest (a.put o.dst (.tuple #[(F kl).getD z,.bool (F kl).isSome])) w):wpList Tryz.prog ops Q (o :: rest) a w:=by
 obtain ⟨D,hown,hF⟩:=hM
 refine wpList_lookup_own_ok w hg m x t hop k e K ht rV (hz w) (.held z) [] rfl b n D hm hown key kl hx hkey fun v ps hv=>?_
 obtain ⟨h1,h2⟩:=hF kl z (K.key hkey)
 rw [h2] at hv
 unfold rV at hv
 simp only [Option.some.injEq,Prod.mk.injEq,DataW.held.injEq] at hv
 rw [hv.1,h1]
 exact hK
theorem wpList_storeG (hg:o.guard=none) (m x v:Operand) (t k e:TypeId) (hop:o.op=Op.mapUpdate t m x v) (K:Keyed Tryz.prog k) (ht:Tryz.prog.underlying t=some (.map k e))
  (b n:Nat) (F:Lit→Option Value) (hm:a.eval m=.map (some b)) (hM:MapG k w b n F) (hn:n<maxLen) (key:Value) (kl:Lit) (hx:a.eval x=key) (hkey:keyOf Tryz.prog k key=some kl) (u:Value) (hv:a.eval v=u)
  (hK:∀w',MapG k w' b (n+1) (updG F kl (some u))→w.grownBy w' (some b)→wpList Tryz.prog ops Q rest (a.put o.dst undef) w'):wpList Tryz.prog ops Q (o :: rest) a w:=by
 obtain ⟨D,hown,hF⟩:=hM
 refine wpList_mapUpdate_own w hg m x v t hop k e K ht rV b n D hm hown hn key u kl hx hv hkey (.held u) [] rfl fun w' h1 h2=>?_
 refine hK w' ⟨_,h1,fun l z hl=>?_⟩ h2
 by_cases e:l=kl
 ·subst e
  rw [updG_same]
  exact ⟨has_put_same hown.isMap hl _,atKey_put_same hown.isMap hl _ _⟩
 ·rw [updG_other _ _ _ _ e,has_put_other e,atKey_put_other e]
  exact hF l z hl
end
def paint (κ:Nat→Nat) (s c:Nat):Nat→Nat:=fun k=>if k<s then κ k else c
structure Step (κ:Nat→Nat) (c:Nat) (w w':World) (κ':Nat→Nat):Prop where
 os:w'.os=w.os
 tape:w'.tape=w.tape
 output:w'.output=w.output
 size:w.heap.size≤w'.heap.size
 block:∀k,k<w.heap.size→κ k≠c→w'.heap[k]?=w.heap[k]?
 col:∀k,k<w.heap.size→κ' k=κ k
theorem Step.of_two {κ:Nat→Nat} {c:Nat} {w w':World} {v v':Value} (h:Ap.Two w w' v v') (hv:∀b,v.ownBlock=some b→κ b=c):Step κ c w w' (paint κ w.heap.size c):=by
 obtain ⟨h1,h2,h3⟩:=h.rest
 exact ⟨h1,h2,h3,h.size,fun k hk hc=>h.far hk fun e=>hc (hv k e),fun k hk=>by unfold paint;rw [if_pos hk]⟩
theorem Step.of_set {κ:Nat→Nat} {c:Nat} (w:World) (b i:Nat) (v:Value) (hb:κ b=c):Step κ c w (w.setCell ⟨b,i,none⟩ v) κ:=
 ⟨rfl,rfl,rfl,by simp [World.setCell],fun k _ hc=>heap_other _ _ _ _ _ (fun e=>hc (e ▸ hb)),fun _ _=>rfl⟩
theorem Step.of_grown {κ:Nat→Nat} {c:Nat} {w w':World} {b:Nat} (h:w.grownBy w' (some b)) (hb:κ b=c):Step κ c w w' (paint κ w.heap.size c):=
 ⟨h.os,h.tape,h.output,h.size,fun k hk hc=>h.block k hk (fun e=>hc (by cases e;exact hb)),fun k hk=>by unfold paint;rw [if_pos hk]⟩
theorem Step.of_below {κ:Nat→Nat} {c:Nat} {w w':World} (h:Below w.heap.size w w'):Step κ c w w' (paint κ w.heap.size c):=
 ⟨h.os,h.tape,h.output,h.size,fun k hk _=>h.block k hk,fun k hk=>by unfold paint;rw [if_pos hk]⟩
theorem Step.of_alloc {κ:Nat→Nat} {c:Nat} (w:World) (o:Obj):Step κ c w (w.alloc o) (paint κ w.heap.size c):=
 ⟨rfl,rfl,rfl,by simp,fun k hk _=>Go.Deep.blk_alloc_lt w _ _ hk,fun k hk=>by unfold paint;rw [if_pos hk]⟩
theorem paint_new (κ:Nat→Nat) (s c k:Nat) (h:s≤k):paint κ s c k=c:=by unfold paint;rw [if_neg (by omega)]
theorem paint_old (κ:Nat→Nat) (s c k:Nat) (h:k<s):paint κ s c k=κ k:=by unfold paint;rw [if_pos h]
theorem Two.col {κ:Nat→Nat} {c:Nat} {w w':World} {v v':Value} (h:Ap.Two w w' v v') (hl:∀b,v.ownBlock=some b→b<w.heap.size∧κ b=c):∀b,v'.ownBlock=some b→paint κ w.heap.size c b=c:=by
 intro b hb
 rcases h.at hb with h1 | h1
 ·rw [paint_old _ _ _ _ (hl b h1).1]
  exact (hl b h1).2
 ·exact paint_new _ _ _ _ h1
def LoB (κ:Nat→Nat) (w:World) (B:Nat):Prop:=∀k,k<w.heap.size→κ k≠0→B≤k
theorem LoB.step {κ κ':Nat→Nat} {c:Nat} {w w':World} {B:Nat} (h:LoB κ w B) (hs:Step κ c w w' κ') (hB:B≤w.heap.size):LoB κ' w' B:=by
 intro k hk hc
 by_cases h1:k<w.heap.size
 ·rw [hs.col k h1] at hc
  exact h k h1 hc
 ·omega
theorem Step.below {κ κ':Nat→Nat} {c:Nat} {w0 w w':World} {B:Nat} (hs:Step κ c w w' κ') (h:LoB κ w B) (hc:c≠0) (hb:Below B w0 w) (hB:B≤w.heap.size):Below B w0 w':=
 hb.trans ⟨hs.os,hs.tape,hs.output,hs.size,fun k hk=>hs.block k (by omega) fun e=>by have:=h k (by omega) (by omega);omega⟩
structure RowC (κ:Nat→Nat) (c:Nat) (w:World) (e:TypeId) (z:Nat) (v:Value) (n:Nat) (xs:List Value):Prop where
 own:w.ownsRow 0 e z v n xs
 col:∀b,v.ownBlock=some b→κ b=c
theorem RowC.lt {κ:Nat→Nat} {c:Nat} {w:World} {e:TypeId} {z:Nat} {v:Value} {n:Nat} {xs:List Value} (h:RowC κ c w e z v n xs):∀b,v.ownBlock=some b→b<w.heap.size∧κ b=c:=fun b hb=>⟨(World.ownsRow.lt h.own b hb).2,h.col b hb⟩
theorem RowC.step {κ κ':Nat→Nat} {c c':Nat} {w w':World} {e:TypeId} {z:Nat} {v:Value} {n:Nat} {xs:List Value} (h:RowC κ c w e z v n xs) (hs:Step κ c' w w' κ') (hne:c≠c'):RowC κ' c w' e z v n xs:=
 ⟨ownsRow_keep h.own fun k hk=>hs.block k (h.lt k hk).1 (by rw [(h.lt k hk).2];exact hne),fun b hb=>by rw [hs.col b (h.lt b hb).1];exact h.col b hb⟩
theorem RowC.nil (κ:Nat→Nat) (c:Nat) (w:World) (e:TypeId) (z:Nat):RowC κ c w e z (.slice none 0 0) 0 []:=⟨World.ownsRow_nil w 0 e z,fun b hb=>by cases hb⟩
theorem RowC.form {κ:Nat→Nat} {c:Nat} {w:World} {e:TypeId} {z:Nat} {v:Value} {n:Nat} {xs:List Value} (h:RowC κ c w e z v n xs):∃a cap,v=.slice a n cap∧n≤cap∧cap≤9223372036854775807∧(0<n→∃g,a=some ⟨g,0,none⟩∧g<w.heap.size∧κ g=c∧(∀j,w.frozen? ⟨g,j,none⟩=false)∧∀(j:Nat) (u:Value),xs[j]?=some u→w.cell? ⟨g,j,none⟩=some u):=by
 have hown:=h.own
 rcases h.own.2 with ⟨rfl,h0⟩ | ⟨g,cap,cur,rfl,hg,hh,hnc,hcp,hcs,htake⟩
 ·exact ⟨none,0,by rw [h0],by omega,by omega,fun h=>by omega⟩
 ·refine ⟨_,cap,rfl,hnc,by unfold maxLen at hcp;omega,fun _=>⟨g,rfl,(hown.lt g rfl).2,h.col g rfl,fun j=>by simp [World.frozen?,hh],fun j u hu=>?_⟩⟩
  have hj:j<n*z:=by rw [←hown.1];exact (List.getElem?_eq_some_iff.1 hu).1
  rw [hown.cellAt j hj]
  exact hu
theorem RowC.at {κ:Nat→Nat} {c:Nat} {w:World} {e:TypeId} {z n g cap:Nat} {xs:List Value} (h:RowC κ c w e z (.slice (some ⟨g,0,none⟩) n cap) n xs):
  g<w.heap.size∧κ g=c∧n≤cap∧cap≤9223372036854775807∧(∀j,w.frozen? ⟨g,j,none⟩=false)∧∀(j:Nat) (u:Value),xs[j]?=some u→w.cell? ⟨g,j,none⟩=some u:=by
 have hown:=h.own
 rcases h.own.2 with ⟨h1,h0⟩ | ⟨g',cap',cur,h1,hg,hh,hnc,hcp,hcs,htake⟩
 ·cases h1
 ·simp only [Value.slice.injEq,Option.some.injEq,Addr.mk.injEq,and_true,true_and] at h1
  obtain ⟨rfl,rfl⟩:=h1
  refine ⟨(hown.lt g rfl).2,h.col g rfl,hnc,by unfold maxLen at hcp;omega,fun j=>by simp [World.frozen?,hh],fun j u hu=>?_⟩
  have hj:j<n*z:=by rw [←hown.1];exact (List.getElem?_eq_some_iff.1 hu).1
  rw [hown.cellAt j hj]
  exact hu
theorem RowC.set {κ:Nat→Nat} {c:Nat} {w:World} {e:TypeId} {z n g cap:Nat} {xs:List Value} (h:RowC κ c w e z (.slice (some ⟨g,0,none⟩) n cap) n xs) (i:Nat) (u:Value):RowC κ c (w.setCell ⟨g,i,none⟩ u) e z (.slice (some ⟨g,0,none⟩) n cap) n (xs.set i u):=
 ⟨(h.own.stored i u).1,h.col⟩
theorem RowC.less {κ:Nat→Nat} {c:Nat} {w:World} {e:TypeId} {z n g cap:Nat} {xs:List Value} (h:RowC κ c w e z (.slice (some ⟨g,0,none⟩) n cap) n xs) (m:Nat) (hm:m≤n):RowC κ c w e z (.slice (some ⟨g,0,none⟩) m cap) m (xs.take (m*z)):=by
 refine ⟨⟨?_,?_⟩,h.col⟩
 ·rw [List.length_take,h.own.1]
  have:=Nat.mul_le_mul_right z hm
  omega
 ·rcases h.own.2 with ⟨h1,_⟩ | ⟨g',cap',cur,h1,hg,hh,hnc,hcp,hcs,htake⟩
  ·cases h1
  ·simp only [Value.slice.injEq,Option.some.injEq,Addr.mk.injEq,and_true,true_and] at h1
   obtain ⟨rfl,rfl⟩:=h1
   refine .inr ⟨g,cap,cur,rfl,hg,hh,by omega,hcp,hcs,?_⟩
   rw [←htake,List.take_take]
   have:=Nat.mul_le_mul_right z hm
   rw [Nat.min_eq_left this]
theorem RowC.kind {κ:Nat→Nat} {c:Nat} {w:World} {e:TypeId} {z:Nat} {v:Value} {n:Nat} {xs:List Value} (h:RowC κ c w e z v n xs):∀g,v.ownBlock=some g→∃cs fz,w.heap[g]?=some (.cells cs e fz):=by
 intro g hv
 rcases h.own.2 with ⟨h1,_⟩ | ⟨g',cap,cur,h1,hg,hh,_⟩
 ·rw [h1] at hv;cases hv
 ·rw [h1] at hv
  obtain rfl:g'=g:=by simpa [Value.ownBlock] using hv
  exact ⟨_,_,hh⟩
theorem new_cells (w:World) (cs:List Value) (e:TypeId):∀j u,cs[j]?=some u→(w.alloc (.cells cs.toArray e)).cell? ((⟨w.heap.size,0,none⟩:Addr).add j)=some u:=by
 intro j u hj
 have h1:(w.alloc (.cells cs.toArray e)).heap[w.heap.size]?=some (.cells cs.toArray e (0,0)):=Go.Deep.blk_alloc_new _ _
 rw [Addr.add_lit,Nat.zero_add]
 simp only [World.cell?,h1]
 simp [hj]
theorem RowC.drew {κ:Nat→Nat} {c:Nat} {w:World} {e:TypeId} {z:Nat} {v:Value} {n:Nat} {xs:List Value} (h:RowC κ c w e z v n xs):RowC κ c w.drew e z v n xs:=⟨ownsRow_keep h.own fun _ _=>rfl,h.col⟩
theorem one_of {l:List Value} (h:l.all (fun u=>u.oneCell')=true):∀u∈l,u.oneCell'=true:=fun u hu=>List.all_eq_true.1 h u hu
theorem pushed {κ:Nat→Nat} {c:Nat} {w W0 w':World} {e:TypeId} {z n g cap:Nat} {v:Value} {xs ys:List Value} (h:RowC κ c w e z v n xs) (hW:Below w.heap.size w W0)
  (h1:w'.ownsRow 0 e z (.slice (some ⟨g,0,none⟩) (n+1) cap) (n+1) ys) (h2:W0.grownBy w' v.ownBlock) (h3:v.ownBlock=some g∨g=W0.heap.size):
  RowC (paint κ w.heap.size c) c w' e z (.slice (some ⟨g,0,none⟩) (n+1) cap) (n+1) ys∧Step κ c w w' (paint κ w.heap.size c):=by
 have hs:=hW.size
 refine ⟨⟨h1,fun b hb=>?_⟩,h2.os.trans hW.os,h2.tape.trans hW.tape,h2.output.trans hW.output,Nat.le_trans hs h2.size,fun k hk hc=>?_,fun k hk=>paint_old _ _ _ _ hk⟩
 ·have hg:b=g:=by simpa [Value.ownBlock] using hb.symm
  subst hg
  rcases h3 with h3 | h3
  ·obtain ⟨k1,k2⟩:=h.lt b h3
   rw [paint_old _ _ _ _ k1]
   exact k2
  ·exact paint_new _ _ _ _ (by omega)
 ·refine (h2.block k (by omega) fun e=>hc (h.col k e.symm)).trans (hW.block k hk)
theorem wpList_pushC {ops:Array Oper} {rest:List Oper} {o:Oper} {a:Act} {Q:Exit→Act→World→Prop} {w:World} (hgd:o.guard=none) (s x:Operand) (t e:TypeId)
  (ho:o.op=.call { callee:=.builtin .append,args:=#[s,x],argTypes:=#[t,t]}) (i:TypeInfo) (zv:Value) (z bytes:Nat) (ht:Tryz.prog.underlying t=some (.slice e)) (hi:Tryz.prog.info? e=some i) (hz:i.zero=some zv)
  (hsize:i.size=z) (hby:i.bytes=bytes) (hzs:zv.cells.size=z) (hz0:0<z) (κ:Nat→Nat) (c:Nat) (v:Value) (n:Nat) (xs:List Value) (hs:a.eval s=v) (h:RowC κ c w e z v n xs) (cs:List Value) (hcs:cs.length=z) (h1:∀u∈cs,u.oneCell'=true)
  (hx:a.eval x=.slice (some ⟨w.heap.size,0,none⟩) 1 1) (hb:(n+1)*bytes≤140737488355328) (hb2:n+1≤140737488355328)
  (hk:∀g cap w',RowC (paint κ w.heap.size c) c w' e z (.slice (some ⟨g,0,none⟩) (n+1) cap) (n+1) (xs++cs)→Step κ c w w' (paint κ w.heap.size c)→wpList Tryz.prog ops Q rest (a.put o.dst (.slice (some ⟨g,0,none⟩) (n+1) cap)) w'):
  wpList Tryz.prog ops Q (o :: rest) a (w.alloc (.cells cs.toArray e)):=by
 refine wpList_append_lies _ hgd s x t ho 0 e i zv z bytes ht hi hz hsize hby hzs hz0 v n xs hs (h.own.alloc _) ⟨w.heap.size,0,none⟩ 1 1 cs hx (by rw [hcs,Nat.one_mul]) (new_cells w cs e) h1 (by omega) (by unfold maxLen;omega) hb (by omega) _ rfl ?_
 intro g cap w' h2 h3 h4 _
 obtain ⟨k1,k2⟩:=pushed h ((Below.refl _ _).alloc (Nat.le_refl _) _) h2 h3 h4
 exact hk g cap w' k1 k2
theorem step_pushC {ops:Array Oper} {o:Oper} {a:Act} {K:Act→World→Prop} {Q:Exit→Act→World→Prop} {E:Prop} {w W0:World} (hgd:o.guard=none) (s x:Operand) (t e:TypeId)
  (ho:o.op=.call { callee:=.builtin .append,args:=#[s,x],argTypes:=#[t,t]}) (i:TypeInfo) (zv:Value) (z bytes:Nat) (ht:Tryz.prog.underlying t=some (.slice e)) (hi:Tryz.prog.info? e=some i) (hz:i.zero=some zv)
  (hsize:i.size=z) (hby:i.bytes=bytes) (hzs:zv.cells.size=z) (hz0:0<z) (κ:Nat→Nat) (c:Nat) (v:Value) (n:Nat) (xs:List Value) (hs:a.eval s=v) (h:RowC κ c w e z v n xs) (hW:Below w.heap.size w W0) (cs:List Value) (hcs:cs.length=z) (h1:∀u∈cs,u.oneCell'=true)
  (ad:Addr) (hnews:∀j u,cs[j]?=some u→W0.cell? (ad.add j)=some u) (hx:a.eval x=.slice (some ad) 1 1) (hb:(n+1)*bytes≤140737488355328) (hb2:n+1≤140737488355328)
  (hk:∀g cap w',RowC (paint κ w.heap.size c) c w' e z (.slice (some ⟨g,0,none⟩) (n+1) cap) (n+1) (xs++cs)→Step κ c w w' (paint κ w.heap.size c)→K (a.put o.dst (.slice (some ⟨g,0,none⟩) (n+1) cap)) w'):
  if Region.wanted o (yielded ops a.tmps)=true then Oper.wp Tryz.prog o a W0 K Q else E:=by
 refine step_append_lies _ hgd s x t ho 0 e i zv z bytes ht hi hz hsize hby hzs hz0 v n xs hs (ownsRow_keep h.own fun k hk=>hW.block k (h.lt k hk).1) ad 1 1 cs hx (by rw [hcs,Nat.one_mul]) hnews h1 (by omega) (by unfold maxLen;omega) hb (by omega) _ rfl ?_
 intro g cap w' h2 h3 h4 _
 obtain ⟨k1,k2⟩:=pushed h hW h2 h3 h4
 exact hk g cap w' k1 k2
end
section
namespace Au
variable {σ τ:Type}
def joined (l:List Arc) (lo hi k:Nat):List Arc:=
 match l.getLast? with
 | some a=>if a.to=(k:Int)∧a.hi+1=(lo:Int) then l.dropLast++[⟨a.lo,hi,k⟩] else l++[⟨lo,hi,k⟩]
 | none=>[⟨lo,hi,k⟩]
theorem joined_nil (lo hi k:Nat):joined [] lo hi k=[⟨lo,hi,k⟩]:=rfl
theorem joined_snoc (r:List Arc) (a:Arc) (lo hi k:Nat):joined (r++[a]) lo hi k=if a.to=(k:Int)∧a.hi+1=(lo:Int) then r++[⟨a.lo,hi,k⟩] else r++[a]++[⟨lo,hi,k⟩]:=by
 unfold joined
 simp
theorem joined_one (l:List Arc) (lo k:Nat):joined l lo lo k=grown l lo k:=by
 rcases last_cases l with rfl | ⟨r,a,rfl⟩
 ·rfl
 ·rw [joined_snoc,grown_snoc]
  by_cases h:a.to=(k:Int)∧a.hi+1=(lo:Int)
  ·rw [if_pos h,if_pos ⟨by omega,h.1⟩]
  ·rw [if_neg h,if_neg (fun e=>h ⟨e.2,by omega⟩)]
theorem grown_joined (l:List Arc) (lo hi k:Nat):grown (joined l lo hi k) (hi+1) k=joined l lo (hi+1) k:=by
 rcases last_cases l with rfl | ⟨r,a,rfl⟩
 ·rw [joined_nil,joined_nil,show [(⟨(lo:Int),(hi:Int),(k:Int)⟩:Arc)]=[]++[⟨lo,hi,k⟩] from rfl,grown_snoc,if_pos ⟨by dsimp only;omega,rfl⟩]
  rfl
 ·rw [joined_snoc,joined_snoc]
  by_cases h:a.to=(k:Int)∧a.hi+1=(lo:Int)
  ·rw [if_pos h,if_pos h,grown_snoc,if_pos ⟨by dsimp only;omega,rfl⟩]
  ·rw [if_neg h,if_neg h,grown_snoc,if_pos ⟨by dsimp only;omega,rfl⟩]
structure Trail (σ:Type) where
 lo:Nat
 hi:Nat
 to:σ
def Leads (W:Walk σ) (s:σ):Nat→List (Trail σ)→Prop
 | c,[]=>∀x,c≤x→x<256→W.go s x=none
 | c,l :: r=>c≤l.lo∧l.lo≤l.hi∧l.hi<256∧(∀x,c≤x→x<l.lo→W.go s x=none)∧(∀x,l.lo≤x→x≤l.hi→W.go s x=some l.to)∧Leads W s (l.hi+1) r
def Walk.lead (W:Walk σ) (p:List σ × List Arc) (l:Trail σ):List σ × List Arc:=
 (if find W.same p.1 l.to=p.1.length then p.1++[l.to] else p.1,joined p.2 l.lo l.hi (find W.same p.1 l.to))
theorem bytes_skip (W:Walk σ) (s:σ) (m:List σ) (c d:Nat) (h:∀x,c≤x→x<c+d→W.go s x=none):W.bytes s m (c+d)=W.bytes s m c:=by
 induction d with
 | zero=>rfl
 | succ d ih=>
  rw [←Nat.add_assoc,Walk.bytes]
  unfold Walk.byte
  rw [h (c+d) (by omega) (by omega)]
  exact ih fun x h1 h2=>h x h1 (by omega)
theorem find_self (W:Walk σ) (hr:∀s,W.same s s=true) (m:List σ) (t:σ):find W.same (if find W.same m t=m.length then m++[t] else m) t=find W.same m t:=by
 by_cases h:find W.same m t=m.length
 ·rw [if_pos h,find_snoc _ hr _ _ h,h]
 ·rw [if_neg h]
theorem bytes_run (W:Walk σ) (hr:∀s,W.same s s=true) (s t:σ) (m:List σ) (lo d:Nat) (h:∀x,lo≤x→x≤lo+d→W.go s x=some t):W.bytes s m (lo+d+1)=W.lead (W.bytes s m lo) ⟨lo,lo+d,t⟩:=by
 induction d with
 | zero=>
  rw [Nat.add_zero,Walk.bytes]
  unfold Walk.byte Walk.lead
  rw [h lo (Nat.le_refl _) (by omega)]
  dsimp only
  rw [Nat.add_zero,joined_one]
 | succ d ih=>
  have e:lo+(d+1)+1=(lo+d+1)+1:=by omega
  rw [e,Walk.bytes,ih fun x h1 h2=>h x h1 (by omega)]
  unfold Walk.byte Walk.lead
  rw [h (lo+d+1) (by omega) (by omega)]
  dsimp only
  rw [find_self W hr]
  have e2:¬find W.same (W.bytes s m lo).1 t=(if find W.same (W.bytes s m lo).1 t=(W.bytes s m lo).1.length then (W.bytes s m lo).1++[t] else (W.bytes s m lo).1).length∨False:=by
   left
   have:=find_le W.same (W.bytes s m lo).1 t
   by_cases h:find W.same (W.bytes s m lo).1 t=(W.bytes s m lo).1.length
   ·rw [if_pos h,List.length_append];simp;omega
   ·rw [if_neg h];omega
  rw [if_neg (by rcases e2 with e2 | e2;exact e2;exact e2.elim)]
  rw [show lo+(d+1)=(lo+d)+1 from by omega,←grown_joined]
theorem leads_bytes (W:Walk σ) (hr:∀s,W.same s s=true) (s:σ) (m:List σ) (L:List (Trail σ)):∀c,c≤256→Leads W s c L→L.foldl W.lead (W.bytes s m c)=W.bytes s m 256:=by
 induction L with
 | nil=>
  intro c hc h
  obtain ⟨d,hd⟩:∃d,256=c+d:=⟨256-c,by omega⟩
  rw [hd,bytes_skip W s m c d fun x h1 h2=>h x h1 (by omega)]
  rfl
 | cons l r ih=>
  intro c hc h
  obtain ⟨h1,h2,h3,h4,h5,h6⟩:=h
  obtain ⟨d,hd⟩:∃d,l.lo=c+d:=⟨l.lo-c,by omega⟩
  obtain ⟨e,he⟩:∃e,l.hi=l.lo+e:=⟨l.hi-l.lo,by omega⟩
  have k1:W.bytes s m l.lo=W.bytes s m c:=by rw [hd];exact bytes_skip W s m c d fun x g1 g2=>h4 x g1 (by omega)
  have k2:W.bytes s m (l.hi+1)=W.lead (W.bytes s m c) l:=by
   rw [he,bytes_run W hr s l.to m l.lo e fun x g1 g2=>h5 x g1 (by omega),k1,←he]
  rw [List.foldl_cons,←k2]
  exact ih _ (by omega) h6
theorem leads_row (W:Walk σ) (hr:∀s,W.same s s=true) (s:σ) (m:List σ) (L:List (Trail σ)) (h:Leads W s 0 L):L.foldl W.lead (m,[])=W.bytes s m 256:=
 leads_bytes W hr s m L 0 (by omega) h
def Walk.leads (W:Walk σ) (m:List σ) (L:List (Trail σ)) (k:Nat):List σ × List Arc:=(L.take k).foldl W.lead (m,[])
theorem leads_zero (W:Walk σ) (m:List σ) (L:List (Trail σ)):W.leads m L 0=(m,[]):=by simp [Walk.leads]
theorem leads_succ (W:Walk σ) (m:List σ) (L:List (Trail σ)) (k:Nat) (h:k<L.length):W.leads m L (k+1)=W.lead (W.leads m L k) L[k]:=by
 unfold Walk.leads
 rw [List.take_succ_eq_append_getElem h,List.foldl_append]
 rfl
theorem leads_all (W:Walk σ) (hr:∀s,W.same s s=true) (s:σ) (m:List σ) (L:List (Trail σ)) (h:Leads W s 0 L):W.leads m L L.length=W.bytes s m 256:=by
 unfold Walk.leads
 rw [List.take_length]
 exact leads_row W hr s m L h
theorem lead_arcs (W:Walk σ) (p:List σ × List Arc) (l:Trail σ):(W.lead p l).2.length≤p.2.length+1:=by
 show (joined p.2 l.lo l.hi _).length≤_
 rcases last_cases p.2 with h | ⟨r,a,h⟩
 ·rw [h,joined_nil];simp
 ·rw [h,joined_snoc]
  split <;> simp
theorem leads_arcs (W:Walk σ) (m:List σ) (L:List (Trail σ)) (k:Nat):(W.leads m L k).2.length≤k:=by
 induction k with
 | zero=>rw [leads_zero];exact Nat.le_refl _
 | succ k ih=>
  by_cases h:k<L.length
  ·rw [leads_succ W m L k h]
   have:=lead_arcs W (W.leads m L k) L[k]
   omega
  ·have e:W.leads m L (k+1)=W.leads m L k:=by
    unfold Walk.leads
    rw [List.take_of_length_le (by omega),List.take_of_length_le (by omega)]
   rw [e];omega
theorem Leads.few {W:Walk σ} {s:σ} {L:List (Trail σ)}:∀ {c:Nat},c≤256→Leads W s c L→L.length+c≤256:=by
 induction L with
 | nil=>intro c hc _;simpa using hc
 | cons l r ih=>
  intro c hc h
  obtain ⟨h1,h2,h3,_,_,h6⟩:=h
  have:=ih (by omega) h6
  simp only [List.length_cons]
  omega
theorem states_leads (W:Walk σ) (hr:∀s,W.same s s=true) (s a:σ) (i:Nat) (ha:(W.met s i)[i]?=some a) (L:List (Trail σ)) (h:Leads W a 0 L):
  (W.leads (W.met s i) L L.length).1=W.met s (i+1)∧W.out s i++[⟨W.fin a,(W.leads (W.met s i) L L.length).2⟩]=W.out s (i+1):=by
 rw [leads_all W hr a _ L h]
 unfold Walk.met Walk.out at *
 simp only [Walk.states]
 rw [ha]
 exact ⟨rfl,rfl⟩
end Au
end
end Go.Proofs.YtmdefnbpimfbgaaGreatDoor
