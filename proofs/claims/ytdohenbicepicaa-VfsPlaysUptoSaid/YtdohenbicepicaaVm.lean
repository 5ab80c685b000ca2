/-
  The given disk's lists in memory: names and files.
-/
import Derived.Test.YtdohenbicepicaaVf
import Derived.Test.YtdohenbicepicaaProg
import Derived.Below
import Derived.WalkKit
import Derived.WalkSpells
import Derived.WalkLawsBesides
import Derived.IntWalk
import Derived.Laws.DeepNot64
import Derived.OwnWalk
import Derived.Lib.Hide
import Derived.Deep.LoopGhost
import Derived.Deep.OwnRows
import Derived.BigQuiet
namespace Go.Proofs.Ytdohenbicepicaa
open Go.RowKit

/-- Names and numbers as cells. -/
def lksV (l : List Vf.Lk) : List Value := l.flatMap fun x => [.string x.name, .int .i64 (x.n : Int)]
theorem lksV_length (l : List Vf.Lk) : (lksV l).length = l.length * 2 := by
  induction l with
  | nil => rfl
  | cons x t ih =>
    show (_ :: _ :: lksV t).length = _
    simp only [List.length_cons, ih]
    omega
theorem lksV_name (l : List Vf.Lk) : ∀ i (h : i < l.length), (lksV l)[i * 2]? = some (.string l[i].name) := by
  induction l with
  | nil => intro i h; cases h
  | cons x t ih =>
    intro i h
    cases i with
    | zero => rfl
    | succ i =>
      simp only [List.length_cons, Nat.add_lt_add_iff_right] at h
      have e : (i + 1) * 2 = i * 2 + 1 + 1 := by omega
      rw [e]
      exact ih i h
theorem lksV_n (l : List Vf.Lk) : ∀ i (h : i < l.length), (lksV l)[i * 2 + 1]? = some (.int .i64 (l[i].n : Int)) := by
  induction l with
  | nil => intro i h; cases h
  | cons x t ih =>
    intro i h
    cases i with
    | zero => rfl
    | succ i =>
      simp only [List.length_cons, Nat.add_lt_add_iff_right] at h
      have e : (i + 1) * 2 + 1 = i * 2 + 1 + 1 + 1 := by omega
      rw [e]
      exact ih i h
theorem lksV_snoc (l : List Vf.Lk) (x : Vf.Lk) : lksV l ++ [.string x.name, .int .i64 (x.n : Int)] = lksV (l ++ [x]) := by simp [lksV]
/-- The value v is a slice of these names. -/
def LkS (w : World) (v : Value) (l : List Vf.Lk) : Prop :=
  ∃ a cap, v = .slice a l.length cap ∧ l.length ≤ cap ∧ cap ≤ 9223372036854775807 ∧ (0 < l.length → ∃ g, a = some ⟨g, 0, none⟩ ∧ g < w.heap.size ∧ ∀ i (_ : i < l.length), w.cell? ⟨g, i * 2, none⟩ = some (.string l[i].name) ∧ w.cell? ⟨g, i * 2 + 1, none⟩ = some (.int .i64 (l[i].n : Int)))
theorem eqB_true {a b : ByteArray} (h : Vf.eqB a b = true) : (a.toList == b.toList) = true := h
theorem eqB_false {a b : ByteArray} (h : Vf.eqB a b = false) : (a.toList == b.toList) = false := h

theorem find_drop (l : List Vf.Lk) (s : ByteArray) (i : Nat) (h : i < l.length) : Vf.find (l.drop i) s = if Vf.eqB l[i].name s then l[i].n else Vf.find (l.drop (i + 1)) s := by
  rw [List.drop_eq_getElem_cons h]
  rfl

set_option maxRecDepth 100000 in
set_option maxHeartbeats 1000000 in
theorem find_any (w : World) (v : Value) (l : List Vf.Lk) (s : ByteArray) (hv : LkS w v l) :
    Calls Try.prog 61 #[v, .string s] w fun e' w' => e' = .returned (.int .i64 (Vf.find l s)) ∧ w = w' := by
  obtain ⟨a, cap, rfl, _, _, hv⟩ := hv
  obtain ⟨n, hnl⟩ : ∃ n, n = l.length := ⟨_, rfl⟩
  have HN := Lib.hid hnl
  have HV := Lib.hid hv
  rw [← hnl]
  clear hnl hv
  go_enter Try.func61, Try.ntmps61
  go_wp2_with fail
  go_loopg [5] n (fun g i wx => ∃ k : Nat, w = wx ∧ k ≤ n ∧ g = n - k ∧ i = .int .i64 (k : Int) ∧ Hid (Vf.find l s = Vf.find (l.drop k) s))
  case atStart => exact ⟨0, rfl, Nat.zero_le _, rfl, rfl, rfl⟩
  case round =>
    obtain ⟨k, rfl, hk, rfl, rfl, hf⟩ := hrel
    by_cases hkn : k < n
    · have i1 : (k : Int) < (n : Int) := by omega
      have kl : k < l.length := by rw [← HN.out]; exact hkn
      obtain ⟨g, rfl, hg, hc⟩ := HV.out (by omega)
      obtain ⟨c1, c2⟩ := hc k kl
      have hd := find_drop l s k kl
      by_cases he : Vf.eqB l[k].name s = true
      · have he' := eqB_true he
        have hfin : Hid (Vf.find l s = l[k].n) := by show _ = _; rw [hf.out, hd, if_pos he]
        clear hd hf he hc
        generalize l[k].name = nm at *
        generalize l[k].n = nn at *
        go_wp2_with fail
        go_ret
        exact ⟨by rw [hfin.out]; rfl, rfl⟩
      · have he' := eqB_false (by simpa using he)
        have hst : Hid (Vf.find l s = Vf.find (l.drop (k + 1)) s) := by show _ = _; rw [hf.out, hd, if_neg he]
        clear hd hf he hc
        generalize l[k].name = nm at *
        generalize l[k].n = nn at *
        go_wp2_with fail
        go_roundg (n - (k + 1))
        case rel => exact ⟨k + 1, rfl, by omega, rfl, by go_num, hst⟩
        case measure => omega
    · have hfin : Hid (Vf.find l s = 0) := by
        show _ = _
        rw [hf.out, List.drop_of_length_le (by rw [← HN.out]; omega)]
        rfl
      clear hf
      go_wp2_with fail
      go_ret
      exact ⟨by rw [hfin.out]; rfl, rfl⟩

/-- Files as cells. -/
def flsV (l : List Vf.Fl) : List Value := l.flatMap fun x => [.int .i64 (x.n : Int), .string x.data, .int .i64 (x.sure : Int)]
theorem flsV_length (l : List Vf.Fl) : (flsV l).length = l.length * 3 := by
  induction l with
  | nil => rfl
  | cons x t ih =>
    show (_ :: _ :: _ :: flsV t).length = _
    simp only [List.length_cons, ih]
    omega
theorem flsV_at (l : List Vf.Fl) : ∀ i (h : i < l.length), (flsV l)[i * 3]? = some (.int .i64 (l[i].n : Int)) ∧ (flsV l)[i * 3 + 1]? = some (.string l[i].data) ∧ (flsV l)[i * 3 + 2]? = some (.int .i64 (l[i].sure : Int)) := by
  induction l with
  | nil => intro i h; cases h
  | cons x t ih =>
    intro i h
    cases i with
    | zero => exact ⟨rfl, rfl, rfl⟩
    | succ i =>
      simp only [List.length_cons, Nat.add_lt_add_iff_right] at h
      have e : (i + 1) * 3 = i * 3 + 1 + 1 + 1 := by omega
      rw [e]
      exact ih i h
/-- The value v is a slice of these files. -/
def FlS (w : World) (v : Value) (l : List Vf.Fl) : Prop :=
  ∃ a cap, v = .slice a l.length cap ∧ l.length ≤ cap ∧ cap ≤ 9223372036854775807 ∧ (0 < l.length → ∃ g, a = some ⟨g, 0, none⟩ ∧ g < w.heap.size ∧ ∀ i (_ : i < l.length), w.cell? ⟨g, i * 3, none⟩ = some (.int .i64 (l[i].n : Int)) ∧ w.cell? ⟨g, i * 3 + 1, none⟩ = some (.string l[i].data) ∧ w.cell? ⟨g, i * 3 + 2, none⟩ = some (.int .i64 (l[i].sure : Int)))
theorem place_drop (l : List Vf.Fl) (n i : Nat) (h : i < l.length) : Vf.place (l.drop i) n = if l[i].n = n then 0 else Vf.place (l.drop (i + 1)) n + 1 := by
  rw [List.drop_eq_getElem_cons h]
  rfl
/-- Where it is, or -1. -/
def placeI (l : List Vf.Fl) (n : Nat) : Int := if Vf.place l n < l.length then (Vf.place l n : Int) else -1
theorem place_le (l : List Vf.Fl) (n : Nat) : Vf.place l n ≤ l.length := by
  induction l with
  | nil => exact Nat.le_refl _
  | cons f t ih =>
    unfold Vf.place
    split
    · exact Nat.zero_le _
    · rw [List.length_cons]; omega

set_option maxRecDepth 100000 in
set_option maxHeartbeats 1000000 in
theorem place_any (w : World) (v : Value) (l : List Vf.Fl) (m : Nat) (hv : FlS w v l) (_hm : m ≤ 9223372036854775807) :
    Calls Try.prog 63 #[v, .int .i64 m] w fun e' w' => e' = .returned (.int .i64 (placeI l m)) ∧ w = w' := by
  obtain ⟨a, cap, rfl, _, _, hv⟩ := hv
  obtain ⟨n, hnl⟩ : ∃ n, n = l.length := ⟨_, rfl⟩
  have HN := Lib.hid hnl
  have HV := Lib.hid hv
  rw [← hnl]
  clear hnl hv
  go_enter Try.func63, Try.ntmps63
  go_wp2_with fail
  go_loopg [5] n (fun g i wx => ∃ k : Nat, w = wx ∧ k ≤ n ∧ g = n - k ∧ i = .int .i64 (k : Int) ∧ Hid (Vf.place l m = k + Vf.place (l.drop k) m))
  case atStart => exact ⟨0, rfl, Nat.zero_le _, rfl, rfl, by show _ = _; rw [Nat.zero_add, List.drop_zero]⟩
  case round =>
    obtain ⟨k, rfl, hk, rfl, rfl, hf⟩ := hrel
    by_cases hkn : k < n
    · have i1 : (k : Int) < (n : Int) := by omega
      have kl : k < l.length := by rw [← HN.out]; exact hkn
      obtain ⟨g, rfl, hg, hc⟩ := HV.out (by omega)
      obtain ⟨c1, c2, c3⟩ := hc k kl
      have hd := place_drop l m k kl
      by_cases he : l[k].n = m
      · have he' : ((l[k].n : Int) == (m : Int)) = true := by simp [he]
        have hfin : Hid (placeI l m = (k : Int)) := by
          have h : Vf.place l m = k := by rw [hf.out, hd, if_pos he]; rfl
          show _ = _
          unfold placeI
          rw [h, if_pos kl]
        clear hd hf he hc
        generalize l[k].n = nn at *
        go_wp2_with fail
        go_ret
        exact ⟨by rw [hfin.out]; rfl, rfl⟩
      · have he' : ((l[k].n : Int) == (m : Int)) = false := by simp; omega
        have hst : Hid (Vf.place l m = k + 1 + Vf.place (l.drop (k + 1)) m) := by show _ = _; rw [hf.out, hd, if_neg he]; omega
        clear hd hf he hc
        generalize l[k].n = nn at *
        go_wp2_with fail
        go_roundg (n - (k + 1))
        case rel => exact ⟨k + 1, rfl, by omega, rfl, by go_num, hst⟩
        case measure => omega
    · have hfin : Hid (placeI l m = -1) := by
        have h : Vf.place l m = k := by
          rw [hf.out, List.drop_of_length_le (by rw [← HN.out]; omega)]
          rfl
        show _ = _
        unfold placeI
        rw [h, if_neg (by rw [← HN.out]; omega)]
      clear hf
      go_wp2_with fail
      go_ret
      exact ⟨by rw [hfin.out]; rfl, rfl⟩
end Go.Proofs.Ytdohenbicepicaa
