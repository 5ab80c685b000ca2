/-
  The program's disk: the names of some maps, rising.
-/
import Derived.Test.YtdohenbicepicaaWk
import Derived.Sort.OwnSorted
import Derived.Lib.SlicesCompact
namespace Go.Proofs.Ytdohenbicepicaa
open Go.RowKit Go.Maps Go.Sort

/-! ### what Compact leaves of a sorted list -/
theorem compact_sorted (zs : List (List UInt8)) (hs : zs.Pairwise (· ≤ ·)) : (Lib.compact zs).Pairwise (· < ·) ∧ ∀ x, x ∈ Lib.compact zs ↔ x ∈ zs := by
  have hget : ∀ i j, i ≤ j → j < zs.length → zs.toArray[i]! ≤ zs.toArray[j]! := by
    intro i j hij hj
    rcases Nat.lt_or_ge i j with h | h
    · have h2 := List.pairwise_iff_getElem.1 hs i j (by omega) hj h
      simpa [getElem!_pos, show i < zs.length by omega, hj] using h2
    · obtain rfl : i = j := by omega
      exact List.le_refl _
  have main : ∀ m, m ≤ zs.length → (Lib.compactUpTo zs.toArray m).Pairwise (· < ·) ∧ (∀ x, x ∈ Lib.compactUpTo zs.toArray m ↔ ∃ j, j < m ∧ zs.toArray[j]! = x) := by
    intro m
    induction m with
    | zero => intro _; exact ⟨by simp [Lib.compactUpTo], fun x => by simp [Lib.compactUpTo]⟩
    | succ m ih =>
      intro hm
      obtain ⟨h1, h2⟩ := ih (by omega)
      rw [Lib.compactUpTo_succ]
      by_cases hk : Lib.keeps zs.toArray m = true
      · rw [if_pos hk]
        refine ⟨List.pairwise_append.2 ⟨h1, by simp, fun a ha b hb => ?_⟩, fun x => ?_⟩
        · obtain rfl : b = zs.toArray[m]! := by simpa using hb
          obtain ⟨j, hj, rfl⟩ := (h2 a).1 ha
          unfold Lib.keeps at hk
          simp only [decide_eq_true_eq] at hk
          have hne : zs.toArray[m]! ≠ zs.toArray[m - 1]! := by
            rcases hk with h | h
            · omega
            · exact h
          have ha1 := hget j (m - 1) (by omega) (by omega)
          have ha2 := hget (m - 1) m (by omega) (by omega)
          rcases List.le_iff_lt_or_eq.1 ha2 with h | h
          · exact List.lt_of_le_of_lt ha1 h
          · exact absurd h.symm hne
        · rw [List.mem_append, h2 x, List.mem_singleton]
          constructor
          · rintro (⟨j, hj, rfl⟩ | rfl)
            · exact ⟨j, by omega, rfl⟩
            · exact ⟨m, by omega, rfl⟩
          · rintro ⟨j, hj, rfl⟩
            rcases Nat.lt_or_ge j m with h | h
            · exact .inl ⟨j, h, rfl⟩
            · obtain rfl : j = m := by omega
              exact .inr rfl
      · rw [if_neg hk, List.append_nil]
        refine ⟨h1, fun x => ?_⟩
        rw [h2 x]
        unfold Lib.keeps at hk
        simp only [decide_eq_true_eq, not_or, Decidable.not_not] at hk
        constructor
        · rintro ⟨j, hj, rfl⟩; exact ⟨j, by omega, rfl⟩
        · rintro ⟨j, hj, rfl⟩
          rcases Nat.lt_or_ge j m with h | h
          · exact ⟨j, h, rfl⟩
          · obtain rfl : j = m := by omega
            exact ⟨j - 1, by omega, hk.2.symm⟩
  obtain ⟨h1, h2⟩ := main zs.length (Nat.le_refl _)
  refine ⟨h1, fun x => ?_⟩
  show x ∈ Lib.compactUpTo zs.toArray zs.length ↔ _
  rw [h2 x]
  constructor
  · rintro ⟨j, hj, rfl⟩
    simp [getElem!_pos, hj]
  · intro hx
    obtain ⟨j, hj, rfl⟩ := List.mem_iff_getElem.1 hx
    exact ⟨j, hj, by simp [getElem!_pos, hj]⟩
theorem sorted_le (ss : List (List UInt8)) : (ss.mergeSort fun x y => decide (x ≤ y)).Pairwise (· ≤ ·) := by
  have tr : ∀ a b c : List UInt8, leB a b = true → leB b c = true → leB a c = true := fun a b c h1 h2 => by simp only [leB, decide_eq_true_eq] at *; exact List.le_trans h1 h2
  have to : ∀ a b : List UInt8, (leB a b || leB b a) = true := fun a b => by simp only [leB, Bool.or_eq_true, decide_eq_true_eq]; exact List.le_total a b
  exact (List.pairwise_mergeSort tr to ss).imp fun h => by simpa using h
/-- Two rising lists of the same texts are one. -/
theorem rising_one {l l' : List (List UInt8)} (h : l.Pairwise (· < ·)) (h' : l'.Pairwise (· < ·)) (hm : ∀ x, x ∈ l ↔ x ∈ l') : l = l' := by
  have hn : ∀ {k : List (List UInt8)}, k.Pairwise (· < ·) → k.Nodup := fun hk => List.Pairwise.imp (fun {a b} (hab : a < b) (e : a = b) => by subst e; exact List.lt_irrefl _ hab) hk
  refine List.Perm.eq_of_pairwise (le := fun a b => a < b) (fun a b _ _ h1 h2 => absurd (List.lt_trans h1 h2) (List.lt_irrefl _)) h h' ?_
  exact (List.perm_ext_iff_of_nodup (hn h) (hn h')).2 hm

def encBA (x : List UInt8) : ByteArray := ⟨x.toArray⟩
theorem keyS_enc (x : List UInt8) : keyS (encBA x) = .string x := by simp [keyS, encBA]

/-- What rising answers. -/
def RisePost (w : World) (n : Nat) (Fs : Nat → ByteArray → Option Nat) (e : Ending) (w' : World) : Prop :=
  ∃ (v : Value) (L : List (List UInt8)), e = .returned v ∧ w'.ownsRow w.heap.size 9 1 v L.length (L.map encStr) ∧ L.Pairwise (· < ·) ∧ (∀ x, x ∈ L ↔ ∃ i, i < n ∧ (Fs i (encBA x)).isSome = true) ∧ Below w.heap.size w w'

set_option maxRecDepth 100000 in
set_option maxHeartbeats 4000000 in
theorem risingP_any (w : World) (g n N : Nat) (Ms : Nat → Nat) (Fs : Nat → ByteArray → Option Nat) (hn : n ≤ 2) (hN : N ≤ 1073741824) (hc : ∀ j, j < n → w.cell? ⟨g, j, none⟩ = some (.map (some (Ms j)))) (hg : g < w.heap.size) (hM : ∀ j, j < n → MapA w (Ms j) N (Fs j)) :
    Calls Try.prog 55 #[.slice (some ⟨g, 0, none⟩) n n] w (RisePost w n Fs) := by
  obtain ⟨i0, hi, hz0, hz1, hz2⟩ := info_parts Try.infoS
  have HC := Lib.hid hc
  have HM := Lib.hid hM
  clear hc hM
  have hgw : Hid (g < w.heap.size) := hg
  clear hg
  go_enter Try.func55, Try.ntmps55
  go_wp2_with fail
  go_loopg [3, 9] n (fun gg v iv wx => ∃ (j : Nat) (ss : List (List UInt8)), j ≤ n ∧ gg = n - j ∧ iv = .int .i64 (j : Int) ∧ wx.ownsRow w.heap.size 9 1 v ss.length (ss.map encStr) ∧ ss.length ≤ j * N ∧ Hid (∀ x, x ∈ ss ↔ ∃ i, i < j ∧ (Fs i (encBA x)).isSome = true) ∧ Below w.heap.size w wx ∧ w.heap.size ≤ wx.heap.size)
  case atStart => exact ⟨0, [], Nat.zero_le _, rfl, rfl, World.ownsRow_nil _ _ _ _, Nat.zero_le _, fun x => by simp, Below.refl _ _, Nat.le_refl _⟩
  case round =>
    obtain ⟨j, ss, hj, rfl, rfl, hrow, hlen, hmem, hbel, hsz⟩ := hrel
    by_cases hjn : j < n
    · have i1 : (j : Int) < (n : Int) := by omega
      have c0 : wr.cell? ⟨g, j, none⟩ = some (.map (some (Ms j))) := (hbel.cell (p := ⟨g, j, none⟩) hgw.out).trans (HC.out j hjn)
      obtain ⟨D0, hown, hsays⟩ := (HM.out j hjn).keep (hbel.block _ (HM.out j hjn).lt)
      have hmb := (HM.out j hjn).lt
      have hsize := hown.size_le
      have HO := Lib.hid hown
      have HSY := Lib.hid hsays
      have hj2 : j ≤ 1 := by omega
      have hlenb : ss.length ≤ 1073741824 := by
        have : j * N ≤ 1 * N := Nat.mul_le_mul_right _ hj2
        omega
      have HLEN : Hid (ss.length ≤ j * N) := hlen
      clear hown hsays hlen
      go_wp2_with (first | (at_range; refine wpList_range_own _ rfl _ 55 rfl 9 70 lawS Try.underlying55 ptrElem (Ms j) N D0 rfl HO.out ?_; intro w0 hrg0 hg0 hs0))
      go_frame
      have hrow0 := ownsRow_keep hrow fun k hk => hg0.block k (World.ownsRow.lt hrow k hk).2 (by simp)
      have hbel0 := hbel.grown hg0 hsz (fun k hk => by cases hk)
      have hsz0 : w.heap.size ≤ w0.heap.size := by omega
      clear hs0
      generalize hrr : wr.heap.size = r at *
      clear hrr
      go_loopg [3] (Maps.size D0) (fun gg v wx => ∃ (left : Lit → Bool) (cnt : Nat) (sj : List (List UInt8)), wx.ranges Try.prog 9 ptrElem (Ms j) r N D0 left cnt ∧ gg = cnt ∧ sj.length + cnt ≤ Maps.size D0 ∧ wx.ownsRow w.heap.size 9 1 v (ss ++ sj).length ((ss ++ sj).map encStr) ∧ Collected D0 left sj ∧ Below w.heap.size w wx ∧ w.heap.size ≤ wx.heap.size)
      case atStart => exact ⟨_, _, [], hrg0, rfl, by simp, by simpa using hrow0, Collected.start D0, hbel0, hsz0⟩
      case round =>
        obtain ⟨left, cnt, sj, hrg, rfl, hcs, hrow1, hC, hbel1, hsz1⟩ := hrel
        go_wp2_with (first | (at_next; refine wpList_next_ranges _ rfl _ rfl 9 lawS ptrElem encStr ptrV (fun key kl hk => by obtain ⟨x, hx, _⟩ := Maps.keyOf_str Try.underlying9 hk; exact ⟨x, hx⟩) (fun v y hv => by obtain ⟨o, hv, _⟩ := ptrElem_inv hv; exact ⟨o, hv⟩) (Ms j) r N _ _ _ rfl hrg ?_ ?_))
        · -- no name is left
          intro hc0 hl0
          have hst : Hid (∀ x, x ∈ ss ++ sj ↔ ∃ i, i < j + 1 ∧ (Fs i (encBA x)).isSome = true) := by
            intro x
            have h1 := (hC.2 x)
            have h2 := (HSY.out (encBA x)).1
            rw [keyS_enc] at h2
            rw [List.mem_append, hmem.out x, h1, hl0, h2]
            constructor
            · rintro (⟨i, hi, h⟩ | ⟨h, _⟩)
              · exact ⟨i, by omega, h⟩
              · exact ⟨j, by omega, h⟩
            · rintro ⟨i, hi, h⟩
              rcases Nat.lt_or_ge i j with h3 | h3
              · exact .inl ⟨i, h3, h⟩
              · obtain rfl : i = j := by omega
                exact .inr ⟨h, rfl⟩
          have hln : Hid ((ss ++ sj).length ≤ (j + 1) * N) := by
            show _ ≤ _
            rw [List.length_append, Nat.add_mul, Nat.one_mul]
            have := HLEN.out
            omega
          clear hC hrg
          go_wp2_with fail
          go_roundg (n - (j + 1))
          case rel => exact ⟨j + 1, ss ++ sj, by omega, rfl, by go_num, hrow1, hln.out, hst, hbel1, hsz1⟩
          case measure => omega
        · -- a name has come
          intro x o kl yd yp w2 cnt2 hkey hlk hv hat hrg2 hlt hg2 hs2 hen
          obtain ⟨x', ex, rfl, _⟩ := Maps.keyOf_str Try.underlying9 hkey
          obtain rfl : x = x' := encStr_inj ex
          have hrne := row_ne_iter hrow1 hrg
          have hrow2 := ownsRow_keep hrow1 fun k hk => hg2.block k (World.ownsRow.lt hrow1 k hk).2 (fun e => hrne (by rw [hk, e]))
          have hC2 := hC.step hlk hat
          have HC2 := Lib.hid hC2
          have hbel2 := hbel1.grown hg2 hsz1 (fun k hk => by cases hk; exact hsz)
          have hsz2 : w.heap.size ≤ w2.heap.size := Nat.le_trans hsz1 hg2.size
          have hlx : (ss ++ sj).length = ss.length + sj.length := List.length_append
          have hbnd : (ss ++ sj).length + 1 ≤ 4294967296 := by omega
          clear hs2 hC hC2 hlk hat hkey ex hv hrg hrow1 hrne hbel1 hg2 hsz1
          generalize hll : (ss ++ sj).length = ll at *
          go_wp2_with ((at_builtin; go_loud ((refine wpList_append_own _ rfl _ _ 47 rfl w.heap.size 9 i0 (.string ⟨#[]⟩) 1 16 Try.underlying47 hi hz0 hz1 hz2 rfl (by decide) _ _ _ rfl (hrow2.alloc _) ⟨w2.heap.size, 0, none⟩ 1 1 [encStr x] rfl rfl (cell_one_new _ _ _) (by simp [Value.oneCell', encStr]) (by unfold maxLen; omega) (by omega) (by simp; omega) ?_; intro v' w3 hown' hg3 hnil3; go_frame))))
          have hrg3 := (hrg2.alloc (.cells #[encStr x] 9)).kept hg3 (row_ne_low hrow2 hmb) (row_ne_iter hrow2 hrg2)
          have hbel3 : Below w.heap.size w w3 := (hbel2.alloc hsz2 _).grown hg3 (by simp; omega) (fun k hk => (World.ownsRow.lt hrow2 k hk).1)
          have hsz3 : w.heap.size ≤ w3.heap.size := by have := hg3.size; simp at this; omega
          have hrw3 : w3.ownsRow w.heap.size 9 1 v' (ss ++ (sj ++ [x])).length ((ss ++ (sj ++ [x])).map encStr) := by
            rw [← List.append_assoc, List.length_append, hll, List.map_append]
            exact hown'
          go_roundg cnt2
          case rel => exact ⟨_, cnt2, sj ++ [x], hrg3, rfl, by simp; omega, hrw3, HC2.out, hbel3, hsz3⟩
          case measure => exact hlt
    · obtain rfl : j = n := by omega
      rcases hrow.2 with ⟨rfl, h0⟩ | ⟨gr, cap, cur, rfl, hbase, hb, h1, h2, h3, h4⟩
      · have hss : ss = [] := List.eq_nil_of_length_eq_zero h0
        subst hss
        have hS := Lib.hid (Try.slices_Sort_string_none none 0 wr)
        have hK := Lib.hid (Try.slices_Compact_string_empty none 0 wr)
        have HF : Hid (RisePost w j Fs (.returned (.slice none 0 0)) wr) := ⟨_, [], rfl, World.ownsRow_nil _ _ _ _, List.Pairwise.nil, fun x => hmem.out x, hbel⟩
        clear hrow h0 hbel
        go_wp2_with (first | (go_at_call 71; go_loud ((refine hS.out.mono ?_; rintro e1 w1 ⟨rfl, rfl⟩))) | (go_at_call 72; go_loud ((refine hK.out.mono ?_; rintro e1 w1 ⟨rfl, rfl⟩))))
        go_ret
        exact HF.out
      · have hss : ss.length ≤ 4294967296 := by
          have : j * N ≤ 2 * N := Nat.mul_le_mul_right _ hn
          omega
        have hH : Holds encStr wr gr 0 ss.toArray := holds_of_block hb (by simpa using h4)
        have hgl : gr < wr.heap.size := (Array.getElem?_eq_some_iff.1 hb).1
        have hS := Lib.hid (Try.slices_Sort_string gr 0 cap ss wr hH hgl (by omega))
        obtain ⟨zs, hzs⟩ : ∃ zs, zs = ss.mergeSort fun x y => decide (x ≤ y) := ⟨_, rfl⟩
        have hzl : zs.length = ss.length := by rw [hzs]; simp
        have hzc := compact_sorted zs (by rw [hzs]; exact sorted_le ss)
        have hzm : ∀ x, x ∈ zs ↔ x ∈ ss := fun x => by rw [hzs]; exact List.mem_mergeSort
        rw [← hzs] at hS
        have HK : Hid (∀ nn os, Calls Try.prog 72 #[.slice (some ⟨gr, 0, none⟩) ss.length cap] (grow (putRow encStr (Sort.ahead wr nn) gr 0 zs.toArray) os) (RisePost w j Fs)) := by
          intro nn os
          have hb2 := heap_sorted (n := nn) (os := os) zs.toArray hb
          have htk := take_putCells cur zs (by omega)
          have hH2 : Holds encStr (grow (putRow encStr (Sort.ahead wr nn) gr 0 zs.toArray) os) gr 0 zs.toArray := holds_of_block hb2 htk
          have hg2 := grownBy_sorted (w := wr) (g := gr) (n := nn) (os := os) zs.toArray
          generalize hw2 : grow (putRow encStr (Sort.ahead wr nn) gr 0 zs.toArray) os = w2 at *
          rw [← hzl]
          refine (Try.slices_Compact_string gr 0 cap zs w2 hH2 (by omega) (by omega)).mono ?_
          rintro e1 w3 ⟨rfl, q, rfl⟩
          have hg3 := grownBy_sorted (w := w2) (g := gr) (n := q) (os := #[]) (Lib.compact zs ++ List.replicate (zs.length - (Lib.compact zs).length) []).toArray
          have hb3 := heap_sorted (n := q) (os := #[]) (Lib.compact zs ++ List.replicate (zs.length - (Lib.compact zs).length) []).toArray hb2
          have hgn : ∀ W : World, grow W #[] = W := fun W => by cases W; simp [grow]
          rw [hgn] at hg3 hb3
          have hcl : (Lib.compact zs).length ≤ zs.length := by
            have hn : (Lib.compact zs).Nodup := List.Pairwise.imp (fun {a b} (hab : a < b) (e : a = b) => by subst e; exact List.lt_irrefl _ hab) hzc.1
            exact len_le_of_sub _ _ hn fun x hx => (hzc.2 x).1 hx
          refine ⟨_, Lib.compact zs, rfl, ⟨by simp, .inr ⟨gr, cap, _, rfl, hbase, hb3, by omega, h2, by simp [putCells, h3], ?_⟩⟩, hzc.1, fun x => ?_, (hbel.grown hg2 hsz (fun k hk => by cases hk; exact hbase)).grown hg3 (Nat.le_trans hsz hg2.size) (fun k hk => by cases hk; exact hbase)⟩
          · have ht2 := take_putCells (putCells encStr 0 zs.toArray cur) (Lib.compact zs ++ List.replicate (zs.length - (Lib.compact zs).length) []) (by simp [putCells]; omega)
            have ht3 := congrArg (fun l => l.take (Lib.compact zs).length) ht2
            simp only [List.take_take, List.map_append] at ht3
            rw [Nat.mul_one]
            rw [Nat.min_eq_left (by rw [List.length_append]; omega)] at ht3
            rw [ht3]
            exact List.take_left' (by simp)
          · rw [hzc.2 x, hzm x, hmem.out x]
        clear hrow hbel hb h4 hH hgl hzs hzl hzc hzm
        go_wp2_with (first | (go_at_call 71; go_loud ((refine hS.out.mono ?_; rintro e1 w1 ⟨rfl, nn, os, rfl⟩))) | (go_at_call 72; go_loud ((refine (HK.out _ _).mono ?_; rintro e1 w1 ⟨v1, L1, rfl, hr1⟩; have HR1 := Lib.hid hr1; clear hr1))))
        go_ret
        exact ⟨_, _, rfl, HR1.out⟩
end Go.Proofs.Ytdohenbicepicaa
