/-
  What TupleOrder's calls answer: the bytes of numbers stand as the numbers, those of texts as the texts.
-/
import Derived.Test.YtilbmbddocimkaaDoorOrd
namespace Go.Proofs.YtilbmbddocimkaaDoor
open Go.RowKit Od

theorem nums_one (n : Int) (W : World) (hn : -9223372036854775808 ≤ n ∧ n ≤ 9223372036854775807) :
    Calls Tryd.prog 9 #[.slice (some ⟨W.heap.size, 0, none⟩) 1 1] (W.alloc (.cells #[.int .i64 n] 3)) (StrPost W.heap.size W (Pl.numB n)) := by
  have h := nums_any (W.alloc (.cells #[.int .i64 n] 3)) [n] 1 1 W.heap.size 0 (by omega) rfl (by simp) (by
    intro j hj
    match j, hj with
    | 0, _ => rw [World.cell?_alloc_at _ _ _ _ rfl]; rfl) (by intro m hm; simp at hm; omega)
  refine h.mono fun e w' ⟨h1, h2⟩ => ⟨?_, ((Below.refl W.heap.size W).alloc (Nat.le_refl _) _).trans (h2.mono (by simp))⟩
  rw [h1]
  simp [Pl.numsB]
theorem textB_size (s : ByteArray) : (⟨(textB s.data.toList).toArray⟩ : ByteArray).size ≤ 2 * s.size + 2 := by
  have h := esc_length s.data.toList
  have e : s.data.toList.length = s.size := by simp
  have : (⟨(textB s.data.toList).toArray⟩ : ByteArray).size = (textB s.data.toList).length := by simp [ByteArray.size]
  rw [this]
  unfold textB
  rw [List.length_append]
  simp only [List.length_cons, List.length_nil]
  omega

set_option maxRecDepth 100000 in
set_option maxHeartbeats 400000 in
theorem stands_any (x y : ByteArray) (w : World) (c : Int) (hc : cp x.data.toList y.data.toList = c) :
    Calls Tryd.prog 21 #[.string x, .string y] w fun e w' => e = .returned (.int .i64 c) ∧ w = w' := by
  have hl : Op.bytesLess x.toList y.toList = decide (c = -1) := by rw [ByteArray.toList_eq, ByteArray.toList_eq, less_cp, hc]
  rcases cp_vals x.data.toList y.data.toList with h | h | h
  · have hl1 : Op.bytesLess x.toList y.toList = true := by rw [hl, ← hc, h]; rfl
    have he : c = -1 := by omega
    subst he
    clear hl h hc
    go_enter Tryd.func21, Tryd.ntmps21
    go_wp2
    go_ret
    exact ⟨rfl, rfl⟩
  · have hl1 : Op.bytesLess x.toList y.toList = false := by rw [hl, ← hc, h]; rfl
    have hq : (x.toList == y.toList) = true := by rw [ByteArray.toList_eq, ByteArray.toList_eq, cp_eq h]; simp
    have he : c = 0 := by omega
    subst he
    clear hl h hc
    go_enter Tryd.func21, Tryd.ntmps21
    go_wp2
    go_ret
    exact ⟨rfl, rfl⟩
  · have hl1 : Op.bytesLess x.toList y.toList = false := by rw [hl, ← hc, h]; rfl
    have hq : (x.toList == y.toList) = false := by
      rw [ByteArray.toList_eq, ByteArray.toList_eq, beq_eq_false_iff_ne]
      intro e
      rw [e, cp_self] at h
      omega
    have he : c = 1 := by omega
    subst he
    clear hl h hc
    go_enter Tryd.func21, Tryd.ntmps21
    go_wp2
    go_ret
    exact ⟨rfl, rfl⟩

set_option maxRecDepth 100000 in
set_option maxHeartbeats 2000000 in
theorem tupleOrder_lt1 (a b : Int) (s t p q : ByteArray) (c : Int) (w : World) (hm : MaxI w) (ha : -9223372036854775808 ≤ a ∧ a ≤ 9223372036854775807) (hb : -9223372036854775808 ≤ b ∧ b ≤ 9223372036854775807) (hab : a < b) (hst : (s.toList == t.toList) = true)
    (hs : s.size ≤ 1048576) (ht : t.size ≤ 1048576) (_hp : p.size ≤ 1048576) (_hq : q.size ≤ 1048576)
    (hN : Hid (cp (Pl.numB a) (Pl.numB b) = -1)) (hT : Hid (cp (textB s.data.toList) (textB t.data.toList) = c)) (hS : Hid (cp s.data.toList t.data.toList = c)) (hN2 : Hid (cp ((⟨(Pl.numB a).toArray⟩ : ByteArray) ++ p).data.toList ((⟨(Pl.numB b).toArray⟩ : ByteArray) ++ q).data.toList = -1)) :
    Calls Tryd.prog 6 #[.int .i64 a, .int .i64 b, .string s, .string t, .string p, .string q] w fun e w' => e = .returned (.bool true) ∧ Below w.heap.size w w' := by
  have HM := Lib.hid hm
  have NA : Hid (∀ W, Calls Tryd.prog 9 #[.slice (some ⟨W.heap.size, 0, none⟩) 1 1] (W.alloc (.cells #[.int .i64 a] 3)) (StrPost W.heap.size W (Pl.numB a))) := fun W => nums_one a W ha
  have NB : Hid (∀ W, Calls Tryd.prog 9 #[.slice (some ⟨W.heap.size, 0, none⟩) 1 1] (W.alloc (.cells #[.int .i64 b] 3)) (StrPost W.heap.size W (Pl.numB b))) := fun W => nums_one b W hb
  have la := numB_length a
  have lb := numB_length b
  have ls := textB_size s
  have lt := textB_size t
  have za : (⟨(Pl.numB a).toArray⟩ : ByteArray).size ≤ 9 := by simpa [ByteArray.size] using la
  have zb : (⟨(Pl.numB b).toArray⟩ : ByteArray).size ≤ 9 := by simpa [ByteArray.size] using lb
  have zs : (⟨(textB s.data.toList).toArray⟩ : ByteArray).size ≤ 2097154 := by omega
  have zt : (⟨(textB t.data.toList).toArray⟩ : ByteArray).size ≤ 2097154 := by omega
  clear hm la lb ls lt
  have TS : Hid (∀ W, MaxI W → Calls Tryd.prog 11 #[.string s] W (StrPost W.heap.size W (textB s.data.toList))) := fun W h => text_w s W h (by omega)
  have TT : Hid (∀ W, MaxI W → Calls Tryd.prog 11 #[.string t] W (StrPost W.heap.size W (textB t.data.toList))) := fun W h => text_w t W h (by omega)
  generalize Pl.numB a = x at *
  generalize Pl.numB b = y at *
  generalize textB s.data.toList = u at *
  generalize textB t.data.toList = v at *
  go_enter Tryd.func6, Tryd.ntmps6
  go_wp2_with fail
  refine (awake_any w).mono ?_
  rintro e w1 ⟨rfl, hb1⟩
  have HB1 := Lib.hid hb1
  clear hb1
  go_wp2_with fail
  refine (NA.out _).mono ?_
  rintro e w2 ⟨rfl, hb1⟩
  have HB2 : Hid (Below w.heap.size w w2) := HB1.out.trans (hb1.mono HB1.out.size)
  clear hb1 HB1
  go_wp2_with fail
  refine (NB.out _).mono ?_
  rintro e w3 ⟨rfl, hb1⟩
  have HB3 : Hid (Below w.heap.size w w3) := HB2.out.trans (hb1.mono HB2.out.size)
  clear hb1 HB2
  go_wp2_with fail
  refine (stands_any _ _ w3 (-1) hN.out).mono ?_
  rintro e w4 ⟨rfl, rfl⟩
  go_wp2_with fail
  refine (TS.out w3 (HM.out.grow HB3.out)).mono ?_
  rintro e w4 ⟨rfl, hb1⟩
  have HB4 : Hid (Below w.heap.size w w4) := HB3.out.trans (hb1.mono HB3.out.size)
  clear hb1 HB3
  go_wp2_with fail
  refine (TT.out w4 (HM.out.grow HB4.out)).mono ?_
  rintro e w5 ⟨rfl, hb1⟩
  have HB5 : Hid (Below w.heap.size w w5) := HB4.out.trans (hb1.mono HB4.out.size)
  clear hb1 HB4
  go_wp2_with fail
  refine (stands_any _ _ w5 c hT.out).mono ?_
  rintro e w6 ⟨rfl, rfl⟩
  go_wp2_with fail
  refine (stands_any _ _ w5 c hS.out).mono ?_
  rintro e w6 ⟨rfl, rfl⟩
  go_wp2_with fail
  refine (NA.out _).mono ?_
  rintro e w6 ⟨rfl, hb1⟩
  have HB6 : Hid (Below w.heap.size w w6) := HB5.out.trans (hb1.mono HB5.out.size)
  clear hb1 HB5
  go_wp2_with fail
  refine (NB.out _).mono ?_
  rintro e w7 ⟨rfl, hb1⟩
  have HB7 : Hid (Below w.heap.size w w7) := HB6.out.trans (hb1.mono HB6.out.size)
  clear hb1 HB6
  go_wp2_with fail
  refine (stands_any _ _ w7 (-1) hN2.out).mono ?_
  rintro e w8 ⟨rfl, rfl⟩
  go_wp2_with fail
  go_ret
  exact ⟨rfl, HB7.out⟩
set_option maxRecDepth 100000 in
set_option maxHeartbeats 2000000 in
theorem tupleOrder_lt0 (a b : Int) (s t p q : ByteArray) (c : Int) (w : World) (hm : MaxI w) (ha : -9223372036854775808 ≤ a ∧ a ≤ 9223372036854775807) (hb : -9223372036854775808 ≤ b ∧ b ≤ 9223372036854775807) (hab : a < b) (hst : (s.toList == t.toList) = false)
    (hs : s.size ≤ 1048576) (ht : t.size ≤ 1048576) (_hp : p.size ≤ 1048576) (_hq : q.size ≤ 1048576)
    (hN : Hid (cp (Pl.numB a) (Pl.numB b) = -1)) (hT : Hid (cp (textB s.data.toList) (textB t.data.toList) = c)) (hS : Hid (cp s.data.toList t.data.toList = c)) (hN2 : Hid (cp ((⟨(Pl.numB a).toArray⟩ : ByteArray) ++ p).data.toList ((⟨(Pl.numB b).toArray⟩ : ByteArray) ++ q).data.toList = -1)) (hT2 : Hid (cp ((⟨(textB s.data.toList).toArray⟩ : ByteArray) ++ p).data.toList ((⟨(textB t.data.toList).toArray⟩ : ByteArray) ++ q).data.toList = c)) :
    Calls Tryd.prog 6 #[.int .i64 a, .int .i64 b, .string s, .string t, .string p, .string q] w fun e w' => e = .returned (.bool true) ∧ Below w.heap.size w w' := by
  have HM := Lib.hid hm
  have NA : Hid (∀ W, Calls Tryd.prog 9 #[.slice (some ⟨W.heap.size, 0, none⟩) 1 1] (W.alloc (.cells #[.int .i64 a] 3)) (StrPost W.heap.size W (Pl.numB a))) := fun W => nums_one a W ha
  have NB : Hid (∀ W, Calls Tryd.prog 9 #[.slice (some ⟨W.heap.size, 0, none⟩) 1 1] (W.alloc (.cells #[.int .i64 b] 3)) (StrPost W.heap.size W (Pl.numB b))) := fun W => nums_one b W hb
  have la := numB_length a
  have lb := numB_length b
  have ls := textB_size s
  have lt := textB_size t
  have za : (⟨(Pl.numB a).toArray⟩ : ByteArray).size ≤ 9 := by simpa [ByteArray.size] using la
  have zb : (⟨(Pl.numB b).toArray⟩ : ByteArray).size ≤ 9 := by simpa [ByteArray.size] using lb
  have zs : (⟨(textB s.data.toList).toArray⟩ : ByteArray).size ≤ 2097154 := by omega
  have zt : (⟨(textB t.data.toList).toArray⟩ : ByteArray).size ≤ 2097154 := by omega
  clear hm la lb ls lt
  have TS : Hid (∀ W, MaxI W → Calls Tryd.prog 11 #[.string s] W (StrPost W.heap.size W (textB s.data.toList))) := fun W h => text_w s W h (by omega)
  have TT : Hid (∀ W, MaxI W → Calls Tryd.prog 11 #[.string t] W (StrPost W.heap.size W (textB t.data.toList))) := fun W h => text_w t W h (by omega)
  generalize Pl.numB a = x at *
  generalize Pl.numB b = y at *
  generalize textB s.data.toList = u at *
  generalize textB t.data.toList = v at *
  go_enter Tryd.func6, Tryd.ntmps6
  go_wp2_with fail
  refine (awake_any w).mono ?_
  rintro e w1 ⟨rfl, hb1⟩
  have HB1 := Lib.hid hb1
  clear hb1
  go_wp2_with fail
  refine (NA.out _).mono ?_
  rintro e w2 ⟨rfl, hb1⟩
  have HB2 : Hid (Below w.heap.size w w2) := HB1.out.trans (hb1.mono HB1.out.size)
  clear hb1 HB1
  go_wp2_with fail
  refine (NB.out _).mono ?_
  rintro e w3 ⟨rfl, hb1⟩
  have HB3 : Hid (Below w.heap.size w w3) := HB2.out.trans (hb1.mono HB2.out.size)
  clear hb1 HB2
  go_wp2_with fail
  refine (stands_any _ _ w3 (-1) hN.out).mono ?_
  rintro e w4 ⟨rfl, rfl⟩
  go_wp2_with fail
  refine (TS.out w3 (HM.out.grow HB3.out)).mono ?_
  rintro e w4 ⟨rfl, hb1⟩
  have HB4 : Hid (Below w.heap.size w w4) := HB3.out.trans (hb1.mono HB3.out.size)
  clear hb1 HB3
  go_wp2_with fail
  refine (TT.out w4 (HM.out.grow HB4.out)).mono ?_
  rintro e w5 ⟨rfl, hb1⟩
  have HB5 : Hid (Below w.heap.size w w5) := HB4.out.trans (hb1.mono HB4.out.size)
  clear hb1 HB4
  go_wp2_with fail
  refine (stands_any _ _ w5 c hT.out).mono ?_
  rintro e w6 ⟨rfl, rfl⟩
  go_wp2_with fail
  refine (stands_any _ _ w5 c hS.out).mono ?_
  rintro e w6 ⟨rfl, rfl⟩
  go_wp2_with fail
  refine (NA.out _).mono ?_
  rintro e w6 ⟨rfl, hb1⟩
  have HB6 : Hid (Below w.heap.size w w6) := HB5.out.trans (hb1.mono HB5.out.size)
  clear hb1 HB5
  go_wp2_with fail
  refine (NB.out _).mono ?_
  rintro e w7 ⟨rfl, hb1⟩
  have HB7 : Hid (Below w.heap.size w w7) := HB6.out.trans (hb1.mono HB6.out.size)
  clear hb1 HB6
  go_wp2_with fail
  refine (stands_any _ _ w7 (-1) hN2.out).mono ?_
  rintro e w8 ⟨rfl, rfl⟩
  go_wp2_with fail
  refine (TS.out w7 (HM.out.grow HB7.out)).mono ?_
  rintro e w8 ⟨rfl, hb1⟩
  have HB8 : Hid (Below w.heap.size w w8) := HB7.out.trans (hb1.mono HB7.out.size)
  clear hb1 HB7
  go_wp2_with fail
  refine (TT.out w8 (HM.out.grow HB8.out)).mono ?_
  rintro e w9 ⟨rfl, hb1⟩
  have HB9 : Hid (Below w.heap.size w w9) := HB8.out.trans (hb1.mono HB8.out.size)
  clear hb1 HB8
  go_wp2_with fail
  refine (stands_any _ _ w9 c hT2.out).mono ?_
  rintro e w10 ⟨rfl, rfl⟩
  go_wp2_with fail
  refine (stands_any _ _ w9 c hS.out).mono ?_
  rintro e w10 ⟨rfl, rfl⟩
  go_wp2_with fail
  go_ret
  exact ⟨rfl, HB9.out⟩
set_option maxRecDepth 100000 in
set_option maxHeartbeats 2000000 in
theorem tupleOrder_gt1 (a b : Int) (s t p q : ByteArray) (c : Int) (w : World) (hm : MaxI w) (ha : -9223372036854775808 ≤ a ∧ a ≤ 9223372036854775807) (hb : -9223372036854775808 ≤ b ∧ b ≤ 9223372036854775807) (hab : b < a) (hst : (s.toList == t.toList) = true)
    (hs : s.size ≤ 1048576) (ht : t.size ≤ 1048576) (_hp : p.size ≤ 1048576) (_hq : q.size ≤ 1048576)
    (hN : Hid (cp (Pl.numB a) (Pl.numB b) = 1)) (hT : Hid (cp (textB s.data.toList) (textB t.data.toList) = c)) (hS : Hid (cp s.data.toList t.data.toList = c)) (hN2 : Hid (cp ((⟨(Pl.numB a).toArray⟩ : ByteArray) ++ p).data.toList ((⟨(Pl.numB b).toArray⟩ : ByteArray) ++ q).data.toList = 1)) :
    Calls Tryd.prog 6 #[.int .i64 a, .int .i64 b, .string s, .string t, .string p, .string q] w fun e w' => e = .returned (.bool true) ∧ Below w.heap.size w w' := by
  have HM := Lib.hid hm
  have NA : Hid (∀ W, Calls Tryd.prog 9 #[.slice (some ⟨W.heap.size, 0, none⟩) 1 1] (W.alloc (.cells #[.int .i64 a] 3)) (StrPost W.heap.size W (Pl.numB a))) := fun W => nums_one a W ha
  have NB : Hid (∀ W, Calls Tryd.prog 9 #[.slice (some ⟨W.heap.size, 0, none⟩) 1 1] (W.alloc (.cells #[.int .i64 b] 3)) (StrPost W.heap.size W (Pl.numB b))) := fun W => nums_one b W hb
  have la := numB_length a
  have lb := numB_length b
  have ls := textB_size s
  have lt := textB_size t
  have za : (⟨(Pl.numB a).toArray⟩ : ByteArray).size ≤ 9 := by simpa [ByteArray.size] using la
  have zb : (⟨(Pl.numB b).toArray⟩ : ByteArray).size ≤ 9 := by simpa [ByteArray.size] using lb
  have zs : (⟨(textB s.data.toList).toArray⟩ : ByteArray).size ≤ 2097154 := by omega
  have zt : (⟨(textB t.data.toList).toArray⟩ : ByteArray).size ≤ 2097154 := by omega
  clear hm la lb ls lt
  have TS : Hid (∀ W, MaxI W → Calls Tryd.prog 11 #[.string s] W (StrPost W.heap.size W (textB s.data.toList))) := fun W h => text_w s W h (by omega)
  have TT : Hid (∀ W, MaxI W → Calls Tryd.prog 11 #[.string t] W (StrPost W.heap.size W (textB t.data.toList))) := fun W h => text_w t W h (by omega)
  generalize Pl.numB a = x at *
  generalize Pl.numB b = y at *
  generalize textB s.data.toList = u at *
  generalize textB t.data.toList = v at *
  go_enter Tryd.func6, Tryd.ntmps6
  go_wp2_with fail
  refine (awake_any w).mono ?_
  rintro e w1 ⟨rfl, hb1⟩
  have HB1 := Lib.hid hb1
  clear hb1
  go_wp2_with fail
  refine (NA.out _).mono ?_
  rintro e w2 ⟨rfl, hb1⟩
  have HB2 : Hid (Below w.heap.size w w2) := HB1.out.trans (hb1.mono HB1.out.size)
  clear hb1 HB1
  go_wp2_with fail
  refine (NB.out _).mono ?_
  rintro e w3 ⟨rfl, hb1⟩
  have HB3 : Hid (Below w.heap.size w w3) := HB2.out.trans (hb1.mono HB2.out.size)
  clear hb1 HB2
  go_wp2_with fail
  refine (stands_any _ _ w3 (1) hN.out).mono ?_
  rintro e w4 ⟨rfl, rfl⟩
  go_wp2_with fail
  refine (TS.out w3 (HM.out.grow HB3.out)).mono ?_
  rintro e w4 ⟨rfl, hb1⟩
  have HB4 : Hid (Below w.heap.size w w4) := HB3.out.trans (hb1.mono HB3.out.size)
  clear hb1 HB3
  go_wp2_with fail
  refine (TT.out w4 (HM.out.grow HB4.out)).mono ?_
  rintro e w5 ⟨rfl, hb1⟩
  have HB5 : Hid (Below w.heap.size w w5) := HB4.out.trans (hb1.mono HB4.out.size)
  clear hb1 HB4
  go_wp2_with fail
  refine (stands_any _ _ w5 c hT.out).mono ?_
  rintro e w6 ⟨rfl, rfl⟩
  go_wp2_with fail
  refine (stands_any _ _ w5 c hS.out).mono ?_
  rintro e w6 ⟨rfl, rfl⟩
  go_wp2_with fail
  refine (NA.out _).mono ?_
  rintro e w6 ⟨rfl, hb1⟩
  have HB6 : Hid (Below w.heap.size w w6) := HB5.out.trans (hb1.mono HB5.out.size)
  clear hb1 HB5
  go_wp2_with fail
  refine (NB.out _).mono ?_
  rintro e w7 ⟨rfl, hb1⟩
  have HB7 : Hid (Below w.heap.size w w7) := HB6.out.trans (hb1.mono HB6.out.size)
  clear hb1 HB6
  go_wp2_with fail
  refine (stands_any _ _ w7 (1) hN2.out).mono ?_
  rintro e w8 ⟨rfl, rfl⟩
  go_wp2_with fail
  go_ret
  exact ⟨rfl, HB7.out⟩
set_option maxRecDepth 100000 in
set_option maxHeartbeats 2000000 in
theorem tupleOrder_gt0 (a b : Int) (s t p q : ByteArray) (c : Int) (w : World) (hm : MaxI w) (ha : -9223372036854775808 ≤ a ∧ a ≤ 9223372036854775807) (hb : -9223372036854775808 ≤ b ∧ b ≤ 9223372036854775807) (hab : b < a) (hst : (s.toList == t.toList) = false)
    (hs : s.size ≤ 1048576) (ht : t.size ≤ 1048576) (_hp : p.size ≤ 1048576) (_hq : q.size ≤ 1048576)
    (hN : Hid (cp (Pl.numB a) (Pl.numB b) = 1)) (hT : Hid (cp (textB s.data.toList) (textB t.data.toList) = c)) (hS : Hid (cp s.data.toList t.data.toList = c)) (hN2 : Hid (cp ((⟨(Pl.numB a).toArray⟩ : ByteArray) ++ p).data.toList ((⟨(Pl.numB b).toArray⟩ : ByteArray) ++ q).data.toList = 1)) (hT2 : Hid (cp ((⟨(textB s.data.toList).toArray⟩ : ByteArray) ++ p).data.toList ((⟨(textB t.data.toList).toArray⟩ : ByteArray) ++ q).data.toList = c)) :
    Calls Tryd.prog 6 #[.int .i64 a, .int .i64 b, .string s, .string t, .string p, .string q] w fun e w' => e = .returned (.bool true) ∧ Below w.heap.size w w' := by
  have HM := Lib.hid hm
  have NA : Hid (∀ W, Calls Tryd.prog 9 #[.slice (some ⟨W.heap.size, 0, none⟩) 1 1] (W.alloc (.cells #[.int .i64 a] 3)) (StrPost W.heap.size W (Pl.numB a))) := fun W => nums_one a W ha
  have NB : Hid (∀ W, Calls Tryd.prog 9 #[.slice (some ⟨W.heap.size, 0, none⟩) 1 1] (W.alloc (.cells #[.int .i64 b] 3)) (StrPost W.heap.size W (Pl.numB b))) := fun W => nums_one b W hb
  have la := numB_length a
  have lb := numB_length b
  have ls := textB_size s
  have lt := textB_size t
  have za : (⟨(Pl.numB a).toArray⟩ : ByteArray).size ≤ 9 := by simpa [ByteArray.size] using la
  have zb : (⟨(Pl.numB b).toArray⟩ : ByteArray).size ≤ 9 := by simpa [ByteArray.size] using lb
  have zs : (⟨(textB s.data.toList).toArray⟩ : ByteArray).size ≤ 2097154 := by omega
  have zt : (⟨(textB t.data.toList).toArray⟩ : ByteArray).size ≤ 2097154 := by omega
  clear hm la lb ls lt
  have TS : Hid (∀ W, MaxI W → Calls Tryd.prog 11 #[.string s] W (StrPost W.heap.size W (textB s.data.toList))) := fun W h => text_w s W h (by omega)
  have TT : Hid (∀ W, MaxI W → Calls Tryd.prog 11 #[.string t] W (StrPost W.heap.size W (textB t.data.toList))) := fun W h => text_w t W h (by omega)
  generalize Pl.numB a = x at *
  generalize Pl.numB b = y at *
  generalize textB s.data.toList = u at *
  generalize textB t.data.toList = v at *
  go_enter Tryd.func6, Tryd.ntmps6
  go_wp2_with fail
  refine (awake_any w).mono ?_
  rintro e w1 ⟨rfl, hb1⟩
  have HB1 := Lib.hid hb1
  clear hb1
  go_wp2_with fail
  refine (NA.out _).mono ?_
  rintro e w2 ⟨rfl, hb1⟩
  have HB2 : Hid (Below w.heap.size w w2) := HB1.out.trans (hb1.mono HB1.out.size)
  clear hb1 HB1
  go_wp2_with fail
  refine (NB.out _).mono ?_
  rintro e w3 ⟨rfl, hb1⟩
  have HB3 : Hid (Below w.heap.size w w3) := HB2.out.trans (hb1.mono HB2.out.size)
  clear hb1 HB2
  go_wp2_with fail
  refine (stands_any _ _ w3 (1) hN.out).mono ?_
  rintro e w4 ⟨rfl, rfl⟩
  go_wp2_with fail
  refine (TS.out w3 (HM.out.grow HB3.out)).mono ?_
  rintro e w4 ⟨rfl, hb1⟩
  have HB4 : Hid (Below w.heap.size w w4) := HB3.out.trans (hb1.mono HB3.out.size)
  clear hb1 HB3
  go_wp2_with fail
  refine (TT.out w4 (HM.out.grow HB4.out)).mono ?_
  rintro e w5 ⟨rfl, hb1⟩
  have HB5 : Hid (Below w.heap.size w w5) := HB4.out.trans (hb1.mono HB4.out.size)
  clear hb1 HB4
  go_wp2_with fail
  refine (stands_any _ _ w5 c hT.out).mono ?_
  rintro e w6 ⟨rfl, rfl⟩
  go_wp2_with fail
  refine (stands_any _ _ w5 c hS.out).mono ?_
  rintro e w6 ⟨rfl, rfl⟩
  go_wp2_with fail
  refine (NA.out _).mono ?_
  rintro e w6 ⟨rfl, hb1⟩
  have HB6 : Hid (Below w.heap.size w w6) := HB5.out.trans (hb1.mono HB5.out.size)
  clear hb1 HB5
  go_wp2_with fail
  refine (NB.out _).mono ?_
  rintro e w7 ⟨rfl, hb1⟩
  have HB7 : Hid (Below w.heap.size w w7) := HB6.out.trans (hb1.mono HB6.out.size)
  clear hb1 HB6
  go_wp2_with fail
  refine (stands_any _ _ w7 (1) hN2.out).mono ?_
  rintro e w8 ⟨rfl, rfl⟩
  go_wp2_with fail
  refine (TS.out w7 (HM.out.grow HB7.out)).mono ?_
  rintro e w8 ⟨rfl, hb1⟩
  have HB8 : Hid (Below w.heap.size w w8) := HB7.out.trans (hb1.mono HB7.out.size)
  clear hb1 HB7
  go_wp2_with fail
  refine (TT.out w8 (HM.out.grow HB8.out)).mono ?_
  rintro e w9 ⟨rfl, hb1⟩
  have HB9 : Hid (Below w.heap.size w w9) := HB8.out.trans (hb1.mono HB8.out.size)
  clear hb1 HB8
  go_wp2_with fail
  refine (stands_any _ _ w9 c hT2.out).mono ?_
  rintro e w10 ⟨rfl, rfl⟩
  go_wp2_with fail
  refine (stands_any _ _ w9 c hS.out).mono ?_
  rintro e w10 ⟨rfl, rfl⟩
  go_wp2_with fail
  go_ret
  exact ⟨rfl, HB9.out⟩
set_option maxRecDepth 100000 in
set_option maxHeartbeats 2000000 in
theorem tupleOrder_eq1 (a b : Int) (s t p q : ByteArray) (c : Int) (w : World) (hm : MaxI w) (ha : -9223372036854775808 ≤ a ∧ a ≤ 9223372036854775807) (hb : -9223372036854775808 ≤ b ∧ b ≤ 9223372036854775807) (h1 : ¬ a < b) (h2 : ¬ b < a) (hst : (s.toList == t.toList) = true)
    (hs : s.size ≤ 1048576) (ht : t.size ≤ 1048576) (_hp : p.size ≤ 1048576) (_hq : q.size ≤ 1048576)
    (hN : Hid (cp (Pl.numB a) (Pl.numB b) = 0)) (hT : Hid (cp (textB s.data.toList) (textB t.data.toList) = c)) (hS : Hid (cp s.data.toList t.data.toList = c)) :
    Calls Tryd.prog 6 #[.int .i64 a, .int .i64 b, .string s, .string t, .string p, .string q] w fun e w' => e = .returned (.bool true) ∧ Below w.heap.size w w' := by
  have HM := Lib.hid hm
  have NA : Hid (∀ W, Calls Tryd.prog 9 #[.slice (some ⟨W.heap.size, 0, none⟩) 1 1] (W.alloc (.cells #[.int .i64 a] 3)) (StrPost W.heap.size W (Pl.numB a))) := fun W => nums_one a W ha
  have NB : Hid (∀ W, Calls Tryd.prog 9 #[.slice (some ⟨W.heap.size, 0, none⟩) 1 1] (W.alloc (.cells #[.int .i64 b] 3)) (StrPost W.heap.size W (Pl.numB b))) := fun W => nums_one b W hb
  have la := numB_length a
  have lb := numB_length b
  have ls := textB_size s
  have lt := textB_size t
  have za : (⟨(Pl.numB a).toArray⟩ : ByteArray).size ≤ 9 := by simpa [ByteArray.size] using la
  have zb : (⟨(Pl.numB b).toArray⟩ : ByteArray).size ≤ 9 := by simpa [ByteArray.size] using lb
  have zs : (⟨(textB s.data.toList).toArray⟩ : ByteArray).size ≤ 2097154 := by omega
  have zt : (⟨(textB t.data.toList).toArray⟩ : ByteArray).size ≤ 2097154 := by omega
  clear hm la lb ls lt
  have TS : Hid (∀ W, MaxI W → Calls Tryd.prog 11 #[.string s] W (StrPost W.heap.size W (textB s.data.toList))) := fun W h => text_w s W h (by omega)
  have TT : Hid (∀ W, MaxI W → Calls Tryd.prog 11 #[.string t] W (StrPost W.heap.size W (textB t.data.toList))) := fun W h => text_w t W h (by omega)
  generalize Pl.numB a = x at *
  generalize Pl.numB b = y at *
  generalize textB s.data.toList = u at *
  generalize textB t.data.toList = v at *
  go_enter Tryd.func6, Tryd.ntmps6
  go_wp2_with fail
  refine (awake_any w).mono ?_
  rintro e w1 ⟨rfl, hb1⟩
  have HB1 := Lib.hid hb1
  clear hb1
  go_wp2_with fail
  refine (NA.out _).mono ?_
  rintro e w2 ⟨rfl, hb1⟩
  have HB2 : Hid (Below w.heap.size w w2) := HB1.out.trans (hb1.mono HB1.out.size)
  clear hb1 HB1
  go_wp2_with fail
  refine (NB.out _).mono ?_
  rintro e w3 ⟨rfl, hb1⟩
  have HB3 : Hid (Below w.heap.size w w3) := HB2.out.trans (hb1.mono HB2.out.size)
  clear hb1 HB2
  go_wp2_with fail
  refine (stands_any _ _ w3 (0) hN.out).mono ?_
  rintro e w4 ⟨rfl, rfl⟩
  go_wp2_with fail
  refine (TS.out w3 (HM.out.grow HB3.out)).mono ?_
  rintro e w4 ⟨rfl, hb1⟩
  have HB4 : Hid (Below w.heap.size w w4) := HB3.out.trans (hb1.mono HB3.out.size)
  clear hb1 HB3
  go_wp2_with fail
  refine (TT.out w4 (HM.out.grow HB4.out)).mono ?_
  rintro e w5 ⟨rfl, hb1⟩
  have HB5 : Hid (Below w.heap.size w w5) := HB4.out.trans (hb1.mono HB4.out.size)
  clear hb1 HB4
  go_wp2_with fail
  refine (stands_any _ _ w5 c hT.out).mono ?_
  rintro e w6 ⟨rfl, rfl⟩
  go_wp2_with fail
  refine (stands_any _ _ w5 c hS.out).mono ?_
  rintro e w6 ⟨rfl, rfl⟩
  go_wp2_with fail
  go_ret
  exact ⟨rfl, HB5.out⟩
set_option maxRecDepth 100000 in
set_option maxHeartbeats 2000000 in
theorem tupleOrder_eq0 (a b : Int) (s t p q : ByteArray) (c : Int) (w : World) (hm : MaxI w) (ha : -9223372036854775808 ≤ a ∧ a ≤ 9223372036854775807) (hb : -9223372036854775808 ≤ b ∧ b ≤ 9223372036854775807) (h1 : ¬ a < b) (h2 : ¬ b < a) (hst : (s.toList == t.toList) = false)
    (hs : s.size ≤ 1048576) (ht : t.size ≤ 1048576) (_hp : p.size ≤ 1048576) (_hq : q.size ≤ 1048576)
    (hN : Hid (cp (Pl.numB a) (Pl.numB b) = 0)) (hT : Hid (cp (textB s.data.toList) (textB t.data.toList) = c)) (hS : Hid (cp s.data.toList t.data.toList = c)) (hT2 : Hid (cp ((⟨(textB s.data.toList).toArray⟩ : ByteArray) ++ p).data.toList ((⟨(textB t.data.toList).toArray⟩ : ByteArray) ++ q).data.toList = c)) :
    Calls Tryd.prog 6 #[.int .i64 a, .int .i64 b, .string s, .string t, .string p, .string q] w fun e w' => e = .returned (.bool true) ∧ Below w.heap.size w w' := by
  have HM := Lib.hid hm
  have NA : Hid (∀ W, Calls Tryd.prog 9 #[.slice (some ⟨W.heap.size, 0, none⟩) 1 1] (W.alloc (.cells #[.int .i64 a] 3)) (StrPost W.heap.size W (Pl.numB a))) := fun W => nums_one a W ha
  have NB : Hid (∀ W, Calls Tryd.prog 9 #[.slice (some ⟨W.heap.size, 0, none⟩) 1 1] (W.alloc (.cells #[.int .i64 b] 3)) (StrPost W.heap.size W (Pl.numB b))) := fun W => nums_one b W hb
  have la := numB_length a
  have lb := numB_length b
  have ls := textB_size s
  have lt := textB_size t
  have za : (⟨(Pl.numB a).toArray⟩ : ByteArray).size ≤ 9 := by simpa [ByteArray.size] using la
  have zb : (⟨(Pl.numB b).toArray⟩ : ByteArray).size ≤ 9 := by simpa [ByteArray.size] using lb
  have zs : (⟨(textB s.data.toList).toArray⟩ : ByteArray).size ≤ 2097154 := by omega
  have zt : (⟨(textB t.data.toList).toArray⟩ : ByteArray).size ≤ 2097154 := by omega
  clear hm la lb ls lt
  have TS : Hid (∀ W, MaxI W → Calls Tryd.prog 11 #[.string s] W (StrPost W.heap.size W (textB s.data.toList))) := fun W h => text_w s W h (by omega)
  have TT : Hid (∀ W, MaxI W → Calls Tryd.prog 11 #[.string t] W (StrPost W.heap.size W (textB t.data.toList))) := fun W h => text_w t W h (by omega)
  generalize Pl.numB a = x at *
  generalize Pl.numB b = y at *
  generalize textB s.data.toList = u at *
  generalize textB t.data.toList = v at *
  go_enter Tryd.func6, Tryd.ntmps6
  go_wp2_with fail
  refine (awake_any w).mono ?_
  rintro e w1 ⟨rfl, hb1⟩
  have HB1 := Lib.hid hb1
  clear hb1
  go_wp2_with fail
  refine (NA.out _).mono ?_
  rintro e w2 ⟨rfl, hb1⟩
  have HB2 : Hid (Below w.heap.size w w2) := HB1.out.trans (hb1.mono HB1.out.size)
  clear hb1 HB1
  go_wp2_with fail
  refine (NB.out _).mono ?_
  rintro e w3 ⟨rfl, hb1⟩
  have HB3 : Hid (Below w.heap.size w w3) := HB2.out.trans (hb1.mono HB2.out.size)
  clear hb1 HB2
  go_wp2_with fail
  refine (stands_any _ _ w3 (0) hN.out).mono ?_
  rintro e w4 ⟨rfl, rfl⟩
  go_wp2_with fail
  refine (TS.out w3 (HM.out.grow HB3.out)).mono ?_
  rintro e w4 ⟨rfl, hb1⟩
  have HB4 : Hid (Below w.heap.size w w4) := HB3.out.trans (hb1.mono HB3.out.size)
  clear hb1 HB3
  go_wp2_with fail
  refine (TT.out w4 (HM.out.grow HB4.out)).mono ?_
  rintro e w5 ⟨rfl, hb1⟩
  have HB5 : Hid (Below w.heap.size w w5) := HB4.out.trans (hb1.mono HB4.out.size)
  clear hb1 HB4
  go_wp2_with fail
  refine (stands_any _ _ w5 c hT.out).mono ?_
  rintro e w6 ⟨rfl, rfl⟩
  go_wp2_with fail
  refine (stands_any _ _ w5 c hS.out).mono ?_
  rintro e w6 ⟨rfl, rfl⟩
  go_wp2_with fail
  refine (TS.out w5 (HM.out.grow HB5.out)).mono ?_
  rintro e w8 ⟨rfl, hb1⟩
  have HB8 : Hid (Below w.heap.size w w8) := HB5.out.trans (hb1.mono HB5.out.size)
  clear hb1 HB5
  go_wp2_with fail
  refine (TT.out w8 (HM.out.grow HB8.out)).mono ?_
  rintro e w9 ⟨rfl, hb1⟩
  have HB9 : Hid (Below w.heap.size w w9) := HB8.out.trans (hb1.mono HB8.out.size)
  clear hb1 HB8
  go_wp2_with fail
  refine (stands_any _ _ w9 c hT2.out).mono ?_
  rintro e w10 ⟨rfl, rfl⟩
  go_wp2_with fail
  refine (stands_any _ _ w9 c hS.out).mono ?_
  rintro e w10 ⟨rfl, rfl⟩
  go_wp2_with fail
  go_ret
  exact ⟨rfl, HB9.out⟩
end Go.Proofs.YtilbmbddocimkaaDoor
