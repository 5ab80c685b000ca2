/-
  What one call of a cursor does to the world; and what it has gone over, written again.
-/
import Derived.Test.YtilbmbddocimkaaDoorItem
namespace Go.Proofs.YtilbmbddocimkaaDoor
open Go.RowKit Od Rw Iv

/-- A call has answered and laid the rest into its cell; all else of what lay stays. -/
def SetPost (b : Nat) (w : World) (v : Value) (e : Int) (r : ByteArray) (e' : Ending) (w' : World) : Prop :=
  e' = .returned (.tuple #[v, .int .i64 e]) ∧ ∃ w1, Below w.heap.size w w1 ∧ w' = w1.setCell ⟨b, 0, none⟩ (.string r)

set_option maxHeartbeats 400000 in
theorem num_set (s : ByteArray) (b : Nat) (w : World) (hc : Cur w b s) (hsz : s.size ≤ 140737488351232) (n z e : Int) (hr : Pl.rdNum s.data.toList = (n, z, e)) :
    Calls Tryd.prog 17 #[.pointer (some ⟨b, 0, none⟩)] w (SetPost b w (.int .i64 n) e (rest s z)) := by
  have hk := readNum_any s w (by omega) n z e hr
  have hb := rdNum_bd _ _ _ _ hr
  have hlen : s.data.toList.length = s.size := by simp
  rw [hlen] at hb
  have HC := Lib.hid hk
  clear hr hk hlen
  obtain ⟨_, ⟨b3, b4⟩, _, _⟩ := hb
  obtain ⟨h1, h2⟩ := hc
  go_enter Tryd.func17, Tryd.ntmps17
  go_wp2_with (first | (go_at_call 28; refine HC.out.mono ?_; rintro e w' ⟨rfl, rfl⟩) | go_in)
  go_ret2
  exact ⟨rfl, _, Below.refl _ _, rfl⟩

set_option maxHeartbeats 400000 in
theorem block_set (s : ByteArray) (b : Nat) (w : World) (hc : Cur w b s) (hsz : s.size ≤ 140737488351232) (t : List UInt8) (z e : Int) (hr : Pl.rdBlock s.data.toList = (t, z, e)) :
    Calls Tryd.prog 19 #[.pointer (some ⟨b, 0, none⟩)] w (SetPost b w (.string ⟨t.toArray⟩) e (rest s z)) := by
  have hk := readBlock_any s w (by omega) t z e hr
  have hb := rdBlock_bd _ _ _ _ hr
  have hlen : s.data.toList.length = s.size := by simp
  rw [hlen] at hb
  have HC := Lib.hid hk
  clear hr hk hlen
  obtain ⟨⟨b3, b4⟩, _, _⟩ := hb
  obtain ⟨h1, h2⟩ := hc
  go_enter Tryd.func19, Tryd.ntmps19
  go_wp2_with (first | (go_at_call 31; refine HC.out.mono ?_; rintro e w' ⟨rfl, rfl⟩) | go_in)
  go_ret2
  exact ⟨rfl, _, Below.refl _ _, rfl⟩

set_option maxHeartbeats 400000 in
theorem text_set (s : ByteArray) (b : Nat) (w : World) (hc : Cur w b s) (hsz : s.size ≤ 140737488351232) (t : List UInt8) (z e : Int) (hr : Pl.rdText s.data.toList [] 0 = (t, z, e)) :
    Calls Tryd.prog 18 #[.pointer (some ⟨b, 0, none⟩)] w (SetPost b w (.string ⟨t.toArray⟩) e (rest s z)) := by
  have hk := readText_any s w hsz t z e hr
  have hb := rdText_bd _ _ _ _ _ _ _ (Nat.le_refl _) hr
  have hlen : s.data.toList.length = s.size := by simp
  rw [hlen] at hb
  have HC := Lib.hid hk
  have hlt := hc.lt
  have HK := Lib.hid hc
  clear hr hk hlen
  obtain ⟨⟨b3, b4⟩, _, _⟩ := hb
  have b4 : z ≤ (s.size : Int) := by omega
  obtain ⟨h1, h2⟩ := hc
  go_enter Tryd.func18, Tryd.ntmps18
  go_wp2_with (first | (go_at_call 30; refine HC.out.mono ?_; rintro e w1 ⟨rfl, hb1⟩; have hcu := HK.out.below hb1 hlt; obtain ⟨k1, k2⟩ := hcu; have HB := Lib.hid hb1; clear hb1) | go_in)
  go_ret2
  exact ⟨rfl, _, HB.out, rfl⟩

/-- An item of one's own, in its block. -/
def XAt (W : World) (X : Nat) (kd n : Int) (s : ByteArray) : Prop :=
  (W.cell? ⟨X, 0, none⟩ = some (.int .u8 kd) ∧ W.frozen? ⟨X, 0, none⟩ = false) ∧ (W.cell? ⟨X, 1, none⟩ = some (.int .i64 n) ∧ W.frozen? ⟨X, 1, none⟩ = false) ∧ (W.cell? ⟨X, 2, none⟩ = some (.string s) ∧ W.frozen? ⟨X, 2, none⟩ = false)
theorem XAt.lt {W : World} {X : Nat} {kd n : Int} {s : ByteArray} (h : XAt W X kd n s) : X < W.heap.size := World.block_lt_of_cell? W _ h.1.1
theorem XAt.below {W W' : World} {X B : Nat} {kd n : Int} {s : ByteArray} (h : XAt W X kd n s) (hb : Below B W W') (hB : X < B) : XAt W' X kd n s :=
  ⟨⟨(hb.cell (p := ⟨X, 0, none⟩) hB).trans h.1.1, (hb.frozen (p := ⟨X, 0, none⟩) hB).trans h.1.2⟩, ⟨(hb.cell (p := ⟨X, 1, none⟩) hB).trans h.2.1.1, (hb.frozen (p := ⟨X, 1, none⟩) hB).trans h.2.1.2⟩, ⟨(hb.cell (p := ⟨X, 2, none⟩) hB).trans h.2.2.1, (hb.frozen (p := ⟨X, 2, none⟩) hB).trans h.2.2.2⟩⟩
theorem XAt.grow {W W' : World} {X : Nat} {kd n : Int} {s : ByteArray} (h : XAt W X kd n s) (hb : Below W.heap.size W W') : XAt W' X kd n s := h.below hb h.lt
theorem XAt.put {W : World} {X B : Nat} {kd n : Int} {s : ByteArray} (h : XAt W X kd n s) (hne : B ≠ X) (v : Value) : XAt (W.setCell ⟨B, 0, none⟩ v) X kd n s := by
  obtain ⟨⟨a1, a2⟩, ⟨b1, b2⟩, ⟨c1, c2⟩⟩ := h
  refine ⟨⟨?_, (World.frozen?_setCell _ _ _ _).trans a2⟩, ⟨?_, (World.frozen?_setCell _ _ _ _).trans b2⟩, ⟨?_, (World.frozen?_setCell _ _ _ _).trans c2⟩⟩
  · exact (World.cell?_setCell_other _ _ _ _ (fun e => hne (congrArg Addr.block e))).trans a1
  · exact (World.cell?_setCell_other _ _ _ _ (fun e => hne (congrArg Addr.block e))).trans b1
  · exact (World.cell?_setCell_other _ _ _ _ (fun e => hne (congrArg Addr.block e))).trans c1

/-- What is known between the calls: the cursor in block B, the item in block X, all that came in as it was. -/
def Mid (w W : World) (B X : Nat) (st : ByteArray) (kd n : Int) (s : ByteArray) : Prop := Below w.heap.size w W ∧ Cur W B st ∧ XAt W X kd n s
theorem Mid.grow {w W W' : World} {B X : Nat} {st s : ByteArray} {kd n : Int} (h : Mid w W B X st kd n s) (hb : Below W.heap.size W W') : Mid w W' B X st kd n s :=
  ⟨h.1.trans (hb.mono h.1.size), h.2.1.below hb h.2.1.lt, h.2.2.grow hb⟩
theorem Mid.put {w W : World} {B X : Nat} {st s : ByteArray} {kd n : Int} (h : Mid w W B X st kd n s) (hB : w.heap.size ≤ B) (hne : B ≠ X) (r : ByteArray) : Mid w (W.setCell ⟨B, 0, none⟩ (.string r)) B X r kd n s :=
  ⟨h.1.setCell hB _, h.2.1.put r, h.2.2.put hne _⟩
theorem mid_set {w W w' : World} {B X : Nat} {st s r : ByteArray} {kd n : Int} {v : Value} {e : Int} {e' : Ending} (h : Mid w W B X st kd n s) (hB : w.heap.size ≤ B) (hne : B ≠ X) (hp : SetPost B W v e r e' w') :
    e' = .returned (.tuple #[v, .int .i64 e]) ∧ Mid w w' B X r kd n s := by
  obtain ⟨h1, w1, h2, rfl⟩ := hp
  exact ⟨h1, (h.grow h2).put hB hne r⟩

/-- What a step has gone over, written again, is what was gone over; where nothing was, nothing is. -/
def Again (st r : ByteArray) (ag : ByteArray) (n : Int) (s : ByteArray) (e : Int) : Prop := (e = 0 ∧ st = ag ++ r) ∨ ((e = 2 ∨ e = 3) ∧ r = st ∧ n = 0 ∧ s = ⟨#[]⟩)

theorem esc_ge (l : List UInt8) : l.length ≤ (esc l).length := by
  induction l with
  | nil => simp [esc]
  | cons b l ih =>
    rw [esc_cons, List.length_append, List.length_cons]
    split <;> simp only [List.length_cons, List.length_nil] <;> omega
theorem rest_zero (st : ByteArray) : rest st 0 = st := by
  refine WideShapes.bytes_inj ?_
  rw [rest_data]
  rfl
theorem again_of (st : ByteArray) (x : List UInt8) (z : Int) (h : x = st.data.toList.take z.toNat) : st = (⟨x.toArray⟩ : ByteArray) ++ rest st z := by
  refine WideShapes.bytes_inj ?_
  rw [ByteArray.data_append, Array.toList_append, rest_data]
  show _ = x ++ _
  rw [h, List.take_append_drop]
theorem one_num (st : ByteArray) : ∃ n z e, Pl.rdNum st.data.toList = (n, z, e) ∧ (-9223372036854775808 ≤ n ∧ n ≤ 9223372036854775807) ∧ Again st (rest st z) ⟨(Pl.numB n).toArray⟩ n ⟨#[]⟩ e := by
  obtain ⟨n, z, e, hr⟩ : ∃ n z e, Pl.rdNum st.data.toList = (n, z, e) := ⟨_, _, _, rfl⟩
  have hb := rdNum_bd _ _ _ _ hr
  refine ⟨n, z, e, hr, by omega, ?_⟩
  by_cases he : e = 0
  · subst he
    exact .inl ⟨rfl, again_of st _ z (num_one _ n z hr)⟩
  · obtain ⟨h1, h2⟩ := hb.2.2.2 he
    subst h1 h2
    exact .inr ⟨by omega, rest_zero st, rfl, rfl⟩
theorem one_text (st : ByteArray) : ∃ t z e, Pl.rdText st.data.toList [] 0 = (t, z, e) ∧ t.length ≤ st.size ∧ Again st (rest st z) ⟨(textB t).toArray⟩ 0 ⟨t.toArray⟩ e := by
  obtain ⟨t, z, e, hr⟩ : ∃ t z e, Pl.rdText st.data.toList [] 0 = (t, z, e) := ⟨_, _, _, rfl⟩
  have hb := rdText_bd _ _ _ _ _ _ _ (Nat.le_refl _) hr
  by_cases he : e = 0
  · subst he
    obtain ⟨u, h1, h2, h3⟩ := text_one _ _ _ _ _ _ (Nat.le_refl _) hr
    rw [List.nil_append] at h1
    subst h1
    refine ⟨t, z, 0, hr, ?_, .inl ⟨rfl, again_of st _ z (by simpa using h3)⟩⟩
    have h4 := congrArg List.length h3
    have h5 := esc_ge t
    rw [List.length_take] at h4
    have e : st.data.toList.length = st.size := by simp
    simp only [textB, List.length_append, List.length_cons, List.length_nil] at h4
    omega
  · obtain ⟨h1, h2⟩ := hb.2.2 he
    subst h1 h2
    exact ⟨[], 0, e, hr, Nat.zero_le _, .inr ⟨by omega, rest_zero st, rfl, rfl⟩⟩
theorem one_block (st : ByteArray) : ∃ t z e, Pl.rdBlock st.data.toList = (t, z, e) ∧ t.length ≤ st.size ∧ Again st (rest st z) ⟨(blockB t).toArray⟩ 0 ⟨t.toArray⟩ e := by
  obtain ⟨t, z, e, hr⟩ : ∃ t z e, Pl.rdBlock st.data.toList = (t, z, e) := ⟨_, _, _, rfl⟩
  have hb := rdBlock_bd _ _ _ _ hr
  by_cases he : e = 0
  · subst he
    have h3 := block_one _ _ _ hr
    refine ⟨t, z, 0, hr, ?_, .inl ⟨rfl, again_of st _ z h3⟩⟩
    have h4 := congrArg List.length h3
    rw [List.length_take] at h4
    have e : st.data.toList.length = st.size := by simp
    simp only [blockB, List.length_append] at h4
    omega
  · obtain ⟨h1, h2⟩ := hb.2.2 he
    subst h1 h2
    exact ⟨[], 0, e, hr, Nat.zero_le _, .inr ⟨by omega, rest_zero st, rfl, rfl⟩⟩
end Go.Proofs.YtilbmbddocimkaaDoor
