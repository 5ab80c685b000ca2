/-
  A cursor over any bytes, by any calls, answers what the document says, and stands where it says: the statement, for every text and every list of calls. No condition.
-/
import Derived.Test.YtilbmbddocimkaaGoes
import Derived.Deep.RegionHeld3
import Derived.Deep.RegionWith
import Derived.Test.YtilbmbddocimkaaRows
import Derived.ProofKit
import Derived.OpenShut
import Derived.ShutString
import Derived.ChangeOld
import Derived.SizedLaws
namespace Go.Proofs.Ytilbmbddocimkaa
open Go.RowKit

theorem getD_mem (zs : List Int) (k : Nat) (h : k < zs.length) : zs.getD k 0 ∈ zs := by
  rw [List.getD, List.getElem?_eq_getElem h]
  exact List.getElem_mem _

set_option maxRecDepth 100000 in
set_option maxHeartbeats 1000000 in
theorem tupleGoes_some (s : ByteArray) (w : World) (hsz : s.size ≤ 140737488351232) (b off len cap : Nat) (zs : List Int) (hb : b < w.heap.size) (hlen : len ≤ zs.length) (_hl63 : len ≤ 9223372036854775807)
    (hc : Hid (∀ j, j < zs.length → w.cell? ⟨b, off + j, none⟩ = some (.int .u8 (zs.getD j 0)))) (hwf : Hid (∀ n ∈ zs, 0 ≤ n ∧ n ≤ 255)) :
    Calls Try.prog 3 #[.string s, .slice (some ⟨b, off, none⟩) len cap] w fun e w' => e = .returned (.bool true) ∧ Below w.heap.size w w' := by
  go_enter Try.func3, Try.ntmps3
  go_wp2_with fail
  refine (at_any s w).mono ?_
  rintro e w1 ⟨rfl, rfl⟩
  have HC0 := Lib.hid (at_cur s w 37)
  have HB0 : Hid (Below w.heap.size w (w.alloc (.cells #[.string s] 37))) := (Below.refl _ _).alloc (Nat.le_refl _) _
  go_wp2_with fail
  refine (awake_any _).mono ?_
  rintro e w1 ⟨rfl, hb1⟩
  have HC1 := Lib.hid (HC0.out.below hb1 HC0.out.lt)
  have HB1 : Hid (Below w.heap.size w w1) := HB0.out.trans (hb1.mono (by simp))
  clear hb1 HC0 HB0
  go_wp2_with fail
  refine (rest_any s w.heap.size w1 HC1.out).mono ?_
  rintro e w2 ⟨rfl, rfl⟩
  go_wp2_with fail
  go_loopw [6] (fun i wr => ∃ (k : Nat) (st : ByteArray), k ≤ len ∧ i = .int .i64 k ∧ Cur wr w.heap.size st ∧ st.size ≤ s.size ∧ Below w.heap.size w wr) (fun i _ => len - (intOf i).toNat)
  case atStart => exact ⟨0, s, Nat.zero_le _, rfl, HC1.out, Nat.le_refl _, HB1.out⟩
  case round =>
    clear HC1 HB1
    obtain ⟨k, st, hk, rfl, hcur, hst, hbel⟩ := hrel
    have HCU := Lib.hid hcur
    have HBE := Lib.hid hbel
    by_cases hlt : k < len ∧ k < 200
    · obtain ⟨hl1, hl2⟩ := hlt
      have hcell : wr.cell? ⟨b, off + k, none⟩ = some (.int .u8 (zs.getD k 0)) := (hbel.cell (p := ⟨b, off + k, none⟩) hb).trans (hc.out k (by omega))
      have hx := hwf.out (zs.getD k 0) (getD_mem zs k (by omega))
      clear hbel hcur
      generalize zs.getD k 0 = x at *
      obtain ⟨hx0, hx1⟩ := hx
      obtain ⟨q, hq⟩ : ∃ q, q = x % 4 := ⟨_, rfl⟩
      have hq0 : 0 ≤ q := by omega
      have hq3 : q ≤ 3 := by omega
      have hcd : Cur wr.drew w.heap.size st := HCU.out
      have HCD := Lib.hid hcd
      have HW : Hid (∀ wx, Cur wx w.heap.size st → Calls Try.prog 8 #[.pointer (some ⟨w.heap.size, 0, none⟩), .string st, .int .i64 q] wx (WentAny w.heap.size wx st.size)) := fun wx h => went_any st w.heap.size wx h (by omega) q hq0 hq3
      clear hcd
      go_wp2_with fail
      have r0 : x.tmod 4 = q := by rw [Int.tmod_eq_emod_of_nonneg hx0]; exact hq.symm
      have r1 : IntKind.u8.wrap q = q := IntWalk.u8_in _ (by omega)
      have r2 : IntKind.i64.wrap q = q := IntWalk.i64_in _ (by omega)
      have r3 : x % 4 = q := hq.symm
      have i1 : (k : Int) < (len : Int) := by omega
      clear hq
      go_region_with (first | (go_at_call 7; refine (rest_any st w.heap.size _ HCD.out).mono ?_; rintro e w' ⟨rfl, rfl⟩) | (go_at_call 8; refine (HW.out _ HCD.out).mono ?_; rintro e w' ⟨rfl, hb', st', hc', hs'⟩))
      all_goals
        have HB' : Hid (Below w.heap.size w w') := (HBE.out.drew).trans hb'
        have HC' := Lib.hid hc'
        clear hb' hc' HBE HCD HCU HW hcell r0 r1 r2 r3 i1
        go_wp2
        go_roundw
        case rel => exact ⟨k + 1, st', by omega, by go_num, HC'.out, by omega, HB'.out⟩
        case measure => simp [intOf]; omega
    · clear hbel hcur
      by_cases hse : st.size = 0
      · have he := empty_true st hse
        have hE : Hid (Calls Try.prog 9 #[.pointer (some ⟨w.heap.size, 0, none⟩)] wr fun e' w' => e' = .returned (.int .i64 0) ∧ wr = w') := end_none st w.heap.size wr HCU.out hse
        clear hse
        by_cases hl1 : k < len
        · have hl2 : 200 ≤ k := by omega
          clear hlt
          go_wp2_with (first | (go_at_call 9; refine hE.out.mono ?_; rintro e w' ⟨rfl, rfl⟩) | (go_at_call 7; refine (rest_any st w.heap.size _ HCU.out).mono ?_; rintro e w' ⟨rfl, rfl⟩))
          go_ret
          exact ⟨rfl, HBE.out⟩
        · clear hlt
          go_wp2_with (first | (go_at_call 9; refine hE.out.mono ?_; rintro e w' ⟨rfl, rfl⟩) | (go_at_call 7; refine (rest_any st w.heap.size _ HCU.out).mono ?_; rintro e w' ⟨rfl, rfl⟩))
          go_ret
          exact ⟨rfl, HBE.out⟩
      · have hse' : 0 < st.size := by omega
        have he := empty_false st hse'
        have hE : Hid (Calls Try.prog 9 #[.pointer (some ⟨w.heap.size, 0, none⟩)] wr fun e' w' => e' = .returned (.int .i64 5) ∧ wr = w') := end_some st w.heap.size wr HCU.out hse'
        clear hse
        by_cases hl1 : k < len
        · have hl2 : 200 ≤ k := by omega
          clear hlt
          go_wp2_with (first | (go_at_call 9; refine hE.out.mono ?_; rintro e w' ⟨rfl, rfl⟩) | (go_at_call 7; refine (rest_any st w.heap.size _ HCU.out).mono ?_; rintro e w' ⟨rfl, rfl⟩))
          go_ret
          exact ⟨rfl, HBE.out⟩
        · clear hlt
          go_wp2_with (first | (go_at_call 9; refine hE.out.mono ?_; rintro e w' ⟨rfl, rfl⟩) | (go_at_call 7; refine (rest_any st w.heap.size _ HCU.out).mono ?_; rintro e w' ⟨rfl, rfl⟩))
          go_ret
          exact ⟨rfl, HBE.out⟩

set_option maxRecDepth 100000 in
set_option maxHeartbeats 1000000 in
theorem tupleGoes_none (s : ByteArray) (w : World) (a : Option Addr) (cap : Nat) :
    Calls Try.prog 3 #[.string s, .slice a 0 cap] w fun e w' => e = .returned (.bool true) ∧ Below w.heap.size w w' := by
  go_enter Try.func3, Try.ntmps3
  go_wp2_with fail
  refine (at_any s w).mono ?_
  rintro e w1 ⟨rfl, rfl⟩
  have HC0 := Lib.hid (at_cur s w 37)
  have HB0 : Hid (Below w.heap.size w (w.alloc (.cells #[.string s] 37))) := (Below.refl _ _).alloc (Nat.le_refl _) _
  go_wp2_with fail
  refine (awake_any _).mono ?_
  rintro e w1 ⟨rfl, hb1⟩
  have HC1 := Lib.hid (HC0.out.below hb1 HC0.out.lt)
  have HB1 : Hid (Below w.heap.size w w1) := HB0.out.trans (hb1.mono (by simp))
  clear hb1 HC0 HB0
  go_wp2_with fail
  refine (rest_any s w.heap.size w1 HC1.out).mono ?_
  rintro e w2 ⟨rfl, rfl⟩
  go_wp2_with fail
  by_cases hse : s.size = 0
  · have he := empty_true s hse
    have hE : Hid (Calls Try.prog 9 #[.pointer (some ⟨w.heap.size, 0, none⟩)] w1 fun e' w' => e' = .returned (.int .i64 0) ∧ w1 = w') := end_none s w.heap.size w1 HC1.out hse
    clear hse
    refine wp_loop_rounds 1 ?_
    rw [rounds_succ]
    go_wp2_with (first | (go_at_call 9; refine hE.out.mono ?_; rintro e w' ⟨rfl, rfl⟩) | (go_at_call 7; refine (rest_any s w.heap.size _ HC1.out).mono ?_; rintro e w' ⟨rfl, rfl⟩))
    go_ret
    exact ⟨rfl, HB1.out⟩
  · have hse' : 0 < s.size := by omega
    have he := empty_false s hse'
    have hE : Hid (Calls Try.prog 9 #[.pointer (some ⟨w.heap.size, 0, none⟩)] w1 fun e' w' => e' = .returned (.int .i64 5) ∧ w1 = w') := end_some s w.heap.size w1 HC1.out hse'
    clear hse
    refine wp_loop_rounds 1 ?_
    rw [rounds_succ]
    go_wp2_with (first | (go_at_call 9; refine hE.out.mono ?_; rintro e w' ⟨rfl, rfl⟩) | (go_at_call 7; refine (rest_any s w.heap.size _ HC1.out).mono ?_; rintro e w' ⟨rfl, rfl⟩))
    go_ret
    exact ⟨rfl, HB1.out⟩
end Go.Proofs.Ytilbmbddocimkaa
namespace Go.Proofs.Ytilbmbddocimkaa.lawGoes
open Go.ChangeShapes Go.WideShapes Go.ChangeAt Go.RowKit
open Go.ChangeMaps (open_string shut_string)
set_option linter.unusedVariables false

theorem own : ownKnob Try.prog.godebug = none := by kernel_rfl
theorem laidOut : laidOutB Try.prog = true := by kernel_rfl

/-- What the walk is told of a slice of bytes that came in. -/
def IsRow (k : IntKind) (w : World) (a : Option Addr) (len cap : Nat) (zs : List Int) : Prop :=
  (a = none ∧ len = 0 ∧ cap = 0 ∧ zs = []) ∨
  ∃ x, a = some x ∧ len ≤ cap ∧ cap ≤ maxLen ∧ zs.length = cap ∧ (∀ i, i < zs.length → w.cell? (x.add i) = some (.int k (zs.getD i 0))) ∧ ∀ n ∈ zs, (Lit.int k n).wf = true

theorem u8_wf (n : Int) (h : (Lit.int .u8 n).wf = true) : 0 ≤ n ∧ n ≤ 255 := bounds_u8 h

theorem walk (a0 : ByteArray) (a1 : Option Addr) (len1 cap1 : Nat) (z1 : List Int) (w : World) (hsz : a0.size ≤ 140737488351232) (w1 : IsRow .u8 w a1 len1 cap1 z1) :
    Calls Try.prog 3 #[.string a0, .slice a1 len1 cap1] w fun e w' => e = .returned (.bool true) ∧ Below w.heap.size w w' := by
  rcases w1 with ⟨rfl, rfl, rfl, rfl⟩ | ⟨x, rfl, hl, hm, hz, hcell, hwz⟩
  · exact tupleGoes_none a0 w none 0
  · by_cases h0 : len1 = 0
    · subst h0
      exact tupleGoes_none a0 w _ cap1
    · obtain ⟨b, off, spot⟩ := x
      have hc := hcell 0 (by omega)
      have hspot : spot = none := by simpa [Addr.add] using World.cell?_spot hc
      subst hspot
      have hlt : b < w.heap.size := World.block_lt_of_cell? w _ hc
      unfold maxLen at hm
      refine tupleGoes_some a0 w hsz b off len1 cap1 z1 hlt (by omega) (by omega) ?_ ?_
      · intro j hj
        have := hcell j hj
        rw [show (⟨b, off, none⟩ : Addr).add j = ⟨b, off + j, none⟩ from by unfold Addr.add; split <;> simp_all] at this
        exact this
      · intro n hn
        exact u8_wf n (hwz n hn)

set_option maxRecDepth 100000 in
theorem lifted (os : Os) (started : os.Started) (H : Type) (enc : TypeId × Value → H) :
    ReturnsInHanded {} Try.checked os 3 .any (Rows.tupleGoesSpec.pre6 enc Try.prog Try.f3 Rows.tupleGoesRow.domain false) (Rows.tupleGoesSpec.post enc Try.prog Try.f3 false true false false) := by
  refine returnsInHanded_of_change_sized (C := Try.checked) own started (by kernel_rfl) Try.func3
    (ChangeSpec.witness6 (enc := enc) (C := Try.checked) false ⟨#[], #[.string ByteArray.empty, .slice none 0 0], []⟩ 8 (by kernel_rfl) (by kernel_rfl) (by kernel_rfl) (by kernel_rfl)) ?_
  intro W base args ds gs before hval0 hW hcnd hsz0 _
  have hsz : (DataW.weightsEach Try.prog (Try.f3.params.toList ++ Rows.tupleGoesSpec.plain.varTypes Try.prog) (ds ++ gs)).all (· ≤ reachBytes) = true := hsz0
  clear hsz0
  have hval : ∀ (j : Nat) t v, Try.f3.params[j]? = some t → args[j]? = some v → Value.okWide Try.prog W .any base t v := hval0
  have hW' := hW
  obtain ⟨p, q, hA0, hV, rfl, hfz, hnd⟩ := hW
  have hA : DataW.TrodAll enc Try.prog W 0 (fun _ => true) true Try.f3.params.toList args.toList ds p := hA0
  rw [Try.params3] at hA hval hsz
  obtain ⟨v0, vs0, d0, ds0, p0, q0, hargs, rfl, rfl, h0, r0⟩ := trodAll_cons hA
  obtain ⟨v1, vs1, d1, ds1, p1, q1, rfl, rfl, rfl, h1, r1⟩ := trodAll_cons r0
  obtain ⟨rfl, rfl, rfl⟩ := trodAll_nil r1
  obtain rfl : args = #[v0, v1] := by cases args; simp_all
  obtain ⟨rfl, rfl⟩ := trodVars_none hV
  obtain ⟨a0, rfl, rfl, rfl, w0⟩ := open_string Try.underlying9 (hval 0 9 v0 rfl rfl) h0
  have hs0 : a0.size ≤ 140737488351232 := by
    have := sized_string hsz (j := 0) (t := 9) rfl rfl
    simpa [reachBytes] using this
  obtain ⟨a1, len1, cap1, rfl⟩ := okWide_slice Try.underlying22 (hval 1 22 v1 rfl rfl)
  have k1 := h1
  have lt1 : ∀ x ∈ p1, x.block < W.heap.size := by obtain ⟨m, hm⟩ := k1; exact DataW.trod_lt m _ _ _ hm
  obtain ⟨z1, w1⟩ : ∃ zs, IsRow .u8 W a1 len1 cap1 zs := by
    obtain ⟨fuel, hf⟩ := h1
    rcases open_ints Try.underlying22 Try.underlying5 (by kernel_rfl) hf with ⟨hcs, _⟩ | ⟨x, l, c, zs, hcs, _, hl, hm, hz, _, hcell, hwz⟩
    · simp [Value.cells] at hcs
      obtain ⟨rfl, rfl, rfl⟩ := hcs
      exact ⟨[], .inl ⟨rfl, rfl, rfl, rfl⟩⟩
    · simp [Value.cells] at hcs
      obtain ⟨rfl, rfl, rfl⟩ := hcs
      exact ⟨zs, .inr ⟨_, rfl, hl, hm, by simpa using hz, hcell, hwz⟩⟩
  clear hA0 hval0
  refine (walk a0 a1 len1 cap1 z1 W hs0 w1).mono fun e W' ⟨he, bel⟩ => ?_
  subst he
  exact ⟨_, rfl, _, _, _, [], _, [], hW', trodAll_mk1 (shut_bool Try.underlying4 _), (trodAll_cons_mk (shut_string Try.underlying9 w0) (trodAll_cons_mk (Below.trod laidOut (by kernel_rfl) (of_decide_eq_true (by kernel_rfl)) k1 bel lt1) trodAll_mk0)), rfl, bel.frame _, fun h => by cases h⟩

theorem over : Rows.tupleGoesRow.holds Try.pinned (OpenSpec.ofChange Rows.tupleGoesSpec) :=
  OpenClaim.holds_of_wide 3 Try.f3 rfl rfl rfl rfl rfl rfl rfl ⟨rfl, rfl, rfl, rfl, rfl⟩ rfl rfl rfl rfl rfl (by kernel_rfl) Try.func3 (by kernel_rfl)
    (of_decide_eq_true (by kernel_rfl)) (by unfold Func.isWrapper; first | (rw [if_pos (by decide +kernel)]; kernel_rfl) | (rw [if_neg (by decide +kernel)]; exact ⟨rfl, rfl⟩))
    (fun os started H enc _ => lifted os started H enc)

/-- The statement. -/
theorem proved : Rows.TupleGoesSaid := over
end Go.Proofs.Ytilbmbddocimkaa.lawGoes
