/-
  Two disks, called in turns by any script, answer and look as the document says behind every call: the statement, of scripts of bulk at most 1048576.
-/
import Derived.Test.YtdohenbicepicaaDl
import Derived.Test.YtdohenbicepicaaStrsF
import Derived.Test.YtdohenbicepicaaRows
import Derived.ProofKit
import Derived.OpenShut
import Derived.ShutString
import Derived.ChangeOld
import Derived.SizedLaws
import Derived.JoinedCond
import Derived.Lib.SmallJoins
import Derived.Deep.Strs
namespace Go.Proofs.Ytdohenbicepicaa.lawVfsPlays
open Go.ChangeShapes Go.WideShapes Go.ChangeAt Go.RowKit
open Go.ChangeMaps (open_string shut_string)
set_option linter.unusedVariables false

theorem own : ownKnob Try.prog.godebug = none := by kernel_rfl

theorem string_bulk' {H : Type} (s : ByteArray) : Rows.uptoBulk (DataW.lit (H := H) (.string s.data.toList)) = s.size + 1 := by
  simp [Rows.uptoBulk]
theorem bound' {H : Type} {l : List (DataW H)} (hk : Rows.uptoSmall H l = true) : Rows.uptoBulkAll l ≤ 1048576 := of_decide_eq_true hk

open frame
instance : Inhabited Stp := ⟨⟨0, ByteArray.empty, ByteArray.empty, 0⟩⟩
theorem parts_le {H : Type} (l : List (DataW H)) : Rows.uptoBulkAll l + 1 ≤ Rows.uptoBulk (.agg l) := by
  simp only [Rows.uptoBulk]
  omega
set_option maxRecDepth 100000 in
theorem steps_of {H : Type} {enc : TypeId × Value → H} {W : World} {a : Option Addr} {len cap : Nat} {d : DataW H} {p : List MemPlace}
    (h : DataW.Trod enc Try.prog W 0 (fun _ => true) true 22 (.slice a len cap) d p) (hb : Rows.uptoBulk d ≤ 1048576) : (∃ S, InSteps W a len S) ∧ len ≤ 9223372036854775807 := by
  obtain ⟨fuel, hf⟩ := h
  rcases Go.Deep.open_slice Try.underlying22 hf with ⟨hcs, hx⟩ | ⟨x, l, c, m, n, D, Pl, hcs, _, hl, hm, hmm, hx, hel⟩
  · simp [Value.cells] at hcs
    obtain ⟨rfl, rfl, rfl⟩ := hcs
    exact ⟨⟨fun _ => ⟨0, ByteArray.empty, ByteArray.empty, 0⟩, fun h => absurd h (by omega)⟩, by omega⟩
  · simp [Value.cells] at hcs
    obtain ⟨rfl, rfl, rfl⟩ := hcs
    simp only [if_true] at hmm
    subst hmm
    have hc : Try.prog.cellsOf 29 = 4 := by kernel_rfl
    have c3 : Try.prog.cellsOf 3 = 1 := by kernel_rfl
    have c9 : Try.prog.cellsOf 9 = 1 := by kernel_rfl
    simp only [hc] at hel
    have hd : d = .slice ((List.range len).map D) ((List.range (m - len)).map fun j => D (len + j)) := congrArg Prod.fst hx
    have each : ∀ i, i < len → ∃ q : Stp, W.cell? (x.add (i * 4)) = some (.int .i64 q.kind) ∧ W.cell? (x.add (i * 4 + 1)) = some (.string q.P) ∧ W.cell? (x.add (i * 4 + 2)) = some (.string q.Q) ∧ W.cell? (x.add (i * 4 + 3)) = some (.int .i64 q.n) ∧
        q.P.size ≤ 1048576 ∧ q.Q.size ≤ 1048576 ∧ (-9223372036854775808 ≤ q.n ∧ q.n ≤ 9223372036854775807) := by
      intro i hi
      obtain ⟨cs', h1, h2⟩ := hel i (by omega)
      obtain ⟨_, hlen, hcell⟩ := World.cells?_some h1
      obtain ⟨y0, y1, y2, y3, k, hxy, _, g0, g1, g2, g3⟩ := Go.Joins.trod_struct4 Try.underlying29 h2
      match cs', hlen with
      | [v0, v1, v2, v3], _ =>
        simp [c3, c9] at g0 g1 g2 g3
        have e0 := hcell 0 (by omega)
        have e1 := hcell 1 (by omega)
        have e2 := hcell 2 (by omega)
        have e3 := hcell 3 (by omega)
        rw [Go.Deep.add_add] at e0 e1 e2 e3
        obtain ⟨n0, f0, f1, f2⟩ := DataW.trod_int Try.underlying3 g0
        obtain ⟨s1, f3, f4, f5⟩ := DataW.trod_string Try.underlying9 g1
        obtain ⟨s2, f6, f7, f8⟩ := DataW.trod_string Try.underlying9 g2
        obtain ⟨n3, f9, f10, f11⟩ := DataW.trod_int Try.underlying3 g3
        simp at f0 f3 f6 f9
        subst f0 f3 f6 f9
        have hmem : D i ∈ (List.range len).map D := List.mem_map.2 ⟨i, List.mem_range.2 hi, rfl⟩
        have b1 := part_le hmem
        have b2 := slice_elems ((List.range len).map D) ((List.range (m - len)).map fun j => D (len + j))
        rw [← hd] at b2
        have hDi : D i = .agg [y0.1, y1.1, y2.1, y3.1] := congrArg Prod.fst hxy
        rw [hDi] at b1
        have b3 := parts_le [y0.1, y1.1, y2.1, y3.1]
        have b4 := part_le (x := y1.1) (l := [y0.1, y1.1, y2.1, y3.1]) (by simp)
        have b5 := part_le (x := y2.1) (l := [y0.1, y1.1, y2.1, y3.1]) (by simp)
        have hy1 : y1.1 = .lit (.string s1.data.toList) := by rw [f4]
        have hy2 : y2.1 = .lit (.string s2.data.toList) := by rw [f7]
        have b6 : Rows.uptoBulk y1.1 = s1.size + 1 := by rw [hy1]; exact frame.string_bulk s1
        have b7 : Rows.uptoBulk y2.1 = s2.size + 1 := by rw [hy2]; exact frame.string_bulk s2
        exact ⟨⟨n0, s1, s2, n3⟩, by simpa using e0, by simpa using e1, by simpa using e2, by simpa using e3, by show s1.size ≤ _; omega, by show s2.size ≤ _; omega, bounds_i64 f11⟩
    obtain ⟨q, hq⟩ := Go.Deep.choose_lt each
    refine ⟨⟨q, ?_⟩, by unfold maxLen at hm; omega⟩
    intro h0
    obtain ⟨b, off, spot⟩ := x
    have hc0 := (hq 0 h0).1
    have hspot : spot = none := by simpa [Addr.add] using World.cell?_spot hc0
    subst hspot
    have hadd : ∀ j, (⟨b, off, none⟩ : Addr).add j = ⟨b, off + j, none⟩ := by
      intro j
      unfold Addr.add
      split <;> simp_all
    refine ⟨b, off, rfl, World.block_lt_of_cell? W _ (by rw [hadd] at hc0; exact hc0), fun k hk => ?_⟩
    obtain ⟨g0, g1, g2, g3, g4, g5, g6⟩ := hq k hk
    rw [hadd] at g0 g1 g2 g3
    exact ⟨g0, g1, g2, g3, g4, g5, g6⟩

set_option maxRecDepth 100000 in
theorem lifted (os : Os) (started : os.Started) (H : Type) (enc : TypeId × Value → H) (F : Stop.Interp) :
    ReturnsInHanded {} Try.checked os 3 .any ((Rows.OpenSpec.upto Rows.vfsPlaysSpec).pre6 enc Try.prog Try.f3 Rows.vfsPlaysUptoRow.domain false) (((Rows.OpenSpec.upto Rows.vfsPlaysSpec).at F).post enc Try.prog Try.f3 false true false false) := by
  refine returnsInHanded_of_cond (C := Try.checked) (s := Rows.OpenSpec.upto Rows.vfsPlaysSpec) (k := Rows.uptoSmall) rfl own started (by kernel_rfl) Try.func3
    (OpenSpec.witness (enc := enc) (C := Try.checked) (s := Rows.OpenSpec.upto Rows.vfsPlaysSpec) (k := Rows.uptoSmall) rfl false ⟨#[], #[.slice none 0 0], []⟩ 8 (by kernel_rfl) (by kernel_rfl) (by kernel_rfl)
      (x := ([.nil], [], [])) (by kernel_rfl) rfl (by kernel_rfl)) ?_
  intro W base args ds gs before hval0 hW _ hk0 _
  have hk : Rows.uptoSmall H (ds ++ gs) = true := hk0
  have hval : ∀ (j : Nat) t v, Try.f3.params[j]? = some t → args[j]? = some v → Value.okWide Try.prog W .any base t v := hval0
  have hW' := hW
  obtain ⟨p, q, hA0, hV, rfl, hfz, hnd⟩ := hW
  have hA : DataW.TrodAll enc Try.prog W 0 (fun _ => true) true Try.f3.params.toList args.toList ds p := hA0
  rw [Try.params3] at hA hval
  obtain ⟨v0, vs0, d0, ds0, p0, q0, hargs, rfl, rfl, h0, r0⟩ := trodAll_cons hA
  obtain ⟨rfl, rfl, rfl⟩ := trodAll_nil r0
  obtain rfl : args = #[v0] := by cases args; simp_all
  obtain ⟨rfl, rfl⟩ := trodVars_none hV
  obtain ⟨a0, len0, cap0, rfl⟩ := okWide_slice Try.underlying22 (hval 0 22 v0 rfl rfl)
  have lt0 : ∀ x ∈ p0, x.block < W.heap.size := by obtain ⟨m, hm⟩ := h0; exact DataW.trod_lt m _ _ _ hm
  clear hA0 hval0
  have hbd := bound hk
  simp only [List.append_nil, Rows.uptoBulkAll] at hbd
  obtain ⟨⟨S, hS⟩, hl0⟩ := steps_of h0 (by omega)
  refine (vfsPlays_walk a0 len0 cap0 S W hS hl0).mono fun e W' ⟨he, bel⟩ => ?_
  subst he
  exact ⟨_, rfl, _, _, _, [], _, [], hW', trodAll_mk1 (shut_bool Try.underlying4 _), (trodAll_cons_mk (Below.trod frame.laidOut (by kernel_rfl) (of_decide_eq_true (by kernel_rfl)) h0 bel lt0) trodAll_mk0), rfl, bel.frame _, fun h => by cases h⟩

theorem over : Rows.vfsPlaysUptoRow.holds Try.pinned (Rows.OpenSpec.upto Rows.vfsPlaysSpec) :=
  OpenClaim.holds_of_cond 3 Try.f3 rfl rfl rfl rfl rfl rfl rfl ⟨rfl, rfl, rfl, rfl, rfl⟩ rfl rfl rfl rfl rfl (by kernel_rfl) Try.func3 (by kernel_rfl)
    (of_decide_eq_true (by kernel_rfl)) (by unfold Func.isWrapper; first | (rw [if_pos (by decide +kernel)]; kernel_rfl) | (rw [if_neg (by decide +kernel)]; exact ⟨rfl, rfl⟩))
    (fun os started H enc _ F => lifted os started H enc F)

/-- The statement. -/
theorem proved : Rows.VfsPlaysUptoSaid := over
end Go.Proofs.Ytdohenbicepicaa.lawVfsPlays
