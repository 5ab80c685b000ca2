/-
  What the program's Pack answers: the document's bytes.
-/
import Derived.Test.YtokdjaljeckghaaPj
namespace Go.Proofs.Ytokdjaljeckghaa
open Go.RowKit
theorem Try.infoBld : (Try.prog.info? 56).map (·.size) = some 2 := by kernel_rfl
theorem Try.infoByte : (Try.prog.info? 5).map (fun i => (i.zero, i.size, i.bytes)) = some (some (.int .u8 0), 1, 1) := by kernel_rfl
abbrev IsB (B b : Nat) (bs : List Value) (w : World) : Prop := Lib.IsBuilder 56 5 B b bs w
set_option maxRecDepth 100000 in
set_option maxHeartbeats 2000000 in
theorem copyCheck_any (B b : Nat) (bs : List Value) (w : World) (h : IsB B b bs w) :
    Calls Try.prog 44 #[.pointer (some ⟨b, 0, none⟩)] w fun e w' => e = .returned (.tuple #[]) ∧ (Lib.BuilderAt 56 5 B b (.pointer (some ⟨b, 0, none⟩)) bs w' ∧ Below B w w' ∧ ∀ k, k ≠ b → w'.heap[k]? = w.heap[k]?) := by
  obtain ⟨j, hj, hjs⟩ := Option.map_eq_some_iff.1 Try.infoBld
  have u53 := Try.underlying53
  have u104 := Try.underlying104
  rcases h with h | h
  · have h0 := h.cell0
    have hsh := h.shape
    have hfz := h.frozen0
    go_enter Try.func44, Try.ntmps44
    go_wp2
    rw [Lib.run_to_unsafe w ⟨b, 0, none⟩ u53 u104 hj (by rw [hjs]; decide) hsh (Nat.zero_lt_succ 1)]
    simp only [Result.andThen]
    rw [Oper.upon_value]
    go_wp2
    rw [run_callFunc_extern Try.func62 (by kernel_rfl) (by kernel_rfl) (by kernel_rfl) (e := Extern.AbiNoEscape.same) (by kernel_rfl)]
    rw [Lib.run_noEscape]
    simp only [Result.andThen]
    rw [Oper.upon_value]
    go_wp2
    rw [Lib.run_from_unsafe w ⟨b, 0, none⟩ u104 u53 hj hsh (by kernel_rfl)]
    simp only [Result.andThen]
    rw [Oper.upon_value]
    go_wp2
    go_end0
    exact ⟨rfl, h.used _, (Below.refl B w).setCell (p := ⟨b, 0, none⟩) h.1 _, fun k hk => heap_other _ _ _ _ _ hk⟩
  · have h0 := h.cell0
    go_enter Try.func44, Try.ntmps44
    go_wp2
    rw [Lib.run_neq_ptr_same w _ u53 hj]
    go_wp2
    go_end0
    exact ⟨rfl, h, Below.refl B _, fun _ _ => rfl⟩
/-- All blocks of numbers are as they were. -/
def IntKept (w w' : World) : Prop := ∀ (k : Nat) (c : Array Value) (fz : Nat × Nat), w.heap[k]? = some (.cells c 3 fz) → w'.heap[k]? = w.heap[k]?
theorem IntKept.refl (w : World) : IntKept w w := fun _ _ _ _ => rfl
theorem IntKept.trans {a b c : World} (h : IntKept a b) (k : IntKept b c) : IntKept a c := fun i x fz hx => by
  have e := h i x fz hx
  rw [k i x fz (e.trans hx), e]
theorem IntKept.of_below {w w' : World} (h : Below w.heap.size w w') : IntKept w w' := fun k _ _ hk => h.block k (blk_lt hk)
theorem OwnI.kept {w w' : World} {B : Nat} {v : Value} {l : List Int} (h : OwnI w B v l) (hk : IntKept w w') : OwnI w' B v l :=
  h.keepB fun k e => by
    obtain ⟨_, _, c, hc⟩ := ownsRow_kind h k e
    exact hk k c _ hc
theorem isB_keep {B b : Nat} {bs : List Value} {w w' : World} (h : IsB B b bs w) (e : ∀ k, k < w.heap.size → w'.heap[k]? = w.heap[k]?) : IsB B b bs w' := by
  rcases h with ⟨hB, v, hb, ho, hn⟩ | ⟨hB, v, hb, ho, hn⟩
  · exact .inl ⟨hB, v, (e b (blk_lt hb)).trans hb, ownsRow_keep ho fun k hk => e k (ho.lt k hk).2, hn⟩
  · exact .inr ⟨hB, v, (e b (blk_lt hb)).trans hb, ownsRow_keep ho fun k hk => e k (ho.lt k hk).2, hn⟩
set_option maxRecDepth 100000 in
set_option maxHeartbeats 2000000 in
theorem writeString_any (B b : Nat) (bs : List Value) (s : ByteArray) (w : World) (h : IsB B b bs w) (hlen : bs.length + s.size ≤ 140737488355328) (hBw : B ≤ w.heap.size) :
    Calls Try.prog 27 #[.pointer (some ⟨b, 0, none⟩), .string s] w fun e w' => e = .returned (.tuple #[.int .i64 s.size, .nilIface]) ∧ (IsB B b (bs ++ Lib.strCells s) w' ∧ Below B w w' ∧ IntKept w w') := by
  obtain ⟨i0, hi, hz0, hz1, hz2⟩ := info_parts Try.infoByte
  have hcc := Lib.hid (copyCheck_any B b bs w h)
  go_enter Try.func27, Try.ntmps27
  go_wp2_with (go_at_call 44; refine hcc.out.mono ?_)
  rintro e w1 ⟨rfl, h1, hb1, hk1⟩
  obtain ⟨hB, v, hbk, hown, hne⟩ := h1
  have c0 : w1.cell? ⟨b, 0, none⟩ = some (.pointer (some ⟨b, 0, none⟩)) := by rw [Lib.cell_of_heap hbk]; rfl
  have c1 : w1.cell? ⟨b, 1, none⟩ = some v := by rw [Lib.cell_of_heap hbk]; rfl
  go_wp2_with (at_builtin; refine Lib.wpList_append_own_string _ rfl _ _ 54 9 rfl B 5 i0 Try.underlying54 Try.underlying9 hi hz0 hz1 hz2 _ _ _ rfl hown s rfl ?c3 ?c4 ?c5 ?_)
  case c3 => unfold maxLen; omega
  case c4 => omega
  case c5 => have := hb1.size; omega
  intro v' w2 hown' hgrow _
  have hlt : b < w1.heap.size := blk_lt hbk
  have hb2 : w2.heap[b]? = some (.cells #[.pointer (some ⟨b, 0, none⟩), v] 56 (0, 0)) := by
    rw [hgrow.block b hlt (fun e => hne e.symm)]
    exact hbk
  have d0 : w2.cell? ⟨b, 0, none⟩ = some (.pointer (some ⟨b, 0, none⟩)) := by rw [Lib.cell_of_heap hb2]; rfl
  have d1 : w2.cell? ⟨b, 1, none⟩ = some v := by rw [Lib.cell_of_heap hb2]; rfl
  have f1 : w2.frozen? ⟨b, 1, none⟩ = false := Lib.frozen_of_heap hb2 1
  obtain ⟨ao, n', cap, rfl⟩ : ∃ ao n' cap, v' = .slice ao n' cap := by
    rcases hown'.2 with ⟨hv, _⟩ | ⟨g, cap, cur, hv, _⟩
    · exact ⟨_, _, _, hv⟩
    · exact ⟨_, _, _, hv⟩
  go_wp2
  go_ret2
  refine ⟨rfl, .inr ?_, ?_, ?_⟩
  · exact Lib.BuilderAt.put (T := 56) (e := 5) hB hb2 (bs' := bs ++ Lib.strCells s) (by simpa [Lib.strCells_length] using hown') (by decide)
  · exact (hb1.grown hgrow (by have := hb1.size; omega) (fun k hk => (hown.lt k hk).1)).setCell (p := ⟨b, 1, none⟩) hB _
  · intro k c fz hk
    have k1 : k ≠ b := by
      rintro rfl
      obtain ⟨p, _, v0, q, _⟩ : ∃ p, Lib.BuilderAt 56 5 B k p bs w := by
        rcases h with h | h
        · exact ⟨_, h⟩
        · exact ⟨_, h⟩
      exact kinds_ne hk q (by decide) rfl
    have k2 := hk1 k k1
    have k3 : w1.heap[k]? = some (.cells c 3 fz) := k2.trans hk
    rw [heap_other _ _ _ _ _ k1, hgrow.block k (blk_lt k3) (fun e => ?_), k2]
    obtain ⟨_, _, c2, k4⟩ := ownsRow_kind hown k e.symm
    exact kinds_ne k3 k4 (by decide) rfl
/-! ### Pack -/
theorem strCells_mk (l : List UInt8) : Lib.strCells ⟨l.toArray⟩ = Lib.byteCells l := by simp [Lib.strCells, Lib.byteCells]
theorem byteCells_append (a b : List UInt8) : Lib.byteCells a ++ Lib.byteCells b = Lib.byteCells (a ++ b) := by simp [Lib.byteCells]
theorem packZ_nat {zs : List Int} (h : ∀ z ∈ zs, 0 ≤ z) : packZ zs = (Bp.packB (zs.map Int.toNat), 0) := by
  unfold packZ
  rw [if_neg]
  rintro ⟨z, hz, h1⟩
  have := h z hz
  omega
theorem cntsI_nat (d : List Pt.Po) : (∀ z ∈ cntsI d, 0 ≤ z) ∧ (cntsI d).map Int.toNat = Pt.cnts d := by
  refine ⟨fun z hz => ?_, ?_⟩
  · obtain ⟨n, _, rfl⟩ := List.mem_map.1 hz
    exact Int.natCast_nonneg n
  · unfold cntsI
    rw [List.map_map]
    conv => rhs; rw [← List.map_id (Pt.cnts d)]
    exact List.map_congr_left fun _ _ => rfl
theorem wf_small {l : List Int} (h : ∀ z ∈ l, 0 ≤ z ∧ z < 1048576) : Wf l := Pt.wf_of h
theorem cnts_wf {d : List Pt.Po} (h : ∀ p ∈ d, p.ats.length ≤ 9223372036854775807) : Wf (cntsI d) := fun z hz => by
  obtain ⟨n, hn, rfl⟩ := List.mem_map.1 hz
  obtain ⟨p, hp, rfl⟩ := List.mem_map.1 hn
  have := h p hp
  show _ ≤ ((p.ats.length : Nat) : Int) ∧ ((p.ats.length : Nat) : Int) ≤ _
  omega
end Go.Proofs.Ytokdjaljeckghaa
