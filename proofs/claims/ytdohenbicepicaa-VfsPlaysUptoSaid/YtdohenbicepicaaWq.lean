/-
  The program's disk: which bytes a loss leaves.
-/
import Derived.Test.YtdohenbicepicaaWo
namespace Go.Proofs.Ytdohenbicepicaa
open Go.RowKit Go.Maps Go.Sort

theorem ownsRow_form {w : World} {B : Nat} {t : TypeId} {z : Nat} {v : Value} {n : Nat} {xs : List Value} (h : w.ownsRow B t z v n xs) : ∃ a c, v = .slice a n c := by
  rcases h.2 with ⟨h1, h0⟩ | ⟨_, _, _, h1, _⟩
  · exact ⟨none, 0, by rw [h1, h0]⟩
  · exact ⟨_, _, h1⟩
/-- slices.Clone of bytes. -/
theorem q71 : ∀ (w : World) (a : Option Addr) (n c n' c' : Nat), (binOp .eql 71 (.slice a n c) (.slice none n' c')).run Try.prog w = .ok (.bool a.isNone) w := fun w a n c n' c' => Lib.run_eql_slice_nil w _ _ a n c n' c' Try.underlying71
set_option maxRecDepth 100000 in
set_option maxHeartbeats 2000000 in
theorem cloneB_any (w : World) (g n c : Nat) (d : ByteArray) (hn : d.size = n) (hb : n ≤ 1099511627776) (hcell : ∀ j u, (Lib.strCells d)[j]? = some u → w.cell? ((⟨g, 0, none⟩ : Addr).add j) = some u) :
    Calls Try.prog 70 #[.slice (some ⟨g, 0, none⟩) n c] w fun e w' => ∃ a1 c1, e = .returned (.slice a1 n c1) ∧ w'.ownsRow w.heap.size 5 1 (.slice a1 n c1) n (Lib.strCells d) ∧ Below w.heap.size w w' := by
  obtain ⟨i0, hi, hz0, hz1, hz2⟩ := info_parts Try.infoB8
  have hq := q71
  have HC := Lib.hid hcell
  have hlen : (Lib.strCells d).length = n * 1 := by rw [Lib.strCells_length, hn, Nat.mul_one]
  have HN := Lib.hid hn
  have HLN := Lib.hid hlen
  clear hcell hn hlen
  go_enter Try.func70, Try.ntmps70
  go_wp2_with ((at_builtin; go_loud ((refine wpList_append_own _ rfl _ _ 71 rfl w.heap.size 5 i0 (.int .u8 0) 1 1 Try.underlying71 hi hz0 hz1 hz2 rfl (by decide) _ _ _ rfl (World.ownsRow_made w #[] 0 (Nat.le_refl _) (Nat.zero_le _) rfl) ⟨g, 0, none⟩ n c (Lib.strCells d) rfl HLN.out (fun j u hj => Lib.cell?_alloc_some _ (HC.out j u hj)) (Lib.strCells_oneCell d) (by unfold maxLen; omega) (by omega) (by simp) ?_; intro v1 w1 hown1 hgrow1 _; rw [Nat.zero_add] at hown1; obtain ⟨a1, c1, rfl⟩ := ownsRow_form hown1; have HH := Lib.hid (And.intro hown1 hgrow1); clear hown1 hgrow1))))
  go_wp2_with fail
  go_ret
  refine ⟨a1, c1, rfl, by simpa using HH.out.1, ?_⟩
  exact ((Below.refl _ w).alloc (Nat.le_refl _) _).grown HH.out.2 (by simp) (by intro k hk; cases hk; exact Nat.le_refl _)

/-! ### what is in memory while bytes are lost -/
def nowF (D : Vf.Dk) (acc : List Vf.Fl) (m : Nat) : Vf.Fl := if Vf.place acc m < acc.length then Vf.fileAt acc m else Vf.fileAt D.files m
structure LoseB (w wx : World) (φ : Nat → Nat) (ρ ρ' : Nat → Value) (D : Vf.Dk) (acc : List Vf.Fl) : Prop where
  file : ∀ m, Vf.Live D m → FileA wx (φ m) (ρ' m) (nowF D acc m)
  own : ∀ m b, Vf.Live D m → (ρ' m).ownBlock = some b → (ρ m).ownBlock = some b ∨ w.heap.size ≤ b
  apart : ∀ m m' b, Vf.Live D m → Vf.Live D m' → (ρ' m).ownBlock = some b → (ρ' m').ownBlock = some b → m = m'
  full : ∀ f ∈ acc, f.sure = f.data.size
theorem nowF_put {D : Vf.Dk} {acc : List Vf.Fl} {n m : Nat} {f2 : Vf.Fl} (hn : ¬ Vf.place acc n < acc.length) (h2 : f2.n = n) : nowF D (acc ++ [f2]) m = if m = n then f2 else nowF D acc m := by
  have hno : ∀ f ∈ acc, f.n ≠ f2.n := fun f hf e => hn (by rw [← h2, ← e]; exact Vf.place_lt_of_mem hf)
  unfold nowF
  by_cases e : m = n
  · rw [if_pos e]
    have hp : Vf.place (acc ++ [f2]) m < (acc ++ [f2]).length := by rw [e, ← h2]; exact Vf.place_lt_of_mem (List.mem_append_right _ (List.mem_singleton.2 rfl))
    rw [if_pos hp, e, ← h2]
    exact Vf.fileAt_new hno
  · rw [if_neg e]
    by_cases hp : Vf.place acc m < acc.length
    · rw [if_pos hp, if_pos (by rw [Vf.place_append_lt hp, List.length_append]; omega), Vf.fileAt_append_lt hp]
    · have hpm : ∀ f ∈ acc, f.n ≠ m := fun f hf e => hp (by rw [← e]; exact Vf.place_lt_of_mem hf)
      have h3 : Vf.place (acc ++ [f2]) m = acc.length + 1 := by
        rw [Vf.place_append_ge hpm]
        unfold Vf.place
        rw [if_neg (by rw [h2]; exact fun h => e h.symm)]
        rfl
      rw [if_neg hp, if_neg (by rw [h3, List.length_append]; simp)]
/-- A file and its blocks, the others as they were. -/
theorem LoseB.put {w wx w2 : World} {φ : Nat → Nat} {ρ ρ' : Nat → Value} {D : Vf.Dk} {acc : List Vf.Fl} (h : LoseB w wx φ ρ ρ' D acc) (hinj : ∀ m m', Vf.Live D m → Vf.Live D m' → φ m = φ m' → m = m') (hap : ∀ m m' k, Vf.Live D m → Vf.Live D m' → (ρ' m).ownBlock = some k → k ≠ φ m') {n : Nat} (hl : Vf.Live D n) (hn : ¬ Vf.place acc n < acc.length) (f2 : Vf.Fl) (h2 : f2.n = n) (hfull : f2.sure = f2.data.size) (v2 : Value)
    (hf : FileA w2 (φ n) v2 f2) (hv : ∀ b, v2.ownBlock = some b → (ρ' n).ownBlock = some b ∨ wx.heap.size ≤ b) (hw : w.heap.size ≤ wx.heap.size) (ci : Nat) (hci : ∀ m, Vf.Live D m → φ m ≠ ci ∧ (ρ' m).ownBlock ≠ some ci) (e : ∀ b, b ≠ φ n → b ≠ ci → b < wx.heap.size → w2.heap[b]? = wx.heap[b]?) :
    LoseB w w2 φ ρ (fun m => if m = n then v2 else ρ' m) D (acc ++ [f2]) := by
  refine ⟨fun m hm => ?_, fun m b hm => ?_, fun m m' b hm hm' => ?_, fun f hf => ?_⟩
  · rw [nowF_put hn h2]
    by_cases em : m = n
    · subst em
      rw [if_pos rfl, if_pos rfl]
      exact hf
    · rw [if_neg em, if_neg em]
      have hfm := h.file m hm
      refine hfm.keep (e _ (fun he => em (hinj m n hm hl he)) (hci m hm).1 hfm.1.lt) fun k hk => e k (hap m n k hm hl hk) (fun he => (hci m hm).2 (by rw [hk, he])) (World.ownsRow.lt hfm.2 k hk).2
  · by_cases em : m = n
    · subst em
      rw [if_pos rfl]
      intro hb
      rcases hv b hb with h1 | h1
      · exact h.own m b hm h1
      · exact .inr (Nat.le_trans hw h1)
    · rw [if_neg em]
      exact h.own m b hm
  · have hlt : ∀ m b, Vf.Live D m → (ρ' m).ownBlock = some b → b < wx.heap.size := fun m b hm hb => (World.ownsRow.lt (h.file m hm).2 b hb).2
    by_cases em : m = n <;> by_cases em' : m' = n
    · intro _ _; rw [em, em']
    · rw [if_pos em, if_neg em']
      intro hb hb'
      rcases hv b hb with h1 | h1
      · exact em.trans (h.apart n m' b hl hm' h1 hb')
      · have := hlt m' b hm' hb'; omega
    · rw [if_neg em, if_pos em']
      intro hb hb'
      rcases hv b hb' with h1 | h1
      · exact (h.apart m n b hm hl hb h1).trans em'.symm
      · have := hlt m b hm hb; omega
    · rw [if_neg em, if_neg em']
      exact h.apart m m' b hm hm'
  · rcases List.mem_append.1 hf with h1 | h1
    · exact h.full f h1
    · obtain rfl : f = f2 := by simpa using h1
      exact hfull
/-- It is there already, and all of it is sure. -/
theorem LoseB.same {w wx : World} {φ : Nat → Nat} {ρ ρ' : Nat → Value} {D : Vf.Dk} {acc : List Vf.Fl} (h : LoseB w wx φ ρ ρ' D acc) (hinj : ∀ m m', Vf.Live D m → Vf.Live D m' → φ m = φ m' → m = m') (hap : ∀ m m' k, Vf.Live D m → Vf.Live D m' → (ρ' m).ownBlock = some k → k ≠ φ m') {n : Nat} (hl : Vf.Live D n) (hs : (nowF D acc n).sure = (nowF D acc n).data.size) :
    LoseB w (wx.setCell ⟨φ n, 1, none⟩ (.int .i64 ((nowF D acc n).data.size : Int))) φ ρ ρ' D acc := by
  refine ⟨fun m hm => ?_, h.own, h.apart, h.full⟩
  have hfm := h.file m hm
  have hrows : (wx.setCell ⟨φ n, 1, none⟩ (.int .i64 ((nowF D acc n).data.size : Int))).ownsRow 0 5 1 (ρ' m) (nowF D acc m).data.size ((nowF D acc m).data.data.toList.map fun c => Value.int .u8 (c.toNat : Int)) := ownsRow_keep hfm.2 fun k hk => heap_other _ _ _ _ _ (hap m n k hm hl hk)
  by_cases em : m = n
  · subst em
    refine ⟨?_, hrows⟩
    have h2 := hfm.1.set 1 (.int .i64 ((nowF D acc m).data.size : Int))
    rw [hs]
    exact h2
  · exact ⟨hfm.1.keep (heap_other _ _ _ _ _ (fun he => em (hinj m n hm hl he))), hrows⟩
/-- The files' blocks are apart. -/
theorem LoseB.rows {w wx : World} {φ : Nat → Nat} {ρ ρ' : Nat → Value} {D : Vf.Dk} {acc : List Vf.Fl} (h : LoseB w wx φ ρ ρ' D acc) : ∀ m m' k, Vf.Live D m → Vf.Live D m' → (ρ' m).ownBlock = some k → k ≠ φ m' := by
  intro m m' k hm hm' hk e
  have h1 := (h.file m' hm').1
  unfold RowT at h1
  rcases (h.file m hm).2.2 with ⟨hv, _⟩ | ⟨g, cap, cur, hv, _, hh, _⟩
  · rw [hv] at hk; cases hk
  · rw [hv] at hk
    obtain rfl : g = k := by simpa [Value.ownBlock] using hk
    rw [e, h1] at hh
    simp at hh
theorem LoseB.ci {w wx : World} {φ : Nat → Nat} {ρ ρ' : Nat → Value} {D : Vf.Dk} {acc : List Vf.Fl} (h : LoseB w wx φ ρ ρ' D acc) {ci : Nat} {c : Array Value} (hci : wx.heap[ci]? = some (.cells c 90 (0, 0))) : ∀ m, Vf.Live D m → φ m ≠ ci ∧ (ρ' m).ownBlock ≠ some ci := by
  intro m hm
  have h1 := (h.file m hm).1
  unfold RowT at h1
  refine ⟨fun e => ?_, fun e => ?_⟩
  · rw [e, hci] at h1; simp at h1
  · rcases (h.file m hm).2.2 with ⟨hv, _⟩ | ⟨g, cap, cur, hv, _, hh, _⟩
    · rw [hv] at e; cases e
    · rw [hv] at e
      obtain rfl : g = ci := by simpa [Value.ownBlock] using e
      rw [hci] at hh
      simp at hh
theorem LoseB.keepci {w wx : World} {φ : Nat → Nat} {ρ ρ' : Nat → Value} {D : Vf.Dk} {acc : List Vf.Fl} (h : LoseB w wx φ ρ ρ' D acc) {ci : Nat} {c : Array Value} (hci : wx.heap[ci]? = some (.cells c 90 (0, 0))) (u : Value) : LoseB w (wx.setCell ⟨ci, 0, none⟩ u) φ ρ ρ' D acc :=
  ⟨fun m hm => (h.file m hm).keep (heap_other _ _ _ _ _ (h.ci hci m hm).1) fun k hk => heap_other _ _ _ _ _ (fun e => (h.ci hci m hm).2 (by rw [hk, e])), h.own, h.apart, h.full⟩
theorem LoseB.heap {w wx w2 : World} {φ : Nat → Nat} {ρ ρ' : Nat → Value} {D : Vf.Dk} {acc : List Vf.Fl} (h : LoseB w wx φ ρ ρ' D acc) (e : w2.heap = wx.heap) : LoseB w w2 φ ρ ρ' D acc :=
  ⟨fun m hm => (h.file m hm).keep (by rw [e]) fun k _ => by rw [e], h.own, h.apart, h.full⟩
end Go.Proofs.Ytdohenbicepicaa
