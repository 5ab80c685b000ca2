/-
  The program's disk: which names a loss leaves.
-/
import Derived.Test.YtdohenbicepicaaWn
import Derived.Deep.DeepCutAuto
import Derived.LaidEqlPtr
namespace Go.Proofs.Ytdohenbicepicaa
open Go.RowKit Go.Maps Go.Sort

theorem PrA.lost {w w2 : World} {p mn ms ms2 ci : Nat} {φ : Nat → Nat} {ρ : Nat → Value} {D : Vf.Dk} {c : Array Value} (h : PrA w p mn ms φ ρ D) (N : List Vf.Lk) (hsub : ∀ x ∈ N, Vf.Live D x.n) (hms : w.heap.size ≤ ms2) (n1 n2 : Nat) (h1 : MapA w2 mn n1 (Vf.leads φ N)) (h2 : MapA w2 ms2 n2 (Vf.leads φ N)) (hrow : RowT 57 w2 p (prC mn ms2 D))
    (hci : w.heap[ci]? = some (.cells c 90 (0, 0))) (e : ∀ k, k ≠ p → k ≠ mn → k ≠ ci → k < w.heap.size → w2.heap[k]? = w.heap[k]?) :
    PrA w2 p mn ms2 φ ρ (Vf.put D D.files N N D.last) ∧ ∀ m, Vf.Live (Vf.put D D.files N N D.last) m → Vf.Live D m := by
  obtain ⟨a1, a2, a3, a4⟩ := h.apart_row
  have hl : ∀ m, Vf.Live (Vf.put D D.files N N D.last) m → Vf.Live D m := by
    rintro m ⟨x, hx | hx, rfl⟩
    · exact hsub x hx
    · exact hsub x hx
  have hmnl := h.now.lt
  refine ⟨⟨hrow, h1.tight _ fun s hs => leads_some hs, h2.tight _ fun s hs => leads_some hs, by omega, fun m hm => ?_, fun m m' hm hm' => h.inj m m' (hl m hm) (hl m' hm'), fun m m' k hm hm' => h.apart m m' k (hl m hm) (hl m' hm')⟩, hl⟩
  have hf := h.file m (hl m hm)
  have hn1 : φ m ≠ ci := fun he => by
    have h3 := hf.1
    unfold RowT at h3
    rw [he, hci] at h3
    simp at h3
  have hn2 : ∀ k, (ρ m).ownBlock = some k → k ≠ ci := fun k hk he => by
    rcases hf.2.2 with ⟨hv, _⟩ | ⟨g, cap, cur, hv, _, hh, _⟩
    · rw [hv] at hk; cases hk
    · rw [hv] at hk
      obtain rfl : g = k := by simpa [Value.ownBlock] using hk
      rw [he, hci] at hh
      simp at hh
  exact hf.keep (e _ (a3 m (hl m hm)).1 (a3 m (hl m hm)).2.1 hn1 hf.1.lt) fun k hk => e k ((a3 m (hl m hm)).2.2.2 k hk).1 ((a3 m (hl m hm)).2.2.2 k hk).2.1 (hn2 k hk) (World.ownsRow.lt hf.2 k hk).2

theorem Try.infoVf : (Try.prog.info? 73).map (fun i => (i.zero, i.size, i.bytes)) = some (some (.agg #[.slice none 0 0, .int .i64 0]), 2, 32) := by kernel_rfl
theorem eqlP_same (w : World) (g : Nat) : (binOp .eql 70 (.pointer (some ⟨g, 0, none⟩)) (.pointer (some ⟨g, 0, none⟩))).run Try.prog w = .ok (.bool true) w := by
  obtain ⟨j, hj, _, _, _⟩ := info_parts Try.infoVf
  exact run_eql_ptr_same w _ Try.underlying70 hj
theorem eqlP_other (w : World) (g g' : Nat) (c c' : Array Value) (hne : g ≠ g') (h : RowT 73 w g c) (h' : RowT 73 w g' c') : (binOp .eql 70 (.pointer (some ⟨g, 0, none⟩)) (.pointer (some ⟨g', 0, none⟩))).run Try.prog w = .ok (.bool false) w := by
  obtain ⟨j, hj, _, h1, _⟩ := info_parts Try.infoVf
  exact run_eql_ptr_other w Try.underlying70 hj (by rw [h1]; decide) (by simp) h h'
theorem eqlP_none (w : World) (a : Addr) : (binOp .eql 70 (.pointer none) (.pointer (some a))).run Try.prog w = .ok (.bool false) w := by
  have h : ∀ d : Nat, (Op.equalIn (d + 1) 70 (.pointer none) (.pointer (some a))).run Try.prog w = .ok false w := fun d => by
    simp [Op.equalIn, run_underlying Try.underlying70]
  simp only [binOp]
  simp [Op.equal, Op.maxDepth, h 9999]
/-- What loseNames leaves. -/
def LostN (w : World) (p mn ci : Nat) (φ : Nat → Nat) (ρ : Nat → Value) (D : Vf.Dk) (r : List Vf.Lk × Nat) (e : Ending) (w' : World) : Prop :=
  e = .returned (.tuple #[]) ∧ ∃ ms', PrA w' p mn ms' φ ρ (Vf.put D D.files r.1 r.1 D.last) ∧ w.heap.size ≤ ms' ∧ w'.heap[ci]? = some (.cells #[.int .u64 ((r.2 : Nat) : Int)] 90 (0, 0)) ∧ KeptF (fun b => b = p ∨ b = mn ∨ b = ci) w w'

set_option maxRecDepth 100000 in
set_option maxHeartbeats 16000000 in
theorem loseNames_any (w : World) (p mn ms : Nat) (φ : Nat → Nat) (ρ : Nat → Value) (D : Vf.Dk) (c m ci : Nat) (cl : Addr) (loss : Int) (hA : PrA w p mn ms φ ρ D) (hok : Vf.Ok D c m) (hcb : c ≤ 1048576) (hloss : -9223372036854775808 ≤ loss ∧ loss ≤ 9223372036854775807)
    (hci : w.heap[ci]? = some (.cells #[.int .u64 0] 90 (0, 0))) (hcl : w.cell? cl = some (.int .i64 loss)) (hne : cl.block ≠ ci) (hclm : cl.block ≠ mn) :
    Calls Try.prog 51 #[.pointer (some ⟨p, 0, none⟩), .func (.func 68) #[] #[.pointer (some ⟨ci, 0, none⟩), .pointer (some cl)]] w (LostN w p mn ci φ ρ D (Vf.pick D.kept D.names (Vf.u64 loss) 0 [] (Vf.allNames D.kept D.kept D.names))) := by
  have d0 : w.cell? ⟨p, 0, none⟩ = some (.map (some mn)) := hA.row.cell 0
  have d1 : w.cell? ⟨p, 1, none⟩ = some (.map (some ms)) := hA.row.cell 1
  have hkn : ∀ x ∈ D.kept, x.n ≠ 0 := fun x hx => by have := (hok.nums x (.inr hx)).1; omega
  have hnn : ∀ x ∈ D.names, x.n ≠ 0 := fun x hx => by have := (hok.nums x (.inl hx)).1; omega
  have hB1 : Below w.heap.size w (w.alloc (.cells #[.map (some mn), .map (some ms)] 55)) := (Below.refl _ _).alloc (Nat.le_refl _) _
  have hnl := hok.names
  have hkl := hok.kept
  have hcells : ∀ j, j < 2 → (w.drew.alloc (.cells #[.map (some mn), .map (some ms)] 55)).cell? ⟨w.heap.size, j, none⟩ = some (.map (some (if j = 0 then mn else ms))) := by
    intro j hj
    have h := cell_of_row _ w.heap.size j _ _ _ (heap_alloc_new w.drew (.cells #[.map (some mn), .map (some ms)] 55))
    rw [h]
    match j, hj with
    | 0, _ => rfl
    | 1, _ => rfl
  have hmaps : ∀ j, j < 2 → MapA (w.drew.alloc (.cells #[.map (some mn), .map (some ms)] 55)) (if j = 0 then mn else ms) 1048576 (if j = 0 then Vf.leads φ D.names else Vf.leads φ D.kept) := by
    intro j hj
    match j, hj with
    | 0, _ => exact (hA.now.keep (hB1.block _ hA.now.lt)).mono (by omega)
    | 1, _ => exact (hA.sure.keep (hB1.block _ hA.sure.lt)).mono (by omega)
  have hR := Lib.hid (risingP_any (w.drew.alloc (.cells #[.map (some mn), .map (some ms)] 55)) w.heap.size 2 1048576 (fun j => if j = 0 then mn else ms) (fun j => if j = 0 then Vf.leads φ D.names else Vf.leads φ D.kept) (Nat.le_refl _) (by omega) hcells (by simp) hmaps)
  obtain ⟨all, hall⟩ : ∃ all, all = Vf.allNames D.kept D.kept D.names := ⟨_, rfl⟩
  rw [← hall]
  have hspec := Vf.all_spec hkn hnn hok.krise
  rw [← hall] at hspec
  have hlen : all.length ≤ 2097152 := by
    have h := Vf.allNames_len D.kept D.names D.kept
    rw [← hall] at h
    omega
  have HL : Hid (∀ L : List (List UInt8), L.Pairwise (· < ·) → (∀ x, x ∈ L ↔ ∃ i, i < 2 ∧ ((if i = 0 then Vf.leads φ D.names else Vf.leads φ D.kept) (encBA x)).isSome = true) → L = all.map (fun a => a.name.data.toList)) := by
    intro L h1 h2
    rw [hall]
    refine rising_all (φ := φ) hkn hnn hok.krise h1 fun x => ?_
    rw [h2 x]
    constructor
    · rintro ⟨i, hi, h⟩
      match i, hi with
      | 0, _ => exact .inl h
      | 1, _ => exact .inr h
    · rintro (h | h)
      · exact ⟨0, by omega, h⟩
      · exact ⟨1, by omega, h⟩
  have H := Lib.hid hA
  have HOK := Lib.hid hok
  have HSP := Lib.hid hspec
  have HALL := Lib.hid hall
  have hR2 : Hid (Calls Try.prog 55 #[.slice (some ⟨w.heap.size, 0, none⟩) 2 2] (w.drew.alloc (.cells #[.map (some mn), .map (some ms)] 55)) fun e w' => ∃ a cap, e = .returned (.slice a all.length cap) ∧ w'.ownsRow w.heap.size 9 1 (.slice a all.length cap) all.length (all.map (fun a => Value.string a.name)) ∧ Below w.heap.size w w') := by
    refine hR.out.mono ?_
    rintro e1 w1 ⟨v1, L1, rfl, hrow1, hp1, hm1, hb1⟩
    have hL1 := HL.out L1 hp1 hm1
    subst hL1
    have he : (all.map (fun a => a.name.data.toList)).map encStr = all.map (fun a => Value.string a.name) := by
      rw [List.map_map]
      exact List.map_congr_left fun a _ => by show encStr a.name.data.toList = _; simp
    rw [he, List.length_map] at hrow1
    have hrow2 := ownsRow_base hrow1 (C := w.heap.size) (by simp)
    have hb2 : Below w.heap.size w w1 := (hB1.trans ⟨hb1.os, hb1.tape, hb1.output, hb1.size, fun k hk => hb1.block k (by simp; omega)⟩)
    rcases hrow1.2 with ⟨rfl, h0⟩ | ⟨g, cap, cur, rfl, _⟩
    · exact ⟨none, 0, by rw [h0], by rw [h0] at hrow2 ⊢; exact hrow2, hb2⟩
    · exact ⟨_, _, rfl, hrow2, hb2⟩
  clear hA hok hspec hall hcells hmaps hkn hnn hR hB1 HL
  obtain ⟨n, hn⟩ : ∃ n, n = all.length := ⟨_, rfl⟩
  have HN := Lib.hid hn
  rw [← hn] at hlen hR2
  clear hn
  go_enter Try.func51, Try.ntmps51
  go_upto_region 0 with fail
  go_cut [16, 17, 18] (fun sl ln ix wx => ∃ a cap, sl = .slice a n cap ∧ ln = .int .i64 (n : Int) ∧ ix = .int .i64 0 ∧ wx.ownsRow w.heap.size 9 1 (.slice a n cap) n (all.map (fun a => Value.string a.name)) ∧ Below w.heap.size w wx)
  case first =>
    go_region_with (go_at_call 55; refine hR2.out.mono ?_; rintro e1 w1 ⟨a1, cap1, rfl, hrow1, hb1⟩; have HH := Lib.hid (And.intro hrow1 hb1); clear hrow1 hb1)
    all_goals
      go_wp2_with fail
      go_meet
      exact ⟨_, _, rfl, rfl, rfl, HH.out⟩
  case rest =>
    obtain ⟨a1, cap1, rfl, rfl, rfl, hrow1, hb1⟩ := hcut
    have hmnl := H.out.now.lt
    have hmsl := H.out.sure.lt
    have hpl := H.out.row.lt
    have hap := H.out.apart_row.1
    have hmsne := H.out.ne
    have hcil : ci < w.heap.size := (Array.getElem?_eq_some_iff.1 hci).1
    have hcll : cl.block < w.heap.size := by
      rcases Nat.lt_or_ge cl.block w.heap.size with h | h
      · exact h
      · simp [World.cell?, Array.getElem?_eq_none h] at hcl
    have hpci : p ≠ ci := fun e => by
      have h := H.out.row
      unfold RowT at h
      rw [e, hci] at h
      simp at h
    have hmsci : ms ≠ ci := fun e => by
      obtain ⟨_, ⟨es, clock, h, _⟩, _⟩ := H.out.sure
      rw [e, hci] at h
      cases h
    have hmnci : mn ≠ ci := fun e => by
      obtain ⟨_, ⟨es, clock, h, _⟩, _⟩ := H.out.now
      rw [e, hci] at h
      cases h
    have HW : Hid (∀ wx, KeptF (fun b => b = mn ∨ b = ci) wc wx → wx.cell? ⟨p, 0, none⟩ = some (.map (some mn)) ∧ wx.cell? ⟨p, 1, none⟩ = some (.map (some ms)) ∧ MapA wx ms D.kept.length (Vf.leads φ D.kept) ∧ wx.cell? cl = some (.int .i64 loss) ∧ wx.frozen? ⟨p, 1, none⟩ = false ∧ ∀ j (hj : j < all.length), ∃ g, a1 = some ⟨g, 0, none⟩ ∧ wx.cell? ⟨g, j, none⟩ = some (.string all[j].name)) := by
      intro wx hk
      have hsame : ∀ b, b < w.heap.size → b ≠ mn → b ≠ ci → wx.heap[b]? = w.heap[b]? := fun b h1 h2 h3 => (hk.block b (Nat.lt_of_lt_of_le h1 hb1.size) (fun h => h.elim h2 h3)).trans (hb1.block b h1)
      have hrowx := H.out.row.keep (hsame p hpl (fun e => hap e.symm) hpci)
      refine ⟨hrowx.cell 0, hrowx.cell 1, H.out.sure.keep (hsame ms hmsl (fun e => hmsne e.symm) hmsci), ?_, hrowx.frozen 1, fun j hj => ?_⟩
      · rw [World.cell?_of_block (hsame cl.block hcll hclm hne)]; exact hcl
      · rcases hrow1.2 with ⟨h1, h2⟩ | ⟨g, cap, cur, hv, hg, hh, _⟩
        · have := HN.out; omega
        · simp only [Value.slice.injEq] at hv
          obtain ⟨rfl, _, rfl⟩ := hv
          refine ⟨g, rfl, ?_⟩
          have hc := World.ownsRow.cells hrow1 (g := g) rfl j (.string all[j].name) (by rw [List.getElem?_map, List.getElem?_eq_getElem hj]; rfl)
          rw [Addr.add_lit, Nat.zero_add] at hc
          rw [World.cell?_of_block (hk.block g (Array.getElem?_eq_some_iff.1 hh).1 (fun h => h.elim (fun h => by omega) (fun h => by omega)))]
          exact hc
    have HLF : Hid (∀ wx, KeptF (fun b => b = mn ∨ b = ci) wc wx → ∀ m, Vf.Live D m → RowT 73 wx (φ m) #[ρ m, .int .i64 ((Vf.fileAt D.files m).sure : Int)]) := by
      intro wx hk m hm
      have hf := (H.out.file m hm).1
      refine hf.keep ((hk.block _ (Nat.lt_of_lt_of_le hf.lt hb1.size) (fun h => h.elim (fun h => (H.out.apart_row.2.2.1 m hm).2.1 h) (fun h => ?_))).trans (hb1.block _ hf.lt))
      unfold RowT at hf
      rw [h, hci] at hf
      simp at hf
    have hci1 : wc.heap[ci]? = some (.cells #[.int .u64 ((0 : Nat) : Int)] 90 (0, 0)) := (hb1.block ci hcil).trans hci
    have hM1 : MapA wc mn (D.names.length + 0) (Vf.leads φ D.names) := H.out.now.keep (hb1.block mn hmnl)
    have HB1 := Lib.hid hb1
    have HCI0 := Lib.hid hci
    have hN0 : Hid (LoseN φ D.names all [] 0 (Vf.leads φ D.names)) := loseN_start φ D.names all
    clear hrow1 hb1 hci hcl d0 d1
    go_wp2_with fail
    go_loopg [18] n (fun gg iv wx => ∃ (i k : Nat) (acc : List Vf.Lk) (F : ByteArray → Option Nat), i ≤ n ∧ gg = n - i ∧ iv = .int .i64 (i : Int) ∧ k ≤ i ∧ Hid (Vf.pick D.kept D.names (Vf.u64 loss) 0 [] all = Vf.pick D.kept D.names (Vf.u64 loss) k acc (all.drop i)) ∧ MapA wx mn (D.names.length + i) F ∧ Hid (LoseN φ D.names all acc i F) ∧ wx.heap[ci]? = some (.cells #[.int .u64 (k : Int)] 90 (0, 0)) ∧ KeptF (fun b => b = mn ∨ b = ci) wc wx)
    case atStart => exact ⟨0, 0, [], _, Nat.zero_le _, rfl, rfl, Nat.le_refl _, rfl, hM1, hN0, hci1, KeptF.refl _ _⟩
    case round =>
      obtain ⟨i, k, acc, F, hi, rfl, rfl, hk, hpick, hM, hN, hcb2, hkept⟩ := hrel
      obtain ⟨c0, c1, hMs, hclx, f1, hnames⟩ := HW.out wr hkept
      by_cases hin : i < n
      · have i1 : (i : Int) < (n : Int) := by omega
        have il : i < all.length := by rw [← HN.out]; exact hin
        obtain ⟨g, rfl, hcn⟩ := hnames i il
        have hFn := loseN_at hN.out HSP.out.1 il
        have hstep := fun x => loseN_step hN.out HSP.out.1 il x
        have hdrop : all.drop i = all[i] :: all.drop (i + 1) := List.drop_eq_getElem_cons il
        have hnm40 : all[i].name.size ≤ 40 := by
          have h := (HSP.out.2 all[i].name).1 ⟨all[i], List.getElem_mem il, rfl⟩
          rcases h with h | h
          · obtain ⟨x, hx, h1, _⟩ := Vf.find_mem h
            rw [← h1]
            exact okN_size (HOK.out.nums x (.inr hx)).2.2.1
          · obtain ⟨x, hx, h1, _⟩ := Vf.find_mem h
            rw [← h1]
            exact okN_size (HOK.out.nums x (.inl hx)).2.2.1
        have hnsm : all[i].name.size ≤ maxLen := by unfold maxLen; omega
        have HM := Lib.hid hM
        have HMs := Lib.hid hMs
        have HK := Lib.hid hkept
        have hci0 : wr.cell? ⟨ci, 0, none⟩ = some (.int .u64 (k : Int)) := (cell_of_row _ ci 0 _ _ _ hcb2).trans rfl
        have hcif : wr.frozen? ⟨ci, 0, none⟩ = false := by simp [World.frozen?, hcb2]
        have hR1 := Lib.hid (row1_any wr ci cl k loss hloss (by omega) hci0 hcif hclx hne)
        obtain ⟨nm, hnm⟩ : ∃ nm, nm = all[i].name := ⟨_, rfl⟩
        obtain ⟨x, hx⟩ : ∃ x, x = Vf.find D.kept nm := ⟨_, rfl⟩
        obtain ⟨y, hy⟩ : ∃ y, y = Vf.find D.names nm := ⟨_, rfl⟩
        rw [← hnm] at hcn hFn hstep hnm40 hnsm
        have hS0 : Vf.leads φ D.kept nm = if x = 0 then none else some (φ x) := by unfold Vf.leads; rw [← hx]
        have hF0 : F nm = if y = 0 then none else some (φ y) := by rw [hFn]; unfold Vf.leads; rw [← hy]
        have hxy : x = 0 → y = 0 → False := fun e1 e2 => by
          have h := (HSP.out.2 nm).1 ⟨all[i], List.getElem_mem il, hnm.symm⟩
          rw [← hx, ← hy] at h
          omega
        have hlive : x ≠ 0 → y ≠ 0 → φ x = φ y → x = y := fun e1 e2 e3 => H.out.inj x y (by
          obtain ⟨z, hz, _, h2⟩ := Vf.find_mem (l := D.kept) (s := nm) (by rw [← hx]; exact e1)
          exact ⟨z, .inr hz, by rw [h2, ← hx]⟩) (by
          obtain ⟨z, hz, _, h2⟩ := Vf.find_mem (l := D.names) (s := nm) (by rw [← hy]; exact e2)
          exact ⟨z, .inl hz, by rw [h2, ← hy]⟩) e3
        have HP1 : Hid (∀ k' acc', Vf.pick D.kept D.names (Vf.u64 loss) k acc (all[i] :: all.drop (i + 1)) = Vf.pick D.kept D.names (Vf.u64 loss) k' acc' (all.drop (i + 1)) → Vf.pick D.kept D.names (Vf.u64 loss) 0 [] all = Vf.pick D.kept D.names (Vf.u64 loss) k' acc' (all.drop (i + 1))) := fun k' acc' h => by rw [hpick.out, hdrop, h]
        have HX := Lib.hid hx
        have HY := Lib.hid hy
        have HNM := Lib.hid hnm
        have HST := Lib.hid hstep
        have HCB := Lib.hid hcb2
        clear hM hMs hkept hcb2 hFn hstep hdrop hpick hx hy hnm hN hnm40 hnames
        by_cases hxe : x = y
        · -- the same file
          subst hxe
          have hx0 : x ≠ 0 := fun e => hxy e e
          rw [if_neg hx0] at hS0 hF0
          have hrel : Hid (Vf.pick D.kept D.names (Vf.u64 loss) 0 [] all = Vf.pick D.kept D.names (Vf.u64 loss) k (acc ++ [⟨all[i].name, x⟩]) (all.drop (i + 1))) := by
            refine HP1.out _ _ ?_
            rw [pick_same D.kept D.names (Vf.u64 loss) k acc _ all[i] x (by rw [← HNM.out]; exact HX.out) (by rw [← HNM.out]; exact HY.out), if_pos hx0]
          have hN2 : Hid (LoseN φ D.names all (acc ++ [⟨all[i].name, x⟩]) (i + 1) F) := by
            have h := HST.out x
            rw [if_pos hx0, if_neg hx0] at h
            have e : F = updF F nm (some (φ x)) := funext (updF_self hF0)
            rw [← e, HNM.out] at h
            exact h
          have HS := Lib.hid hS0
          have HF := Lib.hid hF0
          clear hS0 hF0 hxy hlive
          generalize φ x = gx at *
          have hq := fun w => eqlP_same w gx
          go_wp2_with (first | (at_lookup; refine wpList_look _ rfl _ _ rfl ms _ _ rfl HMs.out nm rfl hnsm ?_; rw [HS.out]; unfold ptrV) | (at_lookup; refine wpList_look _ rfl _ _ rfl mn _ _ rfl HM.out nm rfl hnsm ?_; rw [HF.out]; unfold ptrV))
          go_roundg (n - (i + 1))
          case rel => exact ⟨i + 1, k, _, F, by omega, rfl, by go_num, by omega, hrel, HM.out.mono (by omega), hN2, HCB.out, HK.out⟩
          case measure => omega
        · -- two files, or one and none
          obtain ⟨mx, hmx⟩ : ∃ mx, mx = Vf.mix (Vf.u64 loss) (k + 1) := ⟨_, rfl⟩
          rw [← hmx] at hR1
          have hk1 : ((k + 1 : Nat) : Int) = (k : Int) + 1 := by omega
          have HW2 : Hid ((wr.setCell ⟨ci, 0, none⟩ (.int .u64 ((k + 1 : Nat) : Int))).heap[ci]? = some (.cells #[.int .u64 ((k + 1 : Nat) : Int)] 90 (0, 0)) ∧ KeptF (fun b => b = mn ∨ b = ci) wc (wr.setCell ⟨ci, 0, none⟩ (.int .u64 ((k + 1 : Nat) : Int))) ∧ MapA (wr.setCell ⟨ci, 0, none⟩ (.int .u64 ((k + 1 : Nat) : Int))) mn (D.names.length + i) F ∧ (wr.setCell ⟨ci, 0, none⟩ (.int .u64 ((k + 1 : Nat) : Int))).cell? ⟨p, 0, none⟩ = some (.map (some mn))) := by
            have hr : RowT 90 wr ci #[.int .u64 (k : Int)] := HCB.out
            exact ⟨hr.set 0 _, HK.out.set ci 0 (.inr rfl) _, HM.out.keep (heap_other _ _ _ _ _ hmnci), (World.cell?_setCell_other _ _ _ _ (by simp)).trans c0⟩
          have w20 := HW2.out.2.2.2
          have HO1 := fun (hp : mx % 2 = 1) => HP1.out _ _ (pick_odd D.kept D.names (Vf.u64 loss) k acc (all.drop (i + 1)) all[i] x y (by rw [← HNM.out]; exact HX.out) (by rw [← HNM.out]; exact HY.out) hxe (by rw [← hmx]; exact hp))
          have HE1 := fun (hp : ¬ mx % 2 = 1) => HP1.out _ _ (pick_even D.kept D.names (Vf.u64 loss) k acc (all.drop (i + 1)) all[i] x y (by rw [← HNM.out]; exact HX.out) (by rw [← HNM.out]; exact HY.out) hxe (by rw [← hmx]; exact hp))
          have HFL : Hid (x ≠ 0 → RowT 73 wr (φ x) #[ρ x, .int .i64 ((Vf.fileAt D.files x).sure : Int)]) := fun e1 => HLF.out wr HK.out x (by
            obtain ⟨z, hz, _, h2⟩ := Vf.find_mem (l := D.kept) (s := nm) (by rw [← HX.out]; exact e1)
            exact ⟨z, .inr hz, by rw [h2, ← HX.out]⟩)
          have HFL2 : Hid (y ≠ 0 → RowT 73 wr (φ y) #[ρ y, .int .i64 ((Vf.fileAt D.files y).sure : Int)]) := fun e1 => HLF.out wr HK.out y (by
            obtain ⟨z, hz, _, h2⟩ := Vf.find_mem (l := D.names) (s := nm) (by rw [← HY.out]; exact e1)
            exact ⟨z, .inl hz, by rw [h2, ← HY.out]⟩)
          have HXE := Lib.hid hxe
          clear hmx HP1 hxe
          have HO := Lib.hid HO1
          have HE := Lib.hid HE1
          clear HO1 HE1
          by_cases hx0 : x = 0
          · have hy0 : y ≠ 0 := fun e => hxy hx0 e
            rw [if_pos hx0] at hS0
            rw [if_neg hy0] at hF0
            have HS := Lib.hid hS0
            have HF := Lib.hid hF0
            clear hS0 hF0 hxy hlive
            by_cases hpar : mx % 2 = 1
            · have hst := HST.out y
              have hpk := HO.out hpar
              rw [if_pos hy0, if_neg hy0] at hst
              rw [if_pos hy0] at hpk
              have e : F = updF F nm (some (φ y)) := funext (updF_self HF.out)
              rw [← e, HNM.out] at hst
              have HST2 := Lib.hid hst
              have HPK := Lib.hid hpk
              have m1 : (mx : Int) % 2 = 1 := by omega
              have m2 : (mx : Int).tmod 2 = 1 := by rw [Int.tmod_eq_emod_of_nonneg (by omega)]; exact m1
              clear hst hpk e
              generalize φ y = gy at *
              go_wp2_with (first | (at_lookup; refine wpList_look _ rfl _ _ rfl ms _ _ rfl HMs.out nm rfl hnsm ?_; rw [HS.out]; unfold ptrV) | (at_lookup; refine wpList_look _ rfl _ _ rfl mn _ _ rfl HM.out nm rfl hnsm ?_; rw [HF.out]; unfold ptrV) | (go_at_call 68; go_loud ((refine hR1.out.mono ?_; rintro e1 w1 ⟨rfl, rfl⟩))))
              go_roundg (n - (i + 1))
              case rel => exact ⟨i + 1, k + 1, _, F, by omega, rfl, by go_num, by omega, HPK.out, HW2.out.2.2.1.mono (by omega), HST2.out, HW2.out.1, HW2.out.2.1⟩
              case measure => omega
            · have hst := HST.out x
              have hpk := HE.out hpar
              rw [if_neg (by simp [hx0]), if_pos hx0] at hst
              rw [if_neg (by simp [hx0])] at hpk
              have HST2 := Lib.hid hst
              have HPK := Lib.hid hpk
              have m1 : (mx : Int) % 2 = 0 := by omega
              have m2 : (mx : Int).tmod 2 = 0 := by rw [Int.tmod_eq_emod_of_nonneg (by omega)]; exact m1
              clear hst hpk
              generalize hgy : φ y = gy at *
              clear hgy
              go_wp2_with (first | (at_lookup; refine wpList_look _ rfl _ _ rfl ms _ _ rfl HMs.out nm rfl hnsm ?_; rw [HS.out]; unfold ptrV) | (at_lookup; refine wpList_look _ rfl _ _ rfl mn _ _ rfl HM.out nm rfl hnsm ?_; rw [HF.out]; unfold ptrV) | (go_at_call 68; go_loud ((refine hR1.out.mono ?_; rintro e1 w1 ⟨rfl, rfl⟩))) | (at_delete; refine wpList_drop _ rfl _ _ rfl mn _ _ rfl HW2.out.2.2.1 nm rfl hnsm ?_; intro w4 hM4 hg4; have H4 := Lib.hid (And.intro hM4 hg4); clear hM4 hg4; go_frame))
              have hkept4 : KeptF (fun b => b = mn ∨ b = ci) wc w4 := HW2.out.2.1.trans ⟨H4.out.2.os, H4.out.2.tape, H4.out.2.output, H4.out.2.size, fun b hb hn => H4.out.2.block b hb (fun e => hn (.inl (by simpa using e)))⟩
              have hci4 : w4.heap[ci]? = some (.cells #[.int .u64 ((k + 1 : Nat) : Int)] 90 (0, 0)) := (H4.out.2.block ci (Array.getElem?_eq_some_iff.1 HW2.out.1).1 (fun e => hmnci (by simpa using e.symm))).trans HW2.out.1
              go_roundg (n - (i + 1))
              case rel => exact ⟨i + 1, k + 1, acc, _, by omega, rfl, by go_num, by omega, HPK.out, H4.out.1.mono (by omega), HST2.out, hci4, hkept4⟩
              case measure => omega
          · by_cases hy0 : y = 0
            · skip
              rw [if_neg hx0] at hS0
              rw [if_pos hy0] at hF0
              have hq := fun w => eqlP_none w ⟨φ x, 0, none⟩
              have HS := Lib.hid hS0
              have HF := Lib.hid hF0
              clear hS0 hF0 hxy hlive
              by_cases hpar : mx % 2 = 1
              · have hst := HST.out y
                have hpk := HO.out hpar
                rw [if_neg (by simp [hy0]), if_pos hy0] at hst
                rw [if_neg (by simp [hy0])] at hpk
                have e : F = updF F nm none := funext (updF_self HF.out)
                rw [← e] at hst
                have HST2 := Lib.hid hst
                have HPK := Lib.hid hpk
                have m1 : (mx : Int) % 2 = 1 := by omega
                have m2 : (mx : Int).tmod 2 = 1 := by rw [Int.tmod_eq_emod_of_nonneg (by omega)]; exact m1
                clear hst hpk e
                generalize φ x = gx at *
                go_wp2_with (first | (at_lookup; refine wpList_look _ rfl _ _ rfl ms _ _ rfl HMs.out nm rfl hnsm ?_; rw [HS.out]; unfold ptrV) | (at_lookup; refine wpList_look _ rfl _ _ rfl mn _ _ rfl HM.out nm rfl hnsm ?_; rw [HF.out]; unfold ptrV) | (go_at_call 68; go_loud ((refine hR1.out.mono ?_; rintro e1 w1 ⟨rfl, rfl⟩))))
                go_roundg (n - (i + 1))
                case rel => exact ⟨i + 1, k + 1, acc, F, by omega, rfl, by go_num, by omega, HPK.out, HW2.out.2.2.1.mono (by omega), HST2.out, HW2.out.1, HW2.out.2.1⟩
                case measure => omega
              · have hst := HST.out x
                have hpk := HE.out hpar
                rw [if_pos hx0, if_neg hx0] at hst
                rw [if_pos hx0, ← HNM.out] at hpk
                have HST2 := Lib.hid hst
                have HPK := Lib.hid hpk
                have m1 : (mx : Int) % 2 = 0 := by omega
                have m2 : (mx : Int).tmod 2 = 0 := by rw [Int.tmod_eq_emod_of_nonneg (by omega)]; exact m1
                clear hst hpk
                generalize hgx : φ x = gx at *
                have HGX := Lib.hid hgx
                clear hgx
                go_wp2_with (first | (at_lookup; refine wpList_look _ rfl _ _ rfl ms _ _ rfl HMs.out nm rfl hnsm ?_; rw [HS.out]; unfold ptrV) | (at_lookup; refine wpList_look _ rfl _ _ rfl mn _ _ rfl HM.out nm rfl hnsm ?_; rw [HF.out]; unfold ptrV) | (go_at_call 68; go_loud ((refine hR1.out.mono ?_; rintro e1 w1 ⟨rfl, rfl⟩))) | (at_mapUpdate; refine wpList_store _ rfl _ _ _ rfl mn _ _ rfl HW2.out.2.2.1 (by unfold maxLen; omega) nm rfl hnsm gx rfl ?_; intro w4 hM4 hg4; have H4 := Lib.hid (And.intro hM4 hg4); clear hM4 hg4; go_frame))
                have hkept4 : KeptF (fun b => b = mn ∨ b = ci) wc w4 := HW2.out.2.1.trans ⟨H4.out.2.os, H4.out.2.tape, H4.out.2.output, H4.out.2.size, fun b hb hn => H4.out.2.block b hb (fun e => hn (.inl (by simpa using e)))⟩
                have hci4 : w4.heap[ci]? = some (.cells #[.int .u64 ((k + 1 : Nat) : Int)] 90 (0, 0)) := (H4.out.2.block ci (Array.getElem?_eq_some_iff.1 HW2.out.1).1 (fun e => hmnci (by simpa using e.symm))).trans HW2.out.1
                go_roundg (n - (i + 1))
                case rel => exact ⟨i + 1, k + 1, _, _, by omega, rfl, by go_num, by omega, HPK.out, H4.out.1.mono (by omega), HST2.out, hci4, hkept4⟩
                case measure => omega
            · skip
              rw [if_neg hx0] at hS0
              rw [if_neg hy0] at hF0
              have hq := eqlP_other wr (φ y) (φ x) _ _ (fun e => HXE.out (hlive hx0 hy0 e.symm)) (HFL2.out hy0) (HFL.out hx0)
              have HS := Lib.hid hS0
              have HF := Lib.hid hF0
              clear hS0 hF0 hxy hlive
              by_cases hpar : mx % 2 = 1
              · have hst := HST.out y
                have hpk := HO.out hpar
                rw [if_pos hy0, if_neg hy0] at hst
                rw [if_pos hy0] at hpk
                have e : F = updF F nm (some (φ y)) := funext (updF_self HF.out)
                rw [← e, HNM.out] at hst
                have HST2 := Lib.hid hst
                have HPK := Lib.hid hpk
                have m1 : (mx : Int) % 2 = 1 := by omega
                have m2 : (mx : Int).tmod 2 = 1 := by rw [Int.tmod_eq_emod_of_nonneg (by omega)]; exact m1
                clear hst hpk e
                generalize φ x = gx at *
                generalize φ y = gy at *
                go_wp2_with (first | (at_lookup; refine wpList_look _ rfl _ _ rfl ms _ _ rfl HMs.out nm rfl hnsm ?_; rw [HS.out]; unfold ptrV) | (at_lookup; refine wpList_look _ rfl _ _ rfl mn _ _ rfl HM.out nm rfl hnsm ?_; rw [HF.out]; unfold ptrV) | (go_at_call 68; go_loud ((refine hR1.out.mono ?_; rintro e1 w1 ⟨rfl, rfl⟩))))
                go_roundg (n - (i + 1))
                case rel => exact ⟨i + 1, k + 1, _, F, by omega, rfl, by go_num, by omega, HPK.out, HW2.out.2.2.1.mono (by omega), HST2.out, HW2.out.1, HW2.out.2.1⟩
                case measure => omega
              · have hst := HST.out x
                have hpk := HE.out hpar
                rw [if_pos hx0, if_neg hx0] at hst
                rw [if_pos hx0, ← HNM.out] at hpk
                have HST2 := Lib.hid hst
                have HPK := Lib.hid hpk
                have m1 : (mx : Int) % 2 = 0 := by omega
                have m2 : (mx : Int).tmod 2 = 0 := by rw [Int.tmod_eq_emod_of_nonneg (by omega)]; exact m1
                clear hst hpk
                generalize hgx : φ x = gx at *
                generalize hgy : φ y = gy at *
                have HGX := Lib.hid hgx
                clear hgx
                clear hgy
                go_wp2_with (first | (at_lookup; refine wpList_look _ rfl _ _ rfl ms _ _ rfl HMs.out nm rfl hnsm ?_; rw [HS.out]; unfold ptrV) | (at_lookup; refine wpList_look _ rfl _ _ rfl mn _ _ rfl HM.out nm rfl hnsm ?_; rw [HF.out]; unfold ptrV) | (go_at_call 68; go_loud ((refine hR1.out.mono ?_; rintro e1 w1 ⟨rfl, rfl⟩))) | (at_mapUpdate; refine wpList_store _ rfl _ _ _ rfl mn _ _ rfl HW2.out.2.2.1 (by unfold maxLen; omega) nm rfl hnsm gx rfl ?_; intro w4 hM4 hg4; have H4 := Lib.hid (And.intro hM4 hg4); clear hM4 hg4; go_frame))
                have hkept4 : KeptF (fun b => b = mn ∨ b = ci) wc w4 := HW2.out.2.1.trans ⟨H4.out.2.os, H4.out.2.tape, H4.out.2.output, H4.out.2.size, fun b hb hn => H4.out.2.block b hb (fun e => hn (.inl (by simpa using e)))⟩
                have hci4 : w4.heap[ci]? = some (.cells #[.int .u64 ((k + 1 : Nat) : Int)] 90 (0, 0)) := (H4.out.2.block ci (Array.getElem?_eq_some_iff.1 HW2.out.1).1 (fun e => hmnci (by simpa using e.symm))).trans HW2.out.1
                go_roundg (n - (i + 1))
                case rel => exact ⟨i + 1, k + 1, _, _, by omega, rfl, by go_num, by omega, HPK.out, H4.out.1.mono (by omega), HST2.out, hci4, hkept4⟩
                case measure => omega
      · obtain rfl : i = n := by omega
        have hFe := loseN_end (kept := D.kept) (φ := φ) (names := D.names) (all := all) (acc := acc) (F := F) (by rw [← HN.out]; exact hN.out) HSP.out.2
        have hpk : Vf.pick D.kept D.names (Vf.u64 loss) 0 [] all = (acc, k) := by
          rw [hpick.out, List.drop_of_length_le (by rw [← HN.out]; exact Nat.le_refl _)]
          rfl
        have hsp := Vf.pick_spec D.kept D.names (Vf.u64 loss) all 0 [] HSP.out.1 (fun b hb => by cases hb) List.Pairwise.nil (fun b hb => by cases hb)
        rw [hpk] at hsp
        have hsub : ∀ x ∈ acc, Vf.Live D x.n := by
          intro x hx
          obtain ⟨h0, h1 | h1⟩ := hsp.2.1 x hx
          · obtain ⟨z, hz, _, h2⟩ := Vf.find_mem (l := D.kept) (s := x.name) (by rw [← h1]; exact h0)
            exact ⟨z, .inr hz, by rw [h2, ← h1]⟩
          · obtain ⟨z, hz, _, h2⟩ := Vf.find_mem (l := D.names) (s := x.name) (by rw [← h1]; exact h0)
            exact ⟨z, .inl hz, by rw [h2, ← h1]⟩
        have hMe := hM.congr hFe
        have hcil2 := hcil
        have HE : Hid (∀ w3 : World, MapA w3 wr.heap.size (D.names.length + i) (Vf.leads φ acc) → wr.heap.size < w3.heap.size → Below wr.heap.size wr w3 → (w3.cell? ⟨p, 1, none⟩ = some (.map (some ms)) ∧ w3.frozen? ⟨p, 1, none⟩ = false) ∧
            LostN w p mn ci φ ρ D (acc, k) (.returned (.tuple #[])) (w3.setCell ⟨p, 1, none⟩ (.map (some wr.heap.size)))) := by
          intro w3 hM3 hs3 hB3
          have hwr : w.heap.size ≤ wr.heap.size := Nat.le_trans HB1.out.size hkept.size
          have hK0 : KeptF (fun b => b = p ∨ b = mn ∨ b = ci) w wr := (KeptF.of_below HB1.out).trans (hkept.mono fun _ _ h => .inr h)
          have hrow0 : RowT 57 wr p (prC mn ms D) := H.out.row.keep ((hkept.block p (Nat.lt_of_lt_of_le hpl HB1.out.size) (fun h => h.elim (fun h => hap h.symm) hpci)).trans (HB1.out.block p hpl))
          have hrow3 := hrow0.keep (hB3.block p hrow0.lt)
          have hK3 : KeptF (fun b => b = p ∨ b = mn ∨ b = ci) w (w3.setCell ⟨p, 1, none⟩ (.map (some wr.heap.size))) := (hK0.trans (KeptF.of_below hB3)).set p 1 (.inl rfl) _
          have hmnl3 : mn < wr.heap.size := Nat.lt_of_lt_of_le hmnl hwr
          have hP := H.out.lost (w2 := w3.setCell ⟨p, 1, none⟩ (.map (some wr.heap.size))) (ms2 := wr.heap.size) (ci := ci) (c := #[.int .u64 0]) acc hsub hwr _ _
            (hMe.keep ((heap_other _ _ _ _ _ hap).trans (hB3.block mn hmnl3))) (hM3.keep (heap_other _ _ _ _ _ (by omega))) (hrow3.set 1 _) HCI0.out (fun b h1 h2 h3 h4 => hK3.block b h4 (fun h => h.elim h1 (fun h => h.elim h2 h3)))
          refine ⟨⟨hrow3.cell 1, hrow3.frozen 1⟩, rfl, wr.heap.size, hP.1, hwr, ?_, hK3⟩
          exact (heap_other _ _ _ _ _ (fun e => hpci e.symm)).trans ((hB3.block ci (by omega)).trans hcb2)
        have hMe' := Lib.hid hMe
        have HPK := Lib.hid hpk
        have d0r := c0
        clear hFe hsp hsub hMe hM hN hpick hkept hcb2 hMs hnames hpk
        go_wp2_with (go_at_call 48; go_loud ((refine (cloneM_any wr mn _ _ hMe'.out).mono ?_; rintro e1 w3 ⟨rfl, hM3, hs3, hB3⟩; have hS3 := HE.out w3 hM3 hs3 hB3; obtain ⟨⟨q1, q2⟩, hE3⟩ := hS3; have HE3 := Lib.hid hE3; clear hM3 hs3 hB3 hE3)))
        go_end0
        rw [HPK.out]
        exact HE3.out
end Go.Proofs.Ytdohenbicepicaa
