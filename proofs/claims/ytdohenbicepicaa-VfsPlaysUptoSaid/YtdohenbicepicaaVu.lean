/-
  What the given disk's Restart does.
-/
import Derived.Test.YtdohenbicepicaaVt
import Derived.Deep.RegionHeld
import Derived.StillTailTactics
namespace Go.Proofs.Ytdohenbicepicaa
open Go.RowKit

set_option maxHeartbeats 1000000 in
theorem appendR_any (w : World) (b : Nat) (vf vn vk : Value) (D : Vf.Dk) (s data : ByteArray) (h : RefA w b vf vn vk D) (hs : D.steps ≤ 4611686018427387904) (ha : -1 ≤ D.armed ∧ D.armed ≤ 9223372036854775807)
    (hpl : Vf.find D.names s ≠ 0 → Vf.place D.files (Vf.find D.names s) < D.files.length) (hfd : Vf.find D.names s ≤ 9223372036854775807) (hda : ∀ f ∈ D.files, f.data.size ≤ 1099511627776) (hdb : data.size ≤ 1099511627776) :
    Calls Try.prog 28 #[.pointer (some ⟨b, 0, none⟩), .string s, .string data] w (OpPost w b vf vn vk (Vf.append D s data)) := by
  have hC := Lib.hid (changeR_any w b vf vn vk D s data false h hs ha hpl hfd hda hdb)
  clear h hpl hda
  go_enter Try.func28, Try.ntmps28
  go_wp2_with (go_at_call 60; refine hC.out.mono ?_; rintro e1 w1 ⟨rfl, hrest⟩)
  go_ret
  exact ⟨rfl, hrest⟩
set_option maxHeartbeats 1000000 in
theorem syncR_any (w : World) (b : Nat) (vf vn vk : Value) (D : Vf.Dk) (s : ByteArray) (h : RefA w b vf vn vk D) (hs : D.steps ≤ 4611686018427387904) (ha : -1 ≤ D.armed ∧ D.armed ≤ 9223372036854775807)
    (hpl : Vf.find D.names s ≠ 0 → Vf.place D.files (Vf.find D.names s) < D.files.length) (hfd : Vf.find D.names s ≤ 9223372036854775807) (hda : ∀ f ∈ D.files, f.data.size ≤ 1099511627776) :
    Calls Try.prog 29 #[.pointer (some ⟨b, 0, none⟩), .string s] w (OpPost w b vf vn vk (Vf.sync D s)) := by
  have hC : Hid (Calls Try.prog 60 #[.pointer (some ⟨b, 0, none⟩), .string s, .string ⟨#[]⟩, .bool true] w (OpPost w b vf vn vk (Vf.sync D s))) := changeR_any w b vf vn vk D s ByteArray.empty true h hs ha hpl hfd hda (by decide)
  clear h hpl hda
  go_enter Try.func29, Try.ntmps29
  go_wp2_with (go_at_call 60; refine hC.out.mono ?_; rintro e1 w1 ⟨rfl, hrest⟩)
  go_ret
  exact ⟨rfl, hrest⟩

theorem linkGo_len (s : ByteArray) (n : Nat) (l : List Vf.Lk) : ∀ d, (Vf.linkGo s n d l).length ≤ l.length + (if d then 0 else 1) := by
  induction l with
  | nil => intro d; cases d <;> simp [Vf.linkGo]
  | cons x t ih =>
    intro d
    have h1 := ih d
    have h2 := ih true
    simp only [if_true] at h2
    unfold Vf.linkGo
    split
    · rw [List.length_cons]; omega
    · split
      · rename_i h
        obtain rfl : d = false := by cases d <;> simp at h ⊢
        simp only [List.length_cons]
        simp
        omega
      · rw [List.length_cons, List.length_cons]; omega
theorem link_len (l : List Vf.Lk) (s : ByteArray) (n : Nat) : (Vf.link l s n).length ≤ l.length + 1 := by
  have h := linkGo_len s n l (n == 0)
  unfold Vf.link
  split at h <;> omega
theorem LkS.drewN {w : World} {v : Value} {l : List Vf.Lk} (h : LkS w v l) (n : Nat) : LkS (w.drewN n) v l := h.below (belowN (Below.refl w.heap.size w) n) (Nat.le_refl _)

theorem new_file_at (w : World) (H : Nat) (n : Int) (d : ByteArray) (s : Int) (h : w.heap.size = H) : ∀ j u, [Value.int .i64 n, .string d, .int .i64 s][j]? = some u → (w.alloc (.cells #[.int .i64 n, .string d, .int .i64 s] 86)).cell? ((⟨H, 0, none⟩ : Addr).add j) = some u := by
  subst h
  exact new_file w n d s
theorem setCell_size (w : World) (a : Addr) (v : Value) : (w.setCell a v).heap.size = w.heap.size := by simp [World.setCell]
theorem lits_at (X : World) (H : Nat) (h : X.heap.size = H) : (X.alloc (.cells #[] 37)).ownsRow H 37 2 (.slice (some ⟨H, 0, none⟩) 0 0) 0 [] := by subst h; exact lits_own X
theorem copied_at {X w3 : World} {H : Nat} {v : Value} {l : List Vf.Lk} (hX : X.heap.size = H) (h : w3.ownsRow H 37 2 v (0 + l.length) ([] ++ lksV l)) (hg : (X.alloc (.cells #[] 37)).grownBy w3 (some H)) : OwnK w3 H v l ∧ Below H X w3 := by subst hX; exact copied_own h hg
theorem row_mid {w wr w3 : World} {b : Nat} {vf vn vk vf' vn' : Value} {D : Vf.Dk} (h : RefA w b vf vn vk D) (hb : Below w.heap.size w wr) (hb3 : Below wr.heap.size ((wr.setCell ⟨b, 0, none⟩ vf').setCell ⟨b, 1, none⟩ vn') w3) : RowC w3 b (dkC vf' vn' vk D) := by
  have r1 : RowC wr b (dkC vf vn vk D) := (hb.block b h.row.lt).trans h.row
  exact (hb3.block b (Nat.lt_of_lt_of_le h.row.lt hb.size)).trans ((r1.set 0 vf').set 1 vn')
theorem names_mid {W2 wr : World} {b B : Nat} {vf' vn' : Value} {N : List Vf.Lk} (hN : OwnK W2 B vn' N) (hb : Below W2.heap.size W2 wr) (hlt : b < B) : OwnK (((wr.setCell ⟨b, 0, none⟩ vf').setCell ⟨b, 1, none⟩ vn').alloc (.cells #[] 37)) B vn' N := by
  refine ownsRow_keep hN fun k hk => ?_
  have h1 := World.ownsRow.lt hN k hk
  have hs := hb.size
  refine (((Below.refl _ _).alloc (Nat.le_refl _) _).block k ?_).trans ((heap_other _ _ _ _ _ (by omega)).trans ((heap_other _ _ _ _ _ (by omega)).trans (hb.block k h1.2)))
  rw [setCell_size, setCell_size]
  omega
theorem restart_end {w wr w3 : World} {b S : Nat} {vf vn vk vf' vn' vk' : Value} {D : Vf.Dk} {F : List Vf.Fl} {N : List Vf.Lk} (h : RefA w b vf vn vk D) (hb : Below w.heap.size w wr)
    (hF : OwnF wr S vf' F) (hN : OwnK wr w.heap.size vn' N) (hNS : ∀ k, vn'.ownBlock = some k → k < S) (hwS : w.heap.size ≤ S)
    (hb3 : Below wr.heap.size ((wr.setCell ⟨b, 0, none⟩ vf').setCell ⟨b, 1, none⟩ vn') w3) (hK : OwnK w3 wr.heap.size vk' N) :
    RefA (((w3.setCell ⟨b, 2, none⟩ vk').setCell ⟨b, 7, none⟩ (.bool false)).setCell ⟨b, 5, none⟩ (.int .i64 (-1))) b vf' vn' vk' { D with files := F, names := N, kept := N, down := false, armed := -1 } ∧
    KeptF (fun k => k = b) w (((w3.setCell ⟨b, 2, none⟩ vk').setCell ⟨b, 7, none⟩ (.bool false)).setCell ⟨b, 5, none⟩ (.int .i64 (-1))) ∧
    (∀ k, k < w.heap.size → Foot b vf' vn' vk' k → k = b) := by
  have hbl := h.row.lt
  have hs := hb.size
  have r3 := row_mid h hb hb3
  have hx1 : ∀ k, k ≠ b → (((w3.setCell ⟨b, 2, none⟩ vk').setCell ⟨b, 7, none⟩ (.bool false)).setCell ⟨b, 5, none⟩ (.int .i64 (-1))).heap[k]? = w3.heap[k]? := fun k hk => (heap_other _ _ _ _ _ hk).trans ((heap_other _ _ _ _ _ hk).trans (heap_other _ _ _ _ _ hk))
  have hx2 : ∀ k, k < wr.heap.size → k ≠ b → w3.heap[k]? = wr.heap[k]? := fun k h1 hk => (hb3.block k h1).trans ((heap_other _ _ _ _ _ hk).trans (heap_other _ _ _ _ _ hk))
  have hb3' : Below ((wr.setCell ⟨b, 0, none⟩ vf').setCell ⟨b, 1, none⟩ vn').heap.size ((wr.setCell ⟨b, 0, none⟩ vf').setCell ⟨b, 1, none⟩ vn') w3 := by
    rw [setCell_size, setCell_size]
    exact hb3
  refine ⟨⟨((r3.set 2 vk').set 7 (.bool false)).set 5 (.int .i64 (-1)), ?_, ?_, ?_, ?_, ?_, ?_, ?_⟩, ?_, ?_⟩
  · exact ownsRow_keep (ownsRow_base hF (Nat.zero_le _)) fun k hk => by
      have h1 := World.ownsRow.lt hF k hk
      exact (hx1 k (by omega)).trans (hx2 k h1.2 (by omega))
  · exact ownsRow_keep (ownsRow_base hN (Nat.zero_le _)) fun k hk => by
      have h1 := World.ownsRow.lt hN k hk
      exact (hx1 k (by omega)).trans (hx2 k h1.2 (by omega))
  · exact ownsRow_keep (ownsRow_base hK (Nat.zero_le _)) fun k hk => by
      have h1 := World.ownsRow.lt hK k hk
      exact hx1 k (by omega)
  · intro e; have h1 := World.ownsRow.lt hF b e; omega
  · intro e; have h1 := World.ownsRow.lt hN b e; omega
  · intro e; have h1 := World.ownsRow.lt hK b e; omega
  · intro k hk
    have h1 := World.ownsRow.lt hF k hk
    exact ⟨fun e => by have := hNS k e; omega, fun e => by have := (World.ownsRow.lt hK k e).1; omega⟩
  · exact ((((((KeptF.of_below (F := fun k => k = b) hb).set b 0 rfl vf').set b 1 rfl vn').trans (KeptF.of_below (F := fun k => k = b) hb3')).set b 2 rfl vk').set b 7 rfl _).set b 5 rfl _
  · intro k hk hf
    rcases hf with hf | hf | hf | hf
    · exact hf
    · have h1 := World.ownsRow.lt hF k hf; omega
    · have h1 := World.ownsRow.lt hN k hf; omega
    · have h1 := World.ownsRow.lt hK k hf; omega
/-- Behind an append of one file. -/
theorem ownF_push {w wr w1 : World} {B : Nat} {v v' : Value} {l : List Vf.Fl} {x : Vf.Fl} {o : Obj} (hB : B ≤ wr.heap.size) (h : OwnF wr B v l) (hb : Below B w wr)
    (h1 : w1.ownsRow B 86 3 v' (l.length + 1) (flsV l ++ [.int .i64 (x.n : Int), .string x.data, .int .i64 (x.sure : Int)])) (hg : (wr.alloc o).grownBy w1 v.ownBlock) :
    OwnF w1 B v' (l ++ [x]) ∧ Below B w w1 ∧ B ≤ w1.heap.size := by
  have hown : wr.ownsRow B 86 3 v l.length (flsV l) := h
  have hs : B ≤ w1.heap.size := by have := hg.size; simp at this; omega
  refine ⟨?_, (hb.alloc hB o).grown hg (by simp; omega) (fun j hj => (hown.lt j hj).1), hs⟩
  unfold OwnF
  rw [flsV_snoc] at h1
  simpa using h1
theorem OwnF.below {w w' : World} {B C : Nat} {v : Value} {l : List Vf.Fl} (h : OwnF w B v l) (hb : Below C w w') (hC : w.heap.size ≤ C) : OwnF w' B v l :=
  ownsRow_keep h fun k hk => hb.block k (Nat.lt_of_lt_of_le (World.ownsRow.lt h k hk).2 hC)
theorem pick_same (kept names : List Vf.Lk) (loss k : Nat) (acc t : List Vf.Lk) (a : Vf.Lk) (x : Nat) (hx : x = Vf.find kept a.name) (hy : x = Vf.find names a.name) :
    Vf.pick kept names loss k acc (a :: t) = Vf.pick kept names loss k (if x ≠ 0 then acc ++ [⟨a.name, x⟩] else acc) t := by
  simp only [Vf.pick, ← hx, ← hy, ne_eq, not_true, false_and, if_false]
theorem pick_odd (kept names : List Vf.Lk) (loss k : Nat) (acc t : List Vf.Lk) (a : Vf.Lk) (x y : Nat) (hx : x = Vf.find kept a.name) (hy : y = Vf.find names a.name) (hxy : x ≠ y) (hp : Vf.mix loss (k + 1) % 2 = 1) :
    Vf.pick kept names loss k acc (a :: t) = Vf.pick kept names loss (k + 1) (if y ≠ 0 then acc ++ [⟨a.name, y⟩] else acc) t := by
  simp only [Vf.pick, ← hx, ← hy, if_pos hxy, if_pos (And.intro hxy hp)]
theorem pick_even (kept names : List Vf.Lk) (loss k : Nat) (acc t : List Vf.Lk) (a : Vf.Lk) (x y : Nat) (hx : x = Vf.find kept a.name) (hy : y = Vf.find names a.name) (hxy : x ≠ y) (hp : ¬ Vf.mix loss (k + 1) % 2 = 1) :
    Vf.pick kept names loss k acc (a :: t) = Vf.pick kept names loss (k + 1) (if x ≠ 0 then acc ++ [⟨a.name, x⟩] else acc) t := by
  simp only [Vf.pick, ← hx, ← hy, if_pos hxy, if_neg (fun h : x ≠ y ∧ _ => hp h.2)]

set_option maxRecDepth 100000 in
set_option maxHeartbeats 8000000 in
theorem restartR_any (w : World) (b : Nat) (vf vn vk : Value) (D : Vf.Dk) (loss : Int) (h : RefA w b vf vn vk D) (hn : D.names.length ≤ 1048576) (hk : D.kept.length ≤ 1048576) (_hl64 : -9223372036854775808 ≤ loss ∧ loss ≤ 9223372036854775807)
    (hinv : ∀ a ∈ (Vf.pick D.kept D.names (Vf.u64 loss) 0 [] (Vf.allNames D.kept D.kept D.names)).1, Vf.place D.files a.n < D.files.length ∧ a.n ≤ 1073741824) (hfi : ∀ f ∈ D.files, f.data.size ≤ 1099511627776 ∧ f.sure ≤ f.data.size ∧ f.n ≤ 1073741824) :
    Calls Try.prog 35 #[.pointer (some ⟨b, 0, none⟩), .int .i64 loss] w (OpPost w b vf vn vk (Vf.restart D loss)) := by
  obtain ⟨il, hil, hlz0, hlz1, hlz2⟩ := info_parts Try.infoL
  obtain ⟨ifl, hif, hfz0, hfz1, hfz2⟩ := info_parts Try.infoF
  have hrow := h.row
  have hbl := hrow.lt
  have c0 : w.cell? ⟨b, 0, none⟩ = some vf := hrow.cell 0
  have c1 : w.cell? ⟨b, 1, none⟩ = some vn := hrow.cell 1
  have c2 : w.cell? ⟨b, 2, none⟩ = some vk := hrow.cell 2
  have hnS := OwnK.lks h.names
  have hkS := OwnK.lks h.kept
  have HNS := Lib.hid hnS
  have HKS := Lib.hid hkS
  obtain ⟨an, qn, rfl, hqn1, hqn2, hcn⟩ := hnS
  obtain ⟨ak, qk, rfl, _, _, _⟩ := hkS
  have HCN := Lib.hid hcn
  have H := Lib.hid h
  clear hcn h
  obtain ⟨nn, hnn⟩ : ∃ nn, nn = D.names.length := ⟨_, rfl⟩
  obtain ⟨nk, hnk⟩ : ∃ nk, nk = D.kept.length := ⟨_, rfl⟩
  rw [← hnn] at c1 hqn1 hn HNS H ⊢
  rw [← hnk] at c2 hk HKS H ⊢
  have HNN := Lib.hid hnn
  have HNK := Lib.hid hnk
  clear hnn hnk hrow
  have HINV := Lib.hid hinv
  have HFI := Lib.hid hfi
  clear hinv hfi
  go_enter Try.func35, Try.ntmps35
  go_wp2_with fail
  -- all names, now or sure
  go_loopg [5, 6] nn (fun g av iv wx => ∃ (i : Nat) (L : List Vf.Lk), i ≤ nn ∧ g = nn - i ∧ iv = .int .i64 (i : Int) ∧ L.length ≤ nk + i ∧ LkS wx av L ∧ Hid (Vf.allNames D.kept D.kept D.names = Vf.allNames D.kept L (D.names.drop i)) ∧ Below w.heap.size w wx)
  case atStart => exact ⟨0, D.kept, Nat.zero_le _, rfl, rfl, by rw [HNK.out]; exact Nat.le_refl _, HKS.out, rfl, Below.refl _ _⟩
  case round =>
    obtain ⟨i, L, hi, rfl, rfl, hL, hLS, hf, hbel⟩ := hrel
    have d1 : wr.cell? ⟨b, 1, none⟩ = some (.slice an nn qn) := (hbel.cell (p := ⟨b, 1, none⟩) hbl).trans c1
    have d2 : wr.cell? ⟨b, 2, none⟩ = some (.slice ak nk qk) := (hbel.cell (p := ⟨b, 2, none⟩) hbl).trans c2
    by_cases hin : i < nn
    -- BEGIN
    · have i1 : (i : Int) < (nn : Int) := by omega
      have il' : i < D.names.length := by rw [← HNN.out]; exact hin
      obtain ⟨g, rfl, hg, hc⟩ := HCN.out (by omega)
      have e1 : wr.cell? ⟨g, i * 2, none⟩ = some (.string D.names[i].name) := (hbel.cell (p := ⟨g, i * 2, none⟩) hg).trans (hc i il').1
      have e2 : wr.cell? ⟨g, i * 2 + 1, none⟩ = some (.int .i64 (D.names[i].n : Int)) := (hbel.cell (p := ⟨g, i * 2 + 1, none⟩) hg).trans (hc i il').2
      have hFi : Hid (∀ m, Calls Try.prog 61 #[.slice ak nk qk, .string D.names[i].name] (wr.drewN m) fun e' w' => e' = .returned (.int .i64 (Vf.find D.kept D.names[i].name)) ∧ w' = wr.drewN m) := fun m => (find_any (wr.drewN m) _ D.kept D.names[i].name ((HKS.out.below hbel (Nat.le_refl _)).drewN m)).mono fun _ _ h => ⟨h.1, h.2.symm⟩
      have hd : Vf.allNames D.kept L (D.names.drop i) = Vf.allNames D.kept (if Vf.find D.kept D.names[i].name = 0 then Vf.link L D.names[i].name D.names[i].n else L) (D.names.drop (i + 1)) := by
        rw [List.drop_eq_getElem_cons il']
        rfl
      have HLS := Lib.hid hLS
      have HBE := Lib.hid hbel
      clear hc hLS hbel
      by_cases h0 : Vf.find D.kept D.names[i].name = 0
      · rw [if_pos h0] at hd
        rw [h0] at hFi
        have hst : Hid (Vf.allNames D.kept D.kept D.names = Vf.allNames D.kept (Vf.link L D.names[i].name D.names[i].n) (D.names.drop (i + 1))) := by show _ = _; rw [hf.out, hd]
        have hlk := link_len L D.names[i].name D.names[i].n
        clear hd hf h0
        generalize D.names[i].name = nm at *
        generalize D.names[i].n = num at *
        go_wp2_with fail
        go_quiet (first | (go_at_call 61; refine Calls.quiet_of_same (hFi.out _)))
        go_wp2_with fail
        have HS0 : Hid ((fun w' : World => w'.cell? ⟨b, 1, none⟩ = some (.slice (some ⟨g, 0, none⟩) nn qn) ∧ w'.cell? ⟨g, i * 2, none⟩ = some (.string nm) ∧ w'.cell? ⟨g, i * 2 + 1, none⟩ = some (.int .i64 (num : Int)) ∧ Below wr.heap.size wr w') (wr.drewN nq).drew) := ⟨d1, e1, e2, (belowN (Below.refl _ _) nq).drew⟩
        have HSK : Hid (∀ w' w'' : World, (fun w' : World => w'.cell? ⟨b, 1, none⟩ = some (.slice (some ⟨g, 0, none⟩) nn qn) ∧ w'.cell? ⟨g, i * 2, none⟩ = some (.string nm) ∧ w'.cell? ⟨g, i * 2 + 1, none⟩ = some (.int .i64 (num : Int)) ∧ Below wr.heap.size wr w') w' → Below w'.heap.size w' w'' → (fun w' : World => w'.cell? ⟨b, 1, none⟩ = some (.slice (some ⟨g, 0, none⟩) nn qn) ∧ w'.cell? ⟨g, i * 2, none⟩ = some (.string nm) ∧ w'.cell? ⟨g, i * 2 + 1, none⟩ = some (.int .i64 (num : Int)) ∧ Below wr.heap.size wr w') w'') := fun w' w'' hs hb => by
          have hbz : b < w'.heap.size := Nat.lt_of_lt_of_le hbl (Nat.le_trans HBE.out.size hs.2.2.2.size)
          have hgz : g < w'.heap.size := Nat.lt_of_lt_of_le hg (Nat.le_trans HBE.out.size hs.2.2.2.size)
          exact ⟨(hb.cell (p := ⟨b, 1, none⟩) hbz).trans hs.1, (hb.cell (p := ⟨g, i * 2, none⟩) hgz).trans hs.2.1, (hb.cell (p := ⟨g, i * 2 + 1, none⟩) hgz).trans hs.2.2.1, hs.2.2.2.trans (hb.mono hs.2.2.2.size)⟩
        have hL : Hid (∀ w' : World, (fun w' : World => w'.cell? ⟨b, 1, none⟩ = some (.slice (some ⟨g, 0, none⟩) nn qn) ∧ w'.cell? ⟨g, i * 2, none⟩ = some (.string nm) ∧ w'.cell? ⟨g, i * 2 + 1, none⟩ = some (.int .i64 (num : Int)) ∧ Below wr.heap.size wr w') w' → Calls Try.prog 59 #[u5, .string nm, .int .i64 (num : Int)] w' fun e' w'' => ∃ v', e' = .returned v' ∧ OwnK w'' w'.heap.size v' (Vf.link L nm num) ∧ Below w'.heap.size w' w'') := fun w' hs => link_any w' u5 L nm num (HLS.out.below hs.2.2.2 (Nat.le_refl _)) (by omega)
        go_region_held (fun w' => w'.cell? ⟨b, 1, none⟩ = some (.slice (some ⟨g, 0, none⟩) nn qn) ∧ w'.cell? ⟨g, i * 2, none⟩ = some (.string nm) ∧ w'.cell? ⟨g, i * 2 + 1, none⟩ = some (.int .i64 (num : Int)) ∧ Below wr.heap.size wr w') (first | assumption | exact HS0.out | exact HSK.out _ _ (by assumption) hb2) ((go_at_call 59; refine (hL.out _ (by assumption)).mono ?_; rintro e1 w2 ⟨v2, rfl, ho2, hb2⟩))
        have hb3 : Below w.heap.size w w2 := HBE.out.trans ((show Below wr.heap.size wr w2 from (by assumption : _ ∧ _ ∧ _ ∧ Below wr.heap.size wr w2).2.2.2).mono HBE.out.size)
        have HO2 := Lib.hid (And.intro (OwnK.lks ho2) hb3)
        clear ho2 hb2 hb3
        go_wp2_with fail
        go_roundg (nn - (i + 1))
        case rel => exact ⟨i + 1, _, by omega, rfl, by go_num, by omega, HO2.out.1, hst, HO2.out.2⟩
        case measure => omega
      · rw [if_neg h0] at hd
        have hst : Hid (Vf.allNames D.kept D.kept D.names = Vf.allNames D.kept L (D.names.drop (i + 1))) := by show _ = _; rw [hf.out, hd]
        have e0 : ((Vf.find D.kept D.names[i].name : Int) == 0) = false := by simp; omega
        clear hd hf h0
        generalize Vf.find D.kept D.names[i].name = fd at *
        generalize D.names[i].name = nm at *
        generalize D.names[i].n = num at *
        go_wp2_with fail
        go_quiet (first | (go_at_call 61; refine Calls.quiet_of_same (hFi.out _)))
        go_wp2_with fail
        go_roundg (nn - (i + 1))
        case rel => exact ⟨i + 1, L, by omega, rfl, by go_num, by omega, HLS.out.drewN _, hst, belowN HBE.out _⟩
        case measure => omega
    -- END
    · obtain rfl : i = nn := by omega
      have hall : Hid (Vf.allNames D.kept D.kept D.names = L) := by
        show _ = _
        rw [hf.out, List.drop_of_length_le (by rw [← HNN.out]; exact Nat.le_refl _)]
        rfl
      have hLS2 := hLS
      obtain ⟨al, ql, rfl, hql1, hql2, hcl⟩ := hLS
      have HCL := Lib.hid hcl
      have HLS := Lib.hid hLS2
      have HBE := Lib.hid hbel
      obtain ⟨na, hna⟩ : ∃ na, na = L.length := ⟨_, rfl⟩
      rw [← hna] at hql1 hL HLS ⊢
      have HNA := Lib.hid hna
      have hbw : b < wr.heap.size := Nat.lt_of_lt_of_le hbl hbel.size
      have hlu : IntKind.u64.wrap loss = ((Vf.u64 loss : Nat) : Int) := by rw [IntKind.wrap_u64]; unfold Vf.u64; omega
      have hlu2 : loss % 18446744073709551616 = ((Vf.u64 loss : Nat) : Int) := by unfold Vf.u64; omega
      clear hcl hLS2 hbel hf hna
      go_wp2_with fail
      generalize wr = W1 at *
      -- which names there are
      go_loopg [7, 8, 9] na (fun g kv nv iv wx => ∃ (j kk : Nat) (acc : List Vf.Lk), j ≤ na ∧ g = na - j ∧ iv = .int .i64 (j : Int) ∧ kv = .int .u64 (kk : Int) ∧ kk ≤ j ∧ acc.length ≤ j ∧ Hid (Vf.pick D.kept D.names (Vf.u64 loss) 0 [] L = Vf.pick D.kept D.names (Vf.u64 loss) kk acc (L.drop j)) ∧ OwnK wx W1.heap.size nv acc ∧ Below W1.heap.size W1 wx ∧ W1.heap.size ≤ wx.heap.size)
      case atStart => exact ⟨0, 0, [], Nat.zero_le _, rfl, rfl, rfl, Nat.le_refl _, Nat.le_refl _, rfl, World.ownsRow_nil _ _ _ _, Below.refl _ _, Nat.le_refl _⟩
      case round =>
        obtain ⟨j, kk, acc, hj, rfl, rfl, rfl, hkk, hacc, hf, hown, hb2, hBr⟩ := hrel
        have hown0 := hown
        by_cases hjn : j < na
        -- BEGIN
        · have i1 : (j : Int) < (na : Int) := by omega
          have jl : j < L.length := by rw [← HNA.out]; exact hjn
          obtain ⟨g, rfl, hg, hc⟩ := HCL.out (by omega)
          have HC : Hid (∀ wx : World, Below W1.heap.size W1 wx → wx.cell? ⟨b, 1, none⟩ = some (.slice an i qn) ∧ wx.cell? ⟨b, 2, none⟩ = some (.slice ak nk qk) ∧ wx.cell? ⟨g, j * 2, none⟩ = some (.string L[j].name) ∧ wx.cell? ⟨g, j * 2 + 1, none⟩ = some (.int .i64 (L[j].n : Int))) := fun wx hb => ⟨((hb.cell (p := ⟨b, 1, none⟩) hbw).trans d1), ((hb.cell (p := ⟨b, 2, none⟩) hbw).trans d2), (hb.cell (p := ⟨g, j * 2, none⟩) hg).trans (hc j jl).1, (hb.cell (p := ⟨g, j * 2 + 1, none⟩) hg).trans (hc j jl).2⟩
          have hW1 : Below w.heap.size w W1 := HBE.out
          have HFk : Hid (∀ (wx : World) (m : Nat), Below W1.heap.size W1 wx → Calls Try.prog 61 #[.slice ak nk qk, .string L[j].name] (wx.drewN m) fun e' w' => e' = .returned (.int .i64 (Vf.find D.kept L[j].name)) ∧ w' = wx.drewN m) := fun wx m hb => (find_any (wx.drewN m) _ D.kept L[j].name ((HKS.out.below (hW1.trans (hb.mono hW1.size)) (Nat.le_refl _)).drewN m)).mono fun _ _ h => ⟨h.1, h.2.symm⟩
          have HFn : Hid (∀ (wx : World) (m : Nat), Below W1.heap.size W1 wx → Calls Try.prog 61 #[.slice an i qn, .string L[j].name] (wx.drewN m) fun e' w' => e' = .returned (.int .i64 (Vf.find D.names L[j].name)) ∧ w' = wx.drewN m) := fun wx m hb => (find_any (wx.drewN m) _ D.names L[j].name ((HNS.out.below (hW1.trans (hb.mono hW1.size)) (Nat.le_refl _)).drewN m)).mono fun _ _ h => ⟨h.1, h.2.symm⟩
          have HST : Hid (Vf.pick D.kept D.names (Vf.u64 loss) 0 [] L = Vf.pick D.kept D.names (Vf.u64 loss) kk acc (⟨L[j].name, L[j].n⟩ :: L.drop (j + 1))) := by
            show _ = _
            rw [hf.out, List.drop_eq_getElem_cons jl]
          obtain ⟨k1, k2, k3, k4⟩ := HC.out wr hb2
          have hq1 := Lib.hid (fun m => HFk.out wr m hb2)
          obtain ⟨x, hx⟩ : ∃ x, x = Vf.find D.kept L[j].name := ⟨_, rfl⟩
          obtain ⟨y, hy⟩ : ∃ y, y = Vf.find D.names L[j].name := ⟨_, rfl⟩
          have HX := Lib.hid hx
          have HY := Lib.hid hy
          rw [← hx] at hq1 HFk
          rw [← hy] at HFn
          have HOW := Lib.hid hown
          have HB2 := Lib.hid hb2
          clear hf hc hx hy hown hown0 hb2 d1 d2
          generalize L[j].n = num at *
          generalize L[j].name = nm at *
          go_wp2_with fail
          go_quiet (first | (go_at_call 61; refine Calls.quiet_of_same (hq1.out _)))
          have hbq : Below W1.heap.size W1 (wr.drewN nq) := belowN HB2.out nq
          obtain ⟨k1q, k2q, k3q, k4q⟩ := HC.out (wr.drewN nq) hbq
          have hq2 := Lib.hid (fun m => HFn.out (wr.drewN nq) m hbq)
          have HOx : Hid (OwnK (wr.drewN nq) W1.heap.size u8 acc) := ownsRow_keep HOW.out (fun _ _ => rfl)
          have HBx := Lib.hid hbq
          have hBx : W1.heap.size ≤ (wr.drewN nq).heap.size := hBr
          clear k1 k2 k3 k4 hq1 hbq HOW HB2
          go_wp2_with fail
          generalize wr.drewN nq = wx at *
          clear nq
          go_quiet (first | (go_at_call 61; refine Calls.quiet_of_same (hq2.out _)))
          have HOq : Hid (OwnK (wx.drewN nq) W1.heap.size u8 acc) := ownsRow_keep HOx.out (fun _ _ => rfl)
          have HBq : Hid (Below W1.heap.size W1 (wx.drewN nq)) := belowN HBx.out _
          have hBq : W1.heap.size ≤ (wx.drewN nq).heap.size := hBx
          obtain ⟨k1, k2, k3, k4⟩ := HC.out (wx.drewN nq) HBq.out
          clear hq2 k1q k2q k3q k4q HOx HBx hBx
          generalize wx.drewN nq = wq at *
          clear nq
          have hown' : wq.ownsRow W1.heap.size 37 2 u8 acc.length (lksV acc) := HOq.out
          by_cases hxy : x = y
          · have exy : ((x : Int) != (y : Int)) = false := by simp [hxy]
            subst hxy
            by_cases hz : x = 0
            · have e0 : ((x : Int) != 0) = false := by simp [hz]
              have hst : Hid (Vf.pick D.kept D.names (Vf.u64 loss) 0 [] L = Vf.pick D.kept D.names (Vf.u64 loss) (kk) acc (L.drop (j + 1))) := by
                show _ = _
                rw [HST.out]
                rw [pick_same _ _ _ _ _ _ _ x HX.out HY.out, if_neg (by simpa using hz)]
              clear HST
              go_wp2_with fail
              go_roundg (na - (j + 1))
              case rel => exact ⟨j + 1, kk, acc, by omega, rfl, by go_num, by first | rfl | go_num, by omega, by omega, hst, HOq.out, HBq.out, hBq⟩
              case measure => omega
            · have e0 : ((x : Int) != 0) = true := by simp; omega
              have hst : Hid (Vf.pick D.kept D.names (Vf.u64 loss) 0 [] L = Vf.pick D.kept D.names (Vf.u64 loss) (kk) (acc ++ [⟨nm, x⟩]) (L.drop (j + 1))) := by
                show _ = _
                rw [HST.out]
                rw [pick_same _ _ _ _ _ _ _ x HX.out HY.out, if_pos hz]
              clear HST
              go_wp2_with (at_builtin; refine wpList_append_own _ rfl _ _ 33 rfl W1.heap.size 37 il _ 2 24 Try.underlying33 hil hlz0 hlz1 hlz2 rfl (by decide) _ _ _ rfl (hown'.alloc _) ⟨wq.heap.size, 0, none⟩ 1 1 [.string nm, .int .i64 (x : Int)] rfl rfl (new_link wq nm x) (one_link nm x) (by unfold maxLen; omega) (by omega) (by simp; omega) ?_; intro v2 w2 hown2 hgrow2 _; have R := ownK_push (x := ⟨nm, x⟩) hBq HOq.out HBq.out hown2 hgrow2; have HR := Lib.hid R; clear hown2 hgrow2 R)
              have hlen : (acc ++ [(⟨nm, x⟩ : Vf.Lk)]).length = acc.length + 1 := by simp
              go_roundg (na - (j + 1))
              case rel => exact ⟨j + 1, kk, _, by omega, rfl, by go_num, by first | rfl | go_num, by omega, by omega, hst, HR.out.1, HR.out.2.1, HR.out.2.2⟩
              case measure => omega
          · have exy : ((x : Int) != (y : Int)) = true := by simp; omega
            obtain ⟨mx, hmx⟩ : ∃ mx, mx = Vf.mix (Vf.u64 loss) (kk + 1) := ⟨_, rfl⟩
            have hMx : Hid (∀ w : World, Calls Try.prog 62 #[.int .u64 (Vf.u64 loss : Int), .int .u64 ((kk : Int) + 1)] w fun e' w' => e' = .returned (.int .u64 (mx : Int)) ∧ w = w') := fun w => by rw [hmx]; exact mixR_any w (Vf.u64 loss) (kk + 1)
            have HMX := Lib.hid hmx
            clear hmx
            by_cases hp : mx % 2 = 1
            · have t1 : ((mx : Int)).tmod 2 = 1 := by rw [Int.tmod_eq_emod_of_nonneg (by omega)]; omega
              have t2 : (mx : Int) % 2 = 1 := by omega
              by_cases hz : y = 0
              · have e0 : ((y : Int) != 0) = false := by simp [hz]
                have hst : Hid (Vf.pick D.kept D.names (Vf.u64 loss) 0 [] L = Vf.pick D.kept D.names (Vf.u64 loss) (kk + 1) acc (L.drop (j + 1))) := by
                  show _ = _
                  rw [HST.out]
                  rw [pick_odd _ _ _ _ _ _ _ x y HX.out HY.out hxy (by rw [← HMX.out]; exact hp), if_neg (by simpa using hz)]
                clear HST
                go_wp2_with (go_at_call 62; refine (hMx.out _).mono ?_; rintro e1 w3 ⟨rfl, rfl⟩)
                go_roundg (na - (j + 1))
                case rel => exact ⟨j + 1, kk + 1, acc, by omega, rfl, by go_num, by first | rfl | go_num, by omega, by omega, hst, HOq.out, HBq.out, hBq⟩
                case measure => omega
              · have e0 : ((y : Int) != 0) = true := by simp; omega
                have hst : Hid (Vf.pick D.kept D.names (Vf.u64 loss) 0 [] L = Vf.pick D.kept D.names (Vf.u64 loss) (kk + 1) (acc ++ [⟨nm, y⟩]) (L.drop (j + 1))) := by
                  show _ = _
                  rw [HST.out]
                  rw [pick_odd _ _ _ _ _ _ _ x y HX.out HY.out hxy (by rw [← HMX.out]; exact hp), if_pos hz]
                clear HST
                go_wp2_with (first | (go_at_call 62; refine (hMx.out _).mono ?_; rintro e1 w3 ⟨rfl, rfl⟩) | (at_builtin; refine wpList_append_own _ rfl _ _ 33 rfl W1.heap.size 37 il _ 2 24 Try.underlying33 hil hlz0 hlz1 hlz2 rfl (by decide) _ _ _ rfl (hown'.alloc _) ⟨wq.heap.size, 0, none⟩ 1 1 [.string nm, .int .i64 (y : Int)] rfl rfl (new_link wq nm y) (one_link nm y) (by unfold maxLen; omega) (by omega) (by simp; omega) ?_; intro v2 w2 hown2 hgrow2 _; have R := ownK_push (x := ⟨nm, y⟩) hBq HOq.out HBq.out hown2 hgrow2; have HR := Lib.hid R; clear hown2 hgrow2 R))
                have hlen : (acc ++ [(⟨nm, y⟩ : Vf.Lk)]).length = acc.length + 1 := by simp
                go_roundg (na - (j + 1))
                case rel => exact ⟨j + 1, kk + 1, _, by omega, rfl, by go_num, by first | rfl | go_num, by omega, by omega, hst, HR.out.1, HR.out.2.1, HR.out.2.2⟩
                case measure => omega
            · have t1 : ((mx : Int)).tmod 2 = 0 := by rw [Int.tmod_eq_emod_of_nonneg (by omega)]; omega
              have t2 : (mx : Int) % 2 = 0 := by omega
              by_cases hz : x = 0
              · have e0 : ((x : Int) != 0) = false := by simp [hz]
                have hst : Hid (Vf.pick D.kept D.names (Vf.u64 loss) 0 [] L = Vf.pick D.kept D.names (Vf.u64 loss) (kk + 1) acc (L.drop (j + 1))) := by
                  show _ = _
                  rw [HST.out]
                  rw [pick_even _ _ _ _ _ _ _ x y HX.out HY.out hxy (by rw [← HMX.out]; exact hp), if_neg (by simpa using hz)]
                clear HST
                go_wp2_with (go_at_call 62; refine (hMx.out _).mono ?_; rintro e1 w3 ⟨rfl, rfl⟩)
                go_roundg (na - (j + 1))
                case rel => exact ⟨j + 1, kk + 1, acc, by omega, rfl, by go_num, by first | rfl | go_num, by omega, by omega, hst, HOq.out, HBq.out, hBq⟩
                case measure => omega
              · have e0 : ((x : Int) != 0) = true := by simp; omega
                have hst : Hid (Vf.pick D.kept D.names (Vf.u64 loss) 0 [] L = Vf.pick D.kept D.names (Vf.u64 loss) (kk + 1) (acc ++ [⟨nm, x⟩]) (L.drop (j + 1))) := by
                  show _ = _
                  rw [HST.out]
                  rw [pick_even _ _ _ _ _ _ _ x y HX.out HY.out hxy (by rw [← HMX.out]; exact hp), if_pos hz]
                clear HST
                go_wp2_with (first | (go_at_call 62; refine (hMx.out _).mono ?_; rintro e1 w3 ⟨rfl, rfl⟩) | (at_builtin; refine wpList_append_own _ rfl _ _ 33 rfl W1.heap.size 37 il _ 2 24 Try.underlying33 hil hlz0 hlz1 hlz2 rfl (by decide) _ _ _ rfl (hown'.alloc _) ⟨wq.heap.size, 0, none⟩ 1 1 [.string nm, .int .i64 (x : Int)] rfl rfl (new_link wq nm x) (one_link nm x) (by unfold maxLen; omega) (by omega) (by simp; omega) ?_; intro v2 w2 hown2 hgrow2 _; have R := ownK_push (x := ⟨nm, x⟩) hBq HOq.out HBq.out hown2 hgrow2; have HR := Lib.hid R; clear hown2 hgrow2 R))
                have hlen : (acc ++ [(⟨nm, x⟩ : Vf.Lk)]).length = acc.length + 1 := by simp
                go_roundg (na - (j + 1))
                case rel => exact ⟨j + 1, kk + 1, _, by omega, rfl, by go_num, by first | rfl | go_num, by omega, by omega, hst, HR.out.1, HR.out.2.1, HR.out.2.2⟩
                case measure => omega
        -- END
        · obtain rfl : j = na := by omega
          have hP : Hid (Vf.pick D.kept D.names (Vf.u64 loss) 0 [] L = (acc, kk)) := by
            show _ = _
            rw [hf.out, List.drop_of_length_le (by rw [← HNA.out]; exact Nat.le_refl _)]
            rfl
          rw [hall.out, hP.out] at HINV
          have hAS := OwnK.lks hown
          obtain ⟨ap, qp, rfl, _, _, hcp⟩ := hAS
          obtain ⟨np, hnp⟩ : ∃ np, np = acc.length := ⟨_, rfl⟩
          rw [← hnp] at hown hacc ⊢
          have HNP := Lib.hid hnp
          have HCP := Lib.hid hcp
          have HPO := Lib.hid hown
          have HB2 := Lib.hid hb2
          have hB12 : Below w.heap.size w wr := HBE.out.trans (hb2.mono HBE.out.size)
          have HB12 := Lib.hid hB12
          have c0r : wr.cell? ⟨b, 0, none⟩ = some vf := (hB12.cell (p := ⟨b, 0, none⟩) hbl).trans c0
          have hbr : b < wr.heap.size := Nat.lt_of_lt_of_le hbl hB12.size
          clear hcp hown hb2 hf hnp hB12 d1 d2 hown0
          go_wp2_with fail
          generalize wr = W2 at *
          go_loopg [7, 12, 13] np (fun g kv fv iv wx => ∃ (i k2 : Nat) (F : List Vf.Fl), i ≤ np ∧ g = np - i ∧ iv = .int .i64 (i : Int) ∧ kv = .int .u64 (k2 : Int) ∧ k2 ≤ kk + i ∧ F.length ≤ i ∧ Hid (Vf.lose D.files (Vf.u64 loss) kk [] acc = Vf.lose D.files (Vf.u64 loss) k2 F (acc.drop i)) ∧ OwnF wx W2.heap.size fv F ∧ Below W2.heap.size W2 wx ∧ W2.heap.size ≤ wx.heap.size)
          case atStart => exact ⟨0, kk, [], Nat.zero_le _, rfl, rfl, rfl, by omega, Nat.le_refl _, rfl, World.ownsRow_nil _ _ _ _, Below.refl _ _, Nat.le_refl _⟩
          case round =>
            obtain ⟨i3, k2, F, hi3, rfl, rfl, rfl, hk2, hF, hf, hown, hb3, hBr3⟩ := hrel
            by_cases hip : i3 < np
            · have i31 : (i3 : Int) < (np : Int) := by omega
              have pl' : i3 < acc.length := by rw [← HNP.out]; exact hip
              obtain ⟨gp, rfl, hgp, hcc⟩ := HCP.out (by omega)
              have HC3 : Hid (∀ wx : World, Below W2.heap.size W2 wx → wx.cell? ⟨b, 0, none⟩ = some vf ∧ wx.cell? ⟨gp, i3 * 2, none⟩ = some (.string acc[i3].name) ∧ wx.cell? ⟨gp, i3 * 2 + 1, none⟩ = some (.int .i64 (acc[i3].n : Int))) := fun wx hb => ⟨(hb.cell (p := ⟨b, 0, none⟩) hbr).trans c0r, (hb.cell (p := ⟨gp, i3 * 2, none⟩) hgp).trans (hcc i3 pl').1, (hb.cell (p := ⟨gp, i3 * 2 + 1, none⟩) hgp).trans (hcc i3 pl').2⟩
              obtain ⟨hpf, hn3⟩ := HINV.out acc[i3] (List.getElem_mem pl')
              have hdr : acc.drop i3 = acc[i3] :: acc.drop (i3 + 1) := List.drop_eq_getElem_cons pl'
              have HST : Hid (Vf.lose D.files (Vf.u64 loss) kk [] acc = Vf.lose D.files (Vf.u64 loss) k2 F (acc[i3] :: acc.drop (i3 + 1))) := by show _ = _; rw [hf.out, hdr]
              obtain ⟨k0, k1, k1n⟩ := HC3.out wr hb3
              have hpl := Lib.hid (place_any wr u12 F acc[i3].n (OwnF.fls hown) (by omega))
              have HOF := Lib.hid hown
              have HB3 := Lib.hid hb3
              clear hcc hdr hf hown hb3
              generalize acc[i3].name = nm at *
              generalize hpx : acc[i3] = p3 at *
              clear hpx
              by_cases hin3 : Vf.place F p3.n < F.length
              · have hge : (0 : Int) ≤ placeI F p3.n := by unfold placeI; rw [if_pos hin3]; omega
                have hst : Hid (Vf.lose D.files (Vf.u64 loss) kk [] acc = Vf.lose D.files (Vf.u64 loss) k2 F (acc.drop (i3 + 1))) := by
                  show _ = _
                  rw [HST.out]
                  simp only [Vf.lose]
                  rw [if_pos hin3]
                clear HST hin3
                generalize placeI F p3.n = pi at *
                go_wp2_with (go_at_call 63; refine hpl.out.mono ?_; rintro e1 w3 ⟨rfl, rfl⟩)
                go_roundg (np - (i3 + 1))
                case rel => exact ⟨i3 + 1, k2, F, by omega, rfl, by go_num, rfl, by omega, by omega, hst, HOF.out, HB3.out, hBr3⟩
                case measure => omega
              · have hge : ¬ (0 : Int) ≤ placeI F p3.n := by unfold placeI; rw [if_neg hin3]; omega
                have HNI := Lib.hid hin3
                clear hin3
                go_wp2_with (go_at_call 63; refine hpl.out.mono ?_; rintro e1 w3 ⟨rfl, rfl⟩)
                obtain ⟨af, qf, hvf, hqf1, hqf2, hclf⟩ := OwnF.cellsAt H.out.files
                obtain ⟨gf, rfl, _, hgf, _, hccf⟩ := hclf (by omega)
                obtain ⟨pf, hpfx⟩ : ∃ pf, pf = Vf.place D.files p3.n := ⟨_, rfl⟩
                have hpf2 : pf < D.files.length := by rw [hpfx]; exact hpf
                obtain ⟨f3, hf3⟩ : ∃ f3, f3 = D.files[pf] := ⟨_, rfl⟩
                have hfa : Hid (Vf.fileAt D.files p3.n = f3) := by
                  show _ = _
                  unfold Vf.fileAt
                  rw [hf3, ← hpfx, List.getD, List.getElem?_eq_getElem hpf2]
                  rfl
                have hcf := hccf pf hpf2
                rw [← hf3] at hcf
                obtain ⟨hs1, hs2, hs3⟩ := HFI.out f3 (by rw [hf3]; exact List.getElem_mem hpf2)
                have hB0 : Below w.heap.size w wr := HB12.out.trans (HB3.out.mono HB12.out.size)
                have hgw : gf < wr.heap.size := Nat.lt_of_lt_of_le hgf hB0.size
                have hbw3 : b < wr.heap.size := Nat.lt_of_lt_of_le hbl hB0.size
                have hgpw : gp < wr.heap.size := Nat.lt_of_lt_of_le hgp hBr3
                have q1 := (hB0.cell (p := ⟨gf, pf * 3, none⟩) hgf).trans hcf.1
                have q2 := (hB0.cell (p := ⟨gf, pf * 3 + 1, none⟩) hgf).trans hcf.2.1
                have q3 := (hB0.cell (p := ⟨gf, pf * 3 + 2, none⟩) hgf).trans hcf.2.2
                have hpli : placeI D.files p3.n = (pf : Int) := by unfold placeI; rw [← hpfx, if_pos hpf2]
                have hpfi : (pf : Int) < (D.files.length : Int) := by omega
                have hfls : FlS wr vf D.files := OwnF.fls (ownsRow_keep H.out.files fun k hk => hB0.block k (World.ownsRow.lt H.out.files k hk).2)
                have hPF : Hid (∀ w' : World, Below wr.heap.size wr w' → Calls Try.prog 63 #[vf, .int .i64 (p3.n : Int)] w' fun e' w'' => e' = .returned (.int .i64 (pf : Int)) ∧ w' = w'') := fun w' hb => by
                  have h := place_any w' vf D.files p3.n (OwnF.fls (ownsRow_keep H.out.files fun k hk => (hb.block k (Nat.lt_of_lt_of_le (World.ownsRow.lt H.out.files k hk).2 hB0.size)).trans (hB0.block k (World.ownsRow.lt H.out.files k hk).2))) (by omega)
                  rw [hpli] at h
                  exact h
                clear hclf hccf hpfx hf3 hcf hpf hpli hfls hpf2
                subst hvf
                generalize D.files.length = fl at *
                have HSB : Hid (∀ w' : World, Below wr.heap.size wr w' → (fun w' : World => w'.cell? ⟨b, 0, none⟩ = some (.slice (some ⟨gf, 0, none⟩) fl qf) ∧ w'.cell? ⟨gp, i3 * 2 + 1, none⟩ = some (.int .i64 (p3.n : Int)) ∧ w'.cell? ⟨gf, pf * 3, none⟩ = some (.int .i64 (f3.n : Int)) ∧ w'.cell? ⟨gf, pf * 3 + 1, none⟩ = some (.string f3.data) ∧ w'.cell? ⟨gf, pf * 3 + 2, none⟩ = some (.int .i64 (f3.sure : Int)) ∧ Below wr.heap.size wr w') w') := fun w' hb => ⟨(hb.cell (p := ⟨b, 0, none⟩) hbw3).trans k0, (hb.cell (p := ⟨gp, i3 * 2 + 1, none⟩) hgpw).trans k1n, (hb.cell (p := ⟨gf, pf * 3, none⟩) hgw).trans q1, (hb.cell (p := ⟨gf, pf * 3 + 1, none⟩) hgw).trans q2, (hb.cell (p := ⟨gf, pf * 3 + 2, none⟩) hgw).trans q3, hb⟩
                have HS0 := Lib.hid (HSB.out _ ((Below.refl wr.heap.size wr).drew))
                have HKA : Hid (∀ (w' : World) (o : Obj), (fun w' : World => w'.cell? ⟨b, 0, none⟩ = some (.slice (some ⟨gf, 0, none⟩) fl qf) ∧ w'.cell? ⟨gp, i3 * 2 + 1, none⟩ = some (.int .i64 (p3.n : Int)) ∧ w'.cell? ⟨gf, pf * 3, none⟩ = some (.int .i64 (f3.n : Int)) ∧ w'.cell? ⟨gf, pf * 3 + 1, none⟩ = some (.string f3.data) ∧ w'.cell? ⟨gf, pf * 3 + 2, none⟩ = some (.int .i64 (f3.sure : Int)) ∧ Below wr.heap.size wr w') w' → (fun w' : World => w'.cell? ⟨b, 0, none⟩ = some (.slice (some ⟨gf, 0, none⟩) fl qf) ∧ w'.cell? ⟨gp, i3 * 2 + 1, none⟩ = some (.int .i64 (p3.n : Int)) ∧ w'.cell? ⟨gf, pf * 3, none⟩ = some (.int .i64 (f3.n : Int)) ∧ w'.cell? ⟨gf, pf * 3 + 1, none⟩ = some (.string f3.data) ∧ w'.cell? ⟨gf, pf * 3 + 2, none⟩ = some (.int .i64 (f3.sure : Int)) ∧ Below wr.heap.size wr w') (w'.alloc o)) := fun w' o hs => HSB.out _ (hs.2.2.2.2.2.alloc hs.2.2.2.2.2.size o)
                have HKS : Hid (∀ (w' : World) (a : Addr) (v : Value), (fun w' : World => w'.cell? ⟨b, 0, none⟩ = some (.slice (some ⟨gf, 0, none⟩) fl qf) ∧ w'.cell? ⟨gp, i3 * 2 + 1, none⟩ = some (.int .i64 (p3.n : Int)) ∧ w'.cell? ⟨gf, pf * 3, none⟩ = some (.int .i64 (f3.n : Int)) ∧ w'.cell? ⟨gf, pf * 3 + 1, none⟩ = some (.string f3.data) ∧ w'.cell? ⟨gf, pf * 3 + 2, none⟩ = some (.int .i64 (f3.sure : Int)) ∧ Below wr.heap.size wr w') w' → wr.heap.size ≤ a.block → (fun w' : World => w'.cell? ⟨b, 0, none⟩ = some (.slice (some ⟨gf, 0, none⟩) fl qf) ∧ w'.cell? ⟨gp, i3 * 2 + 1, none⟩ = some (.int .i64 (p3.n : Int)) ∧ w'.cell? ⟨gf, pf * 3, none⟩ = some (.int .i64 (f3.n : Int)) ∧ w'.cell? ⟨gf, pf * 3 + 1, none⟩ = some (.string f3.data) ∧ w'.cell? ⟨gf, pf * 3 + 2, none⟩ = some (.int .i64 (f3.sure : Int)) ∧ Below wr.heap.size wr w') (w'.setCell a v)) := fun w' a v hs ha => HSB.out _ (hs.2.2.2.2.2.setCell ha v)
                go_region_held (fun w' => w'.cell? ⟨b, 0, none⟩ = some (.slice (some ⟨gf, 0, none⟩) fl qf) ∧ w'.cell? ⟨gp, i3 * 2 + 1, none⟩ = some (.int .i64 (p3.n : Int)) ∧ w'.cell? ⟨gf, pf * 3, none⟩ = some (.int .i64 (f3.n : Int)) ∧ w'.cell? ⟨gf, pf * 3 + 1, none⟩ = some (.string f3.data) ∧ w'.cell? ⟨gf, pf * 3 + 2, none⟩ = some (.int .i64 (f3.sure : Int)) ∧ Below wr.heap.size wr w') (first | assumption | exact HS0.out | exact HSB.out _ (((Below.refl wr.heap.size wr).alloc (Nat.le_refl _) _).drew) | exact HKA.out _ _ (by assumption) | exact HKS.out _ _ _ (by assumption) (by first | exact Nat.le_refl _ | (simp; omega) | simp)) ((go_at_call 63; refine (hPF.out _ ((by assumption : World.cell? _ ⟨b, 0, none⟩ = some (.slice (some ⟨gf, 0, none⟩) fl qf) ∧ World.cell? _ ⟨gp, i3 * 2 + 1, none⟩ = some (.int .i64 (p3.n : Int)) ∧ World.cell? _ ⟨gf, pf * 3, none⟩ = some (.int .i64 (f3.n : Int)) ∧ World.cell? _ ⟨gf, pf * 3 + 1, none⟩ = some (.string f3.data) ∧ World.cell? _ ⟨gf, pf * 3 + 2, none⟩ = some (.int .i64 (f3.sure : Int)) ∧ Below wr.heap.size wr _).2.2.2.2.2)).mono ?_; rintro e1 w3 ⟨rfl, rfl⟩))
                all_goals
                  have w50 : (wr.alloc (.cells #[.int .i64 (f3.n : Int), .string f3.data, .int .i64 (f3.sure : Int)] 86)).drew.cell? ⟨wr.heap.size, 0, none⟩ = some (.int .i64 (f3.n : Int)) := World.cell?_alloc_mark wr _ _ (0, 0) 0
                  have w51 : (wr.alloc (.cells #[.int .i64 (f3.n : Int), .string f3.data, .int .i64 (f3.sure : Int)] 86)).drew.cell? ⟨wr.heap.size, 1, none⟩ = some (.string f3.data) := World.cell?_alloc_mark wr _ _ (0, 0) 1
                  have w52 : (wr.alloc (.cells #[.int .i64 (f3.n : Int), .string f3.data, .int .i64 (f3.sure : Int)] 86)).drew.cell? ⟨wr.heap.size, 2, none⟩ = some (.int .i64 (f3.sure : Int)) := World.cell?_alloc_mark wr _ _ (0, 0) 2
                  have w5f : ∀ j, (wr.alloc (.cells #[.int .i64 (f3.n : Int), .string f3.data, .int .i64 (f3.sure : Int)] 86)).drew.frozen? ⟨wr.heap.size, j, none⟩ = false := fun j => by
                    refine (World.frozen?_alloc_mark wr #[.int .i64 (f3.n : Int), .string f3.data, .int .i64 (f3.sure : Int)] 86 0 0 j).trans ?_
                    simp
                  have w5b : Below wr.heap.size wr (wr.alloc (.cells #[.int .i64 (f3.n : Int), .string f3.data, .int .i64 (f3.sure : Int)] 86)).drew := ((Below.refl _ _).alloc (Nat.le_refl _) _).drew
                  have w5s : wr.heap.size < (wr.alloc (.cells #[.int .i64 (f3.n : Int), .string f3.data, .int .i64 (f3.sure : Int)] 86)).drew.heap.size := by
                    show wr.heap.size < (wr.alloc _).heap.size
                    simp
                  have W5 := Lib.hid (And.intro w5f (And.intro w5b w5s))
                  clear w5f w5b w5s HSB HS0 HKA HKS
                  generalize (wr.alloc (.cells #[.int .i64 (f3.n : Int), .string f3.data, .int .i64 (f3.sure : Int)] 86)).drew = w5 at *
                  have hsub : (f3.data.size : Int) - (f3.sure : Int) = ((f3.data.size - f3.sure : Nat) : Int) := by omega
                  by_cases hmore : f3.sure < f3.data.size
                  · obtain ⟨dd, hdd⟩ : ∃ dd, dd = f3.data.size - f3.sure := ⟨_, rfl⟩
                    rw [← hdd] at hsub
                    have m1 : (0 : Int) < (dd : Int) := by omega
                    have hdd2 : dd ≤ 1099511627776 := by omega
                    obtain ⟨mx, hmx⟩ : ∃ mx, mx = Vf.mix (Vf.u64 loss) (k2 + 1) := ⟨_, rfl⟩
                    have hMx : ∀ w : World, Calls Try.prog 62 #[.int .u64 (Vf.u64 loss : Int), .int .u64 ((k2 : Int) + 1)] w fun e' w' => e' = .returned (.int .u64 (mx : Int)) ∧ w' = w := fun w => by rw [hmx]; exact (mixR_any w (Vf.u64 loss) (k2 + 1)).mono fun e' w' h => ⟨h.1, h.2.symm⟩
                    have HMx := Lib.hid hMx
                    obtain ⟨r, hr⟩ : ∃ r, r = mx % (dd + 1) := ⟨_, rfl⟩
                    have hr2 : r < dd + 1 := by rw [hr]; exact Nat.mod_lt _ (by omega)
                    obtain ⟨d1, hd1⟩ : ∃ d1, d1 = dd + 1 := ⟨_, rfl⟩
                    obtain ⟨c, hc⟩ : ∃ c, c = f3.sure + r := ⟨_, rfl⟩
                    have hc1 : c ≤ f3.data.size := by omega
                    have hc0 : (c : Int) ≤ (f3.data.size : Int) := by omega
                    have hc2 : (0 : Int) ≤ (c : Int) := by omega
                    have s1 : IntKind.i64.wrap ((dd : Int) + 1) = (dd : Int) + 1 := IntWalk.i64_in _ (by omega)
                    have s2 : IntKind.u64.wrap ((dd : Int) + 1) = (d1 : Int) := by rw [hd1]; exact IntWalk.u64_in _ (by omega)
                    have s0 : ¬ (d1 : Int) = 0 := by omega
                    have s00 : ¬ d1 = 0 := by omega
                    have s3 : ((mx : Int)).tmod (d1 : Int) = (r : Int) := by rw [Int.tmod_eq_emod_of_nonneg (by omega), hr, hd1]; norm_cast
                    have s6 : IntKind.u64.wrap (r : Int) = (r : Int) := IntWalk.u64_in _ (by omega)
                    have s4 : IntKind.i64.wrap (r : Int) = (r : Int) := IntWalk.i64_in _ (by omega)
                    have s5 : IntKind.i64.wrap ((f3.sure : Int) + (r : Int)) = (c : Int) := by rw [hc]; exact IntWalk.i64_in _ (by omega)
                    have hHC : Hid (c = f3.sure + Vf.mix (Vf.u64 loss) (k2 + 1) % (f3.data.size - f3.sure + 1)) := by
                      show _ = _
                      rw [hc, hr, hdd, hmx]
                    clear hMx hr hc hdd hmx hd1
                    go_wp2_with fail
                    refine wp_region_still_tail 15 (by kernel_rfl) (by kernel_rfl) ?_
                    simp only [List.take_succ_cons, List.take_zero, List.drop_succ_cons, List.drop_zero]
                    have k61 : w5.drew.cell? ⟨wr.heap.size, 1, none⟩ = some (.string f3.data) := w51
                    have k62 : w5.drew.cell? ⟨wr.heap.size, 2, none⟩ = some (.int .i64 (f3.sure : Int)) := w52
                    have k60 : w5.drew.cell? ⟨wr.heap.size, 0, none⟩ = some (.int .i64 (f3.n : Int)) := w50
                    have W6 : Hid ((∀ j, w5.drew.frozen? ⟨wr.heap.size, j, none⟩ = false) ∧ Below wr.heap.size wr w5.drew ∧ wr.heap.size < w5.drew.heap.size) := ⟨W5.out.1, W5.out.2.1.drew, W5.out.2.2⟩
                    change wpStill _ _ w5.drew (fun a' => wpList _ _ _ _ a' w5.drew) _ _
                    clear w50 w51 w52 W5
                    generalize w5.drew = w6 at *
                    have hf61 := W6.out.1 1
                    have hf62 := W6.out.1 2
                    repeat still_step
                    still_call (HMx.out _)
                    repeat still_step
                    have hsz : (f3.data.extract 0 c).size = c := by simp; omega
                    have hst : Hid (Vf.lose D.files (Vf.u64 loss) kk [] acc = Vf.lose D.files (Vf.u64 loss) (k2 + 1) (F ++ [⟨f3.n, f3.data.extract 0 c, c⟩]) (acc.drop (i3 + 1))) := by
                      show _ = _
                      rw [HST.out]
                      simp only [Vf.lose]
                      rw [if_neg HNI.out, hfa.out]
                      simp only [Vf.cut, if_pos hmore, ← hHC.out, hsz]
                    have hb6 : Below wr.heap.size wr ((w6.setCell ⟨wr.heap.size, 1, none⟩ (.string (f3.data.extract 0 c))).setCell ⟨wr.heap.size, 2, none⟩ (.int .i64 (c : Int))) := (W6.out.2.1.setCell (by exact Nat.le_refl _ : wr.heap.size ≤ (⟨wr.heap.size, 1, none⟩ : Addr).block) _).setCell (by exact Nat.le_refl _ : wr.heap.size ≤ (⟨wr.heap.size, 2, none⟩ : Addr).block) _
                    have hO6 : OwnF ((w6.setCell ⟨wr.heap.size, 1, none⟩ (.string (f3.data.extract 0 c))).setCell ⟨wr.heap.size, 2, none⟩ (.int .i64 (c : Int))) W2.heap.size u12 F := HOF.out.below hb6 (Nat.le_refl _)
                    have hB6 : Below W2.heap.size W2 ((w6.setCell ⟨wr.heap.size, 1, none⟩ (.string (f3.data.extract 0 c))).setCell ⟨wr.heap.size, 2, none⟩ (.int .i64 (c : Int))) := HB3.out.trans (hb6.mono hBr3)
                    have hs6 : W2.heap.size ≤ ((w6.setCell ⟨wr.heap.size, 1, none⟩ (.string (f3.data.extract 0 c))).setCell ⟨wr.heap.size, 2, none⟩ (.int .i64 (c : Int))).heap.size := Nat.le_trans hBr3 hb6.size
                    have hown6 : ((w6.setCell ⟨wr.heap.size, 1, none⟩ (.string (f3.data.extract 0 c))).setCell ⟨wr.heap.size, 2, none⟩ (.int .i64 (c : Int))).ownsRow W2.heap.size 86 3 u12 F.length (flsV F) := hO6
                    have H6 := Lib.hid (And.intro hO6 (And.intro hB6 hs6))
                    have hw6 : W2.heap.size ≤ w6.heap.size := Nat.le_trans hBr3 (Nat.le_of_lt W6.out.2.2)
                    have hws : ((w6.setCell ⟨wr.heap.size, 1, none⟩ (.string (f3.data.extract 0 c))).setCell ⟨wr.heap.size, 2, none⟩ (.int .i64 (c : Int))).heap.size = w6.heap.size := (setCell_size _ _ _).trans (setCell_size _ _ _)
                    have HWS := Lib.hid hws
                    clear hb6 hO6 hB6 hmore hws hsz
                    refine wpStill_nil ?_
                    go_wp2_with ((at_builtin; go_loud ((refine wpList_append_own _ rfl _ _ 32 rfl W2.heap.size 86 ifl _ 3 32 Try.underlying32 hif hfz0 hfz1 hfz2 rfl (by decide) _ _ _ rfl (hown6.alloc _) ⟨w6.heap.size, 0, none⟩ 1 1 [.int .i64 (f3.n : Int), .string (f3.data.extract 0 c), .int .i64 (c : Int)] rfl rfl (new_file_at _ _ _ _ _ HWS.out) (one_file _ _ _) (by unfold maxLen; omega) (by omega) (by simp; omega) ?_; intro v7 w7 hown7 hgrow7 _; have R := ownF_push (x := ⟨f3.n, f3.data.extract 0 c, c⟩) H6.out.2.2 H6.out.1 H6.out.2.1 hown7 hgrow7; have HR := Lib.hid R; clear hown7 hgrow7 R))))
                    have hlen7 : (F ++ [(⟨f3.n, f3.data.extract 0 c, c⟩ : Vf.Fl)]).length = F.length + 1 := by simp
                    go_wp2_with fail
                    go_roundg (np - (i3 + 1))
                    case rel => exact ⟨i3 + 1, k2 + 1, _, by omega, rfl, by go_num, by first | rfl | go_num, by omega, by omega, hst, HR.out.1, HR.out.2.1, HR.out.2.2⟩
                    case measure => omega
                  · have m1 : ¬ (0 : Int) < ((f3.data.size - f3.sure : Nat) : Int) := by omega
                    have hst : Hid (Vf.lose D.files (Vf.u64 loss) kk [] acc = Vf.lose D.files (Vf.u64 loss) k2 (F ++ [⟨f3.n, f3.data, (f3.data).size⟩]) (acc.drop (i3 + 1))) := by
                      show _ = _
                      rw [HST.out]
                      simp only [Vf.lose]
                      rw [if_neg HNI.out, hfa.out]
                      simp only [Vf.cut, if_neg hmore]
                    have hb6 : Below wr.heap.size wr (w5.setCell ⟨wr.heap.size, 2, none⟩ (.int .i64 (f3.data.size : Int))) := W5.out.2.1.setCell (by exact Nat.le_refl _ : wr.heap.size ≤ (⟨wr.heap.size, 2, none⟩ : Addr).block) _
                    have hf6 := W5.out.1 2
                    have hO6 : OwnF (w5.setCell ⟨wr.heap.size, 2, none⟩ (.int .i64 (f3.data.size : Int))) W2.heap.size u12 F := HOF.out.below hb6 (Nat.le_refl _)
                    have hB6 : Below W2.heap.size W2 (w5.setCell ⟨wr.heap.size, 2, none⟩ (.int .i64 (f3.data.size : Int))) := HB3.out.trans (hb6.mono hBr3)
                    have hs6 : W2.heap.size ≤ (w5.setCell ⟨wr.heap.size, 2, none⟩ (.int .i64 (f3.data.size : Int))).heap.size := Nat.le_trans hBr3 hb6.size
                    have hown6 : (w5.setCell ⟨wr.heap.size, 2, none⟩ (.int .i64 (f3.data.size : Int))).ownsRow W2.heap.size 86 3 u12 F.length (flsV F) := hO6
                    have H6 := Lib.hid (And.intro hO6 (And.intro hB6 hs6))
                    have hw5 : W2.heap.size ≤ w5.heap.size := Nat.le_trans hBr3 (Nat.le_of_lt W5.out.2.2)
                    clear hb6 hO6 hB6 hmore
                    go_wp2_with ((at_builtin; go_loud ((refine wpList_append_own _ rfl _ _ 32 rfl W2.heap.size 86 ifl _ 3 32 Try.underlying32 hif hfz0 hfz1 hfz2 rfl (by decide) _ _ _ rfl (hown6.alloc _) ⟨w5.heap.size, 0, none⟩ 1 1 [.int .i64 (f3.n : Int), .string f3.data, .int .i64 (f3.data.size : Int)] rfl rfl (new_file_at _ _ _ _ _ (setCell_size _ _ _)) (one_file _ _ _) (by unfold maxLen; omega) (by omega) (by simp; omega) ?_; intro v7 w7 hown7 hgrow7 _; have R := ownF_push (x := ⟨f3.n, f3.data, f3.data.size⟩) H6.out.2.2 H6.out.1 H6.out.2.1 hown7 hgrow7; have HR := Lib.hid R; clear hown7 hgrow7 R))))
                    have hlen7 : (F ++ [(⟨f3.n, f3.data, f3.data.size⟩ : Vf.Fl)]).length = F.length + 1 := by simp
                    go_wp2_with fail
                    go_roundg (np - (i3 + 1))
                    case rel => exact ⟨i3 + 1, k2, _, by omega, rfl, by go_num, rfl, by omega, by omega, hst, HR.out.1, HR.out.2.1, HR.out.2.2⟩
                    case measure => omega
            · obtain rfl : i3 = np := by omega
              have hL3 : Hid (Vf.lose D.files (Vf.u64 loss) kk [] acc = F) := by
                show _ = _
                rw [hf.out, List.drop_of_length_le (by rw [← HNP.out]; exact Nat.le_refl _)]
                rfl
              have hRS : Hid (Vf.restart D loss = (0, { D with files := F, names := acc, kept := acc, down := false, armed := -1 })) := by
                show _ = _
                unfold Vf.restart
                simp only [hall.out, hP.out, hL3.out]
              obtain ⟨au, qu, hvu, _, _, _⟩ := OwnF.cellsAt hown
              obtain ⟨fL, hfL⟩ : ∃ fL, fL = F.length := ⟨_, rfl⟩
              rw [← hfL] at hvu
              subst hvu
              have hB0 : Below w.heap.size w wr := HB12.out.trans (hb3.mono HB12.out.size)
              have r1 : RowC wr b _ := (hB0.block b hbl).trans H.out.row
              have k10 : wr.cell? ⟨b, 0, none⟩ = some _ := r1.cell 0
              have k11 : wr.cell? ⟨b, 1, none⟩ = some _ := r1.cell 1
              have f10 := r1.frozen 0
              have f11 := r1.frozen 1
              have hbr2 : b < W1.heap.size := Nat.lt_of_lt_of_le hbl HBE.out.size
              have HB0 := Lib.hid hB0
              have HB3 := Lib.hid hb3
              have HOF := Lib.hid hown
              have HS2 : Hid (w.heap.size ≤ W1.heap.size ∧ w.heap.size ≤ W2.heap.size) := ⟨HBE.out.size, HB12.out.size⟩
              clear hB0 hb3 hown r1 hfL hf
              rcases OwnK.news HPO.out with ⟨hv, hl0⟩ | ⟨g, cap, hv, hg, hcl⟩
              · simp only [Value.slice.injEq] at hv
                obtain ⟨rfl, hv2, rfl⟩ := hv
                subst hv2
                have HL0 := Lib.hid hl0
                have hsX : Hid (((wr.setCell ⟨b, 0, none⟩ (.slice au fL qu)).setCell ⟨b, 1, none⟩ (.slice none 0 0)).heap.size = wr.heap.size) := (setCell_size _ _ _).trans (setCell_size _ _ _)
                clear hl0
                go_wp2_with ((at_builtin; go_loud ((refine wpList_append_own_none rfl _ _ 33 rfl wr.heap.size 37 il 2 Try.underlying33 hil (.slice (some ⟨wr.heap.size, 0, none⟩) 0 0) 0 [] rfl (lits_at ((wr.setCell ⟨b, 0, none⟩ (.slice au fL qu)).setCell ⟨b, 1, none⟩ (.slice none 0 0)) _ hsX.out) rfl ?_; have hb4 : Below wr.heap.size ((wr.setCell ⟨b, 0, none⟩ (.slice au fL qu)).setCell ⟨b, 1, none⟩ (.slice none 0 0)) (((wr.setCell ⟨b, 0, none⟩ (.slice au fL qu)).setCell ⟨b, 1, none⟩ (.slice none 0 0)).alloc (.cells #[] 37)) := (Below.refl _ _).alloc (Nat.le_of_eq hsX.out.symm) _; have hK4 : OwnK (((wr.setCell ⟨b, 0, none⟩ (.slice au fL qu)).setCell ⟨b, 1, none⟩ (.slice none 0 0)).alloc (.cells #[] 37)) wr.heap.size (.slice (some ⟨wr.heap.size, 0, none⟩) 0 0) acc := (HL0.out ▸ lits_at ((wr.setCell ⟨b, 0, none⟩ (.slice au fL qu)).setCell ⟨b, 1, none⟩ (.slice none 0 0)) _ hsX.out); have r3 := row_mid H.out HB0.out hb4; have k32 : (((wr.setCell ⟨b, 0, none⟩ (.slice au fL qu)).setCell ⟨b, 1, none⟩ (.slice none 0 0)).alloc (.cells #[] 37)).cell? ⟨b, 2, none⟩ = some (.slice ak nk qk) := r3.cell 2; have k35 : (((wr.setCell ⟨b, 0, none⟩ (.slice au fL qu)).setCell ⟨b, 1, none⟩ (.slice none 0 0)).alloc (.cells #[] 37)).cell? ⟨b, 5, none⟩ = some (.int .i64 D.armed) := r3.cell 5; have k37 : (((wr.setCell ⟨b, 0, none⟩ (.slice au fL qu)).setCell ⟨b, 1, none⟩ (.slice none 0 0)).alloc (.cells #[] 37)).cell? ⟨b, 7, none⟩ = some (.bool D.down) := r3.cell 7; have f32 := r3.frozen 2; have f35 := r3.frozen 5; have f37 := r3.frozen 7; have H4 := Lib.hid (And.intro hb4 hK4); clear hb4 hK4 r3; generalize (((wr.setCell ⟨b, 0, none⟩ (.slice au fL qu)).setCell ⟨b, 1, none⟩ (.slice none 0 0)).alloc (.cells #[] 37)) = w3 at *))))
                go_ret
                have E := restart_end H.out HB0.out HOF.out (ownsRow_keep (ownsRow_base HPO.out HS2.out.1) fun k hk => HB3.out.block k (World.ownsRow.lt HPO.out k hk).2) (fun k hk => (World.ownsRow.lt HPO.out k hk).2) HS2.out.2 H4.out.1 H4.out.2
                rw [hRS.out]
                exact ⟨rfl, _, _, _, E.1, E.2.1.mono fun _ _ e => .inl e, fun k hk hF => .inl (E.2.2 k hk hF)⟩
              · simp only [Value.slice.injEq] at hv
                obtain ⟨rfl, -, rfl⟩ := hv
                have hsX : Hid (((wr.setCell ⟨b, 0, none⟩ (.slice au fL qu)).setCell ⟨b, 1, none⟩ (.slice (some ⟨g, 0, none⟩) i3 qp)).heap.size = wr.heap.size) := (setCell_size _ _ _).trans (setCell_size _ _ _)
                have hNM : Hid (OwnK (((wr.setCell ⟨b, 0, none⟩ (.slice au fL qu)).setCell ⟨b, 1, none⟩ (.slice (some ⟨g, 0, none⟩) i3 qp)).alloc (.cells #[] 37)) W1.heap.size (.slice (some ⟨g, 0, none⟩) i3 qp) acc) := names_mid HPO.out HB3.out hbr2
                have HNW : Hid (∀ j u, (lksV acc)[j]? = some u → (((wr.setCell ⟨b, 0, none⟩ (.slice au fL qu)).setCell ⟨b, 1, none⟩ (.slice (some ⟨g, 0, none⟩) i3 qp)).alloc (.cells #[] 37)).cell? ((⟨g, 0, none⟩ : Addr).add j) = some u) := fun j u hj => World.ownsRow.cells hNM.out (g := g) rfl j u hj
                clear hcl
                go_wp2_with ((at_builtin; go_loud ((refine wpList_append_own _ rfl _ _ 33 rfl wr.heap.size 37 il _ 2 24 Try.underlying33 hil hlz0 hlz1 hlz2 rfl (by decide) (.slice (some ⟨wr.heap.size, 0, none⟩) 0 0) 0 [] rfl (lits_at ((wr.setCell ⟨b, 0, none⟩ (.slice au fL qu)).setCell ⟨b, 1, none⟩ (.slice (some ⟨g, 0, none⟩) i3 qp)) _ hsX.out) ⟨g, 0, none⟩ i3 qp (lksV acc) rfl (by rw [lksV_length, ← HNP.out]) HNW.out (one_lks _) (by unfold maxLen; omega) (by omega) (by simp) ?_; intro v3 w3 hown3 hgrow3 _; have hc3 := copied_at (l := acc) hsX.out (by rw [← HNP.out]; exact hown3) hgrow3; obtain ⟨a3, q3, hv3⟩ := hc3.1.form; rw [← HNP.out] at hv3; subst hv3; have r3 := row_mid H.out HB0.out hc3.2; have k32 : w3.cell? ⟨b, 2, none⟩ = some (.slice ak nk qk) := r3.cell 2; have k35 : w3.cell? ⟨b, 5, none⟩ = some (.int .i64 D.armed) := r3.cell 5; have k37 : w3.cell? ⟨b, 7, none⟩ = some (.bool D.down) := r3.cell 7; have f32 := r3.frozen 2; have f35 := r3.frozen 5; have f37 := r3.frozen 7; have H4 := Lib.hid (And.intro hc3.2 hc3.1); clear hown3 hgrow3 hc3 r3))))
                go_wp2_with fail
                go_ret
                have E := restart_end H.out HB0.out HOF.out (ownsRow_keep (ownsRow_base HPO.out HS2.out.1) fun k hk => HB3.out.block k (World.ownsRow.lt HPO.out k hk).2) (fun k hk => (World.ownsRow.lt HPO.out k hk).2) HS2.out.2 H4.out.1 H4.out.2
                rw [hRS.out]
                exact ⟨rfl, _, _, _, E.1, E.2.1.mono fun _ _ e => .inl e, fun k hk hF => .inl (E.2.2 k hk hF)⟩
end Go.Proofs.Ytdohenbicepicaa
