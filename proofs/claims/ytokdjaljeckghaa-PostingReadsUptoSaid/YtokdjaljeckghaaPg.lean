/-
  Whether two postings, two lists of them, are alike; the place behind an Advance: as the document's package asks it.
-/
import Derived.Test.YtokdjaljeckghaaPf
namespace Go.Proofs.Ytokdjaljeckghaa
open Go.RowKit
instance : Inhabited Pt.Po := ⟨⟨0, []⟩⟩
theorem below_drew {w w' : World} (h : Below w.heap.size w.drew w') : Below w.heap.size w w' := (Below.refl w.heap.size w).drew.trans h
theorem cell_new0 (w : World) (x y : Value) (t : TypeId) : (w.alloc (.cells #[x, y] t)).cell? ⟨w.heap.size, 0, none⟩ = some x ∧ (w.alloc (.cells #[x, y] t)).cell? ⟨w.heap.size, 1, none⟩ = some y := by
  constructor <;> (rw [World.cell?_alloc_at _ _ _ _ rfl]; rfl)
set_option maxRecDepth 100000 in
set_option maxHeartbeats 2000000 in
theorem oneR_any (w : World) (F G : Nat → Prop) (va vb : Value) (x y : Int) (la lb : List Int) (ha : IntF F w va la) (hb : IntF G w vb lb) :
    Calls Try.prog 24 #[.agg #[.int .i64 x, va], .agg #[.int .i64 y, vb]] w fun e w' => e = .returned (.bool (decide ((⟨x, la⟩ : Pt.Po) = ⟨y, lb⟩))) ∧ Below w.heap.size w w' := by
  obtain ⟨aa, ca, rfl, p1, p2, pa⟩ := ha
  obtain ⟨ab, cb, rfl, q1, q2, qb⟩ := hb
  obtain ⟨n, hn⟩ : ∃ n, n = la.length := ⟨_, rfl⟩
  obtain ⟨m, hm⟩ : ∃ m, m = lb.length := ⟨_, rfl⟩
  have HN := Lib.hid hn
  have HM := Lib.hid hm
  have PA := Lib.hid pa
  have QB := Lib.hid qb
  rw [← hn] at p1
  rw [← hm] at q1
  clear pa qb
  obtain ⟨w1, hw1⟩ : ∃ w1, w1 = w.alloc (.cells #[.int .i64 x, .slice aa n ca] 40) := ⟨_, rfl⟩
  obtain ⟨w2, hw2⟩ : ∃ w2, w2 = w1.alloc (.cells #[.int .i64 y, .slice ab m cb] 40) := ⟨_, rfl⟩
  have b1 : Below w.heap.size w w1 := by rw [hw1]; exact (Below.refl _ _).alloc (Nat.le_refl _) _
  have b2 : Below w1.heap.size w1 w2 := by rw [hw2]; exact (Below.refl _ _).alloc (Nat.le_refl _) _
  have z1 : w1.heap.size = w.heap.size + 1 := by rw [hw1]; simp
  have z2 : w2.heap.size = w.heap.size + 2 := by rw [hw2]; simp [z1]
  have HB2 : Hid (Below w.heap.size w w2) := b1.trans (b2.mono b1.size)
  have k1 := cell_new0 w (.int .i64 x) (.slice aa n ca) 40
  have k2 := cell_new0 w1 (.int .i64 y) (.slice ab m cb) 40
  rw [← hw1] at k1
  rw [← hw2] at k2
  have c1 : w2.cell? ⟨w.heap.size, 0, none⟩ = some (.int .i64 x) := (b2.cell (p := ⟨w.heap.size, 0, none⟩) (by rw [z1]; exact Nat.lt_succ_self _)).trans k1.1
  have c2 : w2.cell? ⟨w.heap.size, 1, none⟩ = some (.slice aa n ca) := (b2.cell (p := ⟨w.heap.size, 1, none⟩) (by rw [z1]; exact Nat.lt_succ_self _)).trans k1.2
  have c3 : w2.cell? ⟨w.heap.size + 1, 0, none⟩ = some (.int .i64 y) := by rw [← z1]; exact k2.1
  have c4 : w2.cell? ⟨w.heap.size + 1, 1, none⟩ = some (.slice ab m cb) := by rw [← z1]; exact k2.2
  rw [← hn, ← hm]
  clear hn hm b1 b2 k1 k2
  by_cases hxy : x = y
  · subst hxy
    by_cases hnm : n = m
    · subst hnm
      go_enter Try.func24, Try.ntmps24
      go_wp2_with fail
      rw [← hw1, ← hw2]
      have HW : Hid (w2.heap.size = w.heap.size + 2) := z2
      clear hw1 hw2 z1 z2 w1
      go_loopg [5] n (fun g i wx => ∃ k : Nat, k ≤ n ∧ g = n - k ∧ i = .int .i64 k ∧ Hid (la.take k = lb.take k) ∧ Below w2.heap.size w2 wx)
      case atStart => exact ⟨0, Nat.zero_le _, rfl, rfl, rfl, Below.refl _ _⟩
      case round =>
        obtain ⟨k, hk, rfl, rfl, hS, hbel⟩ := hrel
        have d2 := (hbel.cell (p := ⟨w.heap.size, 1, none⟩) (by rw [HW.out]; exact Nat.lt_add_of_pos_right (by decide))).trans c2
        have d4 := (hbel.cell (p := ⟨w.heap.size + 1, 1, none⟩) (by rw [HW.out]; exact Nat.lt_succ_self _)).trans c4
        have HBE := Lib.hid hbel
        clear hbel c1 c2 c3 c4
        by_cases hkn : k < n
        · have i2 : (k : Int) < (n : Int) := by omega
          have ka : k < la.length := by rw [← HN.out]; exact hkn
          have kb : k < lb.length := by rw [← HM.out]; exact hkn
          obtain ⟨g, o, rfl, hg, _, hcu⟩ := PA.out (by omega)
          obtain ⟨g', o', rfl, hg', _, hcu'⟩ := QB.out (by omega)
          have hB := HB2.out.trans (HBE.out.mono HB2.out.size)
          have e1 := (hB.cell (p := ⟨g, o + k, none⟩) hg).trans (hcu k ka)
          have e2 := (hB.cell (p := ⟨g', o' + k, none⟩) hg').trans (hcu' k kb)
          have hS2 : la[k] = lb[k] → la.take (k + 1) = lb.take (k + 1) := fun q => take_eq_snoc ka kb hS.out q
          have hS3 : la[k] ≠ lb[k] → ¬ (⟨x, la⟩ : Pt.Po) = ⟨x, lb⟩ := fun q e => by
            injection e with _ e
            subst e
            exact q rfl
          have HS2 := Lib.hid hS2
          have HS3 := Lib.hid hS3
          clear hS hcu hcu' hB hS2 hS3
          generalize la[k] = ya at *
          generalize lb[k] = yb at *
          by_cases he : ya = yb
          · have hT := Lib.hid (HS2.out he)
            subst he
            go_wp2_with fail
            go_quiet (fail)
            go_wp2_with fail
            go_roundg (n - (k + 1))
            case rel => exact ⟨k + 1, by omega, rfl, by go_num, hT.out, by first | exact HBE.out | exact belowN HBE.out _⟩
            case measure => omega
          · have hT : Hid (decide ((⟨x, la⟩ : Pt.Po) = ⟨x, lb⟩) = false) := decide_eq_false (HS3.out he)
            have he' : (ya != yb) = true := by simpa using he
            clear he
            go_wp2_with fail
            go_quiet (fail)
            go_wp2_with fail
            go_ret
            exact ⟨by rw [hT.out]; rfl, by first | exact HB2.out.trans (HBE.out.mono HB2.out.size) | exact HB2.out.trans ((belowN HBE.out _).mono HB2.out.size)⟩
        · obtain rfl : k = n := by omega
          have hfin : Hid (decide ((⟨x, la⟩ : Pt.Po) = ⟨x, lb⟩) = true) := by
            have h := hS.out
            rw [List.take_of_length_le (by rw [← HN.out]; exact Nat.le_refl _), List.take_of_length_le (by rw [← HM.out]; exact Nat.le_refl _)] at h
            exact decide_eq_true (by rw [h])
          clear hS
          go_wp2_with fail
          go_ret
          exact ⟨by rw [hfin.out]; rfl, HB2.out.trans (HBE.out.mono HB2.out.size)⟩
    · have hne : ((n : Int) != (m : Int)) = true := by simpa using (fun q : (n : Int) = (m : Int) => hnm (by omega))
      have hfin : Hid (decide ((⟨x, la⟩ : Pt.Po) = ⟨x, lb⟩) = false) := decide_eq_false (fun e => by injection e with _ e; exact hnm (by rw [HN.out, HM.out, e]))
      clear hnm
      go_enter Try.func24, Try.ntmps24
      go_wp2_with fail
      go_ret
      exact ⟨by rw [hfin.out]; rfl, by rw [← hw1, ← hw2]; exact HB2.out⟩
  · have hne : (x != y) = true := by simpa using hxy
    have hfin : Hid (decide ((⟨x, la⟩ : Pt.Po) = ⟨y, lb⟩) = false) := decide_eq_false (fun e => by injection e with e; exact hxy e)
    clear hxy
    go_enter Try.func24, Try.ntmps24
    go_wp2_with fail
    go_ret
    exact ⟨by rw [hfin.out]; rfl, by rw [← hw1, ← hw2]; exact HB2.out⟩
set_option maxRecDepth 100000 in
set_option maxHeartbeats 2000000 in
theorem sameP_any (w : World) (F G : Nat → Prop) (u v : Value) (a b : List Pt.Po) (ha : PoS F w u a) (hb : PoS G w v b) :
    Calls Try.prog 16 #[u, v] w fun e w' => e = .returned (.bool (decide (a = b))) ∧ Below w.heap.size w w' := by
  obtain ⟨aa, ca, rfl, p1, p2, pa⟩ := ha
  obtain ⟨ab, cb, rfl, q1, q2, qb⟩ := hb
  obtain ⟨n, hn⟩ : ∃ n, n = a.length := ⟨_, rfl⟩
  obtain ⟨m, hm⟩ : ∃ m, m = b.length := ⟨_, rfl⟩
  have HN := Lib.hid hn
  have HM := Lib.hid hm
  have PA := Lib.hid pa
  have QB := Lib.hid qb
  rw [← hn] at p1
  rw [← hm] at q1
  rw [← hn, ← hm]
  clear pa qb hn hm
  by_cases hnm : n = m
  · subst hnm
    go_enter Try.func16, Try.ntmps16
    go_wp2_with fail
    go_loopg [5] n (fun g i wx => ∃ k : Nat, k ≤ n ∧ g = n - k ∧ i = .int .i64 k ∧ Hid (a.take k = b.take k) ∧ Below w.heap.size w wx)
    case atStart => exact ⟨0, Nat.zero_le _, rfl, rfl, rfl, Below.refl _ _⟩
    case round =>
      obtain ⟨k, hk, rfl, rfl, hS, hbel⟩ := hrel
      have HBE := Lib.hid hbel
      clear hbel
      by_cases hkn : k < n
      · have i2 : (k : Int) < (n : Int) := by omega
        have ka : k < a.length := by rw [← HN.out]; exact hkn
        have kb : k < b.length := by rw [← HM.out]; exact hkn
        obtain ⟨g, o, rfl, hg, _, hcu⟩ := PA.out (by omega)
        obtain ⟨g', o', rfl, hg', _, hcu'⟩ := QB.out (by omega)
        obtain ⟨x1, vx, x2, x3⟩ := hcu k ka
        obtain ⟨y1, vy, y2, y3⟩ := hcu' k kb
        have e1 := (HBE.out.cell (p := ⟨g, o + k * 2, none⟩) hg).trans x1
        have e2 := (HBE.out.cell (p := ⟨g, o + k * 2 + 1, none⟩) hg).trans x2
        have e3 := (HBE.out.cell (p := ⟨g', o' + k * 2, none⟩) hg').trans y1
        have e4 := (HBE.out.cell (p := ⟨g', o' + k * 2 + 1, none⟩) hg').trans y2
        have hone := Lib.hid (oneR_any wr.drew F G vx vy a[k].doc b[k].doc a[k].ats b[k].ats (x3.below HBE.out.drew) (y3.below HBE.out.drew))
        have hS2 : (⟨a[k].doc, a[k].ats⟩ : Pt.Po) = ⟨b[k].doc, b[k].ats⟩ → a.take (k + 1) = b.take (k + 1) := fun q => by
          have q' : a[k] = b[k] := q
          rw [List.take_succ_eq_append_getElem ka, List.take_succ_eq_append_getElem kb, hS.out, q']
        have hS3 : ¬ (⟨a[k].doc, a[k].ats⟩ : Pt.Po) = ⟨b[k].doc, b[k].ats⟩ → ¬ a = b := fun q e => by
          subst e
          exact q rfl
        have HS2 := Lib.hid hS2
        have HS3 := Lib.hid hS3
        clear hS hcu hcu' hS2 hS3 x1 x2 x3 y1 y2 y3
        generalize a[k].doc = xa at *
        generalize b[k].doc = xb at *
        generalize a[k].ats = la at *
        generalize b[k].ats = lb at *
        by_cases he : (⟨xa, la⟩ : Pt.Po) = ⟨xb, lb⟩
        · have hT := Lib.hid (HS2.out he)
          rw [show decide ((⟨xa, la⟩ : Pt.Po) = ⟨xb, lb⟩) = true from decide_eq_true he] at hone
          clear he
          go_wp2_with fail
          go_region_with (go_at_call 24; refine hone.out.mono ?_; rintro e1 w3 ⟨rfl, hb3⟩; have HB3 := Lib.hid (HBE.out.trans ((below_drew hb3).mono HBE.out.size)); clear hb3)
          all_goals
            go_wp2_with fail
            go_roundg (n - (k + 1))
            case rel => exact ⟨k + 1, by omega, rfl, by go_num, hT.out, HB3.out⟩
            case measure => omega
        · have hT : Hid (decide (a = b) = false) := decide_eq_false (HS3.out he)
          rw [show decide ((⟨xa, la⟩ : Pt.Po) = ⟨xb, lb⟩) = false from decide_eq_false he] at hone
          clear he
          go_wp2_with fail
          go_region_with (go_at_call 24; refine hone.out.mono ?_; rintro e1 w3 ⟨rfl, hb3⟩; have HB3 := Lib.hid (HBE.out.trans ((below_drew hb3).mono HBE.out.size)); clear hb3)
          all_goals
            go_wp2_with fail
            go_ret
            exact ⟨by rw [hT.out]; rfl, HB3.out⟩
      · obtain rfl : k = n := by omega
        have hfin : Hid (decide (a = b) = true) := by
          have h := hS.out
          rw [List.take_of_length_le (by rw [← HN.out]; exact Nat.le_refl _), List.take_of_length_le (by rw [← HM.out]; exact Nat.le_refl _)] at h
          exact decide_eq_true h
        clear hS
        go_wp2_with fail
        go_ret
        exact ⟨by rw [hfin.out]; rfl, HBE.out⟩
  · have hne : ((n : Int) != (m : Int)) = true := by simpa using (fun q : (n : Int) = (m : Int) => hnm (by omega))
    have hfin : Hid (decide (a = b) = false) := decide_eq_false (fun e => hnm (by rw [HN.out, HM.out, e]))
    clear hnm
    go_enter Try.func16, Try.ntmps16
    go_wp2_with fail
    go_ret
    exact ⟨by rw [hfin.out]; rfl, Below.refl _ _⟩
set_option maxRecDepth 100000 in
set_option maxHeartbeats 2000000 in
/-- The document's Advance. -/
theorem advR_any (w : World) (F : Nat → Prop) (v : Value) (d : List Pt.Po) (h : PoS F w v d) (k0 : Int) (kn : Nat) (hk0 : (if k0 < 0 then 0 else k0) = (kn : Int)) (hk1 : kn ≤ 9223372036854775806) (x : Int) :
    Calls Try.prog 23 #[v, .int .i64 k0, .int .i64 x] w fun e w' => e = .returned (.int .i64 (Pt.adv d x kn)) ∧ w' = w := by
  obtain ⟨a, cap, rfl, h1, h2, hv⟩ := h
  obtain ⟨n, hnz⟩ : ∃ n, n = d.length := ⟨_, rfl⟩
  have HU := Lib.hid hv
  have HN := Lib.hid hnz
  rw [← hnz] at h1 ⊢
  clear hv hnz
  have step : ∀ k, k < d.length → Pt.adv d x k = if d[k]!.doc < x then Pt.adv d x (k + 1) else k := fun k hk => by
    conv => lhs; unfold Pt.adv
    rw [dif_pos hk, getElem!_pos d k hk]
  have stop' : ∀ k, ¬ k < d.length → Pt.adv d x k = k := fun k hk => by unfold Pt.adv; rw [dif_neg hk]
  have ST := Lib.hid step
  have SP := Lib.hid stop'
  clear step stop'
  go_enter Try.func23, Try.ntmps23
  by_cases hneg : k0 < 0
  · rw [if_pos hneg] at hk0
    obtain rfl : kn = 0 := by omega
    clear hk0 hk1
    go_wp2_with fail
    go_loopg [1] n (fun g i wx => ∃ k : Nat, 0 ≤ k ∧ k ≤ n ∧ (n ≤ 0 → k = 0) ∧ g = n - k ∧ i = .int .i64 k ∧ Hid (Pt.adv d x k = Pt.adv d x 0) ∧ wx = w)
    case atStart => exact ⟨0, Nat.le_refl _, Nat.zero_le _, fun _ => rfl, rfl, rfl, rfl, rfl⟩
    case round =>
      obtain ⟨k, b1, b2, b3, rfl, rfl, hS, rfl⟩ := hrel
      by_cases hkn : k < n
      · have i2 : (k : Int) < (n : Int) := by omega
        have kx : k < d.length := by rw [← HN.out]; exact hkn
        obtain ⟨g, o, rfl, hg, _, hcu⟩ := HU.out (by omega)
        obtain ⟨a1, va, a2, a3⟩ := hcu k kx
        have hS2 := hS.out
        rw [ST.out k kx, getElem!_pos d k kx] at hS2
        clear hS hcu a2 a3
        generalize d[k].doc = y at *
        by_cases hy : y < x
        · rw [if_pos hy] at hS2
          have HS2 := Lib.hid hS2
          clear hS2
          go_wp2_with fail
          go_roundg (n - (k + 1))
          case rel => exact ⟨k + 1, by omega, by omega, by omega, rfl, by go_num, HS2.out, rfl⟩
          case measure => omega
        · rw [if_neg hy] at hS2
          have HS2 := Lib.hid hS2
          clear hS2
          go_wp2_with fail
          go_ret
          exact ⟨by rw [← HS2.out]; rfl, rfl⟩
      · have hS2 := hS.out
        rw [SP.out k (by rw [← HN.out]; exact hkn)] at hS2
        have HS2 := Lib.hid hS2
        have i2 : ¬ (k : Int) < (n : Int) := by omega
        clear hS hS2
        go_wp2_with fail
        go_ret
        exact ⟨by rw [← HS2.out]; rfl, rfl⟩
  · rw [if_neg hneg] at hk0
    subst hk0
    go_wp2_with fail
    go_loopg [1] (n - kn) (fun g i wx => ∃ k : Nat, kn ≤ k ∧ (kn ≤ n → k ≤ n) ∧ (n ≤ kn → k = kn) ∧ g = n - k ∧ i = .int .i64 k ∧ Hid (Pt.adv d x k = Pt.adv d x kn) ∧ wx = w)
    case atStart => exact ⟨kn, Nat.le_refl _, id, fun _ => rfl, rfl, by first | rfl | go_num, rfl, rfl⟩
    case round =>
      obtain ⟨k, b1, b2, b3, rfl, rfl, hS, rfl⟩ := hrel
      by_cases hkn : k < n
      · have i2 : (k : Int) < (n : Int) := by omega
        have kx : k < d.length := by rw [← HN.out]; exact hkn
        obtain ⟨g, o, rfl, hg, _, hcu⟩ := HU.out (by omega)
        obtain ⟨a1, va, a2, a3⟩ := hcu k kx
        have hS2 := hS.out
        rw [ST.out k kx, getElem!_pos d k kx] at hS2
        clear hS hcu a2 a3
        generalize d[k].doc = y at *
        by_cases hy : y < x
        · rw [if_pos hy] at hS2
          have HS2 := Lib.hid hS2
          clear hS2
          go_wp2_with fail
          go_roundg (n - (k + 1))
          case rel => exact ⟨k + 1, by omega, by omega, by omega, rfl, by go_num, HS2.out, rfl⟩
          case measure => omega
        · rw [if_neg hy] at hS2
          have HS2 := Lib.hid hS2
          clear hS2
          go_wp2_with fail
          go_ret
          exact ⟨by rw [← HS2.out]; rfl, rfl⟩
      · have hS2 := hS.out
        rw [SP.out k (by rw [← HN.out]; exact hkn)] at hS2
        have HS2 := Lib.hid hS2
        have i2 : ¬ (k : Int) < (n : Int) := by omega
        clear hS hS2
        go_wp2_with fail
        go_ret
        exact ⟨by rw [← HS2.out]; rfl, rfl⟩
end Go.Proofs.Ytokdjaljeckghaa
