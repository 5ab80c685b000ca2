/-
  Postings in memory of their own: the document's Copy.
-/
import Derived.Test.YtokdjaljeckghaaPg
namespace Go.Proofs.Ytokdjaljeckghaa
open Go.RowKit
theorem intsV_one (l : List Int) : ∀ u ∈ intsV l, u.oneCell' = true := by
  intro u hu
  obtain ⟨x, _, rfl⟩ := List.mem_map.1 hu
  rfl
/-- 'append(v, xs...)' onto numbers of the call's own. -/
theorem run_appendI {F : Nat → Prop} (w : World) (B : Nat) (hB : B ≤ w.heap.size) (v x : Value) (l r : List Int) (h : OwnI w B v l) (hx : IntF F w x r) (hb : l.length + r.length ≤ 17179869184) :
    ∃ v' w', (Builtin.append_ #[38, 38] 38 #[v, x]).run Try.prog w = .ok v' w' ∧ OwnI w' B v' (l ++ r) ∧ Below B w w' ∧ (∀ k, k < w.heap.size → v.ownBlock ≠ some k → w'.heap[k]? = w.heap[k]?) := by
  obtain ⟨ii, hi, hz0, hz1, hz2⟩ := info_parts Try.infoI
  obtain ⟨ax, cx, rfl, x1, x2, x3⟩ := hx
  have hown : w.ownsRow B 3 1 v l.length (intsV l) := h
  cases ax with
  | none =>
    have h0 : r = [] := by
      rcases Nat.eq_zero_or_pos r.length with h0 | h0
      · exact List.length_eq_zero_iff.1 h0
      · obtain ⟨g, o, q, _⟩ := x3 h0
        cases q
    subst h0
    refine ⟨v, w, ?_, by rw [List.append_nil]; exact h, Below.refl _ _, fun _ _ _ => rfl⟩
    rcases hown.2 with ⟨rfl, e0⟩ | ⟨g, cap, cur, rfl, _, _, hnc, _⟩
    · simp [Builtin.append_, run_underlying Try.underlying38, sizeOf, typeInfo, hi, Builtin.lenOf, Builtin.firstCells]
    · simp [Builtin.append_, run_underlying Try.underlying38, sizeOf, typeInfo, hi, Builtin.lenOf, Builtin.firstCells, hnc, storeCells]
  | some ad =>
    have hnews : ∀ j u, (intsV r)[j]? = some u → w.cell? (ad.add j) = some u := by
      intro j u hu
      have hj : j < r.length := by
        have := (List.getElem?_eq_some_iff.1 hu).1
        rwa [intsV_length] at this
      obtain ⟨g, o, q, _, _, x4⟩ := x3 (by omega)
      cases q
      rw [Addr.add_lit, x4 j hj]
      simp [intsV, hj] at hu
      rw [hu]
    obtain ⟨v', w', hr, h2, h3, _, h5⟩ := run_append_own_at (P := Try.prog) w B 38 38 3 ii (.int .i64 0) 1 8 Try.underlying38 hi hz0 hz1 hz2 rfl (by decide) v l.length (intsV l) hown ad r.length cx (intsV r) (by rw [intsV_length, Nat.mul_one]) hnews (intsV_one r) (by unfold maxLen; omega) (by omega) hB
    refine ⟨v', w', hr, ?_, ?_, ?_⟩
    · unfold OwnI
      rw [intsV_append] at h2
      simpa using h2
    · exact (Below.refl B w).grown h3 hB (fun j hj => (hown.lt j hj).1)
    · exact fun k hk hv => h3.block k hk (fun e => hv e.symm)
section
variable {ops : Array Oper} {rest : List Oper} {o : Oper} {a : Act}
/-- The same at an operation of a walk, and at a step of a region that draws its order. -/
theorem wp_appendI {K : Act → World → Prop} {Q : Exit → Act → World → Prop} {F : Nat → Prop} (w : World) (s x : Operand) (ty : o.type = 38)
    (ho : o.op = .call { callee := .builtin .append, args := #[s, x], argTypes := #[38, 38] }) (B : Nat) (hB : B ≤ w.heap.size) (v u : Value) (l r : List Int) (hs : a.eval s = v) (hx : a.eval x = u) (h : OwnI w B v l) (hr : IntF F w u r) (hb : l.length + r.length ≤ 17179869184)
    (hk : ∀ v' w', OwnI w' B v' (l ++ r) → Below B w w' → (∀ k, k < w.heap.size → v.ownBlock ≠ some k → w'.heap[k]? = w.heap[k]?) → K (a.put o.dst v') w') : o.wp Try.prog a w K Q := by
  obtain ⟨v', w', h1, h2, h3, h4⟩ := run_appendI w B hB v u l r h hr hb
  unfold Oper.wp execOp
  simp only [ho, resolve, invoke, builtin, Sem.run_bind, Sem.run_pure, Result.andThen_ok, List.map_toArray, List.map_cons, List.map_nil, hs, hx, ty, h1]
  exact hk v' w' h2 h3 h4
theorem wpList_appendI {Q : Exit → Act → World → Prop} {F : Nat → Prop} {w : World} (hgd : o.guard = none) (s x : Operand) (ty : o.type = 38)
    (ho : o.op = .call { callee := .builtin .append, args := #[s, x], argTypes := #[38, 38] }) (B : Nat) (hB : B ≤ w.heap.size) (v u : Value) (l r : List Int) (hs : a.eval s = v) (hx : a.eval x = u) (h : OwnI w B v l) (hr : IntF F w u r) (hb : l.length + r.length ≤ 17179869184)
    (hk : ∀ v' w', OwnI w' B v' (l ++ r) → Below B w w' → (∀ k, k < w.heap.size → v.ownBlock ≠ some k → w'.heap[k]? = w.heap[k]?) → wpList Try.prog ops Q rest (a.put o.dst v') w') : wpList Try.prog ops Q (o :: rest) a w :=
  wpList_plain hgd fun _ hK => wp_appendI w s x ty ho B hB v u l r hs hx h hr hb fun v' w' h2 h3 h4 => hK _ _ (hk v' w' h2 h3 h4)
theorem step_appendI {K : Act → World → Prop} {Q : Exit → Act → World → Prop} {E : Prop} {F : Nat → Prop} (w : World) (hgd : o.guard = none) (s x : Operand) (ty : o.type = 38)
    (ho : o.op = .call { callee := .builtin .append, args := #[s, x], argTypes := #[38, 38] }) (B : Nat) (hB : B ≤ w.heap.size) (v u : Value) (l r : List Int) (hs : a.eval s = v) (hx : a.eval x = u) (h : OwnI w B v l) (hr : IntF F w u r) (hb : l.length + r.length ≤ 17179869184)
    (hk : ∀ v' w', OwnI w' B v' (l ++ r) → Below B w w' → (∀ k, k < w.heap.size → v.ownBlock ≠ some k → w'.heap[k]? = w.heap[k]?) → K (a.put o.dst v') w') :
    if Region.wanted o (yielded ops a.tmps) = true then Oper.wp Try.prog o a w K Q else E := by
  have hw : Region.wanted o (yielded ops a.tmps) = true := by simp [Region.wanted, hgd]
  rw [if_pos hw]
  exact wp_appendI w s x ty ho B hB v u l r hs hx h hr hb hk
/-- 'append(v, Post)' of one posting at a step of a region that draws its order. -/
theorem step_pushP {K : Act → World → Prop} {Q : Exit → Act → World → Prop} {E : Prop} (w : World) (hgd : o.guard = none) (s x : Operand) (ty : o.type = 22)
    (ho : o.op = .call { callee := .builtin .append, args := #[s, x], argTypes := #[22, 22] })
    (B : Nat) (hB : B ≤ w.heap.size) (v : Value) (d : List Pt.Po) (vs : List Value) (c : Int) (va : Value) (ats : List Int) (hs : a.eval s = v) (h : OwnP w B v d vs) (hva : OwnI w B va ats) (ad : Addr) (hx : a.eval x = .slice (some ad) 1 1)
    (hnews : ∀ j u, [Value.int .i64 c, va][j]? = some u → w.cell? (ad.add j) = some u) (hb : d.length + 1 ≤ 1099511627776)
    (hk : ∀ v' w', OwnP w' B v' (d ++ [⟨c, ats⟩]) (vs ++ [va]) → Below B w w' → K (a.put o.dst v') w') :
    if Region.wanted o (yielded ops a.tmps) = true then Oper.wp Try.prog o a w K Q else E := by
  have hw : Region.wanted o (yielded ops a.tmps) = true := by simp [Region.wanted, hgd]
  rw [if_pos hw]
  obtain ⟨ii, hi, hz0, hz1, hz2⟩ := info_parts Try.infoPo
  have hlen := h.len
  have hone : ∀ u ∈ [Value.int .i64 c, va], u.oneCell' = true := by
    intro u hu
    simp only [List.mem_cons, List.mem_nil_iff, or_false] at hu
    rcases hu with rfl | rfl
    · rfl
    · exact ownsRow_cell' hva
  obtain ⟨v', w', hr, h1, h2⟩ := run_append_two (P := Try.prog) w B 22 22 40 ii _ 2 32 Try.underlying22 hi hz0 hz1 hz2 rfl (by decide) v d.length (poV d vs) h.own ad 1 1 [.int .i64 c, va] rfl hnews hone (by unfold maxLen; omega) (by omega) hB
  have h2' : Ap.Two w w' v v' := h2
  have stay : ∀ u l, OwnI w B u l → OwnI w' B u l := fun u l hu => hu.keepB fun k hk => by
    obtain ⟨_, k1, c1, k2⟩ := ownsRow_kind hu k hk
    rw [h2'.far k1]
    intro e
    obtain ⟨_, _, c2, k3⟩ := ownsRow_kind h.own k e
    exact kinds_ne k2 k3 (by decide) rfl
  unfold Oper.wp execOp
  simp only [ho, resolve, invoke, builtin, Sem.run_bind, Sem.run_pure, Result.andThen_ok, List.map_toArray, List.map_cons, List.map_nil, hs, hx, ty, hr]
  refine hk v' w' ⟨?_, by simp [hlen], fun j j1 j2 => ?_⟩ ?_
  · rw [poV_snoc hlen ⟨c, ats⟩ va] at h1
    simpa using h1
  · by_cases e : j < d.length
    · rw [List.getElem_append_left e, List.getElem_append_left (by omega)]
      exact stay _ _ (h.each j e (by omega))
    · have e' : j = d.length := by simp at j1; omega
      subst e'
      have e3 : (vs ++ [va])[d.length]'j2 = va := by simp only [← hlen, List.getElem_append_right (Nat.le_refl _), Nat.sub_self, List.getElem_cons_zero]
      rw [e3, List.getElem_append_right (Nat.le_refl _)]
      simp only [Nat.sub_self, List.getElem_cons_zero]
      exact stay _ _ hva
  · rcases h2 with ⟨_, hg⟩ | ⟨_, hg⟩
    · exact (Below.refl B w).grown hg hB (fun j hj => (h.own.lt j hj).1)
    · exact (Below.refl B w).grown hg hB (fun j hj => by cases hj)
end
set_option maxRecDepth 100000 in
set_option maxHeartbeats 4000000 in
/-- The document's Copy. -/
theorem copyR_any (w : World) (F : Nat → Prop) (v : Value) (d : List Pt.Po) (h : PoS F w v d) (hn1 : d.length ≤ 1073741824) (hn2 : ∀ p ∈ d, p.ats.length ≤ 1073741824) :
    Calls Try.prog 10 #[v] w fun e w' => ∃ v' vs, e = .returned v' ∧ OwnP w' w.heap.size v' d vs ∧ Below w.heap.size w w' := by
  obtain ⟨a, cap, rfl, h1, h2, hv⟩ := h
  obtain ⟨n, hnz⟩ : ∃ n, n = d.length := ⟨_, rfl⟩
  have HU := Lib.hid hv
  have HN := Lib.hid hnz
  have H2 := Lib.hid hn2
  rw [← hnz] at h1 hn1 ⊢
  clear hv hnz hn2
  go_enter Try.func10, Try.ntmps10
  go_wp2_with fail
  go_loopg [3, 4] n (fun g u i wx => ∃ (k : Nat) (vs : List Value), k ≤ n ∧ g = n - k ∧ i = .int .i64 k ∧ OwnP wx w.heap.size u (d.take k) vs ∧ Below w.heap.size w wx)
  case atStart => exact ⟨0, [], Nat.zero_le _, rfl, rfl, OwnP.nil _ _, Below.refl _ _⟩
  case round =>
    obtain ⟨k, vs, hk, rfl, rfl, hown, hbel⟩ := hrel
    have HBE := Lib.hid hbel
    have HO := Lib.hid hown
    have HSZ := Lib.hid hbel.size
    clear hbel hown
    by_cases hkn : k < n
    · have i2 : (k : Int) < (n : Int) := by omega
      have kx : k < d.length := by rw [← HN.out]; exact hkn
      obtain ⟨g, o, rfl, hg, _, hcu⟩ := HU.out (by omega)
      obtain ⟨a1, va, a2, a3⟩ := hcu k kx
      have hla := H2.out d[k] (List.getElem_mem kx)
      have hT : Hid (d.take (k + 1) = d.take k ++ [⟨d[k].doc, d[k].ats⟩]) := by show _ = _; rw [List.take_succ_eq_append_getElem kx]
      have hlen : (d.take k).length = k := by rw [List.length_take]; omega
      have HL := Lib.hid hlen
      have A3 := Lib.hid (a3.below HBE.out)
      have c1 : wr.drew.cell? ⟨g, o + k * 2, none⟩ = _ := (HBE.out.cell (p := ⟨g, o + k * 2, none⟩) hg).trans a1
      have c2 : wr.drew.cell? ⟨g, o + k * 2 + 1, none⟩ = _ := (HBE.out.cell (p := ⟨g, o + k * 2 + 1, none⟩) hg).trans a2
      have hg2 : g < wr.heap.size := Nat.lt_of_lt_of_le hg HSZ.out
      clear hcu a1 a2 a3 hlen
      generalize d[k].ats = l at *
      generalize d[k].doc = x at *
      obtain ⟨ab, cab, rfl, q1, q2, q3⟩ := id A3.out
      obtain ⟨m, hm⟩ : ∃ m, m = l.length := ⟨_, rfl⟩
      have HM := Lib.hid hm
      rw [← hm] at c2 q1 hla A3
      clear hm q3
      obtain ⟨g6, a6, c6, hv6, _, _, _, _, _, _, _⟩ := HO.out.opened
      rw [HL.out] at hv6
      subst hv6
      go_wp2_with fail
      have hE1 : Below wr.heap.size wr (wr.alloc (.cells #[] 3)).drew := ((Below.refl _ _).alloc (Nat.le_refl _) _).drew
      have e1 : (wr.alloc (.cells #[] 3)).drew.cell? ⟨g, o + k * 2, none⟩ = some (.int .i64 x) := (hE1.cell (p := ⟨g, o + k * 2, none⟩) hg2).trans c1
      have e2 : (wr.alloc (.cells #[] 3)).drew.cell? ⟨g, o + k * 2 + 1, none⟩ = some (.slice ab m cab) := (hE1.cell (p := ⟨g, o + k * 2 + 1, none⟩) hg2).trans c2
      have HE1 : Hid (OwnI (wr.alloc (.cells #[] 3)).drew wr.heap.size (.slice (some ⟨wr.heap.size, 0, none⟩) 0 0) []) := World.ownsRow_made wr #[] 0 (Nat.le_refl _) (Nat.zero_le _) rfl
      have HE2 : Hid (IntF F (wr.alloc (.cells #[] 3)).drew (.slice ab m cab) l) := A3.out.below hE1
      have HE3 : Hid (([] : List Int).length + l.length ≤ 17179869184) := by show ([] : List Int).length + l.length ≤ 17179869184; rw [← HM.out]; simp; omega
      have HE4 := Lib.hid hE1
      clear hE1
      go_region_law (first | (refine step_appendI (F := F) _ rfl _ _ rfl rfl wr.heap.size HE4.out.size (.slice (some ⟨wr.heap.size, 0, none⟩) 0 0) (.slice ab m cab) [] l (by rfl) (by rfl) HE1.out HE2.out HE3.out ?_; intro v5 w5 hO5 hB5 hF5; rw [List.nil_append] at hO5; have HO5 := Lib.hid hO5; have HC5 := Lib.hid (HE4.out.trans hB5); have d1 : w5.cell? ⟨g, o + k * 2, none⟩ = some (.int .i64 x) := (HC5.out.cell (p := ⟨g, o + k * 2, none⟩) hg2).trans c1; obtain ⟨g7, a7, c7, hv7, _, _, _, _, _, _, _⟩ := hO5.opened; rw [← HM.out] at hv7; subst hv7; clear hO5 hB5 hF5) | (refine step_pushP _ rfl _ _ rfl rfl w.heap.size (Nat.le_trans HSZ.out (Nat.le_trans HC5.out.size (by simp))) (.slice a6 k c6) (d.take k) vs x (.slice a7 m c7) l (by rfl) ((HO.out.below HC5.out).keepB fun q _ hq => Go.Deep.blk_alloc_lt _ _ _ hq) ((HO5.out.base HSZ.out).keepB fun q hq => Go.Deep.blk_alloc_lt _ _ _ (World.ownsRow.lt HO5.out q hq).2) ⟨w5.heap.size, 0, none⟩ (by rfl) (by first | exact new_po w5 x _ | exact new_po w5.drew x _) (by rw [HL.out]; omega) ?_; intro v8 w8 hO8 hB8; have HO8 := Lib.hid hO8; have HB8 := Lib.hid ((HBE.out.trans (HC5.out.mono HSZ.out)).trans (((Below.refl w.heap.size w5).alloc (Nat.le_trans HSZ.out HC5.out.size) _).trans hB8)); clear hO8 hB8))
      all_goals
        rw [← hT.out] at HO8
        have HO9 := HO8
        clear HO8 HO HO5 HC5 A3 HE1 HE2 HE3 HE4 c1 c2 e1 e2
        go_wp2_with fail
        go_roundg (n - (k + 1))
        case rel => exact ⟨k + 1, _, by omega, rfl, by go_num, HO9.out, HB8.out⟩
        case measure => omega
    · obtain rfl : k = n := by omega
      have hd : d.take k = d := List.take_of_length_le (by rw [← HN.out]; exact Nat.le_refl _)
      have HO2 := HO.out
      rw [hd] at HO2
      have HO3 := Lib.hid HO2
      clear HO2 hd HO
      go_wp2_with fail
      go_ret
      exact ⟨_, _, rfl, HO3.out, HBE.out⟩
end Go.Proofs.Ytokdjaljeckghaa
