/-
  Lemmas on automata, the program's calls and the given ones, put together of 12 texts (part 2).
-/
import Derived.Test.YtdcofdndkpmpaaaQ1
import Derived.Maps.AppendAt
import Derived.ArgAppend
import Derived.Maps.OwnSet
import Derived.Maps.OwnOps
import Derived.Deep.AppendLies
import Derived.Deep.RegionHeld3
import Derived.Deep.RegionWith
import Derived.Deep.RegionLaw
import Derived.BigRegion
/-
  The given apart: the walk.
-/
namespace Go.Proofs.Ytdcofdndkpmpaaa
open Go.RowKit

/-- What the first table says: whether one alone of two is final. -/
def Au.fins (d : List Au.St) (r q : Nat) (M : Nat → Nat → Bool) : Prop := ∀ x y, x < d.length → y < d.length → (x < r ∨ x = r ∧ y < q) → M x y = ((Au.ofL d).fin x != (Au.ofL d).fin y)

set_option maxRecDepth 100000 in
set_option maxHeartbeats 8000000 in
theorem apart_any (F G : Nat → Prop) (w : World) (u v : Value) (d : List Au.St) (hu : StS F w u d) (hv : SetS G w v (Au.deadL d)) (hf : Au.Fits d) :
    Calls Try.prog 43 #[u, v] w fun e w' => ∃ gm gs, e = .returned (.slice (some ⟨gm, 0, none⟩) d.length d.length) ∧ MatR w' w.heap.size gm gs d.length d.length (fun i k => !(Au.ofL d).same i k) ∧ Below w.heap.size w w' := by
  have HU : Hid (∀ W, Below w.heap.size w W → ∀ gm gs M (i k : Nat), MatB W gm gs d.length M → Calls Try.prog 57 #[u, v, .slice (some ⟨gm, 0, none⟩) d.length d.length, .int .i64 i, .int .i64 k] W fun e w' => e = .returned (.bool (Au.unlike d M i k)) ∧ Below W.heap.size W w') := fun W hb gm gs M i k hm => unlike_any F G W u v d gm gs M i k (hu.below hb) (hv.below hb) hm hf
  obtain ⟨b, cap', rfl, hd1, hd2, hd⟩ := hu
  obtain ⟨n, hn⟩ : ∃ n, n = d.length := ⟨_, rfl⟩
  have hn2 : n ≤ 20000 := by have := hf.top; omega
  have HD := Lib.hid hd
  have HN := Lib.hid hn
  have HF := Lib.hid hf
  have hmk := run_make_row' (P := Try.prog) 69 62 (.slice none 0 0) 24 Try.underlying69 Try.infoBB rfl .i64 .i64 n (by omega) (by omega)
  have hmk2 := run_make_row' (P := Try.prog) 62 4 (.bool false) 1 Try.underlying62 Try.infoBo rfl .i64 .i64 n (by omega) (by omega)
  have HR0 : Hid (MatR (w.alloc (.cells (madeCells #[.slice none 0 0] n) 62)) w.heap.size w.heap.size (fun _ => 0) n 0 (fun _ _ => false)) :=
    ⟨(World.rowIs_made w (.slice none 0 0) n 62).congr fun i _ => by simp, fun i h => by omega, fun i h => by omega, fun i j h => by omega, Nat.le_refl _, fun i h => by omega⟩
  have HB0 : Hid (Below w.heap.size w (w.alloc (.cells (madeCells #[.slice none 0 0] n) 62))) := (Below.refl _ _).alloc (Nat.le_refl _) _
  rw [← hn] at HU ⊢
  clear hd hd1 hn hf hv
  go_enter Try.func43, Try.ntmps43
  go_wp2_with fail
  generalize w.alloc (.cells (madeCells #[.slice none 0 0] n) 62) = w1 at *
  clear hmk
  obtain ⟨gm, hg⟩ : ∃ g, w.heap.size = g := ⟨_, rfl⟩
  have hgB : w.heap.size ≤ gm := by omega
  rw [hg] at HR0 ⊢
  go_loopg [6] n (fun gg vi wx => ∃ (i : Nat) (gs : Nat → Nat) (M : Nat → Nat → Bool), i ≤ n ∧ gg = n - i ∧ vi = .int .i64 i ∧ Hid (Au.fins d i 0 M) ∧ Hid (MatR wx gm gm gs n i M) ∧ Below w.heap.size w wx)
  case atStart => exact ⟨0, _, _, Nat.zero_le _, rfl, rfl, (fun x y _ _ h => by omega), HR0, HB0.out⟩
  case round =>
    obtain ⟨i, gs, M, hi, rfl, rfl, hI, hR, hbel⟩ := hrel
    have HBE := Lib.hid hbel
    by_cases hin : i < n
    · have j1 : (i : Int) < (n : Int) := by omega
      have hid : i < d.length := by rw [← HN.out]; exact hin
      have hgl := hR.out.top.lt
      have hle : gm ≤ wr.heap.size := by omega
      have c0 := hR.out.top.cell hin
      rw [if_neg (Nat.lt_irrefl i)] at c0
      have z0 := hR.out.top.frozen i
      have c1 := (cell_same (a := ⟨gm, i, none⟩) (Go.Deep.blk_alloc_lt wr (.cells (madeCells #[.bool false] n) 4) gm hgl)).trans c0
      have HP := Lib.hid (hR.out.push hle)
      have HB2 : Hid (Below w.heap.size w ((wr.setCell ⟨gm, i, none⟩ (.slice (some ⟨wr.heap.size, 0, none⟩) n n)).alloc (.cells (madeCells #[.bool false] n) 4))) := by
        have h := HBE.out.setCell (p := ⟨gm, i, none⟩) hgB (.slice (some ⟨wr.heap.size, 0, none⟩) n n)
        exact h.alloc h.size _
      have hI1 : Hid (Au.fins d i 0 (fun x y => if x = i then false else M x y)) := fun x y hx hy h => by
        have hx' : x < i := by omega
        show (if x = i then false else M x y) = _
        rw [if_neg (by omega)]
        exact hI.out x y hx hy (.inl hx')
      obtain ⟨gs2, hgs2⟩ : ∃ f : Nat → Nat, (fun x => if x = i then wr.heap.size else gs x) = f := ⟨_, rfl⟩
      have hgi : Hid (gs2 i = wr.heap.size) := by show _ = _; rw [← hgs2]; simp
      rw [hgs2] at HP
      generalize (fun x y => if x = i then false else M x y) = M1 at *
      clear hbel hgs2 hI hR HBE
      go_wp2_with fail
      generalize (wr.setCell ⟨gm, i, none⟩ (.slice (some ⟨wr.heap.size, 0, none⟩) n n)).alloc (.cells (madeCells #[.bool false] n) 4) = w2 at *
      generalize wr.heap.size = gi at *
      go_loopg [7] n (fun gg vk wx => ∃ (k : Nat) (M : Nat → Nat → Bool), k ≤ n ∧ gg = n - k ∧ vk = .int .i64 k ∧ Hid (Au.fins d i k M) ∧ Hid (MatR wx gm gm gs2 n (i + 1) M) ∧ Below w.heap.size w wx)
      case atStart => exact ⟨0, M1, Nat.zero_le _, rfl, rfl, hI1, HP, HB2.out⟩
      case round =>
        clear HP HB2 hI1
        obtain ⟨k, M, hk, rfl, rfl, hI, hR, hbel⟩ := hrel
        have HBE := Lib.hid hbel
        by_cases hkn : k < n
        · have j2 : (k : Int) < (n : Int) := by omega
          have hkd : k < d.length := by rw [← HN.out]; exact hkn
          obtain ⟨g', o', rfl, hg', _, hcd⟩ := HD.out (by omega)
          have d1 := (hbel.cell (p := ⟨g', o' + i * 2, none⟩) hg').trans (hcd i hid).1
          have d2 := (hbel.cell (p := ⟨g', o' + k * 2, none⟩) hg').trans (hcd k hkd).1
          have t1 := hR.out.top.cell hin
          rw [if_pos (Nat.lt_succ_self i), hgi.out] at t1
          have t2 := (hR.out.row i (Nat.lt_succ_self i)).cell hkn
          have z2 := (hR.out.row i (Nat.lt_succ_self i)).frozen k
          rw [hgi.out] at t2 z2
          have hR2 := Lib.hid (hR.out.set i k (Nat.lt_succ_self i) (d[i].fin != d[k].fin))
          rw [hgi.out] at hR2
          have hgiB : w.heap.size ≤ gi := by
            have := hR.out.base.2 i (Nat.lt_succ_self i)
            rw [hgi.out] at this
            omega
          have hB3 : Hid (Below w.heap.size w (wr.setCell ⟨gi, k, none⟩ (.bool (d[i].fin != d[k].fin)))) := HBE.out.setCell (p := ⟨gi, k, none⟩) hgiB _
          have hI2 : Hid (Au.fins d i (k + 1) (fun x y => if x = i ∧ y = k then (d[i].fin != d[k].fin) else M x y)) := fun x y hx hy h => by
            show (if x = i ∧ y = k then (d[i].fin != d[k].fin) else M x y) = _
            by_cases e : x = i ∧ y = k
            · rw [if_pos e, e.1, e.2]
              simp only [Au.ofL, List.getElem?_eq_getElem hid, List.getElem?_eq_getElem hkd]
            · rw [if_neg e]
              exact hI.out x y hx hy (by omega)
          clear hcd hbel hI
          generalize d[i].fin = fi at *
          generalize d[k].fin = fk at *
          generalize M i k = b0 at *
          go_wp2_with fail
          go_region
          go_wp2_with fail
          go_roundg (n - (k + 1))
          case rel => exact ⟨k + 1, _, by omega, rfl, by go_num, hI2, hR2.out.other fun _ _ => rfl, hB3.out.drew⟩
          case measure => omega
        · obtain rfl : k = n := by omega
          have hI2 : Hid (Au.fins d (i + 1) 0 M) := fun x y hx hy h => hI.out x y hx hy (by
            by_cases e : x = i
            · exact .inr ⟨e, by rw [HN.out]; exact hy⟩
            · exact .inl (by omega))
          clear hI hbel
          go_wp2_with fail
          go_roundg (k - (i + 1))
          case rel => exact ⟨i + 1, gs2, M, by omega, rfl, by go_num, hI2, hR, HBE.out⟩
          case measure => omega
    · obtain rfl : i = n := by omega
      have hFar : Hid (Au.Far d M) := ⟨fun x y hx hy h e => by
        rw [hI.out x y hx hy (.inl (by rw [HN.out]; exact hx)), e.fin] at h
        simp at h, fun x y hx hy h => by
        rw [hI.out x y hx hy (.inl (by rw [HN.out]; exact hx))] at h
        simpa using h⟩
      clear hI hbel hmk2 hin
      go_wp2_with fail
      go_loopg [8] (Au.left3 i true M) (fun gg vm wx => ∃ (m : Bool) (M : Nat → Nat → Bool), gg = Au.left3 i m M ∧ vm = .bool m ∧ Hid (Au.Far d M) ∧ Hid (m = false → ∀ x y, x < d.length → y < d.length → M x y = false → Au.unlike d M x y = false) ∧ Hid (MatR wx gm gm gs i i M) ∧ Below w.heap.size w wx)
      case atStart => exact ⟨true, M, rfl, rfl, hFar, (fun h => by cases h), hR, HBE.out⟩
      case round =>
        clear hFar hR HBE
        obtain ⟨m, M, rfl, rfl, hM, hC, hR, hbel⟩ := hrel
        have HBE := Lib.hid hbel
        clear hbel
        cases m with
        | false =>
          have hfin : Hid (MatR wr gm gm gs i i (fun x y => !(Au.ofL d).same x y)) := by
            have h := hR.out
            refine ⟨h.top, fun x hx => (h.row x hx).congr fun y hy => ?_, h.ne, h.inj, h.base⟩
            rw [hM.out.done HF.out (hC.out rfl) (by rw [← HN.out]; exact hx) (by rw [← HN.out]; exact hy)]
          clear hM hC hR
          go_wp2_with fail
          go_ret
          exact ⟨gm, gs, rfl, by rw [hg]; exact hfin.out, HBE.out⟩
        | true =>
          clear hC
          generalize i = n at *
          go_wp2_with fail
          go_loopg [8, 9] n (fun gg vm vi wx => ∃ (i : Nat) (m : Bool) (M' : Nat → Nat → Bool), i ≤ n ∧ gg = n - i ∧ vm = .bool m ∧ vi = .int .i64 i ∧ Hid (Au.Far d M') ∧ Hid (Au.Pass6 d M M' m i 0) ∧ Hid (MatR wx gm gm gs n n M') ∧ Below w.heap.size w wx)
          case atStart => exact ⟨0, false, M, Nat.zero_le _, rfl, rfl, rfl, hM, .inl ⟨rfl, rfl, fun x y h => by omega, fun y h => by omega⟩, hR, HBE.out⟩
          case round =>
            clear hM hR HBE
            obtain ⟨i, m, M', hi, rfl, rfl, rfl, hM, hP, hR, hbel⟩ := hrel
            have HBE := Lib.hid hbel
            by_cases hin : i < n
            · have j1 : (i : Int) < (n : Int) := by omega
              have hid : i < d.length := by rw [← HN.out]; exact hin
              clear hbel
              go_wp2_with fail
              go_loopg [8, 10] n (fun gg vm vk wx => ∃ (k : Nat) (m : Bool) (M' : Nat → Nat → Bool), k ≤ n ∧ gg = n - k ∧ vm = .bool m ∧ vk = .int .i64 k ∧ Hid (Au.Far d M') ∧ Hid (Au.Pass6 d M M' m i k) ∧ Hid (MatR wx gm gm gs n n M') ∧ Below w.heap.size w wx)
              case atStart => exact ⟨0, m, M', Nat.zero_le _, rfl, rfl, rfl, hM, hP, hR, HBE.out⟩
              case round =>
                clear hM hP hR HBE
                obtain ⟨k, m, M', hk, rfl, rfl, rfl, hM, hP, hR, hbel⟩ := hrel
                have HBE := Lib.hid hbel
                by_cases hkn : k < n
                · have j2 : (k : Int) < (n : Int) := by omega
                  have hkd : k < d.length := by rw [← HN.out]; exact hkn
                  obtain ⟨t1, t2, z2⟩ := hR.out.mat.cells hin hkn
                  have U1 := Lib.hid (HU.out wr hbel gm gs M' i k hR.out.mat)
                  have hgB2 : w.heap.size ≤ gs i := by have := hR.out.base.2 i hin; omega
                  have hstay : Hid (M' i k = true ∨ Au.unlike d M' i k = false → Au.Pass6 d M M' m i (k + 1)) := fun h => by
                    rcases hP.out with ⟨h1, h2, h3, h4⟩ | h5
                    · refine .inl ⟨h1, h2, h3, fun y hy hb => ?_⟩
                      by_cases e : y = k
                      · subst e
                        rcases h with h | h
                        · rw [h2, hb] at h; cases h
                        · rw [h2] at h; exact h
                      · exact h4 y (by omega) hb
                    · exact .inr h5
                  have hset : Hid (M' i k = false → Au.unlike d M' i k = true → Au.Far d (fun x y => if x = i ∧ y = k then true else M' x y) ∧ Au.Pass6 d M (fun x y => if x = i ∧ y = k then true else M' x y) true i (k + 1)) := fun h1 h2 => by
                    refine ⟨hM.out.more HF.out h2, .inr ⟨rfl, ?_⟩⟩
                    have hl := Au.unset_lt (n := d.length) hid hkd h1
                    rcases hP.out with ⟨_, h4, _⟩ | ⟨_, h4⟩
                    · rw [h4] at hl ⊢; exact hl
                    · omega
                  have hR2 : Hid (∀ W, Below wr.heap.size wr W → MatR (W.setCell ⟨gs i, k, none⟩ (.bool true)) gm gm gs n n (fun x y => if x = i ∧ y = k then true else M' x y)) := fun W hb => (hR.out.below hb).set i k hin true
                  have hR1 : Hid (∀ W, Below wr.heap.size wr W → MatR W gm gm gs n n M') := fun W hb => hR.out.below hb
                  have hT : Hid (∀ W, Below wr.heap.size wr W → W.cell? ⟨gm, i, none⟩ = some (.slice (some ⟨gs i, 0, none⟩) n n) ∧ W.cell? ⟨gs i, k, none⟩ = some (.bool (M' i k)) ∧ W.frozen? ⟨gs i, k, none⟩ = false) := fun W hb => (hR.out.below hb).mat.cells hin hkn
                  have hB2 : Hid (∀ W, Below wr.heap.size wr W → Below w.heap.size w (W.setCell ⟨gs i, k, none⟩ (.bool true))) := fun W hb => (chain HBE.out hb).setCell (p := ⟨gs i, k, none⟩) hgB2 _
                  clear hP hbel hR
                  generalize (fun x y => if x = i ∧ y = k then true else M' x y) = M2 at *
                  generalize Au.unlike d M' i k = ul at *
                  obtain ⟨b0, hb0⟩ : ∃ b, M' i k = b := ⟨_, rfl⟩
                  simp only [hb0] at t2 hstay hset hT
                  generalize gs i = gi at *
                  clear hb0
                  cases b0 with
                  | true =>
                    have H := Lib.hid (hstay.out (.inl rfl))
                    clear hstay hset hT
                    go_wp2_with fail
                    go_roundg (n - (k + 1))
                    case rel => exact ⟨k + 1, m, M', by omega, rfl, rfl, by go_num, hM, H.out, hR1.out _ (Below.refl _ _), HBE.out⟩
                    case measure => omega
                  | false =>
                    cases ul with
                    | false =>
                      have H := Lib.hid (hstay.out (.inr rfl))
                      clear hstay hset hT
                      go_wp2_with fail
                      refine U1.out.mono ?_
                      rintro e w3 ⟨rfl, hb⟩
                      have HB3 : Hid (Below w.heap.size w w3) := chain HBE.out hb
                      have HR3 := Lib.hid (hR1.out _ hb)
                      clear hb
                      go_wp2_with fail
                      go_roundg (n - (k + 1))
                      case rel => exact ⟨k + 1, m, M', by omega, rfl, rfl, by go_num, hM, H.out, HR3.out, HB3.out⟩
                      case measure => omega
                    | true =>
                      obtain ⟨H1, H2⟩ := hset.out rfl rfl
                      have H1 := Lib.hid H1
                      have H2 := Lib.hid H2
                      clear hstay hset
                      go_wp2_with fail
                      refine U1.out.mono ?_
                      rintro e w3 ⟨rfl, hb⟩
                      have HB3 := Lib.hid (hB2.out _ hb)
                      have HR3 := Lib.hid (hR2.out _ hb)
                      obtain ⟨y1, y2, y3⟩ := hT.out _ hb
                      clear hb t1 t2 z2
                      go_wp2_with fail
                      go_roundg (n - (k + 1))
                      case rel => exact ⟨k + 1, true, M2, by omega, rfl, rfl, by go_num, H1.out, H2.out, HR3.out, HB3.out⟩
                      case measure => omega
                · obtain rfl : k = n := by omega
                  have H : Hid (Au.Pass6 d M M' m (i + 1) 0) := by
                    rcases hP.out with ⟨h1, h2, h3, h4⟩ | h
                    · refine .inl ⟨h1, h2, fun x y hx hy hb => ?_, fun y h => by omega⟩
                      by_cases e : x = i
                      · subst e
                        exact h4 y (by rw [HN.out]; exact hy) hb
                      · exact h3 x y (by omega) hy hb
                    · exact .inr h
                  clear hP hbel
                  go_wp2_with fail
                  go_roundg (k - (i + 1))
                  case rel => exact ⟨i + 1, m, M', by omega, rfl, rfl, by go_num, hM, H.out, hR, HBE.out⟩
                  case measure => omega
            · obtain rfl : i = n := by omega
              have hC2 : Hid (m = false → ∀ x y, x < d.length → y < d.length → M' x y = false → Au.unlike d M' x y = false) := fun hm => by
                rcases hP.out with ⟨_, h2, h3, _⟩ | ⟨h1, _⟩
                · rw [h2]
                  intro x y hx hy
                  exact h3 x y (by rw [HN.out]; exact hx) hy
                · rw [h1] at hm; cases hm
              have hless : Au.left3 i m M' < Au.left3 i true M := by
                rcases hP.out with ⟨h1, _⟩ | ⟨h1, h2⟩
                · subst h1
                  show 0 < _ + 1
                  omega
                · subst h1
                  rw [← HN.out] at h2
                  show _ + 1 < _ + 1
                  omega
              have HLS := Lib.hid hless
              clear hP hbel hless
              go_wp2_with fail
              go_roundg (Au.left3 i m M')
              case rel => exact ⟨m, M', rfl, rfl, hM, hC2, hR, HBE.out⟩
              case measure => exact HLS.out

end Go.Proofs.Ytdcofdndkpmpaaa

/-
  Lists of the call's own: of states' numbers, of arcs, of states; append onto them; what else stays.
-/
namespace Go.Proofs.Ytdcofdndkpmpaaa
open Go.RowKit

theorem heap_other (w : World) (b i k : Nat) (v : Value) (h : k ≠ b) : (w.setCell ⟨b, i, none⟩ v).heap[k]? = w.heap[k]? :=
  Below.heap_setCell _ _ _ _ (by first | exact h | exact fun e => h e.symm | exact fun e => h e)
/-- Nothing but what F says has turned of what lay there. -/
structure KeptF (F : Nat → Prop) (w w' : World) : Prop where
  os : w'.os = w.os
  tape : w'.tape = w.tape
  output : w'.output = w.output
  size : w.heap.size ≤ w'.heap.size
  block : ∀ k, k < w.heap.size → ¬ F k → w'.heap[k]? = w.heap[k]?
theorem KeptF.refl (F : Nat → Prop) (w : World) : KeptF F w w := ⟨rfl, rfl, rfl, Nat.le_refl _, fun _ _ _ => rfl⟩
theorem KeptF.trans {F : Nat → Prop} {w w' w'' : World} (h : KeptF F w w') (k : KeptF F w' w'') : KeptF F w w'' :=
  ⟨k.os.trans h.os, k.tape.trans h.tape, k.output.trans h.output, Nat.le_trans h.size k.size, fun i hi hf => (k.block i (Nat.lt_of_lt_of_le hi h.size) hf).trans (h.block i hi hf)⟩
theorem KeptF.mono {F G : Nat → Prop} {w w' : World} (h : KeptF F w w') (hm : ∀ k, k < w.heap.size → F k → G k) : KeptF G w w' :=
  ⟨h.os, h.tape, h.output, h.size, fun i hi hf => h.block i hi (fun hF => hf (hm i hi hF))⟩
theorem KeptF.of_below {F : Nat → Prop} {w w' : World} (h : Below w.heap.size w w') : KeptF F w w' := ⟨h.os, h.tape, h.output, h.size, fun k hk _ => h.block k hk⟩
theorem KeptF.set {F : Nat → Prop} {w w' : World} (h : KeptF F w w') (b i : Nat) (hb : F b) (v : Value) : KeptF F w (w'.setCell ⟨b, i, none⟩ v) :=
  h.trans ⟨rfl, rfl, rfl, by simp [World.setCell], fun k _ hk => heap_other _ _ _ _ _ (fun e => hk (e ▸ hb))⟩
theorem KeptF.drew {F : Nat → Prop} {w w' : World} (h : KeptF F w w') : KeptF F w w'.drew := h.trans ⟨rfl, rfl, rfl, Nat.le_refl _, fun _ _ _ => rfl⟩
theorem KeptF.below {F : Nat → Prop} {B : Nat} {w0 w w' : World} (h : Below B w0 w) (k : KeptF F w w') (hF : ∀ k, F k → B ≤ k) (hB : B ≤ w.heap.size) : Below B w0 w' :=
  h.trans ⟨k.os, k.tape, k.output, k.size, fun i hi => k.block i (by omega) (fun hf => by have := hF i hf; omega)⟩

/-- A list that lies where nothing has turned. -/
theorem ownsRow_keep {w w' : World} {B : Nat} {t : TypeId} {z : Nat} {v : Value} {n : Nat} {xs : List Value} (h : w.ownsRow B t z v n xs) (e : ∀ k, v.ownBlock = some k → w'.heap[k]? = w.heap[k]?) : w'.ownsRow B t z v n xs := by
  refine ⟨h.1, ?_⟩
  rcases h.2 with h1 | ⟨g, cap, cur, rfl, hg, hh, hr⟩
  · exact .inl h1
  · exact .inr ⟨g, cap, cur, rfl, hg, (e g rfl).trans hh, hr⟩
theorem ownsRow_base {w : World} {B C : Nat} {t : TypeId} {z : Nat} {v : Value} {n : Nat} {xs : List Value} (h : w.ownsRow B t z v n xs) (hC : C ≤ B) : w.ownsRow C t z v n xs := by
  refine ⟨h.1, ?_⟩
  rcases h.2 with h1 | ⟨g, cap, cur, rfl, hg, hh, hr⟩
  · exact .inl h1
  · exact .inr ⟨g, cap, cur, rfl, Nat.le_trans hC hg, hh, hr⟩
section
variable {P : Program} (w : World)
/-- append onto an own row: in place, and nothing else turns; or into a new block, and nothing old turns at all. -/
theorem run_append_two (base : Nat) (t ty e : TypeId) (i : TypeInfo) (z : Value) (size bytes : Nat) (ht : P.underlying t = some (.slice e)) (hi : P.info? e = some i) (hz : i.zero = some z)
    (hsize : i.size = size) (hby : i.bytes = bytes) (hzs : z.cells.size = size) (hsz : 0 < size)
    (v : Value) (n : Nat) (xs : List Value) (hown : w.ownsRow base e size v n xs)
    (a : Addr) (m c : Nat) (news : List Value) (hl : news.length = m * size) (hnews : ∀ j u, news[j]? = some u → w.cell? (a.add j) = some u) (h1 : ∀ u ∈ news, u.oneCell' = true)
    (h63 : n + m ≤ maxLen) (hbytes : (n + m) * bytes ≤ 140737488355328) (hbase : base ≤ w.heap.size) :
    ∃ v' w', (Builtin.append_ #[t, t] ty #[v, .slice (some a) m c]).run P w = .ok v' w' ∧ w'.ownsRow base e size v' (n + m) (xs ++ news) ∧
      ((v'.ownBlock = v.ownBlock ∧ w.grownBy w' v.ownBlock) ∨ ((∀ b, v'.ownBlock = some b → w.heap.size ≤ b) ∧ w.grownBy w' none)) := by
  obtain ⟨v', w', hr, h2, h3, _, h5⟩ := run_append_own_at (P := P) w base t ty e i z size bytes ht hi hz hsize hby hzs hsz v n xs hown a m c news hl hnews h1 h63 hbytes hbase
  rcases hown.2 with ⟨rfl, rfl⟩ | ⟨g, cap, cur, rfl, hbg, hg, hnc, hcm, hcs, htake⟩
  · refine ⟨v', w', hr, h2, .inr ⟨fun b hb => ?_, h3⟩⟩
    rcases h5 with h5 | h5
    · rw [h5] at hb; cases hb
    · rw [h5] at hb; cases hb; exact Nat.le_refl _
  · by_cases hroom : n + m ≤ cap
    · have hfit : n * i.size + news.length ≤ cur.size := by rw [hl, hcs, hsize, ← Nat.add_mul]; exact Nat.mul_le_mul_right _ hroom
      have hr2 := run_append_room (P := P) w t ty e i ht hi g n cap cur hg a m c news (by rw [hsize]; exact hl) hnews h1 hroom hfit
      rw [hr] at hr2
      injection hr2 with e1 e2
      exact ⟨v', w', hr, h2, .inl ⟨by rw [e1]; rfl, h3⟩⟩
    · have holds : ∀ j u, xs[j]? = some u → w.cell? ((⟨g, 0, none⟩ : Addr).add j) = some u := hown.cells (g := g) rfl
      obtain ⟨v2, w2, hr2, h6, h7⟩ := run_append_arg_grows (P := P) w t ty e i z size bytes ht hi hz hsize hby hzs hsz ⟨g, 0, none⟩ n cap xs hown.1 holds a m c news hl hnews (by omega) h63 hbytes
      exact ⟨v2, w2, hr2, ownsRow_base h6 hbase, .inr ⟨fun b hb => (h6.lt b hb).1, h7⟩⟩
theorem wpList_append_two {ops : Array Oper} {rest : List Oper} {o : Oper} {a : Act} {Q : Exit → Act → World → Prop} (hgd : o.guard = none) (s x : Operand) (t : TypeId)
    (ho : o.op = .call { callee := .builtin .append, args := #[s, x], argTypes := #[t, t] })
    (base : Nat) (e : TypeId) (i : TypeInfo) (z : Value) (size bytes : Nat) (ht : P.underlying t = some (.slice e)) (hi : P.info? e = some i) (hz : i.zero = some z)
    (hsize : i.size = size) (hby : i.bytes = bytes) (hzs : z.cells.size = size) (hsz : 0 < size)
    (v : Value) (n : Nat) (xs : List Value) (hs : a.eval s = v) (hown : w.ownsRow base e size v n xs)
    (ad : Addr) (m c : Nat) (news : List Value) (hx : a.eval x = .slice (some ad) m c) (hl : news.length = m * size) (hnews : ∀ j u, news[j]? = some u → w.cell? (ad.add j) = some u) (h1 : ∀ u ∈ news, u.oneCell' = true)
    (h63 : n + m ≤ maxLen) (hbytes : (n + m) * bytes ≤ 140737488355328) (hbase : base ≤ w.heap.size)
    (h : ∀ v' w', w'.ownsRow base e size v' (n + m) (xs ++ news) → ((v'.ownBlock = v.ownBlock ∧ w.grownBy w' v.ownBlock) ∨ ((∀ b, v'.ownBlock = some b → w.heap.size ≤ b) ∧ w.grownBy w' none)) → wpList P ops Q rest (a.put o.dst v') w') :
    wpList P ops Q (o :: rest) a w := by
  refine wpList_plain hgd fun K hK => ?_
  obtain ⟨v', w', hr, h2, h3⟩ := run_append_two (P := P) w base t o.type e i z size bytes ht hi hz hsize hby hzs hsz v n xs hown ad m c news hl hnews h1 h63 hbytes hbase
  unfold Oper.wp execOp
  simp only [ho, resolve, invoke, builtin, Sem.run_bind, Sem.run_pure, Result.andThen_ok, List.map_toArray, List.map_cons, List.map_nil, hs, hx, hr]
  exact hK _ _ (h v' w' h2 h3)
end

namespace Ap
/-- What an append may have done: in place, or in a new block. -/
def Two (w w' : World) (v v' : Value) : Prop := (v'.ownBlock = v.ownBlock ∧ w.grownBy w' v.ownBlock) ∨ ((∀ b, v'.ownBlock = some b → w.heap.size ≤ b) ∧ w.grownBy w' none)
theorem Two.far {w w' : World} {v v' : Value} (h : Two w w' v v') {k : Nat} (hk : k < w.heap.size) (hv : v.ownBlock ≠ some k) : w'.heap[k]? = w.heap[k]? := by
  rcases h with ⟨_, h⟩ | ⟨_, h⟩
  · exact h.block k hk (fun e => hv e.symm)
  · exact h.block k hk (fun e => by cases e)
theorem Two.at {w w' : World} {v v' : Value} (h : Two w w' v v') {b : Nat} (hb : v'.ownBlock = some b) : v.ownBlock = some b ∨ w.heap.size ≤ b := by
  rcases h with ⟨h, _⟩ | ⟨h, _⟩
  · exact .inl (h ▸ hb)
  · exact .inr (h b hb)
theorem Two.size {w w' : World} {v v' : Value} (h : Two w w' v v') : w.heap.size ≤ w'.heap.size := by
  rcases h with ⟨_, h⟩ | ⟨_, h⟩ <;> exact h.size
theorem Two.rest {w w' : World} {v v' : Value} (h : Two w w' v v') : w'.os = w.os ∧ w'.tape = w.tape ∧ w'.output = w.output := by
  rcases h with ⟨_, h⟩ | ⟨_, h⟩ <;> exact ⟨h.os, h.tape, h.output⟩
theorem Two.drop {w w' : World} {v v' : Value} {o : Obj} (h : Two (w.alloc o) w' v v') : Two w w' v v' := by
  rcases h with ⟨h1, h⟩ | ⟨h1, h⟩
  · exact .inl ⟨h1, h.os, h.tape, h.output, Nat.le_trans (by simp) h.size, fun k hk hv => (h.block k (by simp; omega) hv).trans (Go.Deep.blk_alloc_lt w _ _ hk)⟩
  · exact .inr ⟨fun b hb => Nat.le_trans (by simp) (h1 b hb), h.os, h.tape, h.output, Nat.le_trans (by simp) h.size, fun k hk hv => (h.block k (by simp; omega) hv).trans (Go.Deep.blk_alloc_lt w _ _ hk)⟩
end Ap
theorem Try.infoN : (Try.prog.info? 3).map (fun i => (i.zero, i.size, i.bytes)) = some (some (.int .i64 0), 1, 8) := by kernel_rfl

/-- Numbers as cells. -/
def natsV (l : List Nat) : List Value := l.map (fun (c : Nat) => .int .i64 (c : Int))

theorem natsV_snoc (l : List Nat) (c : Nat) : natsV l ++ [.int .i64 c] = natsV (l ++ [c]) := by simp [natsV]

theorem natsV_append (l r : List Nat) : natsV l ++ natsV r = natsV (l ++ r) := by simp [natsV]

theorem natsV_length (l : List Nat) : (natsV l).length = l.length := by simp [natsV]

/-- The slice v is the call's own, from block B on, and holds these numbers. -/
def OwnN (w : World) (B : Nat) (v : Value) (l : List Nat) : Prop := w.ownsRow B 3 1 v l.length (natsV l)

/-- Behind an append of one number. -/
theorem ownN_push {w wr w1 : World} {B : Nat} {v v' : Value} {l : List Nat} {c : Nat} {o : Obj} (hB : B ≤ wr.heap.size) (h : OwnN wr B v l) (hb : Below B w wr)
    (h1 : w1.ownsRow B 3 1 v' (l.length + 1) (natsV l ++ [.int .i64 c])) (hg : (wr.alloc o).grownBy w1 v.ownBlock) :
    OwnN w1 B v' (l ++ [c]) ∧ Below B w w1 := by
  have hown : wr.ownsRow B 3 1 v l.length (natsV l) := h
  refine ⟨?_, (hb.alloc hB o).grown hg (by simp; omega) (fun j hj => (hown.lt j hj).1)⟩
  unfold OwnN
  rw [natsV_snoc] at h1
  simpa using h1

/-- An own slice, its cells told one by one. -/
theorem ownN_cells {w : World} {B : Nat} {v : Value} {l : List Nat} (h : OwnN w B v l) : ∃ a cap, v = .slice a l.length cap ∧ (0 < l.length → ∃ g, a = some ⟨g, 0, none⟩ ∧ g < w.heap.size ∧ ∀ j (hj : j < l.length), w.cell? ⟨g, j, none⟩ = some (.int .i64 l[j])) := by
  have hown : w.ownsRow B 3 1 v l.length (natsV l) := h
  rcases h.2 with ⟨rfl, h0⟩ | ⟨g, cap, cur, rfl, hg, hh, hnc, hcp, hcs, htake⟩
  · exact ⟨none, 0, by rw [h0], fun h => by omega⟩
  · refine ⟨_, _, rfl, fun h => ⟨g, rfl, (hown.lt g rfl).2, fun j hj => ?_⟩⟩
    rw [hown.cellAt j (by omega)]
    simp [natsV, hj]

/-- The value v is a slice of these numbers. -/
def NatS (w : World) (v : Value) (xs : List Nat) : Prop :=
  ∃ a cap, v = .slice a xs.length cap ∧ xs.length ≤ cap ∧ cap ≤ 9223372036854775807 ∧ (0 < xs.length → ∃ g o, a = some ⟨g, o, none⟩ ∧ g < w.heap.size ∧ ∀ j (_ : j < xs.length), w.cell? ⟨g, o + j, none⟩ = some (.int .i64 xs[j]))

theorem NatS.below {w w' : World} {B : Nat} {v : Value} {xs : List Nat} (h : NatS w v xs) (hb : Below B w w') (hB : w.heap.size ≤ B) : NatS w' v xs := by
  obtain ⟨a, cap, h1, h2, h3, h4⟩ := h
  refine ⟨a, cap, h1, h2, h3, fun h0 => ?_⟩
  obtain ⟨g, o, h5, h6, h7⟩ := h4 h0
  exact ⟨g, o, h5, Nat.lt_of_lt_of_le h6 hb.size, fun j hj => (hb.cell (p := ⟨g, o + j, none⟩) (Nat.lt_of_lt_of_le h6 hB)).trans (h7 j hj)⟩

theorem OwnN.ints {w : World} {B : Nat} {v : Value} {l : List Nat} (h : OwnN w B v l) (_ : l.length ≤ 140737488355328) : NatS w v l := by
  rcases h.2 with ⟨rfl, h0⟩ | ⟨g, cap, cur, rfl, hg, hh, hnc, hcp, hcs, htake⟩
  · exact ⟨none, 0, by rw [h0], by omega, by omega, fun h => by omega⟩
  · have hown : w.ownsRow B 3 1 (.slice (some ⟨g, 0, none⟩) l.length cap) l.length (natsV l) := h
    refine ⟨_, cap, rfl, hnc, by unfold maxLen at hcp; omega, fun h => ⟨g, 0, rfl, (hown.lt g rfl).2, fun j hj => ?_⟩⟩
    rw [Nat.zero_add, hown.cellAt j (by omega)]
    simp [natsV, hj]

/-- Behind an append of numbers that lie elsewhere. -/
theorem ownN_pushAll {w wr w1 : World} {B : Nat} {v v' : Value} {l r : List Nat} (hB : B ≤ wr.heap.size) (h : OwnN wr B v l) (hb : Below B w wr)
    (h1 : w1.ownsRow B 3 1 v' (l.length + r.length) (natsV l ++ natsV r)) (hg : wr.grownBy w1 v.ownBlock) :
    OwnN w1 B v' (l ++ r) ∧ Below B w w1 := by
  have hown : wr.ownsRow B 3 1 v l.length (natsV l) := h
  refine ⟨?_, hb.grown hg hB (fun j hj => (hown.lt j hj).1)⟩
  unfold OwnN
  rw [natsV_append] at h1
  simpa using h1

/-- 'append(v, c)' of one number, which lies in a new block. -/
theorem wpList_pushN {ops : Array Oper} {rest : List Oper} {o : Oper} {a : Act} {Q : Exit → Act → World → Prop} {w : World} (hgd : o.guard = none) (s x : Operand)
    (ho : o.op = .call { callee := .builtin .append, args := #[s, x], argTypes := #[54, 54] })
    (B : Nat) (hB : B ≤ w.heap.size) (v : Value) (l : List Nat) (c : Nat) (hs : a.eval s = v) (h : OwnN w B v l) (hx : a.eval x = .slice (some ⟨w.heap.size, 0, none⟩) 1 1)
    (hb : l.length + 1 ≤ 17592186044416)
    (hk : ∀ v' w', OwnN w' B v' (l ++ [c]) → Below B w w' → (w.alloc (.cells #[.int .i64 c] 3)).grownBy w' v.ownBlock → wpList Try.prog ops Q rest (a.put o.dst v') w') :
    wpList Try.prog ops Q (o :: rest) a (w.alloc (.cells #[.int .i64 c] 3)) := by
  obtain ⟨ii, hi, hz0, hz1, hz2⟩ := info_parts Try.infoN
  have hown : w.ownsRow B 3 1 v l.length (natsV l) := h
  refine wpList_append_own _ hgd s x 54 ho B 3 ii (.int .i64 0) 1 8 Try.underlying54 hi hz0 hz1 hz2 rfl (by decide) _ _ _ hs (hown.alloc _) ⟨w.heap.size, 0, none⟩ 1 1 [.int .i64 c] hx rfl ?_ ?_ (by unfold maxLen; omega) (by omega) (by simp; omega) ?_
  · intro j u hj
    match j, hj with
    | 0, hj => simp at hj; subst hj; simp [Addr.add]
  · intro u hu
    simp at hu
    subst hu
    rfl
  · intro v' w' h1 h2 _
    obtain ⟨h3, h4⟩ := ownN_push hB h (Below.refl B w) h1 h2
    exact hk v' w' h3 h4 h2


/-- Arcs as cells. -/
def arcsV (l : List Au.Arc) : List Value := l.flatMap fun x => [.int .i64 x.lo, .int .i64 x.hi, .int .i64 x.to]
theorem arcsV_length (l : List Au.Arc) : (arcsV l).length = l.length * 3 := by
  induction l with
  | nil => rfl
  | cons x t ih =>
    show (_ :: _ :: _ :: arcsV t).length = _
    simp only [List.length_cons, ih]
    omega
theorem arcsV_snoc (l : List Au.Arc) (x : Au.Arc) : arcsV l ++ [.int .i64 x.lo, .int .i64 x.hi, .int .i64 x.to] = arcsV (l ++ [x]) := by simp [arcsV]
theorem arcsV_at (l : List Au.Arc) : ∀ i (h : i < l.length), (arcsV l)[i * 3]? = some (.int .i64 l[i].lo) ∧ (arcsV l)[i * 3 + 1]? = some (.int .i64 l[i].hi) ∧ (arcsV l)[i * 3 + 2]? = some (.int .i64 l[i].to) := by
  induction l with
  | nil => intro i h; cases h
  | cons x t ih =>
    intro i h
    cases i with
    | zero => exact ⟨rfl, rfl, rfl⟩
    | succ i =>
      simp only [List.length_cons, Nat.add_lt_add_iff_right] at h
      have e : (i + 1) * 3 = i * 3 + 1 + 1 + 1 := by omega
      rw [e]
      exact ih i h
theorem Try.infoA : (Try.prog.info? 41).map (fun i => (i.zero, i.size, i.bytes)) = some (some (.agg #[.int .i64 0, .int .i64 0, .int .i64 0]), 3, 24) := by kernel_rfl
/-- The slice v is the call's own, from block B on, and holds these arcs. -/
def OwnA (w : World) (B : Nat) (v : Value) (l : List Au.Arc) : Prop := w.ownsRow B 41 3 v l.length (arcsV l)
theorem OwnA.opened {w : World} {B : Nat} {v : Value} {l : List Au.Arc} (h : OwnA w B v l) : ∃ a cap, v = .slice a l.length cap ∧ l.length ≤ cap ∧ cap ≤ 9223372036854775807 ∧ (0 < l.length → ∃ g, a = some ⟨g, 0, none⟩ ∧ B ≤ g ∧ g < w.heap.size ∧ (∀ j, w.frozen? ⟨g, j, none⟩ = false) ∧
    ∀ j (_ : j < l.length), w.cell? ⟨g, j * 3, none⟩ = some (.int .i64 l[j].lo) ∧ w.cell? ⟨g, j * 3 + 1, none⟩ = some (.int .i64 l[j].hi) ∧ w.cell? ⟨g, j * 3 + 2, none⟩ = some (.int .i64 l[j].to)) := by
  rcases h.2 with ⟨rfl, h0⟩ | ⟨g, cap, cur, rfl, hg, hh, hnc, hcp, hcs, htake⟩
  · exact ⟨none, 0, by rw [h0], by omega, by omega, fun h => by omega⟩
  · have hown : w.ownsRow B 41 3 (.slice (some ⟨g, 0, none⟩) l.length cap) l.length (arcsV l) := h
    refine ⟨_, cap, rfl, hnc, by unfold maxLen at hcp; omega, fun _ => ⟨g, rfl, hg, (hown.lt g rfl).2, fun j => by simp [World.frozen?, hh], fun j hj => ?_⟩⟩
    obtain ⟨a1, a2, a3⟩ := arcsV_at l j hj
    exact ⟨(hown.cellAt _ (by omega)).trans a1, (hown.cellAt _ (by omega)).trans a2, (hown.cellAt _ (by omega)).trans a3⟩
theorem OwnA.arcs {w : World} {B : Nat} {v : Value} {l : List Au.Arc} (h : OwnA w B v l) (F : Nat → Prop) (hF : ∀ g, B ≤ g → F g) : ArcS F w v l := by
  obtain ⟨a, cap, h1, h2, h3, h4⟩ := h.opened
  refine ⟨a, cap, h1, h2, h3, fun h0 => ?_⟩
  obtain ⟨g, h5, h6, h7, _, h8⟩ := h4 h0
  exact ⟨g, 0, h5, h7, hF g h6, fun j hj => by simpa using h8 j hj⟩
theorem OwnA.keep {w w' : World} {B : Nat} {v : Value} {l : List Au.Arc} (h : OwnA w B v l) (e : ∀ k, v.ownBlock = some k → w'.heap[k]? = w.heap[k]?) : OwnA w' B v l := ownsRow_keep h e
theorem OwnA.lt {w : World} {B : Nat} {v : Value} {l : List Au.Arc} (h : OwnA w B v l) : ∀ k, v.ownBlock = some k → B ≤ k ∧ k < w.heap.size := World.ownsRow.lt h
theorem OwnA.nil0 (w : World) (B : Nat) : OwnA w B (.slice none 0 0) [] := World.ownsRow_nil w B _ _
theorem OwnA.kind {w : World} {B : Nat} {v : Value} {l : List Au.Arc} (h : OwnA w B v l) : ∀ g, v.ownBlock = some g → ∃ c fz, w.heap[g]? = some (.cells c 41 fz) := by
  intro g hv
  rcases h.2 with ⟨h1, _⟩ | ⟨g', cap, cur, h1, hg, hh, _⟩
  · rw [h1] at hv; cases hv
  · rw [h1] at hv
    obtain rfl : g' = g := by simpa [Value.ownBlock] using hv
    exact ⟨_, _, hh⟩
theorem OwnN.kind {w : World} {B : Nat} {v : Value} {l : List Nat} (h : OwnN w B v l) : ∀ g, v.ownBlock = some g → ∃ c fz, w.heap[g]? = some (.cells c 3 fz) := by
  intro g hv
  rcases h.2 with ⟨h1, _⟩ | ⟨g', cap, cur, h1, hg, hh, _⟩
  · rw [h1] at hv; cases hv
  · rw [h1] at hv
    obtain rfl : g' = g := by simpa [Value.ownBlock] using hv
    exact ⟨_, _, hh⟩
/-- The last arc goes on. -/
theorem OwnA.last {w : World} {B : Nat} {g cap : Nat} {r : List Au.Arc} {x : Au.Arc} {n : Nat} (h : OwnA w B (.slice (some ⟨g, 0, none⟩) n cap) (r ++ [x])) (hn : n = r.length + 1) (c : Int) : OwnA (w.setCell ⟨g, r.length * 3 + 1, none⟩ (.int .i64 c)) B (.slice (some ⟨g, 0, none⟩) n cap) (r ++ [⟨x.lo, c, x.to⟩]) ∧ w.grownBy (w.setCell ⟨g, r.length * 3 + 1, none⟩ (.int .i64 c)) (some g) := by
  have hl : (r ++ [x]).length = n := by simp [hn]
  have hl2 : (r ++ [(⟨x.lo, c, x.to⟩ : Au.Arc)]).length = n := by simp [hn]
  unfold OwnA at h ⊢
  rw [hl] at h
  rw [hl2]
  have hs := h.stored (r.length * 3 + 1) (.int .i64 c)
  have he : (arcsV (r ++ [x])).set (r.length * 3 + 1) (.int .i64 c) = arcsV (r ++ [(⟨x.lo, c, x.to⟩ : Au.Arc)]) := by
    rw [← arcsV_snoc, ← arcsV_snoc, List.set_append_right _ _ (by rw [arcsV_length]; omega), arcsV_length, show r.length * 3 + 1 - r.length * 3 = 1 by omega]
    rfl
  rw [he] at hs
  exact hs
theorem new_arc (w : World) (a b c : Int) : ∀ j u, [Value.int .i64 a, .int .i64 b, .int .i64 c][j]? = some u → (w.alloc (.cells #[.int .i64 a, .int .i64 b, .int .i64 c] 41)).cell? ((⟨w.heap.size, 0, none⟩ : Addr).add j) = some u := by
  intro j u hj
  match j, hj with
  | 0, hj => simp at hj; subst hj; simp [Addr.add]
  | 1, hj => simp at hj; subst hj; simp [Addr.add]
  | 2, hj => simp at hj; subst hj; simp [Addr.add]
theorem one_arc (a b c : Int) : ∀ u ∈ [Value.int .i64 a, .int .i64 b, .int .i64 c], u.oneCell' = true := by
  intro u hu
  simp only [List.mem_cons, List.mem_nil_iff, or_false] at hu
  rcases hu with rfl | rfl | rfl <;> rfl
/-- 'append(v, Arc)' of one arc, which lies in a new block. -/
theorem wpList_pushA {ops : Array Oper} {rest : List Oper} {o : Oper} {a : Act} {Q : Exit → Act → World → Prop} {w : World} (hgd : o.guard = none) (s x : Operand)
    (ho : o.op = .call { callee := .builtin .append, args := #[s, x], argTypes := #[37, 37] })
    (B : Nat) (hB : B ≤ w.heap.size) (v : Value) (l : List Au.Arc) (p q r : Int) (hs : a.eval s = v) (h : OwnA w B v l) (hx : a.eval x = .slice (some ⟨w.heap.size, 0, none⟩) 1 1)
    (hb : l.length + 1 ≤ 1099511627776)
    (hk : ∀ v' w', OwnA w' B v' (l ++ [⟨p, q, r⟩]) → Ap.Two w w' v v' → wpList Try.prog ops Q rest (a.put o.dst v') w') :
    wpList Try.prog ops Q (o :: rest) a (w.alloc (.cells #[.int .i64 p, .int .i64 q, .int .i64 r] 41)) := by
  obtain ⟨ii, hi, hz0, hz1, hz2⟩ := info_parts Try.infoA
  have hown : w.ownsRow B 41 3 v l.length (arcsV l) := h
  refine wpList_append_two _ hgd s x 37 ho B 41 ii _ 3 24 Try.underlying37 hi hz0 hz1 hz2 rfl (by decide) _ _ _ hs (hown.alloc _) ⟨w.heap.size, 0, none⟩ 1 1 [.int .i64 p, .int .i64 q, .int .i64 r] hx rfl (new_arc w p q r) (one_arc p q r) (by unfold maxLen; omega) (by omega) (by simp; omega) ?_
  intro v' w' h1 h2
  refine hk v' w' ?_ (Ap.Two.drop h2)
  unfold OwnA
  rw [arcsV_snoc l ⟨p, q, r⟩] at h1
  simpa using h1
theorem new_nat (w : World) (c : Nat) : ∀ j u, [Value.int .i64 c][j]? = some u → (w.alloc (.cells #[.int .i64 c] 3)).cell? ((⟨w.heap.size, 0, none⟩ : Addr).add j) = some u := by
  intro j u hj
  match j, hj with
  | 0, hj => simp at hj; subst hj; simp [Addr.add]
/-- 'append(v, n)' of one number, which lies in a new block. -/
theorem wpList_pushN2 {ops : Array Oper} {rest : List Oper} {o : Oper} {a : Act} {Q : Exit → Act → World → Prop} {w : World} (hgd : o.guard = none) (s x : Operand)
    (ho : o.op = .call { callee := .builtin .append, args := #[s, x], argTypes := #[54, 54] })
    (B : Nat) (hB : B ≤ w.heap.size) (v : Value) (l : List Nat) (c : Nat) (hs : a.eval s = v) (h : OwnN w B v l) (hx : a.eval x = .slice (some ⟨w.heap.size, 0, none⟩) 1 1)
    (hb : l.length + 1 ≤ 1099511627776)
    (hk : ∀ v' w', OwnN w' B v' (l ++ [c]) → Ap.Two w w' v v' → wpList Try.prog ops Q rest (a.put o.dst v') w') :
    wpList Try.prog ops Q (o :: rest) a (w.alloc (.cells #[.int .i64 c] 3)) := by
  obtain ⟨ii, hi, hz0, hz1, hz2⟩ := info_parts Try.infoN
  have hown : w.ownsRow B 3 1 v l.length (natsV l) := h
  refine wpList_append_two _ hgd s x 54 ho B 3 ii (.int .i64 0) 1 8 Try.underlying54 hi hz0 hz1 hz2 rfl (by decide) _ _ _ hs (hown.alloc _) ⟨w.heap.size, 0, none⟩ 1 1 [.int .i64 c] hx rfl (new_nat w c) ?_ (by unfold maxLen; omega) (by omega) (by simp; omega) ?_
  · intro u hu
    simp at hu
    subst hu
    rfl
  · intro v' w' h1 h2
    refine hk v' w' ?_ (Ap.Two.drop h2)
    unfold OwnN
    rw [natsV_snoc] at h1
    simpa using h1
/-- States as cells: is it final, its arcs' slice. -/
def stsV (l : List (Bool × Value)) : List Value := l.flatMap fun x => [.bool x.1, x.2]
theorem stsV_length (l : List (Bool × Value)) : (stsV l).length = l.length * 2 := by
  induction l with
  | nil => rfl
  | cons x t ih =>
    show (_ :: _ :: stsV t).length = _
    simp only [List.length_cons, ih]
    omega
theorem stsV_snoc (l : List (Bool × Value)) (x : Bool × Value) : stsV l ++ [.bool x.1, x.2] = stsV (l ++ [x]) := by simp [stsV]
theorem stsV_at (l : List (Bool × Value)) : ∀ i (h : i < l.length), (stsV l)[i * 2]? = some (.bool l[i].1) ∧ (stsV l)[i * 2 + 1]? = some l[i].2 := by
  induction l with
  | nil => intro i h; cases h
  | cons x t ih =>
    intro i h
    cases i with
    | zero => exact ⟨rfl, rfl⟩
    | succ i =>
      simp only [List.length_cons, Nat.add_lt_add_iff_right] at h
      have e : (i + 1) * 2 = i * 2 + 1 + 1 := by omega
      rw [e]
      exact ih i h
theorem Try.infoSt : (Try.prog.info? 39).map (fun i => (i.zero, i.size, i.bytes)) = some (some (.agg #[.bool false, .slice none 0 0]), 2, 32) := by kernel_rfl
/-- The slice v is the call's own, from block B on, and holds these states. -/
def OwnT (w : World) (B : Nat) (v : Value) (l : List (Bool × Value)) : Prop := w.ownsRow B 39 2 v l.length (stsV l)
theorem new_st (w : World) (b : Bool) (u0 : Value) : ∀ j u, [Value.bool b, u0][j]? = some u → (w.alloc (.cells #[.bool b, u0] 39)).cell? ((⟨w.heap.size, 0, none⟩ : Addr).add j) = some u := by
  intro j u hj
  match j, hj with
  | 0, hj => simp at hj; subst hj; simp [Addr.add]
  | 1, hj => simp at hj; subst hj; simp [Addr.add]
/-- 'append(v, State)' of one state, which lies in a new block. -/
theorem wpList_pushT {ops : Array Oper} {rest : List Oper} {o : Oper} {a : Act} {Q : Exit → Act → World → Prop} {w : World} (hgd : o.guard = none) (s x : Operand)
    (ho : o.op = .call { callee := .builtin .append, args := #[s, x], argTypes := #[22, 22] })
    (B : Nat) (hB : B ≤ w.heap.size) (v : Value) (l : List (Bool × Value)) (b : Bool) (ad : Option Addr) (m cap : Nat) (hs : a.eval s = v) (h : OwnT w B v l) (hx : a.eval x = .slice (some ⟨w.heap.size, 0, none⟩) 1 1)
    (hb : l.length + 1 ≤ 1099511627776)
    (hk : ∀ v' w', OwnT w' B v' (l ++ [(b, .slice ad m cap)]) → Ap.Two w w' v v' → wpList Try.prog ops Q rest (a.put o.dst v') w') :
    wpList Try.prog ops Q (o :: rest) a (w.alloc (.cells #[.bool b, .slice ad m cap] 39)) := by
  obtain ⟨ii, hi, hz0, hz1, hz2⟩ := info_parts Try.infoSt
  have hown : w.ownsRow B 39 2 v l.length (stsV l) := h
  refine wpList_append_two _ hgd s x 22 ho B 39 ii _ 2 32 Try.underlying22 hi hz0 hz1 hz2 rfl (by decide) _ _ _ hs (hown.alloc _) ⟨w.heap.size, 0, none⟩ 1 1 [.bool b, .slice ad m cap] hx rfl (new_st w b _) ?_ (by unfold maxLen; omega) (by omega) (by simp; omega) ?_
  · intro u hu
    simp only [List.mem_cons, List.mem_nil_iff, or_false] at hu
    rcases hu with rfl | rfl <;> rfl
  · intro v' w' h1 h2
    refine hk v' w' ?_ (Ap.Two.drop h2)
    unfold OwnT
    rw [stsV_snoc l (b, .slice ad m cap)] at h1
    simpa using h1
theorem OwnT.opened {w : World} {B : Nat} {v : Value} {l : List (Bool × Value)} (h : OwnT w B v l) : ∃ a cap, v = .slice a l.length cap ∧ l.length ≤ cap ∧ cap ≤ 9223372036854775807 ∧ (0 < l.length → ∃ g, a = some ⟨g, 0, none⟩ ∧ B ≤ g ∧ g < w.heap.size ∧
    ∀ j (_ : j < l.length), w.cell? ⟨g, j * 2, none⟩ = some (.bool l[j].1) ∧ w.cell? ⟨g, j * 2 + 1, none⟩ = some l[j].2) := by
  rcases h.2 with ⟨rfl, h0⟩ | ⟨g, cap, cur, rfl, hg, hh, hnc, hcp, hcs, htake⟩
  · exact ⟨none, 0, by rw [h0], by omega, by omega, fun h => by omega⟩
  · have hown : w.ownsRow B 39 2 (.slice (some ⟨g, 0, none⟩) l.length cap) l.length (stsV l) := h
    refine ⟨_, cap, rfl, hnc, by unfold maxLen at hcp; omega, fun _ => ⟨g, rfl, hg, (hown.lt g rfl).2, fun j hj => ?_⟩⟩
    obtain ⟨a1, a2⟩ := stsV_at l j hj
    exact ⟨(hown.cellAt _ (by omega)).trans a1, (hown.cellAt _ (by omega)).trans a2⟩
theorem OwnT.kind {w : World} {B : Nat} {v : Value} {l : List (Bool × Value)} (h : OwnT w B v l) : ∀ g, v.ownBlock = some g → ∃ c fz, w.heap[g]? = some (.cells c 39 fz) := by
  intro g hv
  rcases h.2 with ⟨h1, _⟩ | ⟨g', cap, cur, h1, hg, hh, _⟩
  · rw [h1] at hv; cases hv
  · rw [h1] at hv
    obtain rfl : g' = g := by simpa [Value.ownBlock] using hv
    exact ⟨_, _, hh⟩
end Go.Proofs.Ytdcofdndkpmpaaa

/-
  The given grown: arcs, with one byte more.
-/
namespace Go.Proofs.Ytdcofdndkpmpaaa
open Go.RowKit

theorem Ap.Two.refl (w : World) (v : Value) : Ap.Two w w v v := .inl ⟨rfl, rfl, rfl, rfl, Nat.le_refl _, fun _ _ _ => rfl⟩

set_option maxRecDepth 100000 in
set_option maxHeartbeats 2000000 in
theorem grown_any (w : World) (B : Nat) (v : Value) (l : List Au.Arc) (c k : Nat) (h : OwnA w B v l) (hB : B ≤ w.heap.size) (hl : l.length ≤ 1000) (hc : c ≤ 1000) :
    Calls Try.prog 39 #[v, .int .i64 c, .int .i64 k] w fun e w' => ∃ v', e = .returned v' ∧ OwnA w' B v' (Au.grown l c k) ∧ Ap.Two w w' v v' := by
  have H := Lib.hid h
  rcases Au.last_cases l with rfl | ⟨r, x, rfl⟩
  · obtain ⟨a, cap, rfl, _, _, _⟩ := h.opened
    rw [Au.grown_nil]
    clear h
    go_enter Try.func39, Try.ntmps39
    go_wp2_with (at_builtin; refine wpList_pushA rfl _ _ rfl B hB (.slice a 0 cap) [] c c k rfl H.out rfl (by simp) ?_; intro v' w' h1 h2)
    have H1 := Lib.hid h1
    have H2 := Lib.hid h2
    clear h1 h2
    go_ret
    exact ⟨v', rfl, H1.out, H2.out⟩
  · obtain ⟨a, cap, rfl, hc1, hc2, hop⟩ := h.opened
    obtain ⟨g, rfl, hg, hlt, hfz, hcl⟩ := hop (by simp)
    rw [Au.grown_snoc]
    have hlen : (r ++ [x]).length = r.length + 1 := by simp
    have hat := hcl r.length (by omega)
    simp only [List.getElem_append_right (Nat.le_refl _), Nat.sub_self, List.getElem_cons_zero] at hat
    obtain ⟨_, c1, c2⟩ := hat
    have z1 := hfz (r.length * 3 + 1)
    have HL := Lib.hid (fun c' => OwnA.last h hlen c')
    obtain ⟨lo, hi, to⟩ := x
    dsimp only at c1 c2
    obtain ⟨n, hn⟩ : ∃ n, n = r.length := ⟨_, rfl⟩
    have hn2 : n ≤ 1000 := by omega
    rw [hlen] at hc1 ⊢
    rw [← hn] at c1 c2 z1 hc1 HL
    rw [hlen, ← hn] at H HL
    have hrl : Hid ((r ++ [(⟨lo, hi, to⟩ : Au.Arc)]).length + 1 ≤ 1099511627776) := by show _ ≤ _; rw [hlen]; omega
    rw [← hn]
    clear h hcl hfz hlen hl hn
    by_cases q1 : hi = (c : Int) - 1
    · by_cases q2 : to = (k : Int)
      · rw [if_pos ⟨q1, q2⟩]
        have H3 := HL.out c
        obtain ⟨h1, h2⟩ := H3
        have H1 := Lib.hid h1
        have H2 := Lib.hid h2
        subst q1 q2
        have e1 : ((c : Int) - 1 == (c : Int) - 1) = true := by simp
        have e2 : ((k : Int) == (k : Int)) = true := by simp
        clear h1 h2 HL hop
        go_enter Try.func39, Try.ntmps39
        go_wp2_with fail
        go_ret
        exact ⟨_, rfl, H1.out, .inl ⟨rfl, H2.out⟩⟩
      · rw [if_neg (fun e => q2 e.2)]
        subst q1
        have e1 : ((c : Int) - 1 == (c : Int) - 1) = true := by simp
        have e2 : (to == (k : Int)) = false := beq_eq_false_iff_ne.2 q2
        clear HL q2 hop
        go_enter Try.func39, Try.ntmps39
        go_wp2_with (at_builtin; refine wpList_pushA rfl _ _ rfl B hB (.slice (some ⟨g, 0, none⟩) (n + 1) cap) (r ++ [⟨lo, (c : Int) - 1, to⟩]) c c k rfl H.out rfl hrl.out ?_; intro v' w' h1 h2)
        have H1 := Lib.hid h1
        have H2 := Lib.hid h2
        clear h1 h2
        go_ret
        exact ⟨v', rfl, by have h := H1.out; rw [List.append_assoc] at h; exact h, H2.out⟩
    · rw [if_neg (fun e => q1 e.1)]
      have e1 : (hi == (c : Int) - 1) = false := beq_eq_false_iff_ne.2 q1
      clear HL q1 hop
      go_enter Try.func39, Try.ntmps39
      go_wp2_with (at_builtin; refine wpList_pushA rfl _ _ rfl B hB (.slice (some ⟨g, 0, none⟩) (n + 1) cap) (r ++ [⟨lo, hi, to⟩]) c c k rfl H.out rfl hrl.out ?_; intro v' w' h1 h2)
      have H1 := Lib.hid h1
      have H2 := Lib.hid h2
      clear h1 h2
      go_ret
      exact ⟨v', rfl, by have h := H1.out; rw [List.append_assoc] at h; exact h, H2.out⟩

end Go.Proofs.Ytdcofdndkpmpaaa

/-
  What a walk over states holds in memory: the states met, the states told, the one at hand; how it goes on.
-/
namespace Go.Proofs.Ytdcofdndkpmpaaa
open Go.RowKit

theorem kinds_ne {w : World} {g h : Nat} {c c' : Array Value} {t t' : TypeId} {f f' : Nat × Nat} (h1 : w.heap[g]? = some (.cells c t f)) (h2 : w.heap[h]? = some (.cells c' t' f')) (hne : t ≠ t') : g ≠ h := by
  rintro rfl
  rw [h1] at h2
  cases h2
  exact hne rfl

/-- States told: L holds their slices of arcs. -/
structure Told2 (w : World) (B : Nat) (L : List (Bool × Value)) (out : List Au.St) (va : Value) : Prop where
  len : L.length = out.length
  each : ∀ j (h : j < L.length) (h' : j < out.length), L[j].1 = out[j].fin ∧ OwnA w B L[j].2 out[j].arcs ∧ ∀ g, L[j].2.ownBlock = some g → va.ownBlock ≠ some g
theorem Told2.keep {w w' : World} {B : Nat} {L : List (Bool × Value)} {out : List Au.St} {va va' : Value} (h : Told2 w B L out va) (hva : ∀ g, va'.ownBlock = some g → va.ownBlock = some g ∨ w.heap.size ≤ g) (e : ∀ g, g < w.heap.size → (∃ c fz, w.heap[g]? = some (.cells c 41 fz)) → va.ownBlock ≠ some g → w'.heap[g]? = w.heap[g]?) : Told2 w' B L out va' := by
  refine ⟨h.len, fun j hj hj' => ?_⟩
  obtain ⟨h1, h2, h3⟩ := h.each j hj hj'
  refine ⟨h1, h2.keep fun k hk => e k (h2.lt k hk).2 (h2.kind k hk) (h3 k hk), fun g hg hv => ?_⟩
  rcases hva g hv with h4 | h4
  · exact h3 g hg h4
  · have := (h2.lt g hg).2
    omega
/-- Behind the last state. -/
structure Outr (w : World) (B : Nat) (vm vo : Value) (met : List Nat) (L : List (Bool × Value)) (out : List Au.St) : Prop where
  met : OwnN w B vm met
  outs : OwnT w B vo L
  told : Told2 w B L out (.slice none 0 0)
/-- Within one state, which lies at block bs. -/
structure Inn (w : World) (B bs : Nat) (vm vo va : Value) (met : List Nat) (L : List (Bool × Value)) (out : List Au.St) (fin : Bool) (arcs : List Au.Arc) : Prop where
  met : OwnN w B vm met
  outs : OwnT w B vo L
  told : Told2 w B L out va
  arcs : OwnA w B va arcs
  row : w.heap[bs]? = some (.cells #[.bool fin, va] 39 (0, 0))
  ne : vo.ownBlock ≠ some bs
  lo : B ≤ bs
theorem OwnN.keep2 {w w' : World} {B : Nat} {v : Value} {l : List Nat} (h : OwnN w B v l) (e : ∀ k, v.ownBlock = some k → k < w.heap.size → w'.heap[k]? = w.heap[k]?) : OwnN w' B v l := ownsRow_keep h fun k hk => e k hk (World.ownsRow.lt h k hk).2
theorem OwnT.keep2 {w w' : World} {B : Nat} {v : Value} {l : List (Bool × Value)} (h : OwnT w B v l) (e : ∀ k, v.ownBlock = some k → k < w.heap.size → w'.heap[k]? = w.heap[k]?) : OwnT w' B v l := ownsRow_keep h fun k hk => e k hk (World.ownsRow.lt h k hk).2
theorem Outr.open {w : World} {B : Nat} {vm vo : Value} {met : List Nat} {L : List (Bool × Value)} {out : List Au.St} (h : Outr w B vm vo met L out) (hB : B ≤ w.heap.size) (fin : Bool) :
    Inn (w.alloc (.cells #[.bool fin, .slice none 0 0] 39)) B w.heap.size vm vo (.slice none 0 0) met L out fin [] := by
  have old : ∀ k, k < w.heap.size → (w.alloc (.cells #[.bool fin, .slice none 0 0] 39)).heap[k]? = w.heap[k]? := fun k hk => Go.Deep.blk_alloc_lt _ _ _ hk
  refine ⟨h.met.keep2 fun k _ hk => old k hk, h.outs.keep2 fun k _ hk => old k hk, h.told.keep (fun g hg => by cases hg) fun g hg _ _ => old g hg, OwnA.nil0 _ _, Go.Deep.blk_alloc_new _ _, fun e => ?_, hB⟩
  have := (World.ownsRow.lt h.outs _ e).2
  omega
theorem Inn.below {w w' : World} {B bs : Nat} {vm vo va : Value} {met : List Nat} {L : List (Bool × Value)} {out : List Au.St} {fin : Bool} {arcs : List Au.Arc} (h : Inn w B bs vm vo va met L out fin arcs) (hb : Below w.heap.size w w') : Inn w' B bs vm vo va met L out fin arcs :=
  ⟨h.met.keep2 fun k _ hk => hb.block k hk, h.outs.keep2 fun k _ hk => hb.block k hk, h.told.keep (fun _ hg => .inl hg) fun g hg _ _ => hb.block g hg, h.arcs.keep fun k hk => hb.block k (h.arcs.lt k hk).2, (hb.block bs (Array.getElem?_eq_some_iff.1 h.row).1).trans h.row, h.ne, h.lo⟩
/-- One state more is met. -/
theorem Inn.push {w w' : World} {B bs : Nat} {vm vm' vo va : Value} {met met' : List Nat} {L : List (Bool × Value)} {out : List Au.St} {fin : Bool} {arcs : List Au.Arc} (h : Inn w B bs vm vo va met L out fin arcs) (h2 : Ap.Two w w' vm vm') (hm : OwnN w' B vm' met') : Inn w' B bs vm' vo va met' L out fin arcs := by
  have far : ∀ k c fz t, k < w.heap.size → w.heap[k]? = some (.cells c t fz) → t ≠ 3 → w'.heap[k]? = w.heap[k]? := fun k c fz t hk hc ht => h2.far hk fun e => by
    obtain ⟨c', fz', hc'⟩ := h.met.kind k e
    exact kinds_ne hc hc' ht rfl
  refine ⟨hm, h.outs.keep2 fun k hv hk => ?_, h.told.keep (fun g hg => .inl hg) fun g hg ⟨c, fz, hc⟩ _ => far g c fz _ hg hc (by decide), h.arcs.keep fun k hk => ?_, ?_, h.ne, h.lo⟩
  · obtain ⟨c, fz, hc⟩ := h.outs.kind k hv
    exact far k c fz _ hk hc (by decide)
  · obtain ⟨c, fz, hc⟩ := h.arcs.kind k hk
    exact far k c fz _ (h.arcs.lt k hk).2 hc (by decide)
  · exact (far bs _ _ _ (Array.getElem?_eq_some_iff.1 h.row).1 h.row (by decide)).trans h.row
/-- Its arcs have grown, and their slice is put back. -/
theorem Inn.grown {w w' : World} {B bs : Nat} {vm vo va va' : Value} {met : List Nat} {L : List (Bool × Value)} {out : List Au.St} {fin : Bool} {arcs arcs' : List Au.Arc} (h : Inn w B bs vm vo va met L out fin arcs) (h2 : Ap.Two w w' va va') (ha : OwnA w' B va' arcs') : Inn (w'.setCell ⟨bs, 1, none⟩ va') B bs vm vo va' met L out fin arcs' := by
  have far : ∀ k c fz t, k < w.heap.size → w.heap[k]? = some (.cells c t fz) → t ≠ 41 → w'.heap[k]? = w.heap[k]? := fun k c fz t hk hc ht => h2.far hk fun e => by
    obtain ⟨c', fz', hc'⟩ := h.arcs.kind k e
    exact kinds_ne hc hc' ht rfl
  have hbs := (Array.getElem?_eq_some_iff.1 h.row).1
  have hrow := (far bs _ _ _ hbs h.row (by decide)).trans h.row
  have oth : ∀ k, k ≠ bs → (w'.setCell ⟨bs, 1, none⟩ va').heap[k]? = w'.heap[k]? := fun k hk => heap_other _ _ _ _ _ hk
  refine ⟨h.met.keep2 fun k hv hk => ?_, h.outs.keep2 fun k hv hk => ?_, h.told.keep (fun _ hg => h2.at hg) fun g hg ⟨c, fz, hc⟩ hv => ?_, ha.keep fun k hk => ?_, ?_, h.ne, h.lo⟩
  · obtain ⟨c, fz, hc⟩ := h.met.kind k hv
    exact (oth k (kinds_ne hc h.row (by decide))).trans (far k c fz _ hk hc (by decide))
  · obtain ⟨c, fz, hc⟩ := h.outs.kind k hv
    exact (oth k (fun e => h.ne (e ▸ hv))).trans (far k c fz _ hk hc (by decide))
  · exact (oth g (kinds_ne hc h.row (by decide))).trans (h2.far hg hv)
  · obtain ⟨c, fz, hc⟩ := ha.kind k hk
    exact oth k (kinds_ne hc hrow (by decide))
  · rw [setCell_eq_setRow w' bs 1 _ _ _ _ hrow]
    exact setRow_heap w' bs _ _ _ _ hrow
/-- The state is told. -/
theorem Inn.close {w w' : World} {B bs : Nat} {vm vo vo' va : Value} {met : List Nat} {L : List (Bool × Value)} {out : List Au.St} {fin : Bool} {arcs : List Au.Arc} (h : Inn w B bs vm vo va met L out fin arcs) (h2 : Ap.Two w w' vo vo') (ho : OwnT w' B vo' (L ++ [(fin, va)])) : Outr w' B vm vo' met (L ++ [(fin, va)]) (out ++ [⟨fin, arcs⟩]) := by
  have far : ∀ k c fz t, k < w.heap.size → w.heap[k]? = some (.cells c t fz) → t ≠ 39 → w'.heap[k]? = w.heap[k]? := fun k c fz t hk hc ht => h2.far hk fun e => by
    obtain ⟨c', fz', hc'⟩ := h.outs.kind k e
    exact kinds_ne hc hc' ht rfl
  have hl := h.told.len
  refine ⟨h.met.keep2 fun k hv hk => ?_, ho, by simp [hl], fun j hj hj' => ?_⟩
  · obtain ⟨c, fz, hc⟩ := h.met.kind k hv
    exact far k c fz _ hk hc (by decide)
  · by_cases e : j < L.length
    · obtain ⟨h3, h4, _⟩ := h.told.each j e (by omega)
      rw [List.getElem_append_left e, List.getElem_append_left (by omega)]
      refine ⟨h3, h4.keep fun k hk => ?_, fun g _ hv => by cases hv⟩
      obtain ⟨c, fz, hc⟩ := h4.kind k hk
      exact far k c fz _ (h4.lt k hk).2 hc (by decide)
    · have e' : j = L.length := by simp at hj; omega
      subst e'
      simp only [List.getElem_append_right (Nat.le_refl _), Nat.sub_self, List.getElem_cons_zero]
      have : (out ++ [(⟨fin, arcs⟩ : Au.St)])[L.length] = ⟨fin, arcs⟩ := by
        simp only [hl, List.getElem_append_right (Nat.le_refl _), Nat.sub_self, List.getElem_cons_zero]
      rw [this]
      refine ⟨rfl, h.arcs.keep fun k hk => ?_, fun g _ hv => by cases hv⟩
      obtain ⟨c, fz, hc⟩ := h.arcs.kind k hk
      exact far k c fz _ (h.arcs.lt k hk).2 hc (by decide)
/-- What has been told is a slice of states. -/
theorem Outr.sts {w : World} {B : Nat} {vm vo : Value} {met : List Nat} {L : List (Bool × Value)} {out : List Au.St} (h : Outr w B vm vo met L out) (F : Nat → Prop) (hF : ∀ g, B ≤ g → F g) : StS F w vo out := by
  obtain ⟨a, cap, h1, h2, h3, h4⟩ := h.outs.opened
  have hl := h.told.len
  rw [hl] at h1 h2
  refine ⟨a, cap, h1, h2, h3, fun h0 => ?_⟩
  obtain ⟨g, h5, h6, h7, h8⟩ := h4 (by omega)
  refine ⟨g, 0, h5, h7, hF g h6, fun j hj => ?_⟩
  obtain ⟨c1, c2⟩ := h8 j (by omega)
  obtain ⟨t1, t2, _⟩ := h.told.each j (by omega) hj
  rw [Nat.zero_add]
  exact ⟨c1.trans (by rw [t1]), _, c2, t2.arcs F hF⟩
theorem Inn.cells {w : World} {B bs : Nat} {vm vo va : Value} {met : List Nat} {L : List (Bool × Value)} {out : List Au.St} {fin : Bool} {arcs : List Au.Arc} (h : Inn w B bs vm vo va met L out fin arcs) : w.cell? ⟨bs, 0, none⟩ = some (.bool fin) ∧ w.cell? ⟨bs, 1, none⟩ = some va ∧ w.frozen? ⟨bs, 1, none⟩ = false ∧ bs < w.heap.size := by
  refine ⟨?_, ?_, ?_, (Array.getElem?_eq_some_iff.1 h.row).1⟩
  · simp [World.cell?, h.row]
  · simp [World.cell?, h.row]
  · simp [World.frozen?, h.row]
theorem two_below {B : Nat} {w0 w w' : World} {v v' : Value} (hb : Below B w0 w) (h : Ap.Two w w' v v') (hv : ∀ g, v.ownBlock = some g → B ≤ g) (hB : B ≤ w.heap.size) : Below B w0 w' := by
  obtain ⟨h1, h2, h3⟩ := h.rest
  exact hb.trans ⟨h1, h2, h3, h.size, fun k hk => h.far (by omega) fun e => by have := hv k e; omega⟩
/-- Its slice still lies where it lay, while its arcs grow. -/
theorem Inn.row_grown {w w' : World} {B bs : Nat} {vm vo va va' : Value} {met : List Nat} {L : List (Bool × Value)} {out : List Au.St} {fin : Bool} {arcs : List Au.Arc} (h : Inn w B bs vm vo va met L out fin arcs) (h2 : Ap.Two w w' va va') : w'.cell? ⟨bs, 1, none⟩ = some va ∧ w'.frozen? ⟨bs, 1, none⟩ = false := by
  have hbs := (Array.getElem?_eq_some_iff.1 h.row).1
  have hrow : w'.heap[bs]? = some (.cells #[.bool fin, va] 39 (0, 0)) := (h2.far hbs fun e => by
    obtain ⟨c', fz', hc'⟩ := h.arcs.kind bs e
    exact kinds_ne h.row hc' (by decide) rfl).trans h.row
  exact ⟨by simp [World.cell?, hrow], by simp [World.frozen?, hrow]⟩
end Go.Proofs.Ytdcofdndkpmpaaa

/-
  The given Least: the walk.
-/
namespace Go.Proofs.Ytdcofdndkpmpaaa
open Go.RowKit
namespace Au
theorem least_dead {d : List St} (hf : Fits d) (h : Dead (ofL d) (some 0)) : least d = [⟨false, []⟩] := by
  have hgo : ∀ c, (ofL d).walk.go 0 c = none := fun c => go_dead fun w => h (c :: w)
  have hb : ∀ c, (ofL d).walk.bytes 0 [0] c = ([0], []) := by
    intro c
    induction c with
    | zero => rfl
    | succ c ih =>
      rw [Walk.bytes, ih]
      unfold Walk.byte
      rw [hgo c]
  have hfin : (ofL d).walk.fin 0 = false := h []
  have h1 : (ofL d).walk.states 0 1 = ([0], [⟨false, []⟩]) := by
    simp only [Walk.states, List.getElem?_cons_zero, hb, hfin, List.nil_append]
  have hd : (ofL d).walk.Done 0 1 := by
    unfold Walk.Done Walk.met
    rw [h1]
    exact Nat.le_refl _
  have := done_same (ofL d).walk 0 d.length 1 (least_done hf.pos hf.row) hd
  unfold least Walk.out
  rw [this, h1]
theorem met_in {d : List St} (hf : Fits d) (i : Nat) : ∀ x ∈ (ofL d).walk.met 0 i, x < d.length := met_all (ofL d).walk (fun x => x < d.length) (go_in hf.row) 0 hf.pos i
theorem bytes_in {d : List St} (hf : Fits d) (a : Nat) (ha : a < d.length) (m : List Nat) (hm : ∀ x ∈ m, x < d.length) (c : Nat) : ∀ x ∈ ((ofL d).walk.bytes a m c).1, x < d.length := bytes_all (ofL d).walk (fun x => x < d.length) (go_in hf.row) a ha m c hm
theorem met_le_d {d : List St} (hf : Fits d) (i : Nat) : ((ofL d).walk.met 0 i).length ≤ d.length :=
  met_few (ofL d).walk (fair_walk _ (ofL_top hf.row)).refl id d.length (fun x => x < d.length) (go_in hf.row) 0 hf.pos (fun _ h => h) (fun _ _ _ _ h => h) i
theorem bytes_le_d {d : List St} (hf : Fits d) (i : Nat) (a : Nat) (ha : ((ofL d).walk.met 0 i)[i]? = some a) (c : Nat) (hc : c ≤ 256) : ((ofL d).walk.bytes a ((ofL d).walk.met 0 i) c).1.length ≤ d.length := by
  obtain ⟨k, hk⟩ : ∃ k, 256 = c + k := ⟨256 - c, by omega⟩
  have h1 := bytes_le (ofL d).walk a ((ofL d).walk.met 0 i) c k
  have h2 := met_le_d hf (i + 1)
  have e : (ofL d).walk.met 0 (i + 1) = ((ofL d).walk.bytes a ((ofL d).walk.met 0 i) 256).1 := by
    unfold Walk.met at *
    simp only [Walk.states]
    rw [ha]
  rw [e] at h2
  rw [← hk] at h1
  omega
theorem bytes_at {d : List St} (a : Nat) (m : List Nat) (i c : Nat) (ha : m[i]? = some a) : (((ofL d).walk.bytes a m c).1)[i]? = some a := by
  obtain ⟨r, h⟩ := bytes_grows (ofL d).walk a m c
  rw [h, List.getElem?_append_left (List.getElem?_eq_some_iff.1 ha).1]
  exact ha
theorem grown_length (l : List Arc) (c k : Nat) : (grown l c k).length ≤ l.length + 1 := by
  rcases last_cases l with rfl | ⟨r, x, rfl⟩
  · simp [grown_nil]
  · rw [grown_snoc]
    split <;> simp
theorem bytes_len {σ : Type} (W : Walk σ) (a : σ) (m : List σ) (c : Nat) : (W.bytes a m c).2.length ≤ c := by
  induction c with
  | zero => exact Nat.le_refl _
  | succ c ih =>
    rw [Walk.bytes]
    unfold Walk.byte
    split
    · omega
    · have := grown_length (W.bytes a m c).2 c (find W.same (W.bytes a m c).1 ‹_›)
      dsimp only
      omega
theorem bytes_none {σ : Type} (W : Walk σ) (a : σ) (m : List σ) (c : Nat) (h : W.go a c = none) : W.bytes a m (c + 1) = W.bytes a m c := by
  rw [Walk.bytes]
  unfold Walk.byte
  rw [h]
theorem bytes_some {σ : Type} (W : Walk σ) (a : σ) (m : List σ) (c : Nat) (t : σ) (h : W.go a c = some t) : W.bytes a m (c + 1) = (if find W.same (W.bytes a m c).1 t = (W.bytes a m c).1.length then (W.bytes a m c).1 ++ [t] else (W.bytes a m c).1, grown (W.bytes a m c).2 c (find W.same (W.bytes a m c).1 t)) := by
  rw [Walk.bytes]
  conv => lhs; unfold Walk.byte
  rw [h]
theorem states_next {σ : Type} (W : Walk σ) (s : σ) (i : Nat) (a : σ) (h : (W.met s i)[i]? = some a) : W.met s (i + 1) = (W.bytes a (W.met s i) 256).1 ∧ W.out s (i + 1) = W.out s i ++ [⟨W.fin a, (W.bytes a (W.met s i) 256).2⟩] := by
  unfold Walk.met Walk.out at *
  simp only [Walk.states]
  rw [h]
  exact ⟨rfl, rfl⟩
end Au
theorem OwnN.form {w : World} {B : Nat} {v : Value} {l : List Nat} (h : OwnN w B v l) (h0 : 0 < l.length) : ∃ g cap, v = .slice (some ⟨g, 0, none⟩) l.length cap ∧ B ≤ g ∧ g < w.heap.size ∧ ∀ j (_ : j < l.length), w.cell? ⟨g, j, none⟩ = some (.int .i64 (l[j] : Int)) := by
  rcases h.2 with ⟨_, h1⟩ | ⟨g, cap, cur, rfl, hg, hh, hnc, hcp, hcs, htake⟩
  · omega
  · have hown : w.ownsRow B 3 1 (.slice (some ⟨g, 0, none⟩) l.length cap) l.length (natsV l) := h
    refine ⟨g, cap, rfl, hg, (hown.lt g rfl).2, fun j hj => ?_⟩
    rw [hown.cellAt j (by omega)]
    simp [natsV, hj]

set_option maxRecDepth 100000 in
set_option maxHeartbeats 8000000 in
theorem leastR_any (F : Nat → Prop) (w : World) (u : Value) (d : List Au.St) (hu : StS F w u d) (hf : Au.Fits d) :
    Calls Try.prog 22 #[u] w fun e w' => ∃ v, e = .returned v ∧ StS (fun g => w.heap.size ≤ g) w' v (Au.least d) ∧ Below w.heap.size w w' := by
  have hbig : d.length ≤ 1099511627776 := by have := hf.top; omega
  have HD0 := Lib.hid (dead_any F w u d hu hf.pos hbig hf.row)
  have HU := Lib.hid hu
  have HF := Lib.hid hf
  obtain ⟨b, cap', rfl, hd1, hd2, hd⟩ := hu
  obtain ⟨n, hn⟩ : ∃ n, n = d.length := ⟨_, rfl⟩
  have hn0 : 0 < n := by have := hf.pos; omega
  have hn2 : n ≤ 20000 := by have := hf.top; omega
  have HDD := Lib.hid hd
  have HN := Lib.hid hn
  rw [← hn] at HD0 HU ⊢
  clear hd hd1 hn hf hbig
  go_enter Try.func22, Try.ntmps22
  go_wp2_with fail
  refine HD0.out.mono ?_
  rintro e w1 ⟨g1, rfl, hg1, hr1, hb1⟩
  have HB1 := Lib.hid hb1
  have HR1 := Lib.hid hr1
  clear hb1 HD0
  have hl0 : 0 < (Au.deadL d).length := by rw [Au.deadL_length, ← HN.out]; exact hn0
  have c0 := hr1.cell hl0
  have hda := Lib.hid (Au.dead_at hl0)
  have j0 : (0 : Int) < (n : Int) := by omega
  clear hr1
  cases hb0 : (Au.deadL d)[0] with
  | true =>
    rw [hb0] at c0
    have hle := Au.least_dead HF.out (hda.out.1 hb0)
    have HLE := Lib.hid hle
    clear hb0 hle hda
    go_wp2_with fail
    go_ret
    refine ⟨_, rfl, ?_, HB1.out.alloc HB1.out.size _⟩
    rw [HLE.out]
    have hle : w.heap.size ≤ w1.heap.size := HB1.out.size
    refine ⟨_, 1, rfl, Nat.le_refl _, by omega, fun _ => ⟨w1.heap.size, 0, rfl, by simp, hle, fun j hj => ?_⟩⟩
    simp only [List.length_cons, List.length_nil] at hj
    obtain rfl : j = 0 := by omega
    refine ⟨?_, .slice none 0 0, ?_, none, 0, rfl, Nat.le_refl _, by omega, fun h => by simp at h⟩
    · rw [World.cell?_alloc_at _ _ _ _ rfl]
      rfl
    · rw [World.cell?_alloc_at _ _ _ _ rfl]
      rfl
  | false =>
    rw [hb0] at c0
    clear hb0 hda
    have hgs : Hid (SetS (fun _ => True) w1 (.slice (some ⟨g1, 0, none⟩) n n) (Au.deadL d)) := by
      have h := HR1.out.slice (by omega) (fun _ => True) trivial
      rw [Au.deadL_length, ← HN.out] at h
      exact h
    have hu1 : Hid (StS F w1 (.slice b n cap') d) := HU.out.below HB1.out
    have HAP := Lib.hid (apart_any F (fun _ => True) w1 _ _ d hu1.out hgs.out HF.out)
    rw [← HN.out] at HAP
    clear HR1 hl0
    go_wp2_with fail
    refine HAP.out.mono ?_
    rintro e w2 ⟨gm, gs, rfl, hmat, hb2⟩
    have HT : Hid (∀ W, Below w2.heap.size w2 W → ∀ i c : Nat, Calls Try.prog 44 #[.slice b n cap', .slice (some ⟨g1, 0, none⟩) n n, .int .i64 i, .int .i64 c] W fun e w' => e = .returned (.int .i64 (Au.code ((Au.ofL d).go i c))) ∧ Below W.heap.size W w') := fun W hb i c => by
      have hbb := chain hb2 hb
      exact to_any F (fun _ => True) W _ _ d i c (hu1.out.below hbb) (hgs.out.below hbb) HF.out
    have HM : Hid (∀ W, Below w2.heap.size w2 W → ∀ x y, x < n → y < n → W.cell? ⟨gm, x, none⟩ = some (.slice (some ⟨gs x, 0, none⟩) n n) ∧ W.cell? ⟨gs x, y, none⟩ = some (.bool (!(Au.ofL d).same x y))) := fun W hb x y hx hy => by
      obtain ⟨h1, h2, _⟩ := (hmat.mat.below hb).cells hx hy
      exact ⟨h1, h2⟩
    have HB2 : Hid (Below w.heap.size w w2) := chain HB1.out hb2
    obtain ⟨gd, od, rfl, hgd, _, hcd⟩ := HDD.out (by rw [← HN.out]; exact hn0)
    have HFN : Hid (∀ W, Below w2.heap.size w2 W → ∀ x, x < n → W.cell? ⟨gd, od + x * 2, none⟩ = some (.bool ((Au.ofL d).fin x))) := fun W hb x hx => by
      have hxd : x < d.length := by rw [← HN.out]; exact hx
      have h := ((chain HB2.out hb).cell (p := ⟨gd, od + x * 2, none⟩) hgd).trans (hcd x hxd).1
      rw [h]
      simp only [Au.ofL, List.getElem?_eq_getElem hxd]
    have hle2 : w.heap.size ≤ w2.heap.size := HB2.out.size
    clear hmat hb2 hcd HDD HAP hgs hu1 HB1 hgd c0 HU
    have HO0 : Hid (Outr (w2.alloc (.cells #[.int .i64 0] 3)) w2.heap.size (.slice (some ⟨w2.heap.size, 0, none⟩) 1 1) (.slice none 0 0) [0] [] []) :=
      ⟨World.ownsRow_lit (e := 3) (size := 1) w2 #[.int .i64 0] 1 (Nat.le_refl _) (by unfold maxLen; omega) rfl, World.ownsRow_nil _ _ _ _, rfl, fun j h => by simp at h⟩
    have HB3 : Hid (Below w2.heap.size w2 (w2.alloc (.cells #[.int .i64 0] 3))) := (Below.refl _ _).alloc (Nat.le_refl _) _
    go_wp2_with fail
    generalize w2.alloc (.cells #[.int .i64 0] 3) = w3 at *
    go_loopg [5, 6, 7] n (fun gg s5 s6 s7 wx => ∃ (i : Nat) (vm vo : Value) (L : List (Bool × Value)), i ≤ n ∧ gg = n - i ∧ vm = s5 ∧ vo = s6 ∧ s7 = .int .i64 i ∧ Hid (Outr wx w2.heap.size vm vo ((Au.ofL d).walk.met 0 i) L ((Au.ofL d).walk.out 0 i)) ∧ Below w2.heap.size w2 wx)
    case atStart => exact ⟨0, _, _, [], Nat.zero_le _, rfl, rfl, rfl, rfl, HO0, HB3.out⟩
    case round =>
      clear HO0 HB3
      obtain ⟨i, vm, vo, L, hi, rfl, rfl, rfl, rfl, hO, hbel⟩ := hrel
      have HBE := Lib.hid hbel
      have hml := Au.met_le_d HF.out i
      rw [← HN.out] at hml
      have hmi := Lib.hid (Au.met_in HF.out i)
      obtain ⟨g5, p5, rfl, hg5, hl5, hc5⟩ := hO.out.met.form (Au.out_pos _ _ _)
      by_cases him : i < ((Au.ofL d).walk.met 0 i).length
      · have hai : Hid (((Au.ofL d).walk.met 0 i)[i]? = some ((Au.ofL d).walk.met 0 i)[i]) := List.getElem?_eq_getElem him
        have han : ((Au.ofL d).walk.met 0 i)[i] < n := by rw [HN.out]; exact hmi.out _ (List.getElem_mem him)
        have c1 := hc5 i him
        have j1 : (i : Int) < ((((Au.ofL d).walk.met 0 i).length : Nat) : Int) := by omega
        have hbl := Lib.hid (fun c hc => Au.bytes_le_d HF.out i _ hai.out c hc)
        have hbi := Lib.hid (Au.bytes_in HF.out _ (by rw [← HN.out]; exact han) _ hmi.out)
        have hba := Lib.hid (fun c => Au.bytes_at (d := d) _ _ i c hai.out)
        have hnx := Lib.hid (Au.states_next (Au.ofL d).walk 0 i _ hai.out)
        have hbyn := Lib.hid (fun c => Au.bytes_none (Au.ofL d).walk ((Au.ofL d).walk.met 0 i)[i] ((Au.ofL d).walk.met 0 i) c)
        have hbys := Lib.hid (fun c t => Au.bytes_some (Au.ofL d).walk ((Au.ofL d).walk.met 0 i)[i] ((Au.ofL d).walk.met 0 i) c t)
        have hble := Lib.hid (fun c => Au.bytes_len (Au.ofL d).walk ((Au.ofL d).walk.met 0 i)[i] ((Au.ofL d).walk.met 0 i) c)
        clear hmi hai
        generalize hae : ((Au.ofL d).walk.met 0 i)[i] = a at *
        clear hae
        have c2 := HFN.out wr hbel a han
        have hfin : Hid ((Au.ofL d).walk.fin a = (Au.ofL d).fin a) := rfl
        have HI := Lib.hid (hO.out.open HBE.out.size ((Au.ofL d).fin a))
        have HB4 : Hid (Below w2.heap.size w2 (wr.alloc (.cells #[.bool ((Au.ofL d).fin a), .slice none 0 0] 39))) := HBE.out.alloc HBE.out.size _
        have j2 : (a : Int) < (n : Int) := by omega
        have hbs : w2.heap.size ≤ wr.heap.size := HBE.out.size
        clear hO hc5 hbel HBE
        generalize (Au.ofL d).fin a = fa at *
        have HOL : Hid (((Au.ofL d).walk.out 0 i).length ≤ i) := by
          have := Au.out_length (Au.ofL d).walk 0 i
          show _ ≤ _
          omega
        generalize (Au.ofL d).walk.out 0 i = out at *
        obtain ⟨M, hM⟩ : ∃ M, (Au.ofL d).walk.met 0 i = M := ⟨_, rfl⟩
        simp only [hM] at *
        clear hM
        go_wp2_with fail
        generalize wr.alloc (.cells #[.bool fa, .slice none 0 0] 39) = w4 at *
        generalize wr.heap.size = bs at *
        go_loopg [5, 9] 256 (fun gg s5 s9 wx => ∃ (c : Nat) (vm va : Value), c ≤ 256 ∧ gg = 256 - c ∧ vm = s5 ∧ s9 = .int .i64 c ∧ Hid (Inn wx w2.heap.size bs vm vo va ((Au.ofL d).walk.bytes a M c).1 L out fa ((Au.ofL d).walk.bytes a M c).2) ∧ Below w2.heap.size w2 wx)
        case atStart => exact ⟨0, _, _, Nat.zero_le _, rfl, rfl, rfl, HI, HB4.out⟩
        case round =>
          clear HI HB4 c1 c2 hl5 hg5
          obtain ⟨c, vm, va, hc, rfl, rfl, rfl, hI, hbel⟩ := hrel
          have HBE := Lib.hid hbel
          by_cases hcm : c < 256
          · have j3 : (c : Int) < 256 := by omega
            have hpl := hbl.out c (by omega)
            rw [← HN.out] at hpl
            have hpi := Lib.hid (hbi.out c)
            have hpa := hba.out c
            have h1 := hbyn.out c
            have h2 := hbys.out c
            have hp2 := hble.out c
            generalize (Au.ofL d).walk.bytes a M c = p at *
            obtain ⟨m, ar⟩ := p
            dsimp only at hpl hpi hpa h2 hp2 hI
            have hil : i < m.length := (List.getElem?_eq_some_iff.1 hpa).1
            have hiv : m[i] = a := (List.getElem?_eq_some_iff.1 hpa).2
            obtain ⟨g6, p6, rfl, hg6, hl6, hc6⟩ := hI.out.met.form (by omega)
            have C1 := hc6 i hil
            rw [hiv] at C1
            have j4 : (i : Int) < (m.length : Int) := by omega
            have T1 := Lib.hid (HT.out wr hbel a c)
            have HC6 := Lib.hid hc6
            clear hpa hiv hc6 hbel
            have hgo : (Au.ofL d).walk.go a c = (Au.ofL d).go a c := rfl
            rw [hgo] at h1 h2
            have hgin := Lib.hid (fun t h => Au.ofL_in HF.out.row (Au.go_some (A := Au.ofL d) (s := a) (c := c) (t := t) h).1)
            cases hga : (Au.ofL d).go a c with
            | none =>
              have hq := h1 hga
              rw [hga] at T1
              have e0 : Au.code none = -1 := rfl
              rw [e0] at T1
              have HQ := Lib.hid hq
              clear h1 h2 hga hgo hq e0
              go_wp2_with fail
              refine T1.out.mono ?_
              rintro e w5 ⟨rfl, hb⟩
              have HB5 : Hid (Below w2.heap.size w2 w5) := HBE.out.trans (hb.mono HBE.out.size)
              have HI5 := Lib.hid (hI.out.below hb)
              clear hb
              go_wp2_with fail
              go_roundg (256 - (c + 1))
              case rel => exact ⟨c + 1, _, va, by omega, rfl, rfl, by go_num, by rw [HQ.out]; exact HI5, HB5.out⟩
              case measure => omega
            | some t =>
              have hq := h2 t hga
              have htn : t < n := by rw [HN.out]; exact hgin.out t hga
              rw [hga] at T1
              have e0 : Au.code (some t) = (t : Int) := rfl
              rw [e0] at T1
              have HQ := Lib.hid hq
              have j5 : (0 : Int) ≤ (t : Int) := by omega
              have j6 : (t : Int) < (n : Int) := by omega
              have hfle := Au.find_le (Au.ofL d).walk.same m t
              have hmiss := Lib.hid (Au.find_miss (Au.ofL d).walk.same m t)
              have hhit := Lib.hid (Au.find_hit (Au.ofL d).walk.same m t)
              clear h1 h2 hga hgo hq e0 hgin
              generalize Au.find (Au.ofL d).walk.same m t = fk at *
              go_wp2_with fail
              refine T1.out.mono ?_
              rintro e w5 ⟨rfl, hb⟩
              have HB5 : Hid (Below w2.heap.size w2 w5) := HBE.out.trans (hb.mono HBE.out.size)
              have HI5 := Lib.hid (hI.out.below hb)
              have HC5 : Hid (∀ j (_ : j < m.length), w5.cell? ⟨g6, j, none⟩ = some (.int .i64 ((m[j] : Nat) : Int))) := fun j hj => (hb.cell (p := ⟨g6, j, none⟩) hl6).trans (HC6.out j hj)
              clear hb hI HC6 C1 HBE T1
              go_wp2_with fail
              go_loopg [11] fk (fun gg vk wx => ∃ k : Nat, k ≤ fk ∧ gg = fk - k ∧ vk = .int .i64 k ∧ wx = w5)
              case atStart => exact ⟨0, Nat.zero_le _, rfl, rfl, rfl⟩
              case round =>
                obtain ⟨k, hk, rfl, rfl, rfl⟩ := hrel
                by_cases hkf : k < fk
                · obtain ⟨hkm, hsm⟩ := hmiss.out k hkf
                  have k1 : (k : Int) < (m.length : Int) := by omega
                  have hmk : m[k] < n := by rw [HN.out]; exact hpi.out _ (List.getElem_mem hkm)
                  have C2 := HC5.out k hkm
                  obtain ⟨M1, M2⟩ := HM.out wr HB5.out m[k] t hmk htn
                  have hsm' : (Au.ofL d).same m[k] t = false := hsm
                  rw [hsm'] at M2
                  have k2 : (m[k] : Int) < (n : Int) := by omega
                  clear hsm hsm'
                  generalize m[k] = mk at *
                  generalize gs mk = gk at *
                  go_wp2_with fail
                  go_roundg (fk - (k + 1))
                  case rel => exact ⟨k + 1, by omega, rfl, by go_num, rfl⟩
                  case measure => omega
                · obtain rfl : k = fk := by omega
                  by_cases hkm : k < m.length
                  · have hhk := hhit.out hkm
                    have k1 : (k : Int) < (m.length : Int) := by omega
                    have hmk : m[k] < n := by rw [HN.out]; exact hpi.out _ (List.getElem_mem hkm)
                    have C2 := HC5.out k hkm
                    obtain ⟨M1, M2⟩ := HM.out wr HB5.out m[k] t hmk htn
                    have hsm' : (Au.ofL d).same m[k] t = true := hhk
                    rw [hsm'] at M2
                    have k2 : (m[k] : Int) < (n : Int) := by omega
                    have k3 : ((k : Int) == (m.length : Int)) = false := beq_eq_false_iff_ne.2 (by omega)
                    have hq2 : (Au.ofL d).walk.bytes a M (c + 1) = (m, Au.grown ar c k) := by
                      rw [HQ.out, if_neg (by omega)]
                    have HQ2 := Lib.hid hq2
                    have HG := Lib.hid (grown_any wr w2.heap.size va ar c k HI5.out.arcs HB5.out.size (by omega) (by omega))
                    obtain ⟨_, s1, _, _⟩ := HI5.out.cells
                    clear hhk hsm' hmiss hhit HQ hq2
                    generalize m[k] = mk at *
                    generalize gs mk = gk at *
                    go_wp2_with fail
                    refine HG.out.mono ?_
                    rintro e w6 ⟨va', rfl, ha', htwo⟩
                    obtain ⟨a8, cp8, rfl, _, _, _⟩ := ha'.opened
                    obtain ⟨s2, s3⟩ := HI5.out.row_grown htwo
                    have HI6 := Lib.hid (HI5.out.grown htwo ha')
                    have HB6 : Hid (Below w2.heap.size w2 (w6.setCell ⟨bs, 1, none⟩ (.slice a8 (Au.grown ar c k).length cp8))) := (two_below HB5.out htwo (fun g hg => (HI5.out.arcs.lt g hg).1) HB5.out.size).setCell (p := ⟨bs, 1, none⟩) hbs _
                    clear ha' htwo s1 C2 M1 M2
                    go_wp2_with fail
                    go_roundg (256 - (c + 1))
                    case rel => exact ⟨c + 1, _, _, by omega, rfl, rfl, by go_num, by rw [HQ2.out]; exact HI6, HB6.out⟩
                    case measure => omega
                  · obtain rfl : k = m.length := by omega
                    have k3 : ((m.length : Int) == (m.length : Int)) = true := by simp
                    have hq2 : (Au.ofL d).walk.bytes a M (c + 1) = (m ++ [t], Au.grown ar c m.length) := by
                      rw [HQ.out, if_pos rfl]
                    have HQ2 := Lib.hid hq2
                    have hmb : m.length + 1 ≤ 1099511627776 := by omega
                    clear hmiss hhit HQ hq2
                    go_wp2_with (at_builtin; refine wpList_pushN2 rfl _ _ rfl w2.heap.size HB5.out.size (.slice (some ⟨g6, 0, none⟩) m.length p6) m t rfl HI5.out.met rfl hmb ?_; intro vm' w6 hn6 ht6; have HI6 := Lib.hid (HI5.out.push ht6 hn6); obtain ⟨_, s1, _, _⟩ := HI6.out.cells)
                    have HB6 := Lib.hid (two_below HB5.out ht6 (fun g hg => (World.ownsRow.lt HI5.out.met g hg).1) HB5.out.size)
                    have HG := Lib.hid (grown_any w6 w2.heap.size va ar c m.length HI6.out.arcs HB6.out.size (by omega) (by omega))
                    clear hn6 ht6
                    refine HG.out.mono ?_
                    rintro e w7 ⟨va', rfl, ha', htwo⟩
                    obtain ⟨a8, cp8, rfl, _, _, _⟩ := ha'.opened
                    obtain ⟨s2, s3⟩ := HI6.out.row_grown htwo
                    have HI7 := Lib.hid (HI6.out.grown htwo ha')
                    have HB7 : Hid (Below w2.heap.size w2 (w7.setCell ⟨bs, 1, none⟩ (.slice a8 (Au.grown ar c m.length).length cp8))) := (two_below HB6.out htwo (fun g hg => (HI6.out.arcs.lt g hg).1) HB6.out.size).setCell (p := ⟨bs, 1, none⟩) hbs _
                    clear ha' htwo s1
                    go_wp2_with fail
                    go_roundg (256 - (c + 1))
                    case rel => exact ⟨c + 1, vm', _, by omega, rfl, rfl, by go_num, by rw [HQ2.out]; exact HI7, HB7.out⟩
                    case measure => omega
          · obtain rfl : c = 256 := by omega
            obtain ⟨m1, m2⟩ := hnx.out
            have HN1 := Lib.hid m1
            have HN2 := Lib.hid m2
            obtain ⟨a7, cp7, rfl, _, _, _⟩ := hI.out.arcs.opened
            obtain ⟨s0, s1, _, _⟩ := hI.out.cells
            have hLl : Hid (L.length + 1 ≤ 1099511627776) := by
              have h1 := hI.out.told.len
              have h2 := Au.out_length (Au.ofL d).walk 0 i
              show _ ≤ _
              have h3 : out.length ≤ i := by
                have := HOL.out
                omega
              omega
            clear m1 m2 hbel hnx
            go_wp2_with (at_builtin; refine wpList_pushT rfl _ _ rfl w2.heap.size HBE.out.size vo L fa a7 _ cp7 rfl hI.out.outs rfl hLl.out ?_; intro vo' w6 ho6 ht6)
            have HO6 := Lib.hid (hI.out.close ht6 ho6)
            have HB6 := Lib.hid (two_below HBE.out ht6 (fun g hg => (World.ownsRow.lt hI.out.outs g hg).1) HBE.out.size)
            clear ho6 ht6
            go_wp2_with fail
            go_roundg (n - (i + 1))
            case rel => exact ⟨i + 1, _, vo', _, by omega, rfl, rfl, rfl, by go_num, by rw [HN1.out, HN2.out, hfin.out]; exact HO6, HB6.out⟩
            case measure => omega
      · have j1 : ¬ (i : Int) < ((((Au.ofL d).walk.met 0 i).length : Nat) : Int) := by omega
        have hdone : (Au.ofL d).walk.out 0 i = Au.least d := by
          have hd1 : (Au.ofL d).walk.Done 0 i := by
            unfold Au.Walk.Done
            omega
          have h := Au.done_same (Au.ofL d).walk 0 i d.length hd1 (Au.least_done HF.out.pos HF.out.row)
          unfold Au.Walk.out Au.least
          rw [h]
          rfl
        have HDN := Lib.hid hdone
        clear hdone hbel hc5 hmi
        go_wp2_with fail
        go_ret
        exact ⟨vo, rfl, by rw [← HDN.out]; exact hO.out.sts _ (fun g hg => Nat.le_trans hle2 hg), HB2.out.trans (HBE.out.mono HB2.out.size)⟩

end Go.Proofs.Ytdcofdndkpmpaaa

/-
  The given May and Takes.
-/
namespace Go.Proofs.Ytdcofdndkpmpaaa
open Go.RowKit
namespace Au
def okA (n : Nat) (a : Arc) : Prop := 0 ≤ a.lo ∧ a.hi ≤ 255 ∧ a.lo ≤ a.hi ∧ 0 ≤ a.to ∧ a.to < n
def okF (n : Nat) (f : Int) : Prop := 0 ≤ f ∧ f < n
def okS (n : Nat) (d : List Lo) (i : Nat) : Prop := ∀ s, d[i]? = some s → (∀ a ∈ s.arcs, okA n a) ∧ ∀ f ∈ s.free, okF n f
theorem may_iff (d : List Lo) : May d ↔ 0 < d.length ∧ ∀ i, i < d.length → okS d.length d i := by
  constructor
  · intro h
    refine ⟨h.pos, fun i hi s hs => ?_⟩
    rw [List.getElem?_eq_getElem hi] at hs
    cases hs
    exact ⟨fun a ha => by have := h.arc i hi a ha; unfold okA; omega, fun f hf => h.free i hi f hf⟩
  · rintro ⟨h0, h⟩
    refine ⟨h0, fun i hi a ha => ?_, fun i hi f hf => (h i hi _ (List.getElem?_eq_getElem hi)).2 f hf⟩
    have := (h i hi _ (List.getElem?_eq_getElem hi)).1 a ha
    unfold okA at this
    omega
open Classical in
noncomputable def may (d : List Lo) : Bool := decide (May d)
theorem may_true (d : List Lo) : may d = true ↔ May d := by simp [may]
end Au

set_option maxRecDepth 100000 in
set_option maxHeartbeats 4000000 in
theorem may_any (F : Nat → Prop) (w : World) (u : Value) (d : List Au.Lo) (hu : LoS F w u d) :
    Calls Try.prog 23 #[u] w fun e w' => e = .returned (.bool (Au.may d)) ∧ Below w.heap.size w w' := by
  obtain ⟨b, cap', rfl, hd1, hd2, hd⟩ := hu
  obtain ⟨n, hn⟩ : ∃ n, n = d.length := ⟨_, rfl⟩
  have hn2 : n ≤ 9223372036854775807 := by omega
  have HD := Lib.hid hd
  have HN := Lib.hid hn
  have hgood : 0 < d.length → (∀ i, i < d.length → Au.okS d.length d i) → true = Au.may d := fun h0 h => ((Au.may_true d).2 ((Au.may_iff d).2 ⟨h0, h⟩)).symm
  have hbad : ∀ i, i < d.length → ¬ Au.okS d.length d i → false = Au.may d := fun i hi h => by
    symm
    rw [← Bool.not_eq_true, Au.may_true, Au.may_iff]
    exact fun e => h (e.2 i hi)
  have hnone : d.length = 0 → false = Au.may d := fun h => by
    symm
    rw [← Bool.not_eq_true, Au.may_true, Au.may_iff]
    omega
  rw [← hn] at hgood hbad hnone ⊢
  generalize Au.may d = r at *
  have HG := Lib.hid hgood
  have HB := Lib.hid hbad
  have HO := Lib.hid hnone
  clear hd hd1 hn hgood hbad hnone
  go_enter Try.func23, Try.ntmps23
  go_wp2_with fail
  go_loopg [3] n (fun gg vi wx => ∃ i : Nat, i ≤ n ∧ gg = n - i ∧ vi = .int .i64 i ∧ Hid (∀ j, j < i → Au.okS n d j) ∧ Below w.heap.size w wx)
  case atStart => exact ⟨0, Nat.zero_le _, rfl, rfl, fun j h => by omega, Below.refl _ _⟩
  case round =>
    obtain ⟨i, hi, rfl, rfl, hS, hbel⟩ := hrel
    have HBE := Lib.hid hbel
    by_cases hin : i < n
    · have j1 : (i : Int) < (n : Int) := by omega
      have hid : i < d.length := by rw [← HN.out]; exact hin
      obtain ⟨g, o, rfl, hg, _, hcl⟩ := HD.out (by omega)
      obtain ⟨_, ⟨va, c1, hva⟩, vf, c2, hvf⟩ := hcl i hid
      have hBi : Hid (¬ ((∀ a ∈ d[i].arcs, Au.okA n a) ∧ ∀ f ∈ d[i].free, Au.okF n f) → false = r) := fun h => HB.out i hin (fun e => h (e _ (List.getElem?_eq_getElem hid)))
      have hst : Hid (((∀ a ∈ d[i].arcs, Au.okA n a) ∧ ∀ f ∈ d[i].free, Au.okF n f) → ∀ j, j < i + 1 → Au.okS n d j) := fun h j hj => by
        by_cases e : j = i
        · subst e
          intro s hs
          rw [List.getElem?_eq_getElem hid] at hs
          cases hs
          exact h
        · exact hS.out j (by omega)
      clear hS hcl hbel
      generalize d[i] = s at *
      obtain ⟨sf, l, fr⟩ := s
      dsimp only at hva hvf hBi hst
      obtain ⟨a2, cap2, rfl, he1, he2, he⟩ := hva
      obtain ⟨a3, cap3, rfl, hf1, hf2, hf⟩ := hvf
      obtain ⟨m, hm⟩ : ∃ m, m = l.length := ⟨_, rfl⟩
      obtain ⟨q, hq⟩ : ∃ q, q = fr.length := ⟨_, rfl⟩
      have HM := Lib.hid hm
      have HQ := Lib.hid hq
      have HE := Lib.hid he
      have HF := Lib.hid hf
      rw [← hm] at c1
      rw [← hq] at c2
      have m2 : m ≤ 9223372036854775807 := by omega
      have q2 : q ≤ 9223372036854775807 := by omega
      clear he he1 hm hf hf1 hq
      go_wp2_with fail
      go_loopg [4] m (fun gg vk wx => ∃ k : Nat, k ≤ m ∧ gg = m - k ∧ vk = .int .i64 k ∧ Hid (∀ j (h : j < l.length), j < k → Au.okA n l[j]) ∧ Below w.heap.size w wx)
      case atStart => exact ⟨0, Nat.zero_le _, rfl, rfl, fun j _ h => by omega, HBE.out⟩
      case round =>
        clear HBE
        obtain ⟨k, hk, rfl, rfl, hS, hbel⟩ := hrel
        have HBE := Lib.hid hbel
        have C1 := (hbel.cell (p := ⟨g, o + i * 3 + 1, none⟩) hg).trans c1
        by_cases hkm : k < m
        · have kl : k < l.length := by rw [← HM.out]; exact hkm
          obtain ⟨g2, o2, rfl, hg2, _, hcl2⟩ := HE.out (by omega)
          obtain ⟨d1, d2, d3⟩ := hcl2 k kl
          have e1 := (hbel.cell (p := ⟨g2, o2 + k * 3, none⟩) hg2).trans d1
          have e2 := (hbel.cell (p := ⟨g2, o2 + k * 3 + 1, none⟩) hg2).trans d2
          have e3 := (hbel.cell (p := ⟨g2, o2 + k * 3 + 2, none⟩) hg2).trans d3
          have j2 : (k : Int) < (m : Int) := by omega
          have hno : Hid (¬ Au.okA n l[k] → false = r) := fun h => hBi.out (fun e => h (e.1 _ (List.getElem_mem kl)))
          have hyes : Hid (Au.okA n l[k] → ∀ j (h : j < l.length), j < k + 1 → Au.okA n l[j]) := fun h j hj hjk => by
            by_cases e : j = k
            · subst e; exact h
            · exact hS.out j hj (by omega)
          have hA : Hid (Au.okA n l[k] ↔ 0 ≤ l[k].lo ∧ l[k].hi ≤ 255 ∧ l[k].lo ≤ l[k].hi ∧ 0 ≤ l[k].to ∧ l[k].to < n) := Iff.rfl
          clear hcl2 d1 d2 d3 hS hbel
          generalize l[k] = x at *
          obtain ⟨lo, hi', to⟩ := x
          dsimp only at e1 e2 e3 hA
          by_cases p1 : lo < 0
          · obtain rfl : false = r := hno.out (fun h => by have := hA.out.1 h; omega)
            clear hA hyes hno hst hBi HB HG HO
            go_wp2_with fail
            go_ret
            exact ⟨rfl, HBE.out.alloc HBE.out.size _⟩
          by_cases p2 : 255 < hi'
          · obtain rfl : false = r := hno.out (fun h => by have := hA.out.1 h; omega)
            clear hA hyes hno hst hBi HB HG HO
            go_wp2_with fail
            go_ret
            exact ⟨rfl, HBE.out.alloc HBE.out.size _⟩
          by_cases p3 : hi' < lo
          · obtain rfl : false = r := hno.out (fun h => by have := hA.out.1 h; omega)
            clear hA hyes hno hst hBi HB HG HO
            go_wp2_with fail
            go_ret
            exact ⟨rfl, HBE.out.alloc HBE.out.size _⟩
          by_cases p4 : to < 0
          · obtain rfl : false = r := hno.out (fun h => by have := hA.out.1 h; omega)
            clear hA hyes hno hst hBi HB HG HO
            go_wp2_with fail
            go_ret
            exact ⟨rfl, HBE.out.alloc HBE.out.size _⟩
          by_cases p5 : (n : Int) ≤ to
          · obtain rfl : false = r := hno.out (fun h => by have := hA.out.1 h; omega)
            clear hA hyes hno hst hBi HB HG HO
            go_wp2_with fail
            go_ret
            exact ⟨rfl, HBE.out.alloc HBE.out.size _⟩
          have H := Lib.hid (hyes.out (hA.out.2 (by omega)))
          clear hA hyes hno
          go_wp2_with fail
          go_roundg (m - (k + 1))
          case rel => exact ⟨k + 1, by omega, rfl, by go_num, H.out, HBE.out.alloc HBE.out.size _⟩
          case measure => omega
        · obtain rfl : k = m := by omega
          have hall : Hid (∀ a ∈ l, Au.okA n a) := fun a ha => by
            obtain ⟨j, hj, rfl⟩ := List.getElem_of_mem ha
            exact hS.out j hj (by rw [HM.out]; exact hj)
          clear hS hbel
          go_wp2_with fail
          go_loopg [6] q (fun gg vk wx => ∃ k : Nat, k ≤ q ∧ gg = q - k ∧ vk = .int .i64 k ∧ Hid (∀ j (h : j < fr.length), j < k → Au.okF n fr[j]) ∧ Below w.heap.size w wx)
          case atStart => exact ⟨0, Nat.zero_le _, rfl, rfl, fun j _ h => by omega, HBE.out⟩
          case round =>
            clear HBE
            obtain ⟨t, ht, rfl, rfl, hS, hbel⟩ := hrel
            have HBE := Lib.hid hbel
            have C2 := (hbel.cell (p := ⟨g, o + i * 3 + 2, none⟩) hg).trans c2
            by_cases htq : t < q
            · have kl : t < fr.length := by rw [← HQ.out]; exact htq
              obtain ⟨g3, o3, rfl, hg3, _, hcl3⟩ := HF.out (by omega)
              have e1 := (hbel.cell (p := ⟨g3, o3 + t, none⟩) hg3).trans (hcl3 t kl)
              have j2 : (t : Int) < (q : Int) := by omega
              have hno : Hid (¬ Au.okF n fr[t] → false = r) := fun h => hBi.out (fun e => h (e.2 _ (List.getElem_mem kl)))
              have hyes : Hid (Au.okF n fr[t] → ∀ j (h : j < fr.length), j < t + 1 → Au.okF n fr[j]) := fun h j hj hjk => by
                by_cases e : j = t
                · subst e; exact h
                · exact hS.out j hj (by omega)
              have hA : Hid (Au.okF n fr[t] ↔ 0 ≤ fr[t] ∧ fr[t] < n) := Iff.rfl
              clear hcl3 hS hbel
              generalize fr[t] = f at *
              by_cases p1 : f < 0
              · obtain rfl : false = r := hno.out (fun h => by have := hA.out.1 h; omega)
                clear hA hyes hno hst hBi HB HG HO
                go_wp2_with fail
                go_ret
                exact ⟨rfl, HBE.out⟩
              by_cases p2 : (n : Int) ≤ f
              · obtain rfl : false = r := hno.out (fun h => by have := hA.out.1 h; omega)
                clear hA hyes hno hst hBi HB HG HO
                go_wp2_with fail
                go_ret
                exact ⟨rfl, HBE.out⟩
              have H := Lib.hid (hyes.out (hA.out.2 (by omega)))
              clear hA hyes hno
              go_wp2_with fail
              go_roundg (q - (t + 1))
              case rel => exact ⟨t + 1, by omega, rfl, by go_num, H.out, HBE.out⟩
              case measure => omega
            · obtain rfl : t = q := by omega
              have H := Lib.hid (hst.out ⟨hall.out, fun f hf => by
                obtain ⟨j, hj, rfl⟩ := List.getElem_of_mem hf
                exact hS.out j hj (by rw [HQ.out]; exact hj)⟩)
              clear hS hst hall hbel hBi
              go_wp2_with fail
              go_roundg (n - (i + 1))
              case rel => exact ⟨i + 1, by omega, rfl, by go_num, H.out, HBE.out⟩
              case measure => omega
    · obtain rfl : i = n := by omega
      have H1 := Lib.hid hS.out
      clear hS hbel HB
      by_cases h0 : i = 0
      · obtain rfl : false = r := HO.out h0
        have j0 : decide ((0 : Int) < (i : Int)) = false := decide_eq_false (by omega)
        have j0n : decide (0 < i) = false := decide_eq_false (by omega)
        clear h0 HO HG
        go_wp2_with fail
        go_ret
        exact ⟨rfl, HBE.out⟩
      · obtain rfl : true = r := HG.out (by omega) H1.out
        have j0 : decide ((0 : Int) < (i : Int)) = true := decide_eq_true (by omega)
        have j0n : decide (0 < i) = true := decide_eq_true (by omega)
        clear h0 HO HG
        go_wp2_with fail
        go_ret
        exact ⟨rfl, HBE.out⟩

theorem Au.first_eq (n : Nat) (h : 0 < n) : (List.replicate n false).set 0 true = Au.setOf n (fun i => i = 0) := by
  apply Au.set_ext (by rw [List.length_set, List.length_replicate, Au.setOf_length])
  intro i
  rw [Au.has_set (by simpa using h), Au.has_setOf]
  constructor
  · rintro (rfl | h')
    · exact ⟨h, rfl⟩
    · exact absurd h' (Au.not_has_false _ _)
  · rintro ⟨_, h⟩
    exact .inl h

theorem row_first (w : World) (n : Nat) : RowB (w.alloc (.cells ((madeCells #[.bool false] n).setIfInBounds 0 (.bool true)) 4)) w.heap.size n ((List.replicate n false).set 0 true) := by
  refine ⟨_, Go.Deep.blk_alloc_new _ _, by simp [madeCells], by simp, fun j hj => ?_⟩
  rw [List.length_set, List.length_replicate] at hj
  rw [List.getElem_set, Array.getElem?_setIfInBounds]
  by_cases e : 0 = j
  · subst e
    simp [madeCells, hj]
  · rw [if_neg e, if_neg e]
    simp [madeCells, hj, Nat.mod_one]

set_option maxRecDepth 100000 in
set_option maxHeartbeats 4000000 in
theorem takes_any (F : Nat → Prop) (w : World) (u : Value) (d : List Au.Lo) (s : ByteArray) (hs : s.size ≤ 9223372036854775806) (hu : LoS F w u d) (hmay : Au.May d) (hbig : d.length ≤ 1099511627776) :
    Calls Try.prog 24 #[u, .string s] w fun e w' => e = .returned (.bool (Au.takes d (Au.first d) (s.data.toList.map UInt8.toNat))) ∧ Below w.heap.size w w' := by
  have HU := Lib.hid hu
  have HMAY := Lib.hid hmay
  have HSP : Hid (∀ W g T, Below w.heap.size w W → RowB W g d.length T → T.length = d.length → Calls Try.prog 34 #[u, .slice (some ⟨g, 0, none⟩) d.length d.length] W fun e w' => ∃ g cap, e = .returned (.slice (some ⟨g, 0, none⟩) d.length cap) ∧ W.heap.size ≤ g ∧ cap ≤ 9223372036854775807 ∧ RowB w' g cap (Au.spread d T) ∧ Below W.heap.size W w') := fun W g T hb hr hl => by
    have h := hr.slice (by omega) (fun _ => True) trivial
    rw [hl] at h
    exact spread_any F (fun _ => True) W u _ d T (hu.below hb) h hl hmay.pos hbig hmay.free
  have HOV : Hid (∀ W g cap T, Below w.heap.size w W → RowB W g cap T → cap ≤ 9223372036854775807 → T.length = d.length → ∀ c : Nat, Calls Try.prog 36 #[u, .slice (some ⟨g, 0, none⟩) d.length cap, .int .i64 c] W fun e w' => ∃ g cap, e = .returned (.slice (some ⟨g, 0, none⟩) d.length cap) ∧ W.heap.size ≤ g ∧ cap ≤ 9223372036854775807 ∧ RowB w' g cap (Au.over d T c) ∧ Below W.heap.size W w') := fun W g cap T hb hr hc hl c => by
    have h := hr.slice hc (fun _ => True) trivial
    rw [hl] at h
    exact over_any F (fun _ => True) W u _ d T c (hu.below hb) h hl hmay hbig
  have HEN : Hid (∀ W g cap T, Below w.heap.size w W → RowB W g cap T → cap ≤ 9223372036854775807 → T.length = d.length → Calls Try.prog 35 #[u, .slice (some ⟨g, 0, none⟩) d.length cap] W fun e w' => e = .returned (.bool (Au.ends d T)) ∧ Below W.heap.size W w') := fun W g cap T hb hr hc hl => by
    have h := hr.slice hc (fun _ => True) trivial
    rw [hl] at h
    exact ends_any F (fun _ => True) W u _ d T (hu.below hb) h hl
  obtain ⟨b, cap', rfl, _, _, _⟩ := hu
  obtain ⟨n, hn⟩ : ∃ n, n = d.length := ⟨_, rfl⟩
  have hn0 : 0 < n := by have := hmay.pos; omega
  have HN := Lib.hid hn
  have hlen : s.data.toList.length = s.size := Array.length_toList
  have HL := Lib.hid hlen
  have hmk := run_make_row' (P := Try.prog) 62 4 (.bool false) 1 Try.underlying62 Try.infoBo rfl .i64 .i64 n (by omega) (by omega)
  obtain ⟨r, hr⟩ : ∃ r, Au.takes d (Au.first d) (s.data.toList.map UInt8.toNat) = r := ⟨_, rfl⟩
  have HR0 := Lib.hid (row_made w n)
  have hR1 := Lib.hid (row_first w n)
  rw [Au.first_eq n hn0] at hR1
  have hz1 := HR0.out.frozen 0
  have hc1 := HR0.out.cell (j := 0) (by simpa using hn0)
  have hB1 : Hid (Below w.heap.size w (w.alloc (.cells ((madeCells #[.bool false] n).setIfInBounds 0 (.bool true)) 4))) := (Below.refl _ _).alloc (Nat.le_refl _) _
  have j0 : (0 : Int) < (n : Int) := by omega
  have hstart : Hid (Au.takes d (Au.spread d (Au.setOf n (fun i => i = 0))) ((s.data.toList.drop 0).map UInt8.toNat) = r) := by
    show _ = _
    rw [hn, List.drop_zero]
    exact hr
  rw [← hn] at HSP HOV HEN hbig ⊢
  rw [hr]
  clear hr hmay hn hlen HU HR0
  go_enter Try.func24, Try.ntmps24
  go_wp2_with fail
  refine (HSP.out _ _ _ hB1.out hR1.out (by rw [Au.setOf_length])).mono ?_
  rintro e w2 ⟨g, cap, rfl, hgl, hcp, hrow, hb⟩
  have HB2 : Hid (Below w.heap.size w w2) := chain hB1.out hb
  have HR2 := Lib.hid hrow
  have HT2 : Hid ((Au.spread d (Au.setOf n (fun i => i = 0))).length = n) := by show _ = _; rw [Au.spread_length]; exact HN.out.symm
  generalize Au.spread d (Au.setOf n (fun i => i = 0)) = T2 at *
  clear hb hrow hmk hR1 hB1 HSP hz1 hc1
  go_wp2_with fail
  go_loopg [5, 6] s.size (fun gg vs vi wx => ∃ (i g cap : Nat) (T : List Bool), i ≤ s.size ∧ gg = s.size - i ∧ vs = .slice (some ⟨g, 0, none⟩) n cap ∧ vi = .int .i64 i ∧ cap ≤ 9223372036854775807 ∧ Hid (T.length = n) ∧ Hid (RowB wx g cap T) ∧ Hid (Au.takes d T ((s.data.toList.drop i).map UInt8.toNat) = r) ∧ Below w.heap.size w wx)
  case atStart => exact ⟨0, g, cap, T2, Nat.zero_le _, rfl, rfl, rfl, hcp, HT2, HR2, hstart, HB2.out⟩
  case round =>
    clear HB2 HR2 HT2 hstart
    obtain ⟨i, g, cap, T, hi, rfl, rfl, rfl, hcp, hT, hR, hS, hbel⟩ := hrel
    have HBE := Lib.hid hbel
    by_cases his : i < s.size
    · have j1 : (i : Int) < (s.size : Int) := by omega
      have hst : Hid (Au.takes d (Au.over d T s[i].toNat) ((s.data.toList.drop (i + 1)).map UInt8.toNat) = r) := by
        have h := hS.out
        rw [List.drop_eq_getElem_cons (by rw [HL.out]; exact his), List.map_cons] at h
        exact h
      have hQ := Lib.hid (HOV.out wr g cap T hbel hR.out hcp hT.out s[i].toNat)
      have hby : s[i].toNat < 256 := s[i].toNat_lt
      have hwr : wrap64 ((s[i].toNat : Nat) : Int) = ((s[i].toNat : Nat) : Int) := IntWalk.wrap64_in _ (by omega)
      have hT2 : Hid ((Au.over d T s[i].toNat).length = n) := by show _ = _; rw [Au.over_length]; exact HN.out.symm
      clear hS hbel
      go_wp2_with fail
      refine hQ.out.mono ?_
      rintro e w3 ⟨g3, cap3, rfl, hg3, hcp3, hrow, hb⟩
      have HB3 : Hid (Below w.heap.size w w3) := chain HBE.out hb
      have HR3 := Lib.hid hrow
      clear hb hrow
      go_wp2_with fail
      go_roundg (s.size - (i + 1))
      case rel => exact ⟨i + 1, g3, cap3, _, by omega, rfl, rfl, by go_num, hcp3, hT2, HR3, hst, HB3.out⟩
      case measure => omega
    · obtain rfl : i = s.size := by omega
      have hfin : Au.ends d T = r := by
        have h := hS.out
        rw [List.drop_of_length_le (by rw [HL.out]; exact Nat.le_refl _)] at h
        exact h
      have hQ := Lib.hid (HEN.out wr g cap T hbel hR.out hcp hT.out)
      rw [hfin] at hQ
      clear hfin hS hbel
      go_wp2_with fail
      refine hQ.out.mono ?_
      rintro e w3 ⟨rfl, hb⟩
      have HB3 : Hid (Below w.heap.size w w3) := chain HBE.out hb
      clear hb
      go_wp2_with fail
      go_ret
      exact ⟨rfl, HB3.out⟩

end Go.Proofs.Ytdcofdndkpmpaaa

/-
  Sets that a call has met, in memory; the rest of what it holds stays.
-/
namespace Go.Proofs.Ytdcofdndkpmpaaa
open Go.RowKit

/-- What does not touch arcs, states and numbers leaves the state at hand as it is. -/
theorem Inn.other {w w' : World} {B bs : Nat} {vm vo va : Value} {met : List Nat} {L : List (Bool × Value)} {out : List Au.St} {fin : Bool} {arcs : List Au.Arc} (h : Inn w B bs vm vo va met L out fin arcs)
    (e : ∀ g c t fz, g < w.heap.size → w.heap[g]? = some (.cells c t fz) → (t = 41 ∨ t = 39 ∨ t = 3) → w'.heap[g]? = w.heap[g]?) : Inn w' B bs vm vo va met L out fin arcs := by
  refine ⟨h.met.keep2 fun k hv hk => ?_, h.outs.keep2 fun k hv hk => ?_, h.told.keep (fun _ hg => .inl hg) fun g hg ⟨c, fz, hc⟩ _ => e g c _ fz hg hc (.inl rfl), h.arcs.keep fun k hk => ?_, ?_, h.ne, h.lo⟩
  · obtain ⟨c, fz, hc⟩ := h.met.kind k hv
    exact e k c _ fz hk hc (.inr (.inr rfl))
  · obtain ⟨c, fz, hc⟩ := h.outs.kind k hv
    exact e k c _ fz hk hc (.inr (.inl rfl))
  · obtain ⟨c, fz, hc⟩ := h.arcs.kind k hk
    exact e k c _ fz (h.arcs.lt k hk).2 hc (.inl rfl)
  · exact (e bs _ _ _ (Array.getElem?_eq_some_iff.1 h.row).1 h.row (.inr (.inl rfl))).trans h.row
theorem Outr.other {w w' : World} {B : Nat} {vm vo : Value} {met : List Nat} {L : List (Bool × Value)} {out : List Au.St} (h : Outr w B vm vo met L out)
    (e : ∀ g c t fz, g < w.heap.size → w.heap[g]? = some (.cells c t fz) → (t = 41 ∨ t = 39 ∨ t = 3) → w'.heap[g]? = w.heap[g]?) : Outr w' B vm vo met L out := by
  refine ⟨h.met.keep2 fun k hv hk => ?_, h.outs.keep2 fun k hv hk => ?_, h.told.keep (fun _ hg => .inl hg) fun g hg ⟨c, fz, hc⟩ _ => e g c _ fz hg hc (.inl rfl)⟩
  · obtain ⟨c, fz, hc⟩ := h.met.kind k hv
    exact e k c _ fz hk hc (.inr (.inr rfl))
  · obtain ⟨c, fz, hc⟩ := h.outs.kind k hv
    exact e k c _ fz hk hc (.inr (.inl rfl))
/-- What growing the arcs leaves. -/
theorem Inn.grown_far {w w' : World} {B bs : Nat} {vm vo va va' : Value} {met : List Nat} {L : List (Bool × Value)} {out : List Au.St} {fin : Bool} {arcs : List Au.Arc} (h : Inn w B bs vm vo va met L out fin arcs) (h2 : Ap.Two w w' va va') (u : Value) :
    ∀ g c t fz, g < w.heap.size → w.heap[g]? = some (.cells c t fz) → t ≠ 41 → t ≠ 39 → (w'.setCell ⟨bs, 1, none⟩ u).heap[g]? = w.heap[g]? := fun g c t fz hg hc h3 h4 => by
  rw [heap_other _ _ _ _ _ (kinds_ne hc h.row h4)]
  exact h2.far hg fun e => by
    obtain ⟨c', fz', hc'⟩ := h.arcs.kind g e
    exact kinds_ne hc hc' h3 rfl
/-- What telling a state leaves. -/
theorem Inn.close_far {w w' : World} {B bs : Nat} {vm vo vo' va : Value} {met : List Nat} {L : List (Bool × Value)} {out : List Au.St} {fin : Bool} {arcs : List Au.Arc} (h : Inn w B bs vm vo va met L out fin arcs) (h2 : Ap.Two w w' vo vo') :
    ∀ g c t fz, g < w.heap.size → w.heap[g]? = some (.cells c t fz) → t ≠ 39 → w'.heap[g]? = w.heap[g]? := fun g c t fz hg hc h3 => h2.far hg fun e => by
  obtain ⟨c', fz', hc'⟩ := h.outs.kind g e
  exact kinds_ne hc hc' h3 rfl

/-- The sets that were met: a list of the call's own, each set in a row of its own. -/
structure SetsO (w : World) (B : Nat) (vs : Value) (vals : List Value) (L : List (List Bool)) (n : Nat) : Prop where
  own : w.ownsRow B 62 1 vs vals.length vals
  len : vals.length = L.length
  each : ∀ j (h : j < vals.length) (h' : j < L.length), L[j].length = n ∧ ∃ g cap, vals[j] = .slice (some ⟨g, 0, none⟩) n cap ∧ B ≤ g ∧ cap ≤ 9223372036854775807 ∧ RowB w g cap L[j]
theorem SetsO.kind {w : World} {B : Nat} {vs : Value} {vals : List Value} {L : List (List Bool)} {n : Nat} (h : SetsO w B vs vals L n) : ∀ g, vs.ownBlock = some g → g < w.heap.size ∧ B ≤ g ∧ ∃ c fz, w.heap[g]? = some (.cells c 62 fz) := by
  intro g hv
  refine ⟨(World.ownsRow.lt h.own g hv).2, (World.ownsRow.lt h.own g hv).1, ?_⟩
  rcases h.own.2 with ⟨h1, _⟩ | ⟨g', cap, cur, h1, hg, hh, _⟩
  · rw [h1] at hv; cases hv
  · rw [h1] at hv
    obtain rfl : g' = g := by simpa [Value.ownBlock] using hv
    exact ⟨_, _, hh⟩
theorem SetsO.other {w w' : World} {B : Nat} {vs : Value} {vals : List Value} {L : List (List Bool)} {n : Nat} (h : SetsO w B vs vals L n) (e : ∀ g c t fz, g < w.heap.size → w.heap[g]? = some (.cells c t fz) → (t = 4 ∨ t = 62) → w'.heap[g]? = w.heap[g]?) : SetsO w' B vs vals L n := by
  refine ⟨ownsRow_keep h.own fun k hk => ?_, h.len, fun j hj hj' => ?_⟩
  · obtain ⟨h1, _, c, fz, hc⟩ := h.kind k hk
    exact e k c _ fz h1 hc (.inr rfl)
  · obtain ⟨h0, g, cap, h1, h2, h3, h4⟩ := h.each j hj hj'
    obtain ⟨cur, hc, _⟩ := id h4
    exact ⟨h0, g, cap, h1, h2, h3, h4.other (e g cur _ _ h4.lt hc (.inl rfl))⟩
theorem SetsO.below {w w' : World} {B : Nat} {vs : Value} {vals : List Value} {L : List (List Bool)} {n : Nat} (h : SetsO w B vs vals L n) (hb : Below w.heap.size w w') : SetsO w' B vs vals L n := h.other fun g _ _ _ hg _ _ => hb.block g hg
theorem Inn.belowAll {w w' : World} {B bs : Nat} {vm vo va : Value} {met : List Nat} {L : List (Bool × Value)} {out : List Au.St} {fin : Bool} {arcs : List Au.Arc} (h : Inn w B bs vm vo va met L out fin arcs) (hb : Below w.heap.size w w') : Inn w' B bs vm vo va met L out fin arcs := h.below hb
theorem Outr.below {w w' : World} {B : Nat} {vm vo : Value} {met : List Nat} {L : List (Bool × Value)} {out : List Au.St} (h : Outr w B vm vo met L out) (hb : Below w.heap.size w w') : Outr w' B vm vo met L out := h.other fun g _ _ _ hg _ _ => hb.block g hg
/-- A set more, and the state at hand; the state grown, and the sets; the state told, and the sets. -/
theorem Inn.pushed {w w' : World} {B bs n : Nat} {vm vo va vs vs' : Value} {met : List Nat} {L : List (Bool × Value)} {out : List Au.St} {fin : Bool} {arcs : List Au.Arc} {vals : List Value} {m : List (List Bool)} (h : Inn w B bs vm vo va met L out fin arcs) (hs : SetsO w B vs vals m n) (h2 : Ap.Two w w' vs vs') : Inn w' B bs vm vo va met L out fin arcs := h.other fun g c t fz hg hc ht => h2.far hg fun e => by
  obtain ⟨_, _, c', fz', hc'⟩ := hs.kind g e
  exact kinds_ne hc hc' (by rcases ht with rfl | rfl | rfl <;> decide) rfl
theorem SetsO.grown {w w' : World} {B bs n : Nat} {vm vo va va' vs u : Value} {met : List Nat} {L : List (Bool × Value)} {out : List Au.St} {fin : Bool} {arcs : List Au.Arc} {vals : List Value} {m : List (List Bool)} (hs : SetsO w B vs vals m n) (h : Inn w B bs vm vo va met L out fin arcs) (h2 : Ap.Two w w' va va') : SetsO (w'.setCell ⟨bs, 1, none⟩ u) B vs vals m n := hs.other fun g c t fz hg hc ht => h.grown_far h2 u g c t fz hg hc (by rcases ht with rfl | rfl <;> decide) (by rcases ht with rfl | rfl <;> decide)
theorem SetsO.closed {w w' : World} {B bs n : Nat} {vm vo vo' va vs : Value} {met : List Nat} {L : List (Bool × Value)} {out : List Au.St} {fin : Bool} {arcs : List Au.Arc} {vals : List Value} {m : List (List Bool)} (hs : SetsO w B vs vals m n) (h : Inn w B bs vm vo va met L out fin arcs) (h2 : Ap.Two w w' vo vo') : SetsO w' B vs vals m n := hs.other fun g c t fz hg hc ht => h.close_far h2 g c t fz hg hc (by rcases ht with rfl | rfl <;> decide)
/-- As a slice of sets. -/
theorem SetsO.sets {w : World} {B : Nat} {vs : Value} {vals : List Value} {L : List (List Bool)} {n : Nat} (h : SetsO w B vs vals L n) : SetsS (fun _ => True) w vs L := by
  rcases h.own.2 with ⟨rfl, h0⟩ | ⟨g, cap, cur, rfl, hg, hh, hnc, hcp, hcs, htake⟩
  · exact ⟨none, 0, by rw [← h.len, h0], by rw [← h.len, h0]; exact Nat.le_refl _, by omega, fun h1 => by have := h.len; omega⟩
  · have hl := h.len
    have hown : w.ownsRow B 62 1 (.slice (some ⟨g, 0, none⟩) vals.length cap) vals.length vals := h.own
    unfold maxLen at hcp
    rw [hl] at hnc ⊢
    refine ⟨_, cap, rfl, hnc, by omega, fun h0 => ⟨g, 0, rfl, (hown.lt g rfl).2, trivial, fun j hj => ?_⟩⟩
    obtain ⟨hn, g', cap', h1, h2, h3, h4⟩ := h.each j (by omega) hj
    refine ⟨vals[j], ?_, ?_⟩
    · rw [Nat.zero_add, hown.cellAt j (by omega), List.getElem?_eq_getElem (by omega)]
    · rw [h1]
      have := h4.slice h3 (fun _ => True) trivial
      rwa [hn] at this
theorem SetsO.form {w : World} {B : Nat} {vs : Value} {vals : List Value} {L : List (List Bool)} {n : Nat} (h : SetsO w B vs vals L n) (h0 : 0 < L.length) : ∃ g cap, vs = .slice (some ⟨g, 0, none⟩) L.length cap ∧ g < w.heap.size ∧ ∀ j (_ : j < L.length), ∃ g' cap', w.cell? ⟨g, j, none⟩ = some (.slice (some ⟨g', 0, none⟩) n cap') ∧ cap' ≤ 9223372036854775807 ∧ RowB w g' cap' L[j] ∧ L[j].length = n := by
  rcases h.own.2 with ⟨_, h1⟩ | ⟨g, cap, cur, rfl, hg, hh, hnc, hcp, hcs, htake⟩
  · have := h.len; omega
  · have hl := h.len
    have hown : w.ownsRow B 62 1 (.slice (some ⟨g, 0, none⟩) vals.length cap) vals.length vals := h.own
    refine ⟨g, cap, by rw [hl], (hown.lt g rfl).2, fun j hj => ?_⟩
    obtain ⟨hn, g', cap', h1, h2, h3, h4⟩ := h.each j (by omega) hj
    refine ⟨g', cap', ?_, h3, h4, hn⟩
    rw [hown.cellAt j (by omega), List.getElem?_eq_getElem (by omega), h1]
theorem new_slice (w : World) (a : Option Addr) (m c : Nat) : ∀ j u, [Value.slice a m c][j]? = some u → (w.alloc (.cells #[.slice a m c] 62)).cell? ((⟨w.heap.size, 0, none⟩ : Addr).add j) = some u := by
  intro j u hj
  match j, hj with
  | 0, hj => simp at hj; subst hj; simp [Addr.add]
/-- 'append(v, set)' of one set, whose slice lies in a new block. -/
theorem wpList_pushSet {ops : Array Oper} {rest : List Oper} {o : Oper} {a : Act} {Q : Exit → Act → World → Prop} {w : World} (hgd : o.guard = none) (s x : Operand)
    (ho : o.op = .call { callee := .builtin .append, args := #[s, x], argTypes := #[69, 69] })
    (B : Nat) (hB : B ≤ w.heap.size) (v : Value) (vals : List Value) (L : List (List Bool)) (n : Nat) (hs : a.eval s = v) (h : SetsO w B v vals L n) (S : List Bool) (g cap : Nat) (hx : a.eval x = .slice (some ⟨w.heap.size, 0, none⟩) 1 1)
    (hSn : S.length = n) (hgB : B ≤ g) (hc : cap ≤ 9223372036854775807) (hrow : RowB w g cap S) (hb : L.length + 1 ≤ 1099511627776)
    (hk : ∀ v' w', SetsO w' B v' (vals ++ [.slice (some ⟨g, 0, none⟩) n cap]) (L ++ [S]) n → Ap.Two w w' v v' → wpList Try.prog ops Q rest (a.put o.dst v') w') :
    wpList Try.prog ops Q (o :: rest) a (w.alloc (.cells #[.slice (some ⟨g, 0, none⟩) n cap] 62)) := by
  obtain ⟨ii, hi, hz0, hz1, hz2⟩ := info_parts Try.infoBB
  have hlen := h.len
  refine wpList_append_two _ hgd s x 69 ho B 62 ii (.slice none 0 0) 1 24 Try.underlying69 hi hz0 hz1 hz2 rfl (by decide) _ _ _ hs (h.own.alloc _) ⟨w.heap.size, 0, none⟩ 1 1 [.slice (some ⟨g, 0, none⟩) n cap] hx rfl (new_slice w _ n cap) ?_ (by unfold maxLen; omega) (by omega) (by simp; omega) ?_
  · intro u hu
    simp at hu
    subst hu
    rfl
  · intro v' w' h1 h2
    have h3 := Ap.Two.drop h2
    have far : ∀ k cur, k < w.heap.size → w.heap[k]? = some (.cells cur 4 (0, 0)) → w'.heap[k]? = w.heap[k]? := fun k cur hk hcur => h3.far hk fun e => by
      obtain ⟨_, _, c', fz', hc'⟩ := h.kind k e
      exact kinds_ne hcur hc' (by decide) rfl
    refine hk v' w' ⟨by simpa using h1, by simp [hlen], fun j hj hj' => ?_⟩ h3
    by_cases e : j < vals.length
    · obtain ⟨h0, g', cap', h4, h5, h6, h7⟩ := h.each j e (by omega)
      rw [List.getElem_append_left e, List.getElem_append_left (by omega)]
      obtain ⟨cur, hcur, _⟩ := id h7
      exact ⟨h0, g', cap', h4, h5, h6, h7.other (far g' cur h7.lt hcur)⟩
    · have e' : j = vals.length := by simp at hj; omega
      subst e'
      have e2 : (L ++ [S])[vals.length] = S := by simp only [hlen, List.getElem_append_right (Nat.le_refl _), Nat.sub_self, List.getElem_cons_zero]
      rw [e2]
      simp only [List.getElem_append_right (Nat.le_refl _), Nat.sub_self, List.getElem_cons_zero]
      obtain ⟨cur, hcur, _⟩ := id hrow
      exact ⟨hSn, g, cap, rfl, hgB, hc, hrow.other (far g cur hrow.lt hcur)⟩

namespace Au
/-- What Tight answers: its refusal, its states. -/
noncomputable def tightE (d : List Lo) (most : Int) : Int := if may d = true then (match tight d most with | none => 8 | some _ => 0) else 3
noncomputable def tightL (d : List Lo) (most : Int) : List St := if may d = true then (match tight d most with | none => [] | some a => a) else []
theorem tight_out_bad {d : List Lo} {most : Int} (h : ¬ may d = true) : tightE d most = 3 ∧ tightL d most = [] := ⟨by unfold tightE; rw [if_neg h], by unfold tightL; rw [if_neg h]⟩
theorem tight_out_none {d : List Lo} {most : Int} (h : may d = true) (h2 : tight d most = none) : tightE d most = 8 ∧ tightL d most = [] := ⟨by unfold tightE; rw [if_pos h, h2], by unfold tightL; rw [if_pos h, h2]⟩
theorem tight_out_some {d : List Lo} {most : Int} {a : List St} (h : may d = true) (h2 : tight d most = some a) : tightE d most = 0 ∧ tightL d most = a := ⟨by unfold tightE; rw [if_pos h, h2], by unfold tightL; rw [if_pos h, h2]⟩
theorem tight_outs {d : List Lo} {most : Int} (h : may d = true) : (tight d most = none → tightE d most = 8 ∧ tightL d most = []) ∧ (∀ a, tight d most = some a → tightE d most = 0 ∧ tightL d most = a) := by
  constructor
  · intro h2
    exact tight_out_none h h2
  · intro a h2
    exact tight_out_some h h2
end Au
theorem StS.nil (F : Nat → Prop) (w : World) : StS F w (.slice none 0 0) [] := ⟨none, 0, rfl, Nat.le_refl _, by omega, fun h => by simp at h⟩
end Go.Proofs.Ytdcofdndkpmpaaa

/-
  Maps of the call's own, of any keys and any elements; lists of the call's own, each in a block of its own colour.
-/
namespace Go.Proofs.Ytdcofdndkpmpaaa
open Go.RowKit Go.Maps

/-! ### maps -/
/-- An element reads as itself. -/
def rV (v : Value) : Option (DataW Value × List MemPlace) := some (.held v, [])
/-- Block b holds a map; F says what stands at which key. -/
def MapG (k : TypeId) (w : World) (b n : Nat) (F : Lit → Option Value) : Prop :=
  ∃ D : DataW Value, w.ownsMap Try.prog k rV b n D ∧ ∀ kl z, WideAt.IsKeyLit kl → has D kl = (F kl).isSome ∧ D.atKey kl (.held z) = .held ((F kl).getD z)
theorem MapG.lt {k : TypeId} {w : World} {b n : Nat} {F : Lit → Option Value} (h : MapG k w b n F) : b < w.heap.size := by
  obtain ⟨D, h, _⟩ := h
  exact h.lt
theorem MapG.keep {k : TypeId} {w w' : World} {b n : Nat} {F : Lit → Option Value} (h : MapG k w b n F) (e : w'.heap[b]? = w.heap[b]?) : MapG k w' b n F := by
  obtain ⟨D, ⟨es, clock, hb, hr⟩, hs⟩ := h
  exact ⟨D, ⟨es, clock, e.trans hb, hr⟩, hs⟩
theorem MapG.mono {k : TypeId} {w : World} {b n n' : Nat} {F : Lit → Option Value} (h : MapG k w b n F) (hn : n ≤ n') : MapG k w b n' F := by
  obtain ⟨D, h, hs⟩ := h
  exact ⟨D, h.mono hn, hs⟩
theorem MapG.congr {k : TypeId} {w : World} {b n : Nat} {F G : Lit → Option Value} (h : MapG k w b n F) (e : ∀ kl, WideAt.IsKeyLit kl → F kl = G kl) : MapG k w b n G := by
  obtain ⟨D, h, hs⟩ := h
  exact ⟨D, h, fun kl z hk => by rw [← e kl hk]; exact hs kl z hk⟩
theorem mapG_made (k : TypeId) (w : World) : MapG k (w.alloc (.map #[] 0)) w.heap.size 0 (fun _ => none) := ⟨.map [], World.ownsMap_made w _ _ _, fun _ _ _ => ⟨rfl, rfl⟩⟩
theorem MapG.kind {k : TypeId} {w : World} {b n : Nat} {F : Lit → Option Value} (h : MapG k w b n F) : ∀ c t fz, w.heap[b]? ≠ some (.cells c t fz) := by
  obtain ⟨D, ⟨es, clock, hb, _⟩, _⟩ := h
  intro c t fz e
  rw [hb] at e
  cases e
open Classical in
noncomputable def updG (F : Lit → Option Value) (s : Lit) (o : Option Value) : Lit → Option Value := fun t => if t = s then o else F t
theorem updG_same (F : Lit → Option Value) (s : Lit) (o : Option Value) : updG F s o s = o := by unfold updG; rw [if_pos rfl]
theorem updG_other (F : Lit → Option Value) (s t : Lit) (o : Option Value) (h : t ≠ s) : updG F s o t = F t := by unfold updG; rw [if_neg h]

section
variable (w : World) {ops : Array Oper} {rest : List Oper} {o : Oper} {a : Act} {Q : Exit → Act → World → Prop}
/-- 'm[key]'. -/
theorem wpList_lookG (hg : o.guard = none) (m x : Operand) (t k e : TypeId) (hop : o.op = Op.lookup t m x false) (K : Keyed Try.prog k) (ht : Try.prog.underlying t = some (.map k e)) (z : Value) (hz : ∀ w, (zeroValue e).run Try.prog w = .ok z w)
    (b n : Nat) (F : Lit → Option Value) (hm : a.eval m = .map (some b)) (hM : MapG k w b n F) (key : Value) (kl : Lit) (hx : a.eval x = key) (hkey : keyOf Try.prog k key = some kl)
    (hK : wpList Try.prog ops Q rest (a.put o.dst ((F kl).getD z)) w) : wpList Try.prog ops Q (o :: rest) a w := by
  obtain ⟨D, hown, hF⟩ := hM
  refine wpList_plain hg fun K' hK' => ?_
  obtain ⟨v, ps, hrun, hv⟩ := hown.lookup K ht (hz w) (zd := .held z) (zp := []) rfl hkey
  have e : v = (F kl).getD z := by
    rw [(hF kl z (K.key hkey)).2] at hv
    unfold rV at hv
    simp only [Option.some.injEq, Prod.mk.injEq, DataW.held.injEq] at hv
    exact hv.1
  subst e
  unfold Oper.wp
  simp [execOp, hop, hm, hx, hrun, Result.andThen]
  exact hK' _ _ hK
/-- 'v, ok := m[key]'. -/
theorem wpList_lookOkG (hg : o.guard = none) (m x : Operand) (t k e : TypeId) (hop : o.op = Op.lookup t m x true) (K : Keyed Try.prog k) (ht : Try.prog.underlying t = some (.map k e)) (z : Value) (hz : ∀ w, (zeroValue e).run Try.prog w = .ok z w)
    (b n : Nat) (F : Lit → Option Value) (hm : a.eval m = .map (some b)) (hM : MapG k w b n F) (key : Value) (kl : Lit) (hx : a.eval x = key) (hkey : keyOf Try.prog k key = some kl)
    (hK : wpList Try.prog ops Q rest (a.put o.dst (.tuple #[(F kl).getD z, .bool (F kl).isSome])) w) : wpList Try.prog ops Q (o :: rest) a w := by
  obtain ⟨D, hown, hF⟩ := hM
  refine wpList_lookup_own_ok w hg m x t hop k e K ht rV (hz w) (.held z) [] rfl b n D hm hown key kl hx hkey fun v ps hv => ?_
  obtain ⟨h1, h2⟩ := hF kl z (K.key hkey)
  rw [h2] at hv
  unfold rV at hv
  simp only [Option.some.injEq, Prod.mk.injEq, DataW.held.injEq] at hv
  rw [hv.1, h1]
  exact hK
/-- 'm[key] = v'. -/
theorem wpList_storeG (hg : o.guard = none) (m x v : Operand) (t k e : TypeId) (hop : o.op = Op.mapUpdate t m x v) (K : Keyed Try.prog k) (ht : Try.prog.underlying t = some (.map k e))
    (b n : Nat) (F : Lit → Option Value) (hm : a.eval m = .map (some b)) (hM : MapG k w b n F) (hn : n < maxLen) (key : Value) (kl : Lit) (hx : a.eval x = key) (hkey : keyOf Try.prog k key = some kl) (u : Value) (hv : a.eval v = u)
    (hK : ∀ w', MapG k w' b (n + 1) (updG F kl (some u)) → w.grownBy w' (some b) → wpList Try.prog ops Q rest (a.put o.dst undef) w') : wpList Try.prog ops Q (o :: rest) a w := by
  obtain ⟨D, hown, hF⟩ := hM
  refine wpList_mapUpdate_own w hg m x v t hop k e K ht rV b n D hm hown hn key u kl hx hv hkey (.held u) [] rfl fun w' h1 h2 => ?_
  refine hK w' ⟨_, h1, fun l z hl => ?_⟩ h2
  by_cases e : l = kl
  · subst e
    rw [updG_same]
    exact ⟨has_put_same hown.isMap hl _, atKey_put_same hown.isMap hl _ _⟩
  · rw [updG_other _ _ _ _ e, has_put_other e, atKey_put_other e]
    exact hF l z hl
end

/-! ### colours -/
/-- Blocks from s on bear colour c, those below are as they were. -/
def paint (κ : Nat → Nat) (s c : Nat) : Nat → Nat := fun k => if k < s then κ k else c
/-- Nothing has turned but what bears colour c; and what is new bears it. -/
structure Step (κ : Nat → Nat) (c : Nat) (w w' : World) (κ' : Nat → Nat) : Prop where
  os : w'.os = w.os
  tape : w'.tape = w.tape
  output : w'.output = w.output
  size : w.heap.size ≤ w'.heap.size
  block : ∀ k, k < w.heap.size → κ k ≠ c → w'.heap[k]? = w.heap[k]?
  col : ∀ k, k < w.heap.size → κ' k = κ k
theorem Step.of_two {κ : Nat → Nat} {c : Nat} {w w' : World} {v v' : Value} (h : Ap.Two w w' v v') (hv : ∀ b, v.ownBlock = some b → κ b = c) : Step κ c w w' (paint κ w.heap.size c) := by
  obtain ⟨h1, h2, h3⟩ := h.rest
  exact ⟨h1, h2, h3, h.size, fun k hk hc => h.far hk fun e => hc (hv k e), fun k hk => by unfold paint; rw [if_pos hk]⟩
theorem Step.of_set {κ : Nat → Nat} {c : Nat} (w : World) (b i : Nat) (v : Value) (hb : κ b = c) : Step κ c w (w.setCell ⟨b, i, none⟩ v) κ :=
  ⟨rfl, rfl, rfl, by simp [World.setCell], fun k _ hc => heap_other _ _ _ _ _ (fun e => hc (e ▸ hb)), fun _ _ => rfl⟩
theorem Step.of_grown {κ : Nat → Nat} {c : Nat} {w w' : World} {b : Nat} (h : w.grownBy w' (some b)) (hb : κ b = c) : Step κ c w w' (paint κ w.heap.size c) :=
  ⟨h.os, h.tape, h.output, h.size, fun k hk hc => h.block k hk (fun e => hc (by cases e; exact hb)), fun k hk => by unfold paint; rw [if_pos hk]⟩
theorem Step.of_below {κ : Nat → Nat} {c : Nat} {w w' : World} (h : Below w.heap.size w w') : Step κ c w w' (paint κ w.heap.size c) :=
  ⟨h.os, h.tape, h.output, h.size, fun k hk _ => h.block k hk, fun k hk => by unfold paint; rw [if_pos hk]⟩
theorem Step.of_alloc {κ : Nat → Nat} {c : Nat} (w : World) (o : Obj) : Step κ c w (w.alloc o) (paint κ w.heap.size c) :=
  ⟨rfl, rfl, rfl, by simp, fun k hk _ => Go.Deep.blk_alloc_lt w _ _ hk, fun k hk => by unfold paint; rw [if_pos hk]⟩
theorem paint_new (κ : Nat → Nat) (s c k : Nat) (h : s ≤ k) : paint κ s c k = c := by unfold paint; rw [if_neg (by omega)]
theorem paint_old (κ : Nat → Nat) (s c k : Nat) (h : k < s) : paint κ s c k = κ k := by unfold paint; rw [if_pos h]
/-- Where v' lies behind an append onto v. -/
theorem Two.col {κ : Nat → Nat} {c : Nat} {w w' : World} {v v' : Value} (h : Ap.Two w w' v v') (hl : ∀ b, v.ownBlock = some b → b < w.heap.size ∧ κ b = c) : ∀ b, v'.ownBlock = some b → paint κ w.heap.size c b = c := by
  intro b hb
  rcases h.at hb with h1 | h1
  · rw [paint_old _ _ _ _ (hl b h1).1]
    exact (hl b h1).2
  · exact paint_new _ _ _ _ h1
/-- Coloured blocks lie from B on. -/
def LoB (κ : Nat → Nat) (w : World) (B : Nat) : Prop := ∀ k, k < w.heap.size → κ k ≠ 0 → B ≤ k
theorem LoB.step {κ κ' : Nat → Nat} {c : Nat} {w w' : World} {B : Nat} (h : LoB κ w B) (hs : Step κ c w w' κ') (hB : B ≤ w.heap.size) : LoB κ' w' B := by
  intro k hk hc
  by_cases h1 : k < w.heap.size
  · rw [hs.col k h1] at hc
    exact h k h1 hc
  · omega
theorem Step.below {κ κ' : Nat → Nat} {c : Nat} {w0 w w' : World} {B : Nat} (hs : Step κ c w w' κ') (h : LoB κ w B) (hc : c ≠ 0) (hb : Below B w0 w) (hB : B ≤ w.heap.size) : Below B w0 w' :=
  hb.trans ⟨hs.os, hs.tape, hs.output, hs.size, fun k hk => hs.block k (by omega) fun e => by have := h k (by omega) (by omega); omega⟩
/-- A list of the call's own, in a block of colour c. -/
structure RowC (κ : Nat → Nat) (c : Nat) (w : World) (e : TypeId) (z : Nat) (v : Value) (n : Nat) (xs : List Value) : Prop where
  own : w.ownsRow 0 e z v n xs
  col : ∀ b, v.ownBlock = some b → κ b = c
theorem RowC.lt {κ : Nat → Nat} {c : Nat} {w : World} {e : TypeId} {z : Nat} {v : Value} {n : Nat} {xs : List Value} (h : RowC κ c w e z v n xs) : ∀ b, v.ownBlock = some b → b < w.heap.size ∧ κ b = c := fun b hb => ⟨(World.ownsRow.lt h.own b hb).2, h.col b hb⟩
theorem RowC.step {κ κ' : Nat → Nat} {c c' : Nat} {w w' : World} {e : TypeId} {z : Nat} {v : Value} {n : Nat} {xs : List Value} (h : RowC κ c w e z v n xs) (hs : Step κ c' w w' κ') (hne : c ≠ c') : RowC κ' c w' e z v n xs :=
  ⟨ownsRow_keep h.own fun k hk => hs.block k (h.lt k hk).1 (by rw [(h.lt k hk).2]; exact hne), fun b hb => by rw [hs.col b (h.lt b hb).1]; exact h.col b hb⟩
theorem RowC.nil (κ : Nat → Nat) (c : Nat) (w : World) (e : TypeId) (z : Nat) : RowC κ c w e z (.slice none 0 0) 0 [] := ⟨World.ownsRow_nil w 0 e z, fun b hb => by cases hb⟩
theorem RowC.form {κ : Nat → Nat} {c : Nat} {w : World} {e : TypeId} {z : Nat} {v : Value} {n : Nat} {xs : List Value} (h : RowC κ c w e z v n xs) : ∃ a cap, v = .slice a n cap ∧ n ≤ cap ∧ cap ≤ 9223372036854775807 ∧ (0 < n → ∃ g, a = some ⟨g, 0, none⟩ ∧ g < w.heap.size ∧ κ g = c ∧ (∀ j, w.frozen? ⟨g, j, none⟩ = false) ∧ ∀ (j : Nat) (u : Value), xs[j]? = some u → w.cell? ⟨g, j, none⟩ = some u) := by
  have hown := h.own
  rcases h.own.2 with ⟨rfl, h0⟩ | ⟨g, cap, cur, rfl, hg, hh, hnc, hcp, hcs, htake⟩
  · exact ⟨none, 0, by rw [h0], by omega, by omega, fun h => by omega⟩
  · refine ⟨_, cap, rfl, hnc, by unfold maxLen at hcp; omega, fun _ => ⟨g, rfl, (hown.lt g rfl).2, h.col g rfl, fun j => by simp [World.frozen?, hh], fun j u hu => ?_⟩⟩
    have hj : j < n * z := by rw [← hown.1]; exact (List.getElem?_eq_some_iff.1 hu).1
    rw [hown.cellAt j hj]
    exact hu
/-- Its cells. -/
theorem RowC.at {κ : Nat → Nat} {c : Nat} {w : World} {e : TypeId} {z n g cap : Nat} {xs : List Value} (h : RowC κ c w e z (.slice (some ⟨g, 0, none⟩) n cap) n xs) :
    g < w.heap.size ∧ κ g = c ∧ n ≤ cap ∧ cap ≤ 9223372036854775807 ∧ (∀ j, w.frozen? ⟨g, j, none⟩ = false) ∧ ∀ (j : Nat) (u : Value), xs[j]? = some u → w.cell? ⟨g, j, none⟩ = some u := by
  have hown := h.own
  rcases h.own.2 with ⟨h1, h0⟩ | ⟨g', cap', cur, h1, hg, hh, hnc, hcp, hcs, htake⟩
  · cases h1
  · simp only [Value.slice.injEq, Option.some.injEq, Addr.mk.injEq, and_true, true_and] at h1
    obtain ⟨rfl, rfl⟩ := h1
    refine ⟨(hown.lt g rfl).2, h.col g rfl, hnc, by unfold maxLen at hcp; omega, fun j => by simp [World.frozen?, hh], fun j u hu => ?_⟩
    have hj : j < n * z := by rw [← hown.1]; exact (List.getElem?_eq_some_iff.1 hu).1
    rw [hown.cellAt j hj]
    exact hu
/-- A store into it. -/
theorem RowC.set {κ : Nat → Nat} {c : Nat} {w : World} {e : TypeId} {z n g cap : Nat} {xs : List Value} (h : RowC κ c w e z (.slice (some ⟨g, 0, none⟩) n cap) n xs) (i : Nat) (u : Value) : RowC κ c (w.setCell ⟨g, i, none⟩ u) e z (.slice (some ⟨g, 0, none⟩) n cap) n (xs.set i u) :=
  ⟨(h.own.stored i u).1, h.col⟩
/-- Less of it. -/
theorem RowC.less {κ : Nat → Nat} {c : Nat} {w : World} {e : TypeId} {z n g cap : Nat} {xs : List Value} (h : RowC κ c w e z (.slice (some ⟨g, 0, none⟩) n cap) n xs) (m : Nat) (hm : m ≤ n) : RowC κ c w e z (.slice (some ⟨g, 0, none⟩) m cap) m (xs.take (m * z)) := by
  refine ⟨⟨?_, ?_⟩, h.col⟩
  · rw [List.length_take, h.own.1]
    have := Nat.mul_le_mul_right z hm
    omega
  · rcases h.own.2 with ⟨h1, _⟩ | ⟨g', cap', cur, h1, hg, hh, hnc, hcp, hcs, htake⟩
    · cases h1
    · simp only [Value.slice.injEq, Option.some.injEq, Addr.mk.injEq, and_true, true_and] at h1
      obtain ⟨rfl, rfl⟩ := h1
      refine .inr ⟨g, cap, cur, rfl, hg, hh, by omega, hcp, hcs, ?_⟩
      rw [← htake, List.take_take]
      have := Nat.mul_le_mul_right z hm
      rw [Nat.min_eq_left this]
theorem RowC.kind {κ : Nat → Nat} {c : Nat} {w : World} {e : TypeId} {z : Nat} {v : Value} {n : Nat} {xs : List Value} (h : RowC κ c w e z v n xs) : ∀ g, v.ownBlock = some g → ∃ cs fz, w.heap[g]? = some (.cells cs e fz) := by
  intro g hv
  rcases h.own.2 with ⟨h1, _⟩ | ⟨g', cap, cur, h1, hg, hh, _⟩
  · rw [h1] at hv; cases hv
  · rw [h1] at hv
    obtain rfl : g' = g := by simpa [Value.ownBlock] using hv
    exact ⟨_, _, hh⟩
theorem new_cells (w : World) (cs : List Value) (e : TypeId) : ∀ j u, cs[j]? = some u → (w.alloc (.cells cs.toArray e)).cell? ((⟨w.heap.size, 0, none⟩ : Addr).add j) = some u := by
  intro j u hj
  have h1 : (w.alloc (.cells cs.toArray e)).heap[w.heap.size]? = some (.cells cs.toArray e (0, 0)) := Go.Deep.blk_alloc_new _ _
  rw [Addr.add_lit, Nat.zero_add]
  simp only [World.cell?, h1]
  simp [hj]
theorem Step.trans {κ κ1 κ2 : Nat → Nat} {c : Nat} {w w1 w2 : World} (h : Step κ c w w1 κ1) (k : Step κ1 c w1 w2 κ2) : Step κ c w w2 κ2 :=
  ⟨k.os.trans h.os, k.tape.trans h.tape, k.output.trans h.output, Nat.le_trans h.size k.size, fun b hb hc => (k.block b (Nat.lt_of_lt_of_le hb h.size) (by rw [h.col b hb]; exact hc)).trans (h.block b hb hc), fun b hb => (k.col b (Nat.lt_of_lt_of_le hb h.size)).trans (h.col b hb)⟩
theorem Step.drew {κ κ1 : Nat → Nat} {c : Nat} {w w1 : World} (h : Step κ c w w1 κ1) : Step κ c w w1.drew κ1 := ⟨h.os, h.tape, h.output, h.size, h.block, h.col⟩
theorem RowC.drew {κ : Nat → Nat} {c : Nat} {w : World} {e : TypeId} {z : Nat} {v : Value} {n : Nat} {xs : List Value} (h : RowC κ c w e z v n xs) : RowC κ c w.drew e z v n xs := ⟨ownsRow_keep h.own fun _ _ => rfl, h.col⟩
theorem paint_paint (κ : Nat → Nat) (s t c k : Nat) (h : s ≤ t) : paint (paint κ s c) t c k = paint κ s c k := by
  unfold paint
  by_cases h1 : k < t
  · rw [if_pos h1]
  · rw [if_neg h1, if_neg (by omega)]
theorem one_of {l : List Value} (h : l.all (fun u => u.oneCell') = true) : ∀ u ∈ l, u.oneCell' = true := fun u hu => List.all_eq_true.1 h u hu
/-- What an append leaves. -/
theorem pushed {κ : Nat → Nat} {c : Nat} {w W0 w' : World} {e : TypeId} {z n g cap : Nat} {v : Value} {xs ys : List Value} (h : RowC κ c w e z v n xs) (hW : Below w.heap.size w W0)
    (h1 : w'.ownsRow 0 e z (.slice (some ⟨g, 0, none⟩) (n + 1) cap) (n + 1) ys) (h2 : W0.grownBy w' v.ownBlock) (h3 : v.ownBlock = some g ∨ g = W0.heap.size) :
    RowC (paint κ w.heap.size c) c w' e z (.slice (some ⟨g, 0, none⟩) (n + 1) cap) (n + 1) ys ∧ Step κ c w w' (paint κ w.heap.size c) := by
  have hs := hW.size
  refine ⟨⟨h1, fun b hb => ?_⟩, h2.os.trans hW.os, h2.tape.trans hW.tape, h2.output.trans hW.output, Nat.le_trans hs h2.size, fun k hk hc => ?_, fun k hk => paint_old _ _ _ _ hk⟩
  · have hg : b = g := by simpa [Value.ownBlock] using hb.symm
    subst hg
    rcases h3 with h3 | h3
    · obtain ⟨k1, k2⟩ := h.lt b h3
      rw [paint_old _ _ _ _ k1]
      exact k2
    · exact paint_new _ _ _ _ (by omega)
  · refine (h2.block k (by omega) fun e => hc (h.col k e.symm)).trans (hW.block k hk)
/-- 'append(v, x)' of one element, whose cells lie in a new block. -/
theorem wpList_pushC {ops : Array Oper} {rest : List Oper} {o : Oper} {a : Act} {Q : Exit → Act → World → Prop} {w : World} (hgd : o.guard = none) (s x : Operand) (t e : TypeId)
    (ho : o.op = .call { callee := .builtin .append, args := #[s, x], argTypes := #[t, t] }) (i : TypeInfo) (zv : Value) (z bytes : Nat) (ht : Try.prog.underlying t = some (.slice e)) (hi : Try.prog.info? e = some i) (hz : i.zero = some zv)
    (hsize : i.size = z) (hby : i.bytes = bytes) (hzs : zv.cells.size = z) (hz0 : 0 < z) (κ : Nat → Nat) (c : Nat) (v : Value) (n : Nat) (xs : List Value) (hs : a.eval s = v) (h : RowC κ c w e z v n xs) (cs : List Value) (hcs : cs.length = z) (h1 : ∀ u ∈ cs, u.oneCell' = true)
    (hx : a.eval x = .slice (some ⟨w.heap.size, 0, none⟩) 1 1) (hb : (n + 1) * bytes ≤ 140737488355328) (hb2 : n + 1 ≤ 140737488355328)
    (hk : ∀ g cap w', RowC (paint κ w.heap.size c) c w' e z (.slice (some ⟨g, 0, none⟩) (n + 1) cap) (n + 1) (xs ++ cs) → Step κ c w w' (paint κ w.heap.size c) → wpList Try.prog ops Q rest (a.put o.dst (.slice (some ⟨g, 0, none⟩) (n + 1) cap)) w') :
    wpList Try.prog ops Q (o :: rest) a (w.alloc (.cells cs.toArray e)) := by
  refine wpList_append_lies _ hgd s x t ho 0 e i zv z bytes ht hi hz hsize hby hzs hz0 v n xs hs (h.own.alloc _) ⟨w.heap.size, 0, none⟩ 1 1 cs hx (by rw [hcs, Nat.one_mul]) (new_cells w cs e) h1 (by omega) (by unfold maxLen; omega) hb (by omega) _ rfl ?_
  intro g cap w' h2 h3 h4 _
  obtain ⟨k1, k2⟩ := pushed h ((Below.refl _ _).alloc (Nat.le_refl _) _) h2 h3 h4
  exact hk g cap w' k1 k2
/-- The same at a step of a region that draws its order. -/
theorem step_pushC {ops : Array Oper} {o : Oper} {a : Act} {K : Act → World → Prop} {Q : Exit → Act → World → Prop} {E : Prop} {w W0 : World} (hgd : o.guard = none) (s x : Operand) (t e : TypeId)
    (ho : o.op = .call { callee := .builtin .append, args := #[s, x], argTypes := #[t, t] }) (i : TypeInfo) (zv : Value) (z bytes : Nat) (ht : Try.prog.underlying t = some (.slice e)) (hi : Try.prog.info? e = some i) (hz : i.zero = some zv)
    (hsize : i.size = z) (hby : i.bytes = bytes) (hzs : zv.cells.size = z) (hz0 : 0 < z) (κ : Nat → Nat) (c : Nat) (v : Value) (n : Nat) (xs : List Value) (hs : a.eval s = v) (h : RowC κ c w e z v n xs) (hW : Below w.heap.size w W0) (cs : List Value) (hcs : cs.length = z) (h1 : ∀ u ∈ cs, u.oneCell' = true)
    (ad : Addr) (hnews : ∀ j u, cs[j]? = some u → W0.cell? (ad.add j) = some u) (hx : a.eval x = .slice (some ad) 1 1) (hb : (n + 1) * bytes ≤ 140737488355328) (hb2 : n + 1 ≤ 140737488355328)
    (hk : ∀ g cap w', RowC (paint κ w.heap.size c) c w' e z (.slice (some ⟨g, 0, none⟩) (n + 1) cap) (n + 1) (xs ++ cs) → Step κ c w w' (paint κ w.heap.size c) → K (a.put o.dst (.slice (some ⟨g, 0, none⟩) (n + 1) cap)) w') :
    if Region.wanted o (yielded ops a.tmps) = true then Oper.wp Try.prog o a W0 K Q else E := by
  refine step_append_lies _ hgd s x t ho 0 e i zv z bytes ht hi hz hsize hby hzs hz0 v n xs hs (ownsRow_keep h.own fun k hk => hW.block k (h.lt k hk).1) ad 1 1 cs hx (by rw [hcs, Nat.one_mul]) hnews h1 (by omega) (by unfold maxLen; omega) hb (by omega) _ rfl ?_
  intro g cap w' h2 h3 h4 _
  obtain ⟨k1, k2⟩ := pushed h hW h2 h3 h4
  exact hk g cap w' k1 k2
end Go.Proofs.Ytdcofdndkpmpaaa

/-
  Rows of arcs made lead by lead: the same as byte by byte. Walks whose states lead by stretches of bytes.
-/
namespace Go.Proofs.Ytdcofdndkpmpaaa
namespace Au
variable {σ τ : Type}

/-- An arc behind others; or the last one goes on, if both lead to the same side by side. -/
def joined (l : List Arc) (lo hi k : Nat) : List Arc :=
  match l.getLast? with
  | some a => if a.to = (k : Int) ∧ a.hi + 1 = (lo : Int) then l.dropLast ++ [⟨a.lo, hi, k⟩] else l ++ [⟨lo, hi, k⟩]
  | none => [⟨lo, hi, k⟩]
theorem joined_nil (lo hi k : Nat) : joined [] lo hi k = [⟨lo, hi, k⟩] := rfl
theorem joined_snoc (r : List Arc) (a : Arc) (lo hi k : Nat) : joined (r ++ [a]) lo hi k = if a.to = (k : Int) ∧ a.hi + 1 = (lo : Int) then r ++ [⟨a.lo, hi, k⟩] else r ++ [a] ++ [⟨lo, hi, k⟩] := by
  unfold joined
  simp
theorem joined_one (l : List Arc) (lo k : Nat) : joined l lo lo k = grown l lo k := by
  rcases last_cases l with rfl | ⟨r, a, rfl⟩
  · rfl
  · rw [joined_snoc, grown_snoc]
    by_cases h : a.to = (k : Int) ∧ a.hi + 1 = (lo : Int)
    · rw [if_pos h, if_pos ⟨by omega, h.1⟩]
    · rw [if_neg h, if_neg (fun e => h ⟨e.2, by omega⟩)]
theorem grown_joined (l : List Arc) (lo hi k : Nat) : grown (joined l lo hi k) (hi + 1) k = joined l lo (hi + 1) k := by
  rcases last_cases l with rfl | ⟨r, a, rfl⟩
  · rw [joined_nil, joined_nil, show [(⟨(lo : Int), (hi : Int), (k : Int)⟩ : Arc)] = [] ++ [⟨lo, hi, k⟩] from rfl, grown_snoc, if_pos ⟨by dsimp only; omega, rfl⟩]
    rfl
  · rw [joined_snoc, joined_snoc]
    by_cases h : a.to = (k : Int) ∧ a.hi + 1 = (lo : Int)
    · rw [if_pos h, if_pos h, grown_snoc, if_pos ⟨by dsimp only; omega, rfl⟩]
    · rw [if_neg h, if_neg h, grown_snoc, if_pos ⟨by dsimp only; omega, rfl⟩]

/-- A stretch of bytes, and the state to which they lead. -/
structure Trail (σ : Type) where
  lo : Nat
  hi : Nat
  to : σ
/-- The leads of a state, from byte c on: rising; by no other byte anything is led to. -/
def Leads (W : Walk σ) (s : σ) : Nat → List (Trail σ) → Prop
  | c, [] => ∀ x, c ≤ x → x < 256 → W.go s x = none
  | c, l :: r => c ≤ l.lo ∧ l.lo ≤ l.hi ∧ l.hi < 256 ∧ (∀ x, c ≤ x → x < l.lo → W.go s x = none) ∧ (∀ x, l.lo ≤ x → x ≤ l.hi → W.go s x = some l.to) ∧ Leads W s (l.hi + 1) r
/-- One lead of a state. -/
def Walk.lead (W : Walk σ) (p : List σ × List Arc) (l : Trail σ) : List σ × List Arc :=
  (if find W.same p.1 l.to = p.1.length then p.1 ++ [l.to] else p.1, joined p.2 l.lo l.hi (find W.same p.1 l.to))
theorem bytes_skip (W : Walk σ) (s : σ) (m : List σ) (c d : Nat) (h : ∀ x, c ≤ x → x < c + d → W.go s x = none) : W.bytes s m (c + d) = W.bytes s m c := by
  induction d with
  | zero => rfl
  | succ d ih =>
    rw [← Nat.add_assoc, Walk.bytes]
    unfold Walk.byte
    rw [h (c + d) (by omega) (by omega)]
    exact ih fun x h1 h2 => h x h1 (by omega)
theorem find_self (W : Walk σ) (hr : ∀ s, W.same s s = true) (m : List σ) (t : σ) : find W.same (if find W.same m t = m.length then m ++ [t] else m) t = find W.same m t := by
  by_cases h : find W.same m t = m.length
  · rw [if_pos h, find_snoc _ hr _ _ h, h]
  · rw [if_neg h]
theorem bytes_run (W : Walk σ) (hr : ∀ s, W.same s s = true) (s t : σ) (m : List σ) (lo d : Nat) (h : ∀ x, lo ≤ x → x ≤ lo + d → W.go s x = some t) : W.bytes s m (lo + d + 1) = W.lead (W.bytes s m lo) ⟨lo, lo + d, t⟩ := by
  induction d with
  | zero =>
    rw [Nat.add_zero, Walk.bytes]
    unfold Walk.byte Walk.lead
    rw [h lo (Nat.le_refl _) (by omega)]
    dsimp only
    rw [Nat.add_zero, joined_one]
  | succ d ih =>
    have e : lo + (d + 1) + 1 = (lo + d + 1) + 1 := by omega
    rw [e, Walk.bytes, ih fun x h1 h2 => h x h1 (by omega)]
    unfold Walk.byte Walk.lead
    rw [h (lo + d + 1) (by omega) (by omega)]
    dsimp only
    rw [find_self W hr]
    have e2 : ¬ find W.same (W.bytes s m lo).1 t = (if find W.same (W.bytes s m lo).1 t = (W.bytes s m lo).1.length then (W.bytes s m lo).1 ++ [t] else (W.bytes s m lo).1).length ∨ False := by
      left
      have := find_le W.same (W.bytes s m lo).1 t
      by_cases h : find W.same (W.bytes s m lo).1 t = (W.bytes s m lo).1.length
      · rw [if_pos h, List.length_append]; simp; omega
      · rw [if_neg h]; omega
    rw [if_neg (by rcases e2 with e2 | e2; exact e2; exact e2.elim)]
    rw [show lo + (d + 1) = (lo + d) + 1 from by omega, ← grown_joined]
/-- All leads are all bytes. -/
theorem leads_bytes (W : Walk σ) (hr : ∀ s, W.same s s = true) (s : σ) (m : List σ) (L : List (Trail σ)) : ∀ c, c ≤ 256 → Leads W s c L → L.foldl W.lead (W.bytes s m c) = W.bytes s m 256 := by
  induction L with
  | nil =>
    intro c hc h
    obtain ⟨d, hd⟩ : ∃ d, 256 = c + d := ⟨256 - c, by omega⟩
    rw [hd, bytes_skip W s m c d fun x h1 h2 => h x h1 (by omega)]
    rfl
  | cons l r ih =>
    intro c hc h
    obtain ⟨h1, h2, h3, h4, h5, h6⟩ := h
    obtain ⟨d, hd⟩ : ∃ d, l.lo = c + d := ⟨l.lo - c, by omega⟩
    obtain ⟨e, he⟩ : ∃ e, l.hi = l.lo + e := ⟨l.hi - l.lo, by omega⟩
    have k1 : W.bytes s m l.lo = W.bytes s m c := by rw [hd]; exact bytes_skip W s m c d fun x g1 g2 => h4 x g1 (by omega)
    have k2 : W.bytes s m (l.hi + 1) = W.lead (W.bytes s m c) l := by
      rw [he, bytes_run W hr s l.to m l.lo e fun x g1 g2 => h5 x g1 (by omega), k1, ← he]
    rw [List.foldl_cons, ← k2]
    exact ih _ (by omega) h6
/-- A row of leads makes the walk's next row. -/
theorem leads_row (W : Walk σ) (hr : ∀ s, W.same s s = true) (s : σ) (m : List σ) (L : List (Trail σ)) (h : Leads W s 0 L) : L.foldl W.lead (m, []) = W.bytes s m 256 :=
  leads_bytes W hr s m L 0 (by omega) h
/-- The first k leads. -/
def Walk.leads (W : Walk σ) (m : List σ) (L : List (Trail σ)) (k : Nat) : List σ × List Arc := (L.take k).foldl W.lead (m, [])
theorem leads_zero (W : Walk σ) (m : List σ) (L : List (Trail σ)) : W.leads m L 0 = (m, []) := by simp [Walk.leads]
theorem leads_succ (W : Walk σ) (m : List σ) (L : List (Trail σ)) (k : Nat) (h : k < L.length) : W.leads m L (k + 1) = W.lead (W.leads m L k) L[k] := by
  unfold Walk.leads
  rw [List.take_succ_eq_append_getElem h, List.foldl_append]
  rfl
theorem leads_all (W : Walk σ) (hr : ∀ s, W.same s s = true) (s : σ) (m : List σ) (L : List (Trail σ)) (h : Leads W s 0 L) : W.leads m L L.length = W.bytes s m 256 := by
  unfold Walk.leads
  rw [List.take_length]
  exact leads_row W hr s m L h
theorem lead_grows (W : Walk σ) (p : List σ × List Arc) (l : Trail σ) : ∃ r, (W.lead p l).1 = p.1 ++ r := by
  unfold Walk.lead
  by_cases h : find W.same p.1 l.to = p.1.length
  · exact ⟨[l.to], by dsimp only; rw [if_pos h]⟩
  · exact ⟨[], by dsimp only; rw [if_neg h, List.append_nil]⟩
theorem leads_grows (W : Walk σ) (m : List σ) (L : List (Trail σ)) (k : Nat) : ∃ r, (W.leads m L k).1 = m ++ r := by
  induction k with
  | zero => exact ⟨[], by rw [leads_zero, List.append_nil]⟩
  | succ k ih =>
    by_cases h : k < L.length
    · obtain ⟨r, hr⟩ := ih
      obtain ⟨t, ht⟩ := lead_grows W (W.leads m L k) L[k]
      exact ⟨r ++ t, by rw [leads_succ W m L k h, ht, hr, List.append_assoc]⟩
    · have e : W.leads m L (k + 1) = W.leads m L k := by
        unfold Walk.leads
        rw [List.take_of_length_le (by omega), List.take_of_length_le (by omega)]
      rw [e]; exact ih
theorem lead_arcs (W : Walk σ) (p : List σ × List Arc) (l : Trail σ) : (W.lead p l).2.length ≤ p.2.length + 1 := by
  show (joined p.2 l.lo l.hi _).length ≤ _
  rcases last_cases p.2 with h | ⟨r, a, h⟩
  · rw [h, joined_nil]; simp
  · rw [h, joined_snoc]
    split <;> simp
theorem leads_arcs (W : Walk σ) (m : List σ) (L : List (Trail σ)) (k : Nat) : (W.leads m L k).2.length ≤ k := by
  induction k with
  | zero => rw [leads_zero]; exact Nat.le_refl _
  | succ k ih =>
    by_cases h : k < L.length
    · rw [leads_succ W m L k h]
      have := lead_arcs W (W.leads m L k) L[k]
      omega
    · have e : W.leads m L (k + 1) = W.leads m L k := by
        unfold Walk.leads
        rw [List.take_of_length_le (by omega), List.take_of_length_le (by omega)]
      rw [e]; omega
/-- No more leads than bytes. -/
theorem Leads.few {W : Walk σ} {s : σ} {L : List (Trail σ)} : ∀ {c : Nat}, c ≤ 256 → Leads W s c L → L.length + c ≤ 256 := by
  induction L with
  | nil => intro c hc _; simpa using hc
  | cons l r ih =>
    intro c hc h
    obtain ⟨h1, h2, h3, _, _, h6⟩ := h
    have := ih (by omega) h6
    simp only [List.length_cons]
    omega
/-- How a loop over the leads met so far ends: what it says is a walk's next row. -/
theorem states_leads (W : Walk σ) (hr : ∀ s, W.same s s = true) (s a : σ) (i : Nat) (ha : (W.met s i)[i]? = some a) (L : List (Trail σ)) (h : Leads W a 0 L) :
    (W.leads (W.met s i) L L.length).1 = W.met s (i + 1) ∧ W.out s i ++ [⟨W.fin a, (W.leads (W.met s i) L L.length).2⟩] = W.out s (i + 1) := by
  rw [leads_all W hr a _ L h]
  unfold Walk.met Walk.out at *
  simp only [Walk.states]
  rw [ha]
  exact ⟨rfl, rfl⟩
end Au
end Go.Proofs.Ytdcofdndkpmpaaa

/-
  States in classes, plainly: a class is split in two, its states told by where they stand; what is kept by it.
-/
namespace Go.Proofs.Ytdcofdndkpmpaaa
namespace Au

/-- States in classes: of each state its class (-1: none) and its place in it; the classes' states; which wait. -/
structure Cls where
  of : Nat → Int
  pos : Nat → Nat
  mem : List (List Nat)
  waits : List Bool
  wq : List Nat
def Cls.row (C : Cls) (c : Nat) : List Nat := C.mem.getD c []
/-- Its states but T stand where they are told to. -/
structure OkBut (n : Nat) (C : Cls) (T : List Nat) : Prop where
  mem : ∀ (c i s : Nat), (C.row c)[i]? = some s → s < n ∧ C.of s = (c : Int) ∧ C.pos s = i ∧ s ∉ T
  of : ∀ s, s < n → s ∉ T → C.of s = -1 ∨ ∃ c : Nat, C.of s = (c : Int) ∧ (C.row c)[C.pos s]? = some s
/-- The last state comes into the place of one that is taken out. -/
def Cls.takeOut (C : Cls) (c s : Nat) : Cls :=
  { C with
    pos := fun j => if j = (C.row c).getD ((C.row c).length - 1) 0 then C.pos s else C.pos j
    mem := C.mem.set c (((C.row c).set (C.pos s) ((C.row c).getD ((C.row c).length - 1) 0)).take ((C.row c).length - 1)) }
/-- A class more. -/
def Cls.found (C : Cls) (l : List Nat) : Cls :=
  { C with
    of := fun j => if j ∈ l then (C.mem.length : Int) else C.of j
    pos := fun j => if j ∈ l then l.idxOf j else C.pos j
    mem := C.mem ++ [l]
    waits := C.waits ++ [false] }
def Cls.wait (C : Cls) (c : Nat) : Cls := { C with waits := C.waits.set c true, wq := C.wq ++ [c] }
/-- Some of a class's states are taken out. -/
def Cls.out (C : Cls) (c : Nat) (l : List Nat) : Cls := l.foldl (fun C s => C.takeOut c s) C
def Cls.split (C : Cls) (c : Nat) (l : List Nat) : Cls :=
  if ((C.out c l).found l).waits.getD c false = false ∧ (((C.out c l).found l).row c).length < l.length then ((C.out c l).found l).wait c
  else ((C.out c l).found l).wait C.mem.length

theorem row_set (C : Cls) (c : Nat) (r : List Nat) (hc : c < C.mem.length) (c' : Nat) : ({ C with mem := C.mem.set c r } : Cls).row c' = if c' = c then r else C.row c' := by
  unfold Cls.row
  by_cases h : c' = c
  · subst h
    simp [List.getD, hc]
  · simp [List.getD, h, Ne.symm h]
theorem row_lt {C : Cls} {c i s : Nat} (h : (C.row c)[i]? = some s) : c < C.mem.length := by
  rcases Nat.lt_or_ge c C.mem.length with h1 | h1
  · exact h1
  · unfold Cls.row at h
    simp [List.getD, List.getElem?_eq_none h1] at h
theorem takeOut_row (C : Cls) (c s c' : Nat) (hc : c < C.mem.length) : (C.takeOut c s).row c' = if c' = c then ((C.row c).set (C.pos s) ((C.row c).getD ((C.row c).length - 1) 0)).take ((C.row c).length - 1) else C.row c' := by
  unfold Cls.takeOut
  exact row_set { C with pos := _ } c _ hc c'
theorem takeOut_ok {n : Nat} {C : Cls} {T : List Nat} (h : OkBut n C T) (c s : Nat) (hs : s < n) (hT : s ∉ T) (hc : C.of s = (c : Int)) :
    OkBut n (C.takeOut c s) (s :: T) ∧ ((C.takeOut c s).row c).length + 1 = (C.row c).length := by
  obtain ⟨hp, hcl⟩ : (C.row c)[C.pos s]? = some s ∧ c < C.mem.length := by
    rcases h.of s hs hT with e | ⟨c2, e, h2⟩
    · omega
    · obtain rfl : c2 = c := by omega
      exact ⟨h2, row_lt h2⟩
  obtain ⟨hpl, hpe⟩ := List.getElem?_eq_some_iff.1 hp
  have hrow := fun c' => takeOut_row C c s c' hcl
  have hlast : (C.row c)[(C.row c).length - 1]? = some ((C.row c).getD ((C.row c).length - 1) 0) := by
    rw [List.getD_eq_getElem?_getD, List.getElem?_eq_getElem (by omega)]
    rfl
  have hpos : ∀ j, (C.takeOut c s).pos j = if j = (C.row c).getD ((C.row c).length - 1) 0 then C.pos s else C.pos j := fun _ => rfl
  have hof : ∀ j, (C.takeOut c s).of j = C.of j := fun _ => rfl
  generalize hm : (C.row c).getD ((C.row c).length - 1) 0 = mv at *
  obtain ⟨m1, m2, m3, m4⟩ := h.mem c _ mv hlast
  have hget : ∀ i, (((C.row c).set (C.pos s) mv).take ((C.row c).length - 1))[i]? = if i < (C.row c).length - 1 then (if i = C.pos s then some mv else (C.row c)[i]?) else none := by
    intro i
    rw [List.getElem?_take]
    split
    · rw [List.getElem?_set]
      by_cases e : C.pos s = i
      · rw [if_pos e, if_pos e.symm, if_pos (by omega)]
      · rw [if_neg e, if_neg (Ne.symm e)]
    · rfl
  refine ⟨⟨fun c' i x hx => ?_, fun x hx hxT => ?_⟩, ?_⟩
  · rw [hrow] at hx
    rw [hpos, hof]
    by_cases hcc : c' = c
    · subst hcc
      rw [if_pos rfl, hget] at hx
      split at hx
      · rename_i hi
        split at hx
        · rename_i hip
          cases hx
          refine ⟨m1, m2, by rw [if_pos rfl, hip], ?_⟩
          rw [List.mem_cons]
          rintro (e | e)
          · rw [e] at m3; omega
          · exact m4 e
        · rename_i hip
          obtain ⟨x1, x2, x3, x4⟩ := h.mem _ _ _ hx
          refine ⟨x1, x2, ?_, ?_⟩
          · rw [if_neg]
            · exact x3
            · rintro rfl; omega
          · rw [List.mem_cons]
            rintro (rfl | e)
            · omega
            · exact x4 e
      · cases hx
    · rw [if_neg hcc] at hx
      obtain ⟨x1, x2, x3, x4⟩ := h.mem _ _ _ hx
      refine ⟨x1, x2, ?_, ?_⟩
      · rw [if_neg]
        · exact x3
        · rintro rfl; omega
      · rw [List.mem_cons]
        rintro (rfl | e)
        · omega
        · exact x4 e
  · rw [List.mem_cons, not_or] at hxT
    rw [hof]
    rcases h.of x hx hxT.2 with e | ⟨c2, e, h2⟩
    · exact .inl e
    · right
      refine ⟨c2, e, ?_⟩
      rw [hrow, hpos]
      by_cases hcc : c2 = c
      · subst hcc
        obtain ⟨_, _, _, _⟩ := h.mem _ _ _ h2
        obtain ⟨hxl, hxe⟩ := List.getElem?_eq_some_iff.1 h2
        rw [if_pos rfl, hget]
        by_cases hxm : x = mv
        · subst hxm
          rw [if_pos rfl]
          have : C.pos s ≠ (C.row c2).length - 1 := by
            intro e2
            rw [e2, hlast] at hp
            cases hp
            exact hxT.1 rfl
          rw [if_pos (by omega), if_pos rfl]
        · rw [if_neg hxm]
          have k1 : C.pos x ≠ (C.row c2).length - 1 := by
            intro e2
            rw [e2, hlast] at h2
            cases h2
            exact hxm rfl
          have k2 : C.pos x ≠ C.pos s := by
            intro e2
            rw [e2, hp] at h2
            cases h2
            exact hxT.1 rfl
          rw [if_pos (by omega), if_neg k2]
          exact h2
      · rw [if_neg hcc, if_neg]
        · exact h2
        · rintro rfl; omega
  · rw [hrow, if_pos rfl, List.length_take, List.length_set]
    omega
theorem out_ok {n : Nat} (c : Nat) (l : List Nat) : ∀ (C : Cls) (T : List Nat), OkBut n C T → l.Nodup → (∀ s ∈ l, s < n ∧ s ∉ T ∧ C.of s = (c : Int)) →
    OkBut n (C.out c l) (l.reverse ++ T) ∧ ((C.out c l).row c).length + l.length = (C.row c).length ∧ (C.out c l).of = C.of ∧ (C.out c l).waits = C.waits ∧ (C.out c l).wq = C.wq ∧ (C.out c l).mem.length = C.mem.length ∧ (∀ c', c' ≠ c → (C.out c l).row c' = C.row c') := by
  induction l with
  | nil => intro C T h _ _; exact ⟨by simpa [Cls.out] using h, by simp [Cls.out], rfl, rfl, rfl, rfl, fun _ _ => rfl⟩
  | cons s r ih =>
    intro C T h hn hl
    rw [List.nodup_cons] at hn
    obtain ⟨h1, h2, h3⟩ := hl s (List.mem_cons_self ..)
    obtain ⟨k1, k2⟩ := takeOut_ok h c s h1 h2 h3
    have hcl : c < C.mem.length := by
      rcases h.of s h1 h2 with e | ⟨c2, e, h4⟩
      · omega
      · obtain rfl : c2 = c := by omega
        exact row_lt h4
    obtain ⟨j1, j2, j3, j4, j5, j6, j7⟩ := ih (C.takeOut c s) (s :: T) k1 hn.2 fun x hx => by
      obtain ⟨g1, g2, g3⟩ := hl x (List.mem_cons_of_mem _ hx)
      refine ⟨g1, ?_, g3⟩
      rw [List.mem_cons, not_or]
      exact ⟨fun e => hn.1 (e ▸ hx), g2⟩
    refine ⟨by simpa [Cls.out] using j1, ?_, j3, j4, j5, ?_, fun c' hc' => ?_⟩
    · have : (C.out c (s :: r)) = (C.takeOut c s).out c r := rfl
      rw [this, List.length_cons]
      omega
    · have : (C.out c (s :: r)) = (C.takeOut c s).out c r := rfl
      rw [this, j6]
      simp [Cls.takeOut]
    · have : (C.out c (s :: r)) = (C.takeOut c s).out c r := rfl
      rw [this, j7 c' hc', takeOut_row C c s c' hcl, if_neg hc']
theorem found_row (C : Cls) (l : List Nat) (c : Nat) : (C.found l).row c = if c = C.mem.length then l else C.row c := by
  unfold Cls.found Cls.row
  by_cases h : c = C.mem.length
  · subst h
    simp [List.getD]
  · rw [if_neg h]
    rcases Nat.lt_or_ge c C.mem.length with h1 | h1
    · simp [List.getD, List.getElem?_append_left h1]
    · simp only [List.getD]
      rw [List.getElem?_eq_none (by simp; omega), List.getElem?_eq_none h1]
theorem idxOf_at {l : List Nat} (hn : l.Nodup) {i x : Nat} (h : l[i]? = some x) : l.idxOf x = i := by
  obtain ⟨hl, rfl⟩ := List.getElem?_eq_some_iff.1 h
  induction l generalizing i with
  | nil => simp at hl
  | cons a r ih =>
    rw [List.nodup_cons] at hn
    cases i with
    | zero => simp
    | succ i =>
      simp only [List.length_cons, Nat.add_lt_add_iff_right] at hl
      have hne : ¬ a = r[i] := fun e => hn.1 (e ▸ List.getElem_mem hl)
      simp only [List.getElem_cons_succ]
      have hb : (a == r[i]) = false := beq_eq_false_iff_ne.2 hne
      have := ih hn.2 hl (List.getElem?_eq_getElem hl)
      rw [List.idxOf_cons, hb, this]
      rfl
theorem at_idxOf {l : List Nat} {x : Nat} (h : x ∈ l) : l[l.idxOf x]? = some x := by
  have := List.idxOf_lt_length_iff.2 h
  rw [List.getElem?_eq_getElem this]
  simp
theorem found_ok {n : Nat} {C : Cls} {T : List Nat} (h : OkBut n C T) (l : List Nat) (hn : l.Nodup) (hT : ∀ s, s ∈ l ↔ s ∈ T) (hl : ∀ s ∈ l, s < n) : OkBut n (C.found l) [] := by
  have hof : ∀ j, (C.found l).of j = if j ∈ l then (C.mem.length : Int) else C.of j := fun _ => rfl
  have hpos : ∀ j, (C.found l).pos j = if j ∈ l then l.idxOf j else C.pos j := fun _ => rfl
  refine ⟨fun c i x hx => ?_, fun x hx _ => ?_⟩
  · rw [found_row] at hx
    rw [hof, hpos]
    by_cases hc : c = C.mem.length
    · rw [if_pos hc] at hx
      obtain ⟨hxl, hxe⟩ := List.getElem?_eq_some_iff.1 hx
      have hm : x ∈ l := hxe ▸ List.getElem_mem hxl
      rw [if_pos hm, if_pos hm]
      exact ⟨hl x hm, by omega, idxOf_at hn hx, by simp⟩
    · rw [if_neg hc] at hx
      obtain ⟨x1, x2, x3, x4⟩ := h.mem _ _ _ hx
      have hm : x ∉ l := fun e => x4 ((hT x).1 e)
      rw [if_neg hm, if_neg hm]
      exact ⟨x1, x2, x3, by simp⟩
  · rw [hof, hpos]
    by_cases hm : x ∈ l
    · right
      refine ⟨C.mem.length, by rw [if_pos hm], ?_⟩
      rw [found_row, if_pos rfl, if_pos hm]
      exact at_idxOf hm
    · rw [if_neg hm, if_neg hm]
      rcases h.of x hx (fun e => hm ((hT x).2 e)) with e | ⟨c, e, h2⟩
      · exact .inl e
      · right
        refine ⟨c, e, ?_⟩
        have := row_lt h2
        rw [found_row, if_neg (by omega)]
        exact h2
/-- What the waiting classes are. -/
structure WaitOk (C : Cls) : Prop where
  len : C.waits.length = C.mem.length
  wq : ∀ c, c ∈ C.wq ↔ C.waits[c]? = some true
  nodup : C.wq.Nodup
theorem WaitOk.lt {C : Cls} (h : WaitOk C) {c : Nat} (hc : c ∈ C.wq) : c < C.mem.length := by
  have := (h.wq c).1 hc
  rw [← h.len]
  exact (List.getElem?_eq_some_iff.1 this).1
theorem found_wait {C : Cls} (h : WaitOk C) (l : List Nat) : WaitOk (C.found l) := by
  refine ⟨by simp [Cls.found, h.len], fun c => ?_, h.nodup⟩
  show c ∈ C.wq ↔ (C.waits ++ [false])[c]? = some true
  rw [h.wq c]
  rcases Nat.lt_or_ge c C.waits.length with h1 | h1
  · rw [List.getElem?_append_left h1]
  · rw [List.getElem?_eq_none h1, List.getElem?_append_right h1]
    constructor
    · intro e; cases e
    · intro e
      cases hk : c - C.waits.length with
      | zero => rw [hk] at e; simp at e
      | succ k => rw [hk] at e; simp at e
theorem wait_wait {C : Cls} (h : WaitOk C) (c : Nat) (hc : c < C.mem.length) (hw : C.waits.getD c false = false) : WaitOk (C.wait c) := by
  have hl := h.len
  have hcw : C.waits[c]? = some false := by
    rw [List.getElem?_eq_getElem (by omega)]
    have : C.waits.getD c false = C.waits[c]'(by omega) := by simp [List.getD, List.getElem?_eq_getElem (show c < C.waits.length by omega)]
    rw [← this, hw]
  refine ⟨by simp [Cls.wait, hl], fun x => ?_, ?_⟩
  · show x ∈ C.wq ++ [c] ↔ (C.waits.set c true)[x]? = some true
    rw [List.mem_append, List.mem_singleton, h.wq x, List.getElem?_set]
    by_cases e : c = x
    · subst e
      rw [if_pos rfl, if_pos (by omega)]
      simp
    · rw [if_neg e]
      constructor
      · rintro (k | k)
        · exact k
        · exact absurd k.symm e
      · exact .inl
  · show (C.wq ++ [c]).Nodup
    rw [List.nodup_append]
    refine ⟨h.nodup, by simp, fun a ha b hb => ?_⟩
    rw [List.mem_singleton] at hb
    subst hb
    rintro rfl
    have := (h.wq a).1 ha
    rw [hcw] at this
    cases this
/-- What a split leaves. -/
theorem split_ok {n : Nat} {C : Cls} (h : OkBut n C []) (hw : WaitOk C) (c : Nat) (l : List Nat) (hn : l.Nodup) (hl : ∀ s ∈ l, s < n ∧ C.of s = (c : Int)) (h0 : 0 < l.length) :
    OkBut n (C.split c l) [] ∧ WaitOk (C.split c l) ∧ (C.split c l).mem.length = C.mem.length + 1 ∧ (∀ j, (C.split c l).of j = if j ∈ l then (C.mem.length : Int) else C.of j) ∧
    (∃ x, (C.split c l).wq = C.wq ++ [x] ∧ ((x = C.mem.length) ∨ (x = c ∧ c ∉ C.wq))) ∧
    (∀ c', (C.split c l).row c' = if c' = C.mem.length then l else (C.out c l).row c') ∧ ((C.out c l).row c).length + l.length = (C.row c).length ∧ (∀ c', c' ≠ c → (C.out c l).row c' = C.row c') ∧ c < C.mem.length := by
  obtain ⟨o1, o2, o3, o4, o5, o6, o7⟩ := out_ok (n := n) c l C [] h hn fun s hs => ⟨(hl s hs).1, by simp, (hl s hs).2⟩
  rw [List.append_nil] at o1
  have hcl : c < C.mem.length := by
    obtain ⟨s, hs⟩ := List.exists_mem_of_length_pos h0
    rcases h.of s (hl s hs).1 (by simp) with e | ⟨c2, e, h4⟩
    · have := (hl s hs).2; omega
    · have := (hl s hs).2
      obtain rfl : c2 = c := by omega
      exact row_lt h4
  have f1 := found_ok o1 l hn (fun s => by simp) fun s hs => (hl s hs).1
  have w0 : WaitOk (C.out c l) := ⟨by rw [o4, o6]; exact hw.len, fun x => by rw [o4, o5]; exact hw.wq x, by rw [o5]; exact hw.nodup⟩
  have f2 := found_wait w0 l
  have fl : ((C.out c l).found l).mem.length = C.mem.length + 1 := by simp [Cls.found, o6]
  have fof : ∀ j, ((C.out c l).found l).of j = if j ∈ l then (C.mem.length : Int) else C.of j := fun j => by
    show (if j ∈ l then ((C.out c l).mem.length : Int) else (C.out c l).of j) = _
    rw [o3, o6]
  have fwq : ((C.out c l).found l).wq = C.wq := o5
  have frow : ∀ c', ((C.out c l).found l).row c' = if c' = C.mem.length then l else (C.out c l).row c' := fun c' => by rw [found_row, o6]
  have fwf : ((C.out c l).found l).waits.getD C.mem.length false = false := by
    show (((C.out c l).waits ++ [false]).getD _ _) = false
    rw [o4, ← hw.len]
    simp [List.getD]
  have fwc : ((C.out c l).found l).waits.getD c false = C.waits.getD c false := by
    show (((C.out c l).waits ++ [false]).getD _ _) = _
    rw [o4]
    have : c < C.waits.length := by rw [hw.len]; exact hcl
    simp [List.getD, List.getElem?_append_left this]
  have hcw : C.waits.getD c false = false → c ∉ C.wq := fun e k => by
    have k2 := (hw.wq c).1 k
    simp only [List.getD, k2, Option.getD_some] at e
    cases e
  unfold Cls.split
  generalize (C.out c l).found l = D at *
  split
  · rename_i hlt
    exact ⟨⟨f1.mem, f1.of⟩, wait_wait f2 c (by omega) hlt.1, fl, fof, ⟨c, by show D.wq ++ [c] = _; rw [fwq], .inr ⟨rfl, hcw (by rw [← fwc]; exact hlt.1)⟩⟩, frow, o2, o7, hcl⟩
  · exact ⟨⟨f1.mem, f1.of⟩, wait_wait f2 _ (by omega) fwf, fl, fof, ⟨_, by show D.wq ++ [_] = _; rw [fwq], .inl rfl⟩, frow, o2, o7, hcl⟩
end Au
end Go.Proofs.Ytdcofdndkpmpaaa

/-
  Classes of states that take the same: what holds while they are split by where bytes lead, and in the end.
-/
namespace Go.Proofs.Ytdcofdndkpmpaaa
namespace Au

/-- The class of where something leads; -1: of no state. -/
def Cls.cls (C : Cls) : Option Nat → Int
  | none => -1
  | some u => C.of u
/-- Two states of one class lead alike, if they lead alike to the classes that wait, and to O by the bytes of R. -/
def Stab (d : List St) (C : Cls) (O : Option Nat → Prop) (R : Nat → Prop) : Prop :=
  ∀ s t a, s < d.length → t < d.length → C.of s = C.of t → 0 ≤ C.of s →
    (∀ c ∈ C.wq, (C.cls ((ofL d).step s a) = ((c : Nat) : Int) ↔ C.cls ((ofL d).step t a) = ((c : Nat) : Int))) → (R a → (O ((ofL d).step s a) ↔ O ((ofL d).step t a))) →
    C.cls ((ofL d).step s a) = C.cls ((ofL d).step t a)
/-- All that holds between two splits. -/
structure HInv (d : List St) (O : Option Nat → Prop) (R : Nat → Prop) (C : Cls) : Prop where
  rows : ∀ i (h : i < d.length), Row d.length 256 d[i].arcs
  ok : OkBut d.length C []
  wait : WaitOk C
  sound : ∀ s t, s < d.length → t < d.length → Eqv (ofL d) (ofL d) s t → C.of s = C.of t
  dead : ∀ s, s < d.length → (C.of s = -1 ↔ Dead (ofL d) (some s))
  fin : ∀ s t, s < d.length → t < d.length → C.of s = C.of t → 0 ≤ C.of s → (ofL d).fin s = (ofL d).fin t
  stab : Stab d C O R
  ne : ∀ c, c < C.mem.length → c ≠ 1 → C.row c ≠ []

theorem OkBut.range {n : Nat} {C : Cls} (h : OkBut n C []) {s : Nat} (hs : s < n) : C.of s = -1 ∨ ∃ c : Nat, C.of s = (c : Int) ∧ c < C.mem.length ∧ s ∈ C.row c := by
  rcases h.of s hs (by simp) with e | ⟨c, e, h2⟩
  · exact .inl e
  · exact .inr ⟨c, e, row_lt h2, (List.getElem?_eq_some_iff.1 h2).2 ▸ List.getElem_mem _⟩
theorem OkBut.mem_row {n : Nat} {C : Cls} {T : List Nat} (h : OkBut n C T) {c s : Nat} (hs : s ∈ C.row c) : s < n ∧ C.of s = (c : Int) := by
  obtain ⟨i, hi, rfl⟩ := List.getElem_of_mem hs
  obtain ⟨h1, h2, _⟩ := h.mem c i _ (List.getElem?_eq_getElem hi)
  exact ⟨h1, h2⟩
theorem OkBut.row_mem {n : Nat} {C : Cls} (h : OkBut n C []) {c s : Nat} (hs : s < n) (hc : C.of s = (c : Int)) : s ∈ C.row c := by
  rcases h.range hs with e | ⟨c2, e, _, h2⟩
  · omega
  · obtain rfl : c2 = c := by omega
    exact h2
theorem OkBut.nodup {n : Nat} {C : Cls} {T : List Nat} (h : OkBut n C T) (c : Nat) : (C.row c).Nodup := by
  unfold List.Nodup
  rw [List.pairwise_iff_getElem]
  intro i j hi hj hij e2
  have h1 := (h.mem c i _ (List.getElem?_eq_getElem hi)).2.2.1
  have h2 := (h.mem c j _ (List.getElem?_eq_getElem hj)).2.2.1
  rw [e2] at h1
  omega
/-- No more classes than states, and one. -/
theorem few_classes {n : Nat} {C : Cls} (h : OkBut n C []) (hne : ∀ c, c < C.mem.length → c ≠ 1 → C.row c ≠ []) : C.mem.length ≤ n + 1 := by
  let L := (List.range C.mem.length).filter (fun c => decide (c ≠ 1))
  have hl : C.mem.length ≤ L.length + 1 := by
    have h1 : ∀ m, m ≤ ((List.range m).filter (fun c => decide (c ≠ 1))).length + 1 ∧ (m ≤ 1 → m ≤ ((List.range m).filter (fun c => decide (c ≠ 1))).length) := by
      intro m
      induction m with
      | zero => simp
      | succ m ih =>
        rw [List.range_succ, List.filter_append, List.length_append]
        by_cases e : m = 1
        · subst e
          have := ih.2 (Nat.le_refl _)
          constructor
          · omega
          · intro h; omega
        · have e2 : (List.filter (fun c => decide (c ≠ 1)) [m]).length = 1 := by simp [e]
          rw [e2]
          constructor
          · omega
          · intro h
            have := ih.2 (by omega)
            omega
    exact (h1 _).1
  have hhead : ∀ c ∈ L, ∃ s, s < n ∧ C.of s = (c : Int) ∧ (C.row c).getD 0 0 = s := by
    intro c hc
    obtain ⟨h1, h2⟩ := List.mem_filter.1 hc
    have h3 := hne c (List.mem_range.1 h1) (by simpa using h2)
    cases hr : C.row c with
    | nil => exact absurd hr h3
    | cons x r =>
      have := h.mem_row (c := c) (s := x) (by rw [hr]; exact List.mem_cons_self ..)
      exact ⟨x, this.1, this.2, by simp [List.getD]⟩
  have hn : (L.map fun c => (C.row c).getD 0 0).Nodup := by
    unfold List.Nodup
    rw [List.pairwise_map]
    have hL : L.Nodup := List.Nodup.sublist List.filter_sublist List.nodup_range
    refine List.Pairwise.imp_of_mem (fun {a b} ha hb hab e => hab ?_) hL
    obtain ⟨s, _, h2, h3⟩ := hhead a ha
    obtain ⟨t, _, h5, h6⟩ := hhead b hb
    rw [h3, h6] at e
    subst e
    omega
  have hsub : (L.map fun c => (C.row c).getD 0 0) ⊆ List.range n := fun x hx => by
    obtain ⟨c, hc, rfl⟩ := List.mem_map.1 hx
    obtain ⟨s, h1, _, h3⟩ := hhead c hc
    rw [h3]
    exact List.mem_range.2 h1
  have := hn.length_le_of_subset hsub
  simp only [List.length_map, List.length_range] at this
  omega

/-- A split keeps all of it. -/
theorem HInv.split {d : List St} {O : Option Nat → Prop} {R : Nat → Prop} {C : Cls} (h : HInv d O R C) (X : Nat → Prop) (hX : ∀ s t, s < d.length → t < d.length → Eqv (ofL d) (ofL d) s t → (X s ↔ X t)) (c : Nat) (l : List Nat)
    (hn : l.Nodup) (hl : ∀ s, s ∈ l ↔ s < d.length ∧ C.of s = (c : Int) ∧ X s) (h0 : 0 < l.length) (hlt : l.length < (C.row c).length) : HInv d O R (C.split c l) ∧ (C.split c l).mem.length = C.mem.length + 1 ∧ (C.split c l).wq.length = C.wq.length + 1 := by
  obtain ⟨k1, k2, k3, k4, ⟨x, k5, k6⟩, k7, k8, k9, k10⟩ := split_ok h.ok h.wait c l hn (fun s hs => ⟨((hl s).1 hs).1, ((hl s).1 hs).2.1⟩) h0
  have hcl : ∀ y : Option Nat, (∀ u, y = some u → u < d.length) → ((C.split c l).cls y = C.cls y ∧ (∀ u, y = some u → u ∉ l)) ∨ ((C.split c l).cls y = (C.mem.length : Int) ∧ C.cls y = (c : Int)) := by
    intro y _
    cases y with
    | none => exact .inl ⟨rfl, fun u e => by cases e⟩
    | some u =>
      have := k4 u
      by_cases hu : u ∈ l
      · rw [if_pos hu] at this
        exact .inr ⟨this, ((hl u).1 hu).2.1⟩
      · rw [if_neg hu] at this
        exact .inl ⟨this, fun v e => by cases e; exact hu⟩
  have hr : ∀ y : Option Nat, (∀ u, y = some u → u < d.length) → C.cls y < (C.mem.length : Int) := by
    intro y hy
    cases y with
    | none => show (-1 : Int) < _; omega
    | some u =>
      show C.of u < _
      rcases h.ok.range (hy u rfl) with e | ⟨c2, e, h2, _⟩ <;> omega
  have hmono : ∀ s t, s < d.length → t < d.length → (C.split c l).of s = (C.split c l).of t → C.of s = C.of t := by
    intro s t hs ht e
    have h1 := hr (some s) (fun u e => by cases e; exact hs)
    have h2 := hr (some t) (fun u e => by cases e; exact ht)
    change C.of s < _ at h1
    change C.of t < _ at h2
    rw [k4, k4] at e
    by_cases e1 : s ∈ l <;> by_cases e2 : t ∈ l
    · rw [((hl s).1 e1).2.1, ((hl t).1 e2).2.1]
    · rw [if_pos e1, if_neg e2] at e; omega
    · rw [if_neg e1, if_pos e2] at e; omega
    · rw [if_neg e1, if_neg e2] at e; exact e
  have hpos : ∀ s, s < d.length → 0 ≤ (C.split c l).of s → 0 ≤ C.of s := by
    intro s hs e
    rw [k4] at e
    by_cases e1 : s ∈ l
    · have := ((hl s).1 e1).2.1; omega
    · rw [if_neg e1] at e; exact e
  refine ⟨⟨h.rows, k1, k2, ?_, ?_, ?_, ?_, ?_⟩, k3, by rw [k5]; simp⟩
  · intro s t hs ht he
    have h1 := h.sound s t hs ht he
    have h2 := hX s t hs ht he
    rw [k4, k4]
    have : s ∈ l ↔ t ∈ l := by rw [hl, hl, h1, h2]; exact ⟨fun e => ⟨ht, e.2⟩, fun e => ⟨hs, e.2⟩⟩
    by_cases e : s ∈ l
    · rw [if_pos e, if_pos (this.1 e)]
    · rw [if_neg e, if_neg (fun e2 => e (this.2 e2)), h1]
  · intro s hs
    rw [← h.dead s hs, k4]
    by_cases e : s ∈ l
    · rw [if_pos e, ((hl s).1 e).2.1]
      constructor <;> intro <;> omega
    · rw [if_neg e]
  · intro s t hs ht e e2
    exact h.fin s t hs ht (hmono s t hs ht e) (hpos s hs e2)
  · intro s t a hs ht e e2 hw hR
    have hms := hmono s t hs ht e
    have hps := hpos s hs e2
    have hsr : ∀ u, (ofL d).step s a = some u → u < d.length := fun u hu => ofL_in h.rows hu
    have htr : ∀ u, (ofL d).step t a = some u → u < d.length := fun u hu => ofL_in h.rows hu
    have hold := h.stab s t a hs ht hms hps (fun c0 hc0 => ?_) hR
    · rcases hcl _ hsr with ⟨p1, p1'⟩ | ⟨p1, p2⟩ <;> rcases hcl _ htr with ⟨q1, q1'⟩ | ⟨q1, q2⟩
      · rw [p1, q1, hold]
      · -- t goes into the new class, s stays in the old one
        exfalso
        rw [q2] at hold
        have hx := hw x (by rw [k5]; simp)
        rw [p1, q1, hold] at hx
        rcases k6 with rfl | ⟨rfl, _⟩
        · have := hx.2 rfl; omega
        · have := hx.1 rfl; omega
      · exfalso
        rw [p2] at hold
        have hx := hw x (by rw [k5]; simp)
        rw [p1, q1, ← hold] at hx
        rcases k6 with rfl | ⟨rfl, _⟩
        · have := hx.1 rfl; omega
        · have := hx.2 rfl; omega
      · rw [p1, q1]
    · -- the classes that waited
      have hlt0 := h.wait.lt hc0
      have h1 := hw c0 (by rw [k5]; simp [hc0])
      have r1 := hr _ hsr
      have r2 := hr _ htr
      by_cases hcc : c0 = c
      · subst hcc
        have hx := hw x (by rw [k5]; simp)
        rcases k6 with rfl | ⟨rfl, k6⟩
        · rcases hcl _ hsr with ⟨p1, p1'⟩ | ⟨p1, p2⟩ <;> rcases hcl _ htr with ⟨q1, q1'⟩ | ⟨q1, q2⟩
          · rw [p1, q1] at h1; exact h1
          · rw [p1, q1] at hx
            have := hx.2 rfl; omega
          · rw [p1, q1] at hx
            have := hx.1 rfl; omega
          · rw [p2, q2]
        · exact absurd hc0 k6
      · rcases hcl _ hsr with ⟨p1, p1'⟩ | ⟨p1, p2⟩ <;> rcases hcl _ htr with ⟨q1, q1'⟩ | ⟨q1, q2⟩
        · rw [p1, q1] at h1; exact h1
        · rw [p1, q1] at h1
          rw [q2, h1]
          constructor <;> intro <;> omega
        · rw [p1, q1] at h1
          rw [p2, ← h1]
          constructor <;> intro <;> omega
        · rw [p2, q2]
  · intro c' hc' h1
    rw [k3] at hc'
    rw [k7]
    by_cases e : c' = C.mem.length
    · rw [if_pos e]
      intro e2
      rw [e2] at h0
      simp at h0
    · rw [if_neg e]
      by_cases e2 : c' = c
      · subst e2
        intro e3
        rw [e3] at k8
        simp at k8
        omega
      · rw [k9 c' e2]
        exact h.ne c' (by omega) h1
end Au
end Go.Proofs.Ytdcofdndkpmpaaa

/-
  Classes of states that take the same: how it begins, goes on and ends; the walk over classes makes the least automaton.
-/
namespace Go.Proofs.Ytdcofdndkpmpaaa
namespace Au

/-- A class waits no longer. -/
def Cls.pop (C : Cls) (q : List Nat) (c : Nat) : Cls := { C with waits := C.waits.set c false, wq := q }
theorem HInv.pop {d : List St} {O : Option Nat → Prop} {C : Cls} (h : HInv d O (fun _ => False) C) (q : List Nat) (c : Nat) (hq : C.wq = q ++ [c]) (R : Nat → Prop) (hR : ∀ a s, s < d.length → ¬ R a → C.cls ((ofL d).step s a) ≠ (c : Int)) :
    HInv d (fun x => C.cls x = (c : Int)) R (C.pop q c) := by
  have hnd := h.wait.nodup
  rw [hq, List.nodup_append] at hnd
  have hcq : c ∉ q := fun e => hnd.2.2 c e c (by simp) rfl
  refine ⟨h.rows, ⟨h.ok.mem, h.ok.of⟩, ⟨by simp [Cls.pop, h.wait.len], fun x => ?_, hnd.1⟩, h.sound, h.dead, h.fin, ?_, h.ne⟩
  · show x ∈ q ↔ (C.waits.set c false)[x]? = some true
    have h1 := h.wait.wq x
    rw [hq, List.mem_append, List.mem_singleton] at h1
    rw [List.getElem?_set]
    by_cases e : c = x
    · subst e
      rw [if_pos rfl]
      constructor
      · intro k; exact absurd k hcq
      · intro k
        split at k <;> cases k
    · rw [if_neg e, ← h1]
      constructor
      · exact .inl
      · rintro (k | k)
        · exact k
        · exact absurd k.symm e
  · intro s t a hs ht e e2 hw hO
    refine h.stab s t a hs ht e e2 (fun c0 hc0 => ?_) (fun k => k.elim)
    rw [hq, List.mem_append, List.mem_singleton] at hc0
    rcases hc0 with hc0 | rfl
    · exact hw c0 hc0
    · by_cases hr : R a
      · exact hO hr
      · exact ⟨fun k => absurd k (hR a s hs hr), fun k => absurd k (hR a t ht hr)⟩
theorem HInv.next {d : List St} {O O' : Option Nat → Prop} {R R' : Nat → Prop} {C : Cls} (h : HInv d O R C) (hO : ∀ x, O x ↔ O' x)
    (hR : ∀ a, R a → ¬ R' a → ∀ s t, s < d.length → t < d.length → C.of s = C.of t → 0 ≤ C.of s → (O ((ofL d).step s a) ↔ O ((ofL d).step t a))) : HInv d O' R' C := by
  refine ⟨h.rows, h.ok, h.wait, h.sound, h.dead, h.fin, ?_, h.ne⟩
  intro s t a hs ht e e2 hw h1
  refine h.stab s t a hs ht e e2 hw fun k => ?_
  by_cases hr : R' a
  · have := h1 hr
    rw [← hO, ← hO] at this
    exact this
  · exact hR a k hr s t hs ht e e2
/-- What leads to a class leads alike from states that take the same. -/
theorem HInv.lead_eqv {d : List St} {O : Option Nat → Prop} {R : Nat → Prop} {C : Cls} (h : HInv d O R C) (c : Nat) (a s t : Nat) (he : Eqv (ofL d) (ofL d) s t) :
    (C.cls ((ofL d).step s a) = (c : Int) ↔ C.cls ((ofL d).step t a) = (c : Int)) := by
  have main : ∀ s t, Eqv (ofL d) (ofL d) s t → C.cls ((ofL d).step s a) = (c : Int) → C.cls ((ofL d).step t a) = (c : Int) := by
    intro s t he k
    cases hs : (ofL d).step s a with
    | none => rw [hs] at k; exact absurd k (by show ¬ (-1 : Int) = _; omega)
    | some u =>
      rw [hs] at k
      have hu := ofL_in h.rows hs
      have hnd : ¬ Dead (ofL d) (some u) := fun e => by
        have := (h.dead u hu).2 e
        change C.of u = _ at k
        omega
      cases ht : (ofL d).step t a with
      | none =>
        exact absurd (fun w => by
          have := he.next a w
          rw [hs, ht, acc_none] at this
          exact this) hnd
      | some v =>
        have : Eqv (ofL d) (ofL d) u v := fun w => by
          have := he.next a w
          rwa [hs, ht] at this
        have e := h.sound u v hu (ofL_in h.rows ht) this
        show C.of v = _
        rw [← e]
        exact k
  exact ⟨main s t he, main t s he.symm⟩
theorem HInv.lt {d : List St} {O : Option Nat → Prop} {R : Nat → Prop} {C : Cls} (h : HInv d O R C) {s : Nat} (hs : s < d.length) : C.of s = -1 ∨ (0 ≤ C.of s ∧ C.of s < (C.mem.length : Int)) := by
  rcases h.ok.range hs with e | ⟨c, e, h1, _⟩
  · exact .inl e
  · exact .inr (by omega)

/-- In the end states of one class take the same. -/
theorem HInv.eqv {d : List St} {O : Option Nat → Prop} {C : Cls} (h : HInv d O (fun _ => False) C) (hq : C.wq = []) (s t : Nat) (hs : s < d.length) (ht : t < d.length) (e : C.of s = C.of t) : Eqv (ofL d) (ofL d) s t := by
  intro w
  have key : ∀ w (x y : Option Nat), (∀ u, x = some u → u < d.length) → (∀ u, y = some u → u < d.length) → C.cls x = C.cls y → (ofL d).acc x w = (ofL d).acc y w := by
    intro w
    induction w with
    | nil =>
      intro x y hx hy e
      have hd : ∀ z : Option Nat, (∀ u, z = some u → u < d.length) → C.cls z = -1 → (ofL d).acc z [] = false := by
        intro z hz ez
        cases z with
        | none => exact acc_none _ _
        | some u => exact (h.dead u (hz u rfl)).1 ez []
      by_cases ex : C.cls x = -1
      · rw [hd x hx ex, hd y hy (by rw [← e, ex])]
      · cases x with
        | none => exact absurd rfl ex
        | some u =>
          cases y with
          | none => exact absurd (e.trans rfl) ex
          | some v =>
            have hu := hx u rfl
            have := h.lt hu
            exact h.fin u v hu (hy v rfl) e (by rcases this with k | k; exact absurd k ex; exact k.1)
    | cons a w ih =>
      intro x y hx hy e
      have hd : ∀ z : Option Nat, (∀ u, z = some u → u < d.length) → C.cls z = -1 → (ofL d).acc z (a :: w) = false := by
        intro z hz ez
        cases z with
        | none => exact acc_none _ _
        | some u => exact (h.dead u (hz u rfl)).1 ez (a :: w)
      by_cases ex : C.cls x = -1
      · rw [hd x hx ex, hd y hy (by rw [← e, ex])]
      · cases x with
        | none => exact absurd rfl ex
        | some u =>
          cases y with
          | none => exact absurd (e.trans rfl) ex
          | some v =>
            have hu := hx u rfl
            have hv := hy v rfl
            have hp : 0 ≤ C.of u := by rcases h.lt hu with k | k; exact absurd k ex; exact k.1
            rw [acc_cons, acc_cons]
            refine ih _ _ (fun z hz => ofL_in h.rows hz) (fun z hz => ofL_in h.rows hz) ?_
            exact h.stab u v a hu hv e hp (fun c hc => by rw [hq] at hc; cases hc) (fun k => k.elim)
  exact key w (some s) (some t) (fun u k => by cases k; exact hs) (fun u k => by cases k; exact ht) e

/-- The walk over classes: each goes as its first state does. -/
def quo (d : List St) (C : Cls) : Walk Nat where
  go := fun c b => match (ofL d).step ((C.row c).getD 0 0) b with
    | none => none
    | some t => if C.of t = -1 then none else some (C.of t).toNat
  same := fun a b => decide (a = b)
  fin := fun c => (ofL d).fin ((C.row c).getD 0 0)
theorem quo_refl (d : List St) (C : Cls) (s : Nat) : (quo d C).same s s = true := decide_eq_true rfl
theorem HInv.rep {d : List St} {O : Option Nat → Prop} {R : Nat → Prop} {C : Cls} (h : HInv d O R C) {s c : Nat} (hs : s < d.length) (e : C.of s = (c : Int)) : (C.row c).getD 0 0 < d.length ∧ C.of ((C.row c).getD 0 0) = (c : Int) ∧ 0 < (C.row c).length := by
  have hm := h.ok.row_mem hs e
  cases hr : C.row c with
  | nil => rw [hr] at hm; cases hm
  | cons x r =>
    have := h.ok.mem_row (c := c) (s := x) (by rw [hr]; exact List.mem_cons_self ..)
    exact ⟨this.1, this.2, by simp⟩
theorem quo_alike {d : List St} {O : Option Nat → Prop} {C : Cls} (h : HInv d O (fun _ => False) C) (hq : C.wq = []) : Alike (ofL d).walk (quo d C) (fun s c => s < d.length ∧ C.of s = (c : Int)) where
  fin := fun s c ⟨hs, e⟩ => by
    obtain ⟨r1, r2, _⟩ := h.rep hs e
    exact h.fin s _ hs r1 (by rw [e, r2]) (by omega)
  go := fun s c ⟨hs, e⟩ b => by
    obtain ⟨r1, r2, _⟩ := h.rep hs e
    have he := h.eqv hq s _ hs r1 (by rw [e, r2])
    have hg : ∀ t, (ofL d).go ((C.row c).getD 0 0) b = some t → (quo d C).go c b = some (C.of t).toNat ∧ t < d.length ∧ 0 ≤ C.of t := by
      intro t ht
      obtain ⟨h1, h2⟩ := go_some ht
      have hl := ofL_in h.rows h1
      have : C.of t ≠ -1 := fun e => h2 ((h.dead t hl).1 e)
      refine ⟨?_, hl, by rcases h.lt hl with k | k; exact absurd k this; exact k.1⟩
      show (match (ofL d).step ((C.row c).getD 0 0) b with | none => none | some t => if C.of t = -1 then none else some (C.of t).toNat) = _
      rw [h1]
      dsimp only
      rw [if_neg this]
    have hn : (ofL d).go ((C.row c).getD 0 0) b = none → (quo d C).go c b = none := by
      intro ht
      have hd := go_none ht
      show (match (ofL d).step ((C.row c).getD 0 0) b with | none => none | some t => if C.of t = -1 then none else some (C.of t).toNat) = _
      cases hs2 : (ofL d).step ((C.row c).getD 0 0) b with
      | none => rfl
      | some t =>
        dsimp only
        rw [hs2] at hd
        rw [if_pos ((h.dead t (ofL_in h.rows hs2)).2 hd)]
    rcases go_eqv he b with ⟨g1, g2⟩ | ⟨s', t', g1, g2, g3⟩
    · exact .inl ⟨g1, hn g2⟩
    · right
      obtain ⟨k1, k2, k3⟩ := hg t' g2
      have hs' := ofL_in h.rows (go_some g1).1
      have := h.sound s' t' hs' k2 g3
      exact ⟨s', _, g1, k1, hs', by omega⟩
  same := fun s c s' c' ⟨hs, e⟩ ⟨hs', e'⟩ => by
    show (ofL d).same s s' = decide (c = c')
    by_cases k : c = c'
    · subst k
      rw [decide_eq_true rfl]
      exact (same_iff _ _ _).2 (h.eqv hq s s' hs hs' (by rw [e, e']))
    · rw [decide_eq_false k, ← Bool.not_eq_true, same_iff]
      intro e2
      have := h.sound s s' hs hs' e2
      omega
/-- The classes' walk makes the least automaton. -/
theorem quo_least {d : List St} (hf : Fits d) {O : Option Nat → Prop} {C : Cls} (h : HInv d O (fun _ => False) C) (hq : C.wq = []) (c : Nat) (hc : C.of 0 = (c : Int)) : (quo d C).Done c d.length ∧ (quo d C).out c d.length = least d ∧ ∀ i, ((quo d C).met c i).length ≤ d.length := by
  have ha := quo_alike h hq
  have hst := fun i => ha.states (s := 0) (t := c) ⟨hf.pos, hc⟩ i
  have hl : ∀ i, ((quo d C).met c i).length = ((ofL d).walk.met 0 i).length := fun i => ((hst i).1.length).symm
  have hd := least_done hf.pos hf.row
  have hd2 : (quo d C).Done c d.length := by
    unfold Walk.Done at *
    rw [hl]
    exact hd
  refine ⟨hd2, ((hst d.length).2).symm, fun i => ?_⟩
  have := met_le (quo d C) c i d.length hd2
  unfold Walk.Done at hd2
  omega
/-- Told till the end. -/
theorem quo_end {d : List St} (hf : Fits d) {O : Option Nat → Prop} {C : Cls} (h : HInv d O (fun _ => False) C) (hq : C.wq = []) (c : Nat) (hc : C.of 0 = (c : Int)) (i : Nat) (hi : ((quo d C).met c i).length ≤ i) : (quo d C).out c i = least d := by
  obtain ⟨h1, h2, _⟩ := quo_least hf h hq c hc
  rw [← h2]
  unfold Walk.out
  rw [done_same (quo d C) c i d.length hi h1]

/-- Something is taken: there is a final state. -/
theorem alive_fin {d : List St} (hr : ∀ i (h : i < d.length), Row d.length 256 d[i].arcs) (s : Nat) (hs : s < d.length) (h : ¬ Dead (ofL d) (some s)) : ∃ t, t < d.length ∧ (ofL d).fin t = true := by
  apply Classical.byContradiction
  intro hn
  apply h
  intro w
  have key : ∀ w (x : Option Nat), (∀ u, x = some u → u < d.length) → (ofL d).acc x w = false := by
    intro w
    induction w with
    | nil =>
      intro x hx
      cases x with
      | none => rfl
      | some u =>
        rw [acc_nil, ← Bool.not_eq_true]
        exact fun e => hn ⟨u, hx u rfl, e⟩
    | cons a w ih =>
      intro x hx
      cases x with
      | none => rfl
      | some u =>
        rw [acc_cons]
        exact ih _ fun v hv => ofL_in hr hv
  exact key w (some s) fun u e => by cases e; exact hs
/-- The first classes: final states, others from which one is reached. -/
noncomputable def finals (d : List St) : List Nat := (List.range d.length).filter (fun i => (ofL d).fin i)
open Classical in
noncomputable def others (d : List St) : List Nat := (List.range d.length).filter (fun i => !(ofL d).fin i && !decide (Dead (ofL d) (some i)))
def Cls.none : Cls := ⟨fun _ => -1, fun _ => 0, [], [], []⟩
noncomputable def begun (d : List St) : Cls := ((((Cls.none.found (finals d)).wait 0).found (others d)).wait 1)
theorem begun_inv {d : List St} (hf : Fits d) (h0 : ¬ Dead (ofL d) (some 0)) (O : Option Nat → Prop) : HInv d O (fun _ => False) (begun d) := by
  have hfm : ∀ s, s ∈ finals d ↔ s < d.length ∧ (ofL d).fin s = true := fun s => by simp [finals, List.mem_filter]
  have hom : ∀ s, s ∈ others d ↔ s < d.length ∧ (ofL d).fin s = false ∧ ¬ Dead (ofL d) (some s) := fun s => by simp [others, List.mem_filter]
  have hnf : (finals d).Nodup := List.Nodup.sublist List.filter_sublist List.nodup_range
  have hno : (others d).Nodup := List.Nodup.sublist List.filter_sublist List.nodup_range
  have a0 : OkBut d.length Cls.none (finals d) := ⟨fun c i s h => by simp [Cls.none, Cls.row] at h, fun s _ _ => .inl rfl⟩
  have a1 := found_ok a0 (finals d) hnf (fun _ => Iff.rfl) fun s hs => ((hfm s).1 hs).1
  have w0 : WaitOk Cls.none := ⟨rfl, fun c => by simp [Cls.none], by simp [Cls.none]⟩
  have w1 := wait_wait (found_wait w0 (finals d)) 0 (by simp [Cls.found, Cls.none]) (by simp [Cls.found, Cls.none])
  have w2 := wait_wait (found_wait w1 (others d)) 1 (by simp [Cls.found, Cls.none, Cls.wait]) (by simp [Cls.found, Cls.none, Cls.wait])
  have e1 : ((Cls.none.found (finals d)).wait 0).mem.length = 1 := by simp [Cls.found, Cls.none, Cls.wait]
  have row1 : ∀ c, ((Cls.none.found (finals d)).wait 0).row c = if c = 0 then finals d else [] := fun c => by
    show (Cls.none.found (finals d)).row c = _
    rw [found_row]
    rfl
  have a2 : OkBut d.length ((Cls.none.found (finals d)).wait 0) (others d) := by
    refine ⟨fun c i s hs => ?_, fun s hs hs2 => ?_⟩
    · obtain ⟨h1, h2, h3, _⟩ := a1.mem c i s hs
      refine ⟨h1, h2, h3, fun e => ?_⟩
      rw [row1] at hs
      split at hs
      · obtain ⟨hl, he⟩ := List.getElem?_eq_some_iff.1 hs
        have := (hfm s).1 (he ▸ List.getElem_mem hl)
        have := (hom s).1 e
        simp_all
      · cases hs
    · exact a1.of s hs (by simp)
  have a3 := found_ok a2 (others d) hno (fun _ => Iff.rfl) fun s hs => ((hom s).1 hs).1
  have hof : ∀ s, (begun d).of s = if s ∈ others d then 1 else if s ∈ finals d then 0 else -1 := fun s => by
    show (if s ∈ others d then (((Cls.none.found (finals d)).wait 0).mem.length : Int) else if s ∈ finals d then ((0 : Nat) : Int) else -1) = _
    rw [e1]
    rfl
  have hofr : ∀ s, s < d.length → ((begun d).of s = 1 ∧ (ofL d).fin s = false ∧ ¬ Dead (ofL d) (some s)) ∨ ((begun d).of s = 0 ∧ (ofL d).fin s = true) ∨ ((begun d).of s = -1 ∧ (ofL d).fin s = false ∧ Dead (ofL d) (some s)) := by
    intro s hs
    rw [hof]
    by_cases h1 : s ∈ others d
    · rw [if_pos h1]; exact .inl ⟨rfl, ((hom s).1 h1).2⟩
    · rw [if_neg h1]
      by_cases h2 : s ∈ finals d
      · rw [if_pos h2]; exact .inr (.inl ⟨rfl, ((hfm s).1 h2).2⟩)
      · rw [if_neg h2]
        have h3 : (ofL d).fin s = false := by
          rw [← Bool.not_eq_true]
          exact fun e => h2 ((hfm s).2 ⟨hs, e⟩)
        refine .inr (.inr ⟨rfl, h3, ?_⟩)
        apply Classical.byContradiction
        intro h4
        exact h1 ((hom s).2 ⟨hs, h3, h4⟩)
  have hfd : ∀ s, (ofL d).fin s = true → ¬ Dead (ofL d) (some s) := fun s e k => by
    have := k []
    rw [acc_nil, e] at this
    cases this
  have hlen : (begun d).mem.length = 2 := by simp [begun, Cls.found, Cls.none, Cls.wait]
  refine ⟨hf.row, ⟨a3.mem, a3.of⟩, w2, ?_, ?_, ?_, ?_, ?_⟩
  · intro s t hs ht he
    have h1 := he.fin
    have h2 : Dead (ofL d) (some s) ↔ Dead (ofL d) (some t) := ⟨fun k w => by rw [← he w]; exact k w, fun k w => by rw [he w]; exact k w⟩
    rcases hofr s hs with ⟨k1, k2, k3⟩ | ⟨k1, k2⟩ | ⟨k1, k2, k3⟩ <;> rcases hofr t ht with ⟨j1, j2, j3⟩ | ⟨j1, j2⟩ | ⟨j1, j2, j3⟩ <;> first | (rw [k1, j1]; done) | (exfalso; rw [k2, j2] at h1; exact absurd h1 (by decide)) | (exfalso; exact k3 (h2.2 j3)) | (exfalso; exact j3 (h2.1 k3))
  · intro s hs
    rcases hofr s hs with ⟨k1, k2, k3⟩ | ⟨k1, k2⟩ | ⟨k1, k2, k3⟩
    · rw [k1]; exact ⟨fun e => by omega, fun e => absurd e k3⟩
    · rw [k1]; exact ⟨fun e => by omega, fun e => absurd e (hfd s k2)⟩
    · exact ⟨fun _ => k3, fun _ => k1⟩
  · intro s t hs ht e e2
    rcases hofr s hs with ⟨k1, k2, k3⟩ | ⟨k1, k2⟩ | ⟨k1, k2, k3⟩ <;> rcases hofr t ht with ⟨j1, j2, j3⟩ | ⟨j1, j2⟩ | ⟨j1, j2, j3⟩ <;> first | (exfalso; omega) | (rw [k2, j2]; done)
  · intro s t a hs ht e e2 hw _
    have hq : (begun d).wq = [0, 1] := rfl
    have h0 := hw 0 (by rw [hq]; simp)
    have h1 := hw 1 (by rw [hq]; simp)
    have hr : ∀ x : Option Nat, (∀ u, x = some u → u < d.length) → (begun d).cls x = -1 ∨ (begun d).cls x = 0 ∨ (begun d).cls x = 1 := by
      intro x hx
      cases x with
      | none => exact .inl rfl
      | some u => rcases hofr u (hx u rfl) with k | k | k <;> simp [Cls.cls, k.1]
    have r1 := hr ((ofL d).step s a) fun u hu => ofL_in hf.row hu
    have r2 := hr ((ofL d).step t a) fun u hu => ofL_in hf.row hu
    simp only [Int.natCast_zero, Int.natCast_one] at h0 h1
    omega
  · intro c hc h1
    rw [hlen] at hc
    obtain rfl : c = 0 := by omega
    have : (begun d).row 0 = finals d := by
      show ((((Cls.none.found (finals d)).wait 0).found (others d)).row 0) = _
      rw [found_row, e1, if_neg (by omega), row1, if_pos rfl]
    rw [this]
    obtain ⟨t, ht, hft⟩ := alive_fin hf.row 0 hf.pos h0
    intro e
    have := (hfm t).2 ⟨ht, hft⟩
    rw [e] at this
    cases this
end Au
end Go.Proofs.Ytdcofdndkpmpaaa
