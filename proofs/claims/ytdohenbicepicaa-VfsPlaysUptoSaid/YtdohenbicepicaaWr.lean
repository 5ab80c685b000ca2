/-
  The program's disk: a loss of bytes, walked.
-/
import Derived.Test.YtdohenbicepicaaWq
namespace Go.Proofs.Ytdohenbicepicaa
open Go.RowKit Go.Maps Go.Sort

/-- What loseBytes leaves. -/
def LostB (w : World) (p mn ms ci : Nat) (φ : Nat → Nat) (ρ : Nat → Value) (D : Vf.Dk) (f : List Vf.Fl) (e : Ending) (w' : World) : Prop :=
  e = .returned (.tuple #[]) ∧ ∃ ρ', PrA w' p mn ms φ ρ' (Vf.put D f D.names D.kept D.last) ∧ (∀ m b, Vf.Live D m → (ρ' m).ownBlock = some b → (ρ m).ownBlock = some b ∨ w.heap.size ≤ b) ∧ KeptF (fun b => b = ci ∨ ∃ m, Vf.Live D m ∧ b = φ m) w w'

set_option maxRecDepth 100000 in
set_option maxHeartbeats 16000000 in
theorem loseBytes_any (w : World) (p mn ms : Nat) (φ : Nat → Nat) (ρ : Nat → Value) (D : Vf.Dk) (ci : Nat) (cl : Addr) (loss : Int) (k0 : Nat) (hA : PrA w p mn ms φ ρ D) (hnk : D.kept = D.names) (hrise : Vf.Rise D.names) (hnum : ∀ x ∈ D.names, x.n ≠ 0 ∧ Vf.okN x.name = true ∧ Vf.place D.files x.n < D.files.length) (hnl : D.names.length ≤ 2097152)
    (hfs : ∀ f ∈ D.files, f.data.size ≤ 1099511627776 ∧ f.sure ≤ f.data.size) (hk0 : k0 ≤ 2097152) (hloss : -9223372036854775808 ≤ loss ∧ loss ≤ 9223372036854775807)
    (hci : w.heap[ci]? = some (.cells #[.int .u64 ((k0 : Nat) : Int)] 90 (0, 0))) (hcl : w.cell? cl = some (.int .i64 loss)) (hne : cl.block ≠ ci) (hclf : ∀ m, Vf.Live D m → cl.block ≠ φ m) :
    Calls Try.prog 52 #[.pointer (some ⟨p, 0, none⟩), .func (.func 68) #[] #[.pointer (some ⟨ci, 0, none⟩), .pointer (some cl)]] w (LostB w p mn ms ci φ ρ D (Vf.lose D.files (Vf.u64 loss) k0 [] D.names)) := by
  have d0 : w.cell? ⟨p, 0, none⟩ = some (.map (some mn)) := hA.row.cell 0
  have hB1 : Below w.heap.size w (w.alloc (.cells #[.map (some mn)] 55)) := (Below.refl _ _).alloc (Nat.le_refl _) _
  have hcells : ∀ j, j < 1 → (w.alloc (.cells #[.map (some mn)] 55)).cell? ⟨w.heap.size, j, none⟩ = some (.map (some mn)) := by
    intro j hj
    obtain rfl : j = 0 := by omega
    exact cell_new _ _ _ _ rfl
  have hR := risingP_any (w.alloc (.cells #[.map (some mn)] 55)) w.heap.size 1 2097152 (fun _ => mn) (fun _ => Vf.leads φ D.names) (by omega) (by omega) hcells (by simp) (fun j _ => (hA.now.keep (hB1.block _ hA.now.lt)).mono hnl)
  obtain ⟨all, hall⟩ : ∃ all, all = D.names := ⟨_, rfl⟩
  have hR2 : Hid (Calls Try.prog 55 #[.slice (some ⟨w.heap.size, 0, none⟩) 1 1] (w.alloc (.cells #[.map (some mn)] 55)) fun e w' => ∃ a cap, e = .returned (.slice a all.length cap) ∧ w'.ownsRow w.heap.size 9 1 (.slice a all.length cap) all.length (all.map (fun a => Value.string a.name)) ∧ Below w.heap.size w w') := by
    refine hR.mono ?_
    rintro e1 w1 ⟨v1, L1, rfl, hrow1, hp1, hm1, hb1⟩
    have hL1 : L1 = all.map (fun a => a.name.data.toList) := by
      rw [hall]
      refine rising_one hp1 (List.pairwise_map.2 (List.Pairwise.imp (fun {a b} h => Vf.ltB_iff.1 h) hrise)) fun x => ?_
      rw [hm1 x]
      have hls : (Vf.leads φ D.names (encBA x)).isSome = true ↔ Vf.find D.names (encBA x) ≠ 0 := by
        unfold Vf.leads
        split <;> simp_all
      rw [show (∃ i, i < 1 ∧ (Vf.leads φ D.names (encBA x)).isSome = true) ↔ (Vf.leads φ D.names (encBA x)).isSome = true from ⟨fun ⟨_, _, h⟩ => h, fun h => ⟨0, by omega, h⟩⟩, hls, Vf.find_name (fun y hy => (hnum y hy).1)]
      constructor
      · rintro ⟨a, ha, hn⟩
        exact List.mem_map.2 ⟨a, ha, by rw [hn]; simp [encBA]⟩
      · intro hx
        obtain ⟨a, ha, hx⟩ := List.mem_map.1 hx
        refine ⟨a, ha, ?_⟩
        subst hx
        cases a.name
        simp [encBA]
    subst hL1
    have he : (all.map (fun a => a.name.data.toList)).map encStr = all.map (fun a => Value.string a.name) := by
      rw [List.map_map]
      exact List.map_congr_left fun a _ => by show encStr a.name.data.toList = _; simp
    rw [he, List.length_map] at hrow1
    have hrow2 := ownsRow_base hrow1 (C := w.heap.size) (by simp)
    have hb2 : Below w.heap.size w w1 := (hB1.trans ⟨hb1.os, hb1.tape, hb1.output, hb1.size, fun k hk => hb1.block k (by simp; omega)⟩)
    rcases hrow1.2 with ⟨rfl, h0⟩ | ⟨g, cap, cur, rfl, _⟩
    · exact ⟨none, 0, by rw [h0], by rw [h0] at hrow2 ⊢; exact hrow2, hb2⟩
    · exact ⟨_, _, rfl, hrow2, hb2⟩
  have H := Lib.hid hA
  have HNUM := Lib.hid hnum
  have HFS := Lib.hid hfs
  have HCI := Lib.hid hci
  have HCL := Lib.hid hcl
  have HCLF := Lib.hid hclf
  have HNK := Lib.hid hnk
  have HALL := Lib.hid hall
  have HRISE := Lib.hid hrise
  rw [← hall] at hnl
  clear hA hR hB1 hcells hnum hfs hci hcl hclf hnk hall hrise
  obtain ⟨n, hn⟩ : ∃ n, n = all.length := ⟨_, rfl⟩
  have HN := Lib.hid hn
  rw [← hn] at hR2 hnl
  clear hn
  go_enter Try.func52, Try.ntmps52
  go_wp2_with (go_at_call 55; go_loud ((refine hR2.out.mono ?_; rintro e1 w1 ⟨a1, cap1, rfl, hrow1, hb1⟩; have HH := Lib.hid (And.intro hrow1 hb1); clear hrow1 hb1)))
  have hrow1 := HH.out.1
  have hb1 := HH.out.2
  have hpl := H.out.row.lt
  have hcil : ci < w.heap.size := (Array.getElem?_eq_some_iff.1 HCI.out).1
  have hcll : cl.block < w.heap.size := by
    rcases Nat.lt_or_ge cl.block w.heap.size with h | h
    · exact h
    · have h2 := HCL.out
      simp [World.cell?, Array.getElem?_eq_none h] at h2
  have hpci : p ≠ ci := fun e => by
    have h := H.out.row
    unfold RowT at h
    rw [e, HCI.out] at h
    simp at h
  have hfl : ∀ m, Vf.Live D m → φ m < w.heap.size := fun m hm => (H.out.file m hm).1.lt
  have HW : Hid (∀ wx, KeptF (fun b => b = ci ∨ ∃ m, Vf.Live D m ∧ b = φ m) w1 wx → wx.cell? ⟨p, 0, none⟩ = some (.map (some mn)) ∧ MapA wx mn D.names.length (Vf.leads φ D.names) ∧ wx.cell? cl = some (.int .i64 loss) ∧ (∀ j (hj : j < all.length), ∃ g, a1 = some ⟨g, 0, none⟩ ∧ wx.cell? ⟨g, j, none⟩ = some (.string all[j].name))) := by
    intro wx hk
    have hsame : ∀ b, b < w.heap.size → b ≠ ci → (∀ m, Vf.Live D m → b ≠ φ m) → wx.heap[b]? = w.heap[b]? := fun b h1 h2 h3 => (hk.block b (Nat.lt_of_lt_of_le h1 hb1.size) (fun h => h.elim h2 (fun ⟨m, hm, e⟩ => h3 m hm e))).trans (hb1.block b h1)
    obtain ⟨a1', a2', a3', a4'⟩ := H.out.apart_row
    have hrowx := H.out.row.keep (hsame p hpl hpci (fun m hm e => (a3' m hm).1 e.symm))
    refine ⟨hrowx.cell 0, H.out.now.keep (hsame mn H.out.now.lt (fun e => ?_) (fun m hm e => (a3' m hm).2.1 e.symm)), ?_, fun j hj => ?_⟩
    · obtain ⟨_, ⟨es, clock, h, _⟩, _⟩ := H.out.now
      rw [e, HCI.out] at h
      cases h
    · rw [World.cell?_of_block (hsame cl.block hcll hne HCLF.out)]; exact HCL.out
    · rcases hrow1.2 with ⟨h1, h2⟩ | ⟨g, cap, cur, hv, hg, hh, _⟩
      · have := HN.out; omega
      · simp only [Value.slice.injEq] at hv
        obtain ⟨rfl, _, rfl⟩ := hv
        refine ⟨g, rfl, ?_⟩
        have hc := World.ownsRow.cells hrow1 (g := g) rfl j (.string all[j].name) (by rw [List.getElem?_map, List.getElem?_eq_getElem hj]; rfl)
        rw [Addr.add_lit, Nat.zero_add] at hc
        rw [World.cell?_of_block (hk.block g (Array.getElem?_eq_some_iff.1 hh).1 (fun h => h.elim (fun h => by omega) (fun ⟨m, hm, h⟩ => by have := hfl m hm; omega)))]
        exact hc
  have hci1 : w1.heap[ci]? = some (.cells #[.int .u64 ((k0 : Nat) : Int)] 90 (0, 0)) := (hb1.block ci hcil).trans HCI.out
  have hL1 : LoseB w w1 φ ρ ρ D [] := ⟨fun m hm => (H.out.file m hm).keep (hb1.block _ (hfl m hm)) fun k hk => hb1.block k (World.ownsRow.lt (H.out.file m hm).2 k hk).2, fun m b _ h => .inl h, H.out.apart, fun f hf => by cases hf⟩
  have hw1 : w.heap.size ≤ w1.heap.size := hb1.size
  have HB1 := Lib.hid hb1
  have HINJ := Lib.hid H.out.inj
  clear hrow1 hb1 HH d0 hpl hcil hcll hpci hfl
  go_loopg [16] n (fun gg iv wx => ∃ (i k : Nat) (acc : List Vf.Fl) (ρ' : Nat → Value), i ≤ n ∧ gg = n - i ∧ iv = .int .i64 (i : Int) ∧ k ≤ k0 + i ∧ Hid (Vf.lose D.files (Vf.u64 loss) k0 [] all = Vf.lose D.files (Vf.u64 loss) k acc (all.drop i)) ∧ LoseB w wx φ ρ ρ' D acc ∧ wx.heap[ci]? = some (.cells #[.int .u64 (k : Int)] 90 (0, 0)) ∧ KeptF (fun b => b = ci ∨ ∃ m, Vf.Live D m ∧ b = φ m) w1 wx)
  case atStart => exact ⟨0, k0, [], ρ, Nat.zero_le _, rfl, rfl, Nat.le_refl _, rfl, hL1, hci1, KeptF.refl _ _⟩
  case round =>
    obtain ⟨i, k, acc, ρ', hi, rfl, rfl, hk, hlose, hLB, hcb2, hkept⟩ := hrel
    obtain ⟨c0, hM, hclx, hnames⟩ := HW.out wr hkept
    by_cases hin : i < n
    · have i1 : (i : Int) < (n : Int) := by omega
      have il : i < all.length := by rw [← HN.out]; exact hin
      obtain ⟨g, rfl, hcn⟩ := hnames i il
      have hin' : all[i] ∈ D.names := by rw [← HALL.out]; exact List.getElem_mem il
      have hlv : Vf.Live D all[i].n := ⟨all[i], .inl hin', rfl⟩
      have hld : Vf.leads φ D.names all[i].name = some (φ all[i].n) := by
        unfold Vf.leads
        rw [Vf.find_of_mem HRISE.out hin', if_neg (HNUM.out _ hin').1]
      have hnm40 := okN_size (HNUM.out _ hin').2.1
      have hpl0 := (HNUM.out _ hin').2.2
      have hdrop : all.drop i = all[i] :: all.drop (i + 1) := List.drop_eq_getElem_cons il
      have hnsm : all[i].name.size ≤ maxLen := by unfold maxLen; omega
      generalize all[i].name = nm at *
      generalize hq : all[i].n = q at *
      have hfile := hLB.file q hlv
      obtain ⟨a0, cap0, hv0⟩ := hfile.form
      have hrow := hfile.1
      have k00 : wr.cell? ⟨φ q, 0, none⟩ = some (.slice a0 (nowF D acc q).data.size cap0) := (hrow.cell 0).trans (by rw [hv0]; rfl)
      have k01 : wr.cell? ⟨φ q, 1, none⟩ = some (.int .i64 ((nowF D acc q).sure : Int)) := hrow.cell 1
      have f01 := hrow.frozen 1
      have f00 := hrow.frozen 0
      have hfq := HFS.out _ (Vf.fileAt_mem hpl0)
      have hle : (nowF D acc q).sure ≤ (nowF D acc q).data.size ∧ (nowF D acc q).data.size ≤ 1099511627776 ∨ (Vf.place acc q < acc.length) := by
        unfold nowF
        by_cases hp : Vf.place acc q < acc.length
        · exact .inr hp
        · rw [if_neg hp]; exact .inl ⟨hfq.2, hfq.1⟩
      have hszm : (nowF D acc q).data.size ≤ 9223372036854775807 := by
        rcases hfile.2.2 with ⟨_, h⟩ | ⟨_, _, _, _, _, _, h1, h2, _⟩
        · omega
        · unfold maxLen at h2; omega
      by_cases hsu : (nowF D acc q).sure = (nowF D acc q).data.size
      · -- nothing of it is loose
        have HA : Hid (∃ acc', Vf.lose D.files (Vf.u64 loss) k0 [] all = Vf.lose D.files (Vf.u64 loss) k acc' (all.drop (i + 1)) ∧ LoseB w (wr.setCell ⟨φ q, 1, none⟩ (.int .i64 ((nowF D acc q).data.size : Int))) φ ρ ρ' D acc') := by
          have hsame := hLB.same HINJ.out hLB.rows hlv hsu
          by_cases hp : Vf.place acc q < acc.length
          · refine ⟨acc, ?_, hsame⟩
            rw [hlose.out, hdrop]
            simp only [Vf.lose, hq]
            rw [if_pos hp]
          · have hnow : nowF D acc q = Vf.fileAt D.files q := by unfold nowF; rw [if_neg hp]
            have hcut : Vf.cut (Vf.fileAt D.files q) (Vf.u64 loss) k = { Vf.fileAt D.files q with sure := (Vf.fileAt D.files q).data.size } := by
              unfold Vf.cut
              rw [← hnow, hsu, if_neg (Nat.lt_irrefl _)]
            have e : (fun m => if m = q then ρ' q else ρ' m) = ρ' := funext fun m => by by_cases h : m = q <;> simp [h]
            refine ⟨acc ++ [{ Vf.fileAt D.files q with sure := (Vf.fileAt D.files q).data.size }], ?_, ?_⟩
            · rw [hlose.out, hdrop]
              simp only [Vf.lose, hq]
              rw [if_neg hp]
              rw [hnow] at hsu
              rw [if_neg (by omega), hcut]
            · have h := hLB.put (w2 := wr.setCell ⟨φ q, 1, none⟩ (.int .i64 ((nowF D acc q).data.size : Int))) HINJ.out hLB.rows hlv hp { Vf.fileAt D.files q with sure := (Vf.fileAt D.files q).data.size } (Vf.fileAt_n hpl0) rfl (ρ' q) (by
                have h := hsame.file q hlv
                rw [hnow] at h hsu
                have h2 : Vf.fileAt D.files q = { Vf.fileAt D.files q with sure := (Vf.fileAt D.files q).data.size } := by rw [← hsu]
                rw [h2] at h
                rw [hnow]
                exact h) (fun b hb => .inl hb) (Nat.le_trans hw1 hkept.size) ci (hLB.ci hcb2) (fun b h1 _ _ => heap_other _ _ _ _ _ h1)
              rw [e] at h
              exact h
        have hcb3 : Hid ((wr.setCell ⟨φ q, 1, none⟩ (.int .i64 ((nowF D acc q).data.size : Int))).heap[ci]? = some (.cells #[.int .u64 (k : Int)] 90 (0, 0))) := (heap_other _ _ _ _ _ (fun e => (hLB.ci hcb2 q hlv).1 e.symm)).trans hcb2
        have HK := Lib.hid (hkept.set (φ q) 1 (.inr ⟨q, hlv, rfl⟩) (.int .i64 ((nowF D acc q).data.size : Int)))
        have HM := Lib.hid hM
        have HLD := Lib.hid hld
        rw [hsu] at k01
        clear hLB hcb2 hkept hM hnames hlose hfile hrow hle hfq hdrop hld hv0 hsu hpl0 hnm40
        generalize (nowF D acc q).data.size = sz at *
        generalize φ q = gx at *
        go_wp2_with (first | (at_lookup; refine wpList_look _ rfl _ _ rfl mn _ _ rfl HM.out nm rfl hnsm ?_; rw [HLD.out]; unfold ptrV))
        go_quiet (fail)
        go_wp2_with fail
        go_roundg (n - (i + 1))
        case rel => exact ⟨i + 1, k, _, ρ', by omega, rfl, by go_num, by omega, HA.out.choose_spec.1, HA.out.choose_spec.2.heap (by rfl), hcb3.out, ⟨HK.out.os, HK.out.tape, HK.out.output, HK.out.size, HK.out.block⟩⟩
        case measure => omega
      · -- bytes go
        have hnp : ¬ Vf.place acc q < acc.length := fun hp => hsu (by
          unfold nowF
          rw [if_pos hp]
          exact hLB.full _ (Vf.fileAt_mem hp))
        have hnow : nowF D acc q = Vf.fileAt D.files q := by unfold nowF; rw [if_neg hnp]
        rw [hnow] at hsu hfile k00 k01 hrow
        obtain ⟨sz, hsz⟩ : ∃ sz, sz = (Vf.fileAt D.files q).data.size := ⟨_, rfl⟩
        obtain ⟨su, hsr⟩ : ∃ su, su = (Vf.fileAt D.files q).sure := ⟨_, rfl⟩
        rw [← hsz] at k00 hsu hfq
        rw [← hsr] at k01 hsu hfq
        have hlt : su < sz := by omega
        have b2 : IntKind.i64.wrap ((sz : Int) - (su : Int)) = (sz : Int) - (su : Int) := IntWalk.i64_in _ (by omega)
        have HLB := Lib.hid hLB
        have HCB := Lib.hid hcb2
        have HKE := Lib.hid hkept
        have HCX := Lib.hid hclx
        have HM0 := Lib.hid hM
        have HLD := Lib.hid hld
        have HPL := Lib.hid hpl0
        have HLO := Lib.hid hlose
        have HDR := Lib.hid hdrop
        have HQ := Lib.hid hq
        have HSZ := Lib.hid hsz
        have HSR := Lib.hid hsr
        have HNP : Hid (¬ Vf.place acc q < acc.length) := hnp
        have HNOW := Lib.hid hnow
        have HV0 := Lib.hid hv0
        have HFQ := Lib.hid hfq
        have HLV := Lib.hid hlv
        obtain ⟨gx, hgx⟩ : ∃ gx, gx = φ q := ⟨_, rfl⟩
        have HGX := Lib.hid hgx
        rw [← hgx] at k00 k01
        have HLD2 : Hid (Vf.leads φ D.names nm = some gx) := by show _ = _; rw [hgx]; exact hld
        clear hLB hcb2 hkept hM hnames hlose hfile hrow hle hfq hdrop hld hv0 hsu hpl0 hnm40 hnow hnp hsz hsr hszm hq hgx hlv
        go_wp2_with (first | (at_lookup; refine wpList_look _ rfl _ _ rfl mn _ _ rfl HM0.out nm rfl hnsm ?_; rw [HLD2.out]; unfold ptrV))
        go_quiet (fail)
        have hLB := HLB.out.heap (w2 := wr.drewN nq) (by rfl)
        have hcb2 : (wr.drewN nq).heap[ci]? = some (.cells #[.int .u64 (k : Int)] 90 (0, 0)) := HCB.out
        have hkept : KeptF (fun b => b = ci ∨ ∃ m, Vf.Live D m ∧ b = φ m) w1 (wr.drewN nq) := ⟨HKE.out.os, HKE.out.tape, HKE.out.output, HKE.out.size, HKE.out.block⟩
        have hclx : (wr.drewN nq).cell? cl = some (.int .i64 loss) := HCX.out
        have hM : MapA (wr.drewN nq) mn D.names.length (Vf.leads φ D.names) := HM0.out
        have k00 : (wr.drewN nq).cell? ⟨gx, 0, none⟩ = some (.slice a0 sz cap0) := k00
        have k01 : (wr.drewN nq).cell? ⟨gx, 1, none⟩ = some (.int .i64 (su : Int)) := k01
        clear HLB HCB HKE HCX HM0 HLD2
        generalize wr.drewN nq = wr3 at *
        have hgx := HGX.out
        subst hgx
        have hpl0 := HPL.out
        have hlose := HLO
        have hdrop := HDR.out
        have hq := HQ.out
        have hsz := HSZ.out
        have hsr := HSR.out
        have hnp := HNP.out
        have hnow := HNOW.out
        have hv0 := HV0.out
        have hfq := HFQ.out
        have hlv := HLV.out
        obtain ⟨mx, hmx⟩ : ∃ mx, mx = Vf.mix (Vf.u64 loss) (k + 1) := ⟨_, rfl⟩
        obtain ⟨dd, hdd⟩ : ∃ dd, dd = sz - su + 1 := ⟨_, rfl⟩
        obtain ⟨r, hr⟩ : ∃ r, r = mx % dd := ⟨_, rfl⟩
        have hrl : r < dd := by rw [hr]; exact Nat.mod_lt _ (by omega)
        obtain ⟨c, hc⟩ : ∃ c, c = su + r := ⟨_, rfl⟩
        have hcs : c ≤ sz := by omega
        have hR1 := row1_any wr3 ci cl k loss hloss (by omega) ((cell_of_row _ ci 0 _ _ _ hcb2).trans rfl) (by simp [World.frozen?, hcb2]) hclx hne
        rw [← hmx] at hR1
        have hcut : Vf.cut (Vf.fileAt D.files q) (Vf.u64 loss) (k + 1) = { n := (Vf.fileAt D.files q).n, data := (Vf.fileAt D.files q).data.extract 0 c, sure := c } := by
          unfold Vf.cut
          rw [← hsz, ← hsr, if_pos hlt, ← hmx, ← hdd, ← hr, ← hc]
          have : ((Vf.fileAt D.files q).data.extract 0 c).size = c := by rw [ByteArray.size_extract, ← hsz]; omega
          simp only [this]
        have hlose2 : Hid (Vf.lose D.files (Vf.u64 loss) k0 [] all = Vf.lose D.files (Vf.u64 loss) (k + 1) (acc ++ [{ n := (Vf.fileAt D.files q).n, data := (Vf.fileAt D.files q).data.extract 0 c, sure := c }]) (all.drop (i + 1))) := by
          show _ = _
          rw [hlose.out, hdrop]
          simp only [Vf.lose, hq]
          rw [if_neg hnp, ← hsz, ← hsr, if_pos hlt, hcut]
        have hds : ((Vf.fileAt D.files q).data.extract 0 c).size = c := by rw [ByteArray.size_extract, ← hsz]; omega
        -- the world behind the next number
        have hLB2 := hLB.keepci hcb2 (.int .u64 ((k + 1 : Nat) : Int))
        have hci2 : (wr3.setCell ⟨ci, 0, none⟩ (.int .u64 ((k + 1 : Nat) : Int))).heap[ci]? = some (.cells #[.int .u64 ((k + 1 : Nat) : Int)] 90 (0, 0)) := by
          have h : RowT 90 wr3 ci #[.int .u64 (k : Int)] := hcb2
          exact h.set 0 _
        have hkept2 := hkept.set ci 0 (.inl rfl) (.int .u64 ((k + 1 : Nat) : Int))
        have hsz2 : w.heap.size ≤ (wr3.setCell ⟨ci, 0, none⟩ (.int .u64 ((k + 1 : Nat) : Int))).heap.size := Nat.le_trans hw1 hkept2.size
        generalize hW2 : wr3.setCell ⟨ci, 0, none⟩ (.int .u64 ((k + 1 : Nat) : Int)) = W2 at *
        have hfile2 := hLB2.file q hlv
        rw [hnow] at hfile2
        have hrow2 : RowT 73 W2 (φ q) #[ρ' q, .int .i64 (su : Int)] := by rw [hsr]; exact hfile2.1
        have j00 : W2.cell? ⟨φ q, 0, none⟩ = some (.slice a0 sz cap0) := (hrow2.cell 0).trans (by rw [hv0, hnow, ← hsz]; rfl)
        have j01 : W2.cell? ⟨φ q, 1, none⟩ = some (.int .i64 (su : Int)) := hrow2.cell 1
        have hgc : ∃ gr, a0 = some ⟨gr, 0, none⟩ ∧ sz ≤ cap0 ∧ ∀ j u, (Lib.strCells ((Vf.fileAt D.files q).data.extract 0 c))[j]? = some u → W2.drew.cell? ((⟨gr, 0, none⟩ : Addr).add j) = some u := by
          rcases hfile2.2.2 with ⟨h1, h2⟩ | ⟨gr, cap, cur, h1, h2, h3, h4, _⟩
          · omega
          · rw [hv0, hnow] at h1
            simp only [Value.slice.injEq] at h1
            obtain ⟨rfl, _, rfl⟩ := h1
            refine ⟨gr, rfl, by omega, fun j u hj => ?_⟩
            have hcl2 := World.ownsRow.cells hfile2.2 (g := gr) (by rw [hv0]; rfl) j u
            refine hcl2 ?_
            have hjl : j < c := by
              have := (List.getElem?_eq_some_iff.1 hj).1
              rw [Lib.strCells_length, hds] at this
              exact this
            unfold Lib.strCells at hj
            rw [← hj, List.getElem?_map, List.getElem?_map]
            congr 1
            rw [Array.getElem?_toList, Array.getElem?_toList, ByteArray.data_extract, Array.getElem?_extract]
            have hsd : (Vf.fileAt D.files q).data.data.size = sz := hsz.symm
            rw [if_pos (by omega), Nat.zero_add]
        obtain ⟨gr, rfl, hszc, hgcell⟩ := hgc
        have HCl := Lib.hid (cloneB_any W2.drew gr c cap0 ((Vf.fileAt D.files q).data.extract 0 c) hds (by omega) hgcell)
        have HB : Hid (∀ (a4 : Option Addr) (c4 : Nat) (w4 : World), w4.ownsRow W2.heap.size 5 1 (.slice a4 c c4) c (Lib.strCells ((Vf.fileAt D.files q).data.extract 0 c)) → Below W2.heap.size W2.drew w4 →
            (w4.cell? ⟨φ q, 0, none⟩ = some (.slice (some ⟨gr, 0, none⟩) sz cap0) ∧ w4.frozen? ⟨φ q, 0, none⟩ = false) ∧
            ((w4.setCell ⟨φ q, 0, none⟩ (.slice a4 c c4)).cell? ⟨φ q, 0, none⟩ = some (.slice a4 c c4) ∧ (w4.setCell ⟨φ q, 0, none⟩ (.slice a4 c c4)).cell? ⟨φ q, 1, none⟩ = some (.int .i64 (su : Int)) ∧ (w4.setCell ⟨φ q, 0, none⟩ (.slice a4 c c4)).frozen? ⟨φ q, 1, none⟩ = false) ∧
            (LoseB w ((w4.setCell ⟨φ q, 0, none⟩ (.slice a4 c c4)).setCell ⟨φ q, 1, none⟩ (.int .i64 (c : Int))) φ ρ (fun m => if m = q then .slice a4 c c4 else ρ' m) D (acc ++ [{ n := (Vf.fileAt D.files q).n, data := (Vf.fileAt D.files q).data.extract 0 c, sure := c }]) ∧
              ((w4.setCell ⟨φ q, 0, none⟩ (.slice a4 c c4)).setCell ⟨φ q, 1, none⟩ (.int .i64 (c : Int))).heap[ci]? = some (.cells #[.int .u64 ((k + 1 : Nat) : Int)] 90 (0, 0)) ∧ KeptF (fun b => b = ci ∨ ∃ m, Vf.Live D m ∧ b = φ m) w1 ((w4.setCell ⟨φ q, 0, none⟩ (.slice a4 c c4)).setCell ⟨φ q, 1, none⟩ (.int .i64 (c : Int))))) := by
          intro a4 c4 w4 ho4 hb4
          have hr4 : RowT 73 w4 (φ q) #[ρ' q, .int .i64 (su : Int)] := hrow2.keep (hb4.block _ hrow2.lt)
          have hr5 := hr4.set 0 (.slice a4 c c4)
          have hr6 := hr5.set 1 (.int .i64 (c : Int))
          have hql : φ q < W2.heap.size := hrow2.lt
          refine ⟨⟨(hr4.cell 0).trans (by rw [hv0, hnow, ← hsz]; rfl), hr4.frozen 0⟩, ⟨hr5.cell 0, hr5.cell 1, hr5.frozen 1⟩, ?_, ?_, ?_⟩
          · refine hLB2.put (w2 := (w4.setCell ⟨φ q, 0, none⟩ (.slice a4 c c4)).setCell ⟨φ q, 1, none⟩ (.int .i64 (c : Int))) HINJ.out hLB2.rows hlv hnp { n := (Vf.fileAt D.files q).n, data := (Vf.fileAt D.files q).data.extract 0 c, sure := c } (Vf.fileAt_n hpl0) hds.symm (.slice a4 c c4) ⟨hr6, ?_⟩ (fun b hb => .inr (World.ownsRow.lt ho4 b hb).1) hsz2 ci (hLB2.ci hci2) (fun b h1 _ h3 => (heap_other _ _ _ _ _ h1).trans ((heap_other _ _ _ _ _ h1).trans (hb4.block b h3)))
            have ho5 := ownsRow_keep (w' := (w4.setCell ⟨φ q, 0, none⟩ (.slice a4 c c4)).setCell ⟨φ q, 1, none⟩ (.int .i64 (c : Int))) (ownsRow_base ho4 (Nat.zero_le _)) fun b hb => (heap_other _ _ _ _ _ (fun e => by have := (World.ownsRow.lt ho4 b hb).1; omega)).trans (heap_other _ _ _ _ _ (fun e => by have := (World.ownsRow.lt ho4 b hb).1; omega))
            show World.ownsRow _ 0 5 1 _ ((Vf.fileAt D.files q).data.extract 0 c).size _
            rw [hds]
            exact ho5
          · have hcq := (hLB2.ci hci2 q hlv).1
            exact (heap_other _ _ _ _ _ (fun e => hcq e.symm)).trans ((heap_other _ _ _ _ _ (fun e => hcq e.symm)).trans ((hb4.block ci (Array.getElem?_eq_some_iff.1 hci2).1).trans hci2))
          · exact (((hkept2.drew).trans (KeptF.of_below hb4)).set (φ q) 0 (.inr ⟨q, hlv, rfl⟩) _).set (φ q) 1 (.inr ⟨q, hlv, rfl⟩) _
        have HR1 := Lib.hid hR1
        have HM := Lib.hid hM
        have HCI2 := Lib.hid hci2
        -- numbers
        have b1 : (0 : Int) < (sz : Int) - (su : Int) := by omega
        have b3 : IntKind.i64.wrap ((sz : Int) - (su : Int) + 1) = (dd : Int) := by rw [IntWalk.i64_in _ (by omega)]; omega
        have b4 : IntKind.u64.wrap (dd : Int) = (dd : Int) := IntWalk.u64_in _ (by omega)
        have b5 : ¬ ((dd : Int) = 0) := by omega
        have b6 : Int.tmod (mx : Int) (dd : Int) = (r : Int) := by rw [Int.tmod_eq_emod_of_nonneg (by omega), hr]; norm_cast
        have b7 : IntKind.u64.wrap (r : Int) = (r : Int) := IntWalk.u64_in _ (by omega)
        have b8 : IntKind.i64.wrap (r : Int) = (r : Int) := IntWalk.i64_in _ (by omega)
        have b9 : IntKind.i64.wrap ((su : Int) + (r : Int)) = (c : Int) := by rw [IntWalk.i64_in _ (by omega)]; omega
        have b10 : c ≤ cap0 := by omega
        have bA : (c : Int) ≤ (cap0 : Int) := by omega
        have bB : ¬ (cap0 : Int) < (c : Int) := by omega
        have bC : ¬ (c : Int) < 0 := by omega
        have b11 : (mx : Int) % (dd : Int) = (r : Int) := by rw [hr]; norm_cast
        have b12 : (dd : Int) ≤ 2199023255552 ∧ (r : Int) ≤ 2199023255552 := by omega
        clear hLB hLB2 hcb2 hkept hkept2 hlose hfile2 hrow2 hfq hdrop hv0 hpl0 hnow hnp hci2 hR1 hcut hgcell hsz hsr hmx hc hr hds hszc hq hM hlv hdd
        generalize φ q = gx at *
        clear hW2
        go_wp2_with (go_at_call 68; go_loud ((refine HR1.out.mono ?_; rintro e1 w2 ⟨rfl, rfl⟩)))
        go_region_with (go_at_call 70; refine HCl.out.mono ?_; rintro e1 w4 ⟨a4, c4, rfl, ho4, hb4⟩; have hS := HB.out a4 c4 w4 ho4 hb4; obtain ⟨⟨r1, r2⟩, ⟨r3, r4, r5⟩, hE⟩ := hS; have HE := Lib.hid hE; clear ho4 hb4 hE)
        all_goals
          go_wp2_with fail
          go_roundg (n - (i + 1))
          case rel => exact ⟨i + 1, k + 1, _, _, by omega, rfl, by go_num, by omega, hlose2.out, HE.out.1, HE.out.2.1, HE.out.2.2⟩
          case measure => omega
    · obtain rfl : i = n := by omega
      have hfin : Vf.lose D.files (Vf.u64 loss) k0 [] D.names = acc := by
        rw [← HALL.out, hlose.out, List.drop_of_length_le (by rw [← HN.out]; exact Nat.le_refl _)]
        rfl
      -- every file that a name stands for is there
      have hthere := Vf.lose_there D.files (Vf.u64 loss) D.names k0 [] (fun x hx => (HNUM.out x hx).2.2)
      rw [hfin] at hthere
      have hE : Hid (LostB w p mn ms ci φ ρ D (Vf.lose D.files (Vf.u64 loss) k0 [] D.names) (.returned (.tuple #[])) wr) := by
        have hK : KeptF (fun b => b = ci ∨ ∃ m, Vf.Live D m ∧ b = φ m) w wr := (KeptF.of_below HB1.out).trans hkept
        obtain ⟨e1, e2, e3, e4⟩ := H.out.apart_row
        have hpci : p ≠ ci := fun e => by
          have h := H.out.row
          unfold RowT at h
          rw [e, HCI.out] at h
          simp at h
        have hmn : ∀ {b n F}, MapA w b n F → b ≠ ci := fun {b n F} hm e => by
          obtain ⟨_, ⟨es, clock, h, _⟩, _⟩ := hm
          rw [e, HCI.out] at h
          cases h
        refine ⟨rfl, ρ', ⟨?_, ?_, ?_, H.out.ne, fun m hm => ?_, HINJ.out, hLB.apart⟩, hLB.own, hK⟩
        · exact H.out.row.keep (hK.block p H.out.row.lt (fun h => h.elim hpci (fun ⟨m, hm, h⟩ => (e3 m hm).1 h.symm)))
        · exact H.out.now.keep (hK.block mn H.out.now.lt (fun h => h.elim (hmn H.out.now) (fun ⟨m, hm, h⟩ => (e3 m hm).2.1 h.symm)))
        · exact H.out.sure.keep (hK.block ms H.out.sure.lt (fun h => h.elim (hmn H.out.sure) (fun ⟨m, hm, h⟩ => (e3 m hm).2.2.1 h.symm)))
        · have hf := hLB.file m hm
          have hm2 : ∃ x ∈ D.names, x.n = m := by
            obtain ⟨x, hx | hx, e⟩ := hm
            · exact ⟨x, hx, e⟩
            · exact ⟨x, by rw [← HNK.out]; exact hx, e⟩
          obtain ⟨x, hx, e⟩ := hm2
          have hp := hthere x hx
          rw [e] at hp
          have hnow : nowF D acc m = Vf.fileAt acc m := by unfold nowF; rw [if_pos hp]
          rw [hnow] at hf
          show FileA wr (φ m) (ρ' m) (Vf.fileAt (Vf.lose D.files (Vf.u64 loss) k0 [] D.names) m)
          rw [hfin]
          exact hf
      clear hLB hcb2 hkept hM hnames hlose hfin hthere
      go_wp2_with fail
      go_end0
      exact hE.out
end Go.Proofs.Ytdohenbicepicaa
