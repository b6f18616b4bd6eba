/-
  The contracts of money's sumOfWeights and Split.
-/
import Derived.Test.YtjjlpjfojgkpkaaGreatDoorMGreat
namespace Go.Proofs.YtjjlpjfojgkpkaaGreatDoor
open Go.RowKit Go.WideShapes Go.Sort
set_option maxRecDepth 100000

/-- What sumOfWeights answers. -/
def sumWV (ad : Nat → Addr) (ws : List Int) : Value := if ws.any M.badW ∨ M.total ws ws.length = 0 then .tuple #[.int .u64 0, errV ad 6] else .tuple #[.int .u64 (M.total ws ws.length : Nat), .nilIface]
set_option maxHeartbeats 3200000 in
theorem sumW_any (ad : Nat → Addr) (v : Value) (g off : Nat) (ws : List Int) (w : World) (hE : Errs ad w) (hv : IntsAt .i64 w v g off ws) :
    Calls Tryz.prog 36 #[v] w fun e w' => e = .returned (sumWV ad ws) ∧ Qt w w' := by
  obtain ⟨a, cap, rfl, ha⟩ := hv.val
  have hle := hv.le
  have HA := Lib.hid ha
  have HV := Lib.hid hv
  have hc6 : w.cell? ⟨0, 0, none⟩ = some (.iface 158 (.pointer (some (ad 6)))) := hE.cells 5 _ rfl
  clear hv ha hE
  go_enter Tryz.func36, Tryz.ntmps36
  go_wp2
  go_loop [4, 9] (fun s i => ∃ k : Nat, k ≤ ws.length ∧ i = .int .i64 k ∧ s = .int .u64 (M.total ws k : Nat) ∧ ∀ x ∈ ws.take k, 0 ≤ x ∧ x ≤ 1000000) (fun _ i => ws.length - (intOf i).toNat)
  case atStart => exact ⟨0, Nat.zero_le _, rfl, rfl, fun x hx => by simp at hx⟩
  case round =>
    obtain ⟨k, hk, rfl, rfl, hg⟩ := hrel
    by_cases hlt : k < ws.length
    · have hxk : ws[k]? = some ws[k] := List.getElem?_eq_getElem hlt
      have hcx := HV.out.cells k _ hxk
      obtain rfl := HA.out (fun e => by rw [e] at hlt; simp at hlt)
      have hmem : ws[k] ∈ ws := List.getElem_mem _
      have hw := M.wAt_get hlt
      have hts := M.total_succ ws k
      have htk : ws.take (k + 1) = ws.take k ++ [ws[k]] := List.take_succ_eq_append_getElem hlt
      by_cases hbad : ws[k] < 0 ∨ 1000000 < ws[k]
      · have hany : ws.any M.badW = true := List.any_eq_true.2 ⟨_, hmem, by simpa [M.badW] using hbad⟩
        have HR := Lib.hid (show sumWV ad ws = .tuple #[.int .u64 0, .iface 158 (.pointer (some (ad 6)))] from if_pos (.inl hany))
        generalize ws[k] = x at *
        clear hany hmem hw hts htk hg hxk
        rcases hbad with hb | hb
        · go_wp2
          go_quiet (fail)
          go_wp2
          go_ret2
          exact ⟨by rw [HR.out]; rfl, (Qt.refl w).drewN _⟩
        · have hb0 : 0 ≤ x := by omega
          go_wp2
          go_quiet (fail)
          go_wp2
          go_ret2
          exact ⟨by rw [HR.out]; rfl, (Qt.refl w).drewN _⟩
      · have hb0 : 0 ≤ ws[k] := by omega
        have hb1 : ws[k] ≤ 1000000 := by omega
        have hbd : M.total ws k ≤ 17592186044416000000 := by
          have h1 : ∀ j, j ≤ k → M.total ws j ≤ 1000000 * j := by
            intro j
            induction j with
            | zero => intro _; exact Nat.le_refl _
            | succ j ih =>
              intro hj
              have := ih (by omega)
              have hx := hg ws[j] (by rw [List.mem_iff_getElem]; exact ⟨j, by rw [List.length_take]; omega, by rw [List.getElem_take]⟩)
              rw [M.total_succ, M.wAt_get (by omega)]
              omega
          have := h1 k (Nat.le_refl _)
          omega
        have hw2 : (M.wAt ws k : Int) = ws[k] := by rw [hw]; omega
        have HG := Lib.hid (show ∀ x ∈ ws.take (k + 1), 0 ≤ x ∧ x ≤ 1000000 by
          intro x hx
          rw [htk] at hx
          rcases List.mem_append.1 hx with h | h
          · exact hg x h
          · rw [List.mem_singleton.1 h]; exact ⟨hb0, hb1⟩)
        have HT := Lib.hid (show (M.total ws k : Int) + ws[k] = (M.total ws (k + 1) : Nat) by rw [hts]; omega)
        generalize ws[k] = x at *
        generalize M.total ws k = t0 at *
        clear hbad hmem hw hts htk hg hxk hw2
        go_wp2
        go_round
        case rel => exact ⟨k + 1, hlt, by go_num, by rw [HT.out], HG.out⟩
        case measure => simp [intOf]; omega
    · obtain rfl : k = ws.length := by omega
      rw [List.take_length] at hg
      have hany : ¬ ws.any M.badW = true := by
        intro h
        obtain ⟨x, hx, hbx⟩ := List.any_eq_true.1 h
        have := hg x hx
        simp only [M.badW, Bool.or_eq_true, decide_eq_true_eq] at hbx
        omega
      have hbd := M.total_bound ws hg ws.length (Nat.le_refl _)
      by_cases h0 : M.total ws ws.length = 0
      · have HR := Lib.hid (show sumWV ad ws = .tuple #[.int .u64 0, .iface 158 (.pointer (some (ad 6)))] from if_pos (.inr h0))
        rw [h0]
        clear hany hg hbd h0
        go_wp2
        go_quiet (fail)
        go_wp2
        go_ret2
        exact ⟨by rw [HR.out]; rfl, (Qt.refl w).drewN _⟩
      · have HR := Lib.hid (show sumWV ad ws = .tuple #[.int .u64 (M.total ws ws.length : Nat), .nilIface] from if_neg (fun h => h.elim hany h0))
        have b0 : ((M.total ws ws.length : Int) == 0) = false := by rw [beq_eq_false_iff_ne]; omega
        generalize M.total ws ws.length = t0 at *
        clear hany hg hbd h0
        go_wp2
        go_ret2
        exact ⟨by rw [HR.out]; rfl, Qt.refl w⟩

theorem sumWV_bad {ad : Nat → Addr} {ws : List Int} (h : ws.any M.badW = true ∨ M.total ws ws.length = 0) : sumWV ad ws = .tuple #[.int .u64 0, .iface 158 (.pointer (some (ad 6)))] := if_pos h
theorem sumWV_good {ad : Nat → Addr} {ws : List Int} (h : ¬ (ws.any M.badW = true ∨ M.total ws ws.length = 0)) : sumWV ad ws = .tuple #[.int .u64 (M.total ws ws.length : Nat), .nilIface] := if_neg h
/-- What Split answers. -/
def SplitV (ad : Nat → Addr) (a : Int) (ws : List Int) (w : World) (e : Ending) (w' : World) : Prop :=
  ∃ v, e = .returned (.tuple #[v, errV ad (M.splitE a ws)]) ∧ Qt w w' ∧ ((M.splitE a ws ≠ 0 ∧ v = .slice none 0 0) ∨ (M.splitE a ws = 0 ∧ ∃ g, v = .slice (some ⟨g, 0, none⟩) ws.length ws.length ∧ w.heap.size ≤ g ∧ RowI .i64 w' g 2 (M.shares a.toNat (M.total ws ws.length) ws)))
theorem infoI64 : (Tryz.prog.info? 2).map (fun i => (i.zero, i.size, i.bytes)) = some (some (.int .i64 0), 1, 8) := by kernel_rfl
theorem infoU64 : (Tryz.prog.info? 56).map (fun i => (i.zero, i.size, i.bytes)) = some (some (.int .u64 0), 1, 8) := by kernel_rfl
/-- k shares laid. -/
def layQ (A W : Nat) (ws : List Int) (k : Nat) : List Int := M.quos A W ws k ++ List.replicate (ws.length - k) 0
def layR (A W : Nat) (ws : List Int) (k : Nat) : List Int := M.rems A W ws k ++ List.replicate (ws.length - k) 0
theorem layQ_at {A W : Nat} {ws : List Int} {k : Nat} (h : k < ws.length) : (layQ A W ws k)[k]? = some 0 := by
  unfold layQ M.quos
  rw [List.getElem?_append_right (by simp), List.length_map, List.length_range, Nat.sub_self, List.getElem?_replicate, if_pos (by omega)]
theorem layR_at {A W : Nat} {ws : List Int} {k : Nat} (h : k < ws.length) : (layR A W ws k)[k]? = some 0 := by
  unfold layR M.rems
  rw [List.getElem?_append_right (by simp), List.length_map, List.length_range, Nat.sub_self, List.getElem?_replicate, if_pos (by omega)]
theorem layQ_step {A W : Nat} {ws : List Int} {k : Nat} (h : k < ws.length) : (layQ A W ws k).set k (M.quo A W (M.wAt ws) k : Int) = layQ A W ws (k + 1) := M.set_next (f := fun i => (M.quo A W (M.wAt ws) i : Int)) h
theorem layR_step {A W : Nat} {ws : List Int} {k : Nat} (h : k < ws.length) : (layR A W ws k).set k (M.rem A W (M.wAt ws) k : Int) = layR A W ws (k + 1) := M.set_next (f := fun i => (M.rem A W (M.wAt ws) i : Int)) h
theorem layQ_end (A W : Nat) (ws : List Int) : layQ A W ws ws.length = M.quos A W ws ws.length := by unfold layQ; rw [Nat.sub_self]; simp
theorem layR_end (A W : Nat) (ws : List Int) : layR A W ws ws.length = M.rems A W ws ws.length := by unfold layR; rw [Nat.sub_self]; simp
/-- The first loop. -/
def LayAt (A W : Nat) (ws : List Int) (w1 : World) (gs gr k : Nat) (wr : World) : Prop :=
  k ≤ ws.length ∧ RowI .i64 wr gs 2 (layQ A W ws k) ∧ RowI .u64 wr gr 56 (layR A W ws k) ∧ Since w1.heap.size w1 wr
theorem LayAt.step {A W : Nat} {ws : List Int} {w1 wr w2 : World} {gs gr k : Nat} (h : LayAt A W ws w1 gs gr k wr) (hk : k < ws.length) (hs : w1.heap.size ≤ gs) (hr : w1.heap.size ≤ gr) (hne : gs ≠ gr) (q : Qt wr w2) :
    LayAt A W ws w1 gs gr (k + 1) ((w2.setCell ⟨gs, k, none⟩ (.int .i64 (M.quo A W (M.wAt ws) k : Nat))).setCell ⟨gr, k, none⟩ (.int .u64 (M.rem A W (M.wAt ws) k : Nat))) := by
  obtain ⟨_, h1, h2, h3⟩ := h
  refine ⟨hk, ?_, ?_, ?_⟩
  · have a1 := (h1.qt q).store k (M.quo A W (M.wAt ws) k : Nat)
    rw [layQ_step hk] at a1
    exact a1.kept (Keeps.setCell (S := fun j => j = gr) (Keeps.refl _ _) (fun _ => rfl) _) hne
  · have a2 := (h2.qt q).kept (Keeps.setCell (S := fun j => j = gs) (p := ⟨gs, k, none⟩) (Keeps.refl _ w2) (fun _ => rfl) (.int .i64 (M.quo A W (M.wAt ws) k : Nat))) (Ne.symm hne)
    have a3 := a2.store k (M.rem A W (M.wAt ws) k : Nat)
    rw [layR_step hk] at a3
    exact a3
  · exact ((h3.step q (fun _ e => e.elim)).setCell (p := ⟨gs, k, none⟩) (fun _ => hs) _).setCell (p := ⟨gr, k, none⟩) (fun _ => hr) _
/-- The second loop. -/
def GiveAt (f : Nat → Nat) (n : Nat) (o : List Nat) (w1 : World) (gs go k : Nat) (wr : World) : Prop :=
  RowI .i64 wr gs 2 (M.given f n o k) ∧ RowI .i64 wr go 3 (o.map Int.ofNat) ∧ Since w1.heap.size w1 wr
theorem GiveAt.step {f : Nat → Nat} {n : Nat} {o : List Nat} {w1 wr : World} {gs go k : Nat} (h : GiveAt f n o w1 gs go k wr) (hk : k < o.length) (hnd : o.Nodup) (hn : o[k] < n) (hs : w1.heap.size ≤ gs) (hne : gs ≠ go) :
    GiveAt f n o w1 gs go (k + 1) (wr.setCell ⟨gs, o[k], none⟩ (.int .i64 ((f o[k] : Int) + 1))) := by
  obtain ⟨h1, h2, h3⟩ := h
  refine ⟨?_, h2.kept (Keeps.setCell (S := fun j => j = gs) (p := ⟨gs, o[k], none⟩) (Keeps.refl _ wr) (fun _ => rfl) _) (Ne.symm hne), h3.setCell (p := ⟨gs, o[k], none⟩) (fun _ => hs) _⟩
  have a := h1.store o[k] ((f o[k] : Int) + 1)
  rwa [(M.given_step hk hnd hn).2] at a
end Go.Proofs.YtjjlpjfojgkpkaaGreatDoor
