/-
  The contract of money's Split.
-/
import Derived.Test.YtjjlpjfojgkpkaaGreatDoorMSplitM
namespace Go.Proofs.YtjjlpjfojgkpkaaGreatDoor
open Go.RowKit Go.WideShapes Go.Sort
set_option maxRecDepth 100000

theorem wrapU_nat {a : Nat} (h : a < 9223372036854775808) : IntKind.u64.wrap (a : Int) = (a : Int) := by rw [IntKind.wrap_u64]; omega
theorem wrap64_nat {a : Nat} (h : a < 9223372036854775808) : wrap64 (a : Int) = (a : Int) := by unfold wrap64; omega
theorem wrap64_succ {a : Nat} (h : a + 1 < 9223372036854775808) : wrap64 ((a : Int) + 1) = (a : Int) + 1 := by unfold wrap64; omega
theorem sub_nat {a b : Nat} (h : b ≤ a) : (a : Int) - (b : Int) = ((a - b : Nat) : Int) := by omega
theorem wrap64_sub {a b : Nat} (h : b ≤ a) (ha : a < 9223372036854775808) : wrap64 ((a : Int) - (b : Int)) = ((a - b : Nat) : Int) := by unfold wrap64; omega
set_option maxHeartbeats 6400000 in
theorem split4_any (ad : Nat → Addr) (a : Int) (v : Value) (g off : Nat) (ws : List Int) (w : World) (a0 : -9223372036854775808 ≤ a) (a1 : a < 9223372036854775808) (hE : Errs ad w) (hv : IntsAt .i64 w v g off ws) :
    Calls Tryz.prog 11 #[.int .i64 a, v] w (SplitV ad a ws w) := by
  by_cases ha : a < 0
  · have hc9 : w.cell? ⟨3, 0, none⟩ = some (.iface 158 (.pointer (some (ad 9)))) := hE.cells 8 _ rfl
    have e9 : M.splitE a ws = 9 := if_pos ha
    have FN := Lib.hid (show SplitV ad a ws w (.returned (.tuple #[.slice none 0 0, .iface 158 (.pointer (some (ad 9)))])) (w.drewN 1) from
      ⟨_, by rw [e9]; rfl, (Qt.refl w).drewN _, .inl ⟨by rw [e9]; decide, rfl⟩⟩)
    clear e9 hE hv
    go_enter Tryz.func11, Tryz.ntmps11
    go_wp2
    go_quiet (fail)
    go_wp2
    go_ret2
    obtain ⟨v', f1, f2, f3⟩ := FN.out
    exact ⟨v', f1, (Qt.refl w).drewN _, by
      rcases f3 with f3 | ⟨f3, _⟩
      · exact .inl f3
      · exact absurd f3 (by rw [show M.splitE a ws = 9 from if_pos ha]; decide)⟩
  · obtain ⟨A, rfl⟩ := Int.eq_ofNat_of_zero_le (show 0 ≤ a by omega)
    have SW := Lib.hid (sumW_any ad v g off ws w hE hv)
    by_cases hbad : ws.any M.badW = true ∨ M.total ws ws.length = 0
    · have e6 : M.splitE (A : Int) ws = 6 := by unfold M.splitE; rw [if_neg ha, if_pos hbad]
      have FN := Lib.hid (fun w' (k : Qt w w') => show SplitV ad (A : Int) ws w (.returned (.tuple #[.slice none 0 0, .iface 158 (.pointer (some (ad 6)))])) w' from
        ⟨_, by rw [e6]; rfl, k, .inl ⟨by rw [e6]; decide, rfl⟩⟩)
      rw [sumWV_bad hbad] at SW
      clear e6 hE hv hbad a0 ha a1
      go_enter Tryz.func11, Tryz.ntmps11
      go_wp2_with fail
      refine (SW.out).mono ?_
      rintro e w1 ⟨rfl, k1⟩
      have K1 := Lib.hid k1; clear k1
      go_wp2
      go_ret2
      exact FN.out _ K1.out
    · have e0 : M.splitE (A : Int) ws = 0 := by unfold M.splitE; rw [if_neg ha, if_neg hbad]
      obtain ⟨_, hgood, htot⟩ := M.splitE_zero e0
      rw [sumWV_good hbad] at SW
      obtain ⟨W, hW⟩ : ∃ W, M.total ws ws.length = W := ⟨_, rfl⟩
      obtain ⟨n, hn⟩ : ∃ n, ws.length = n := ⟨_, rfl⟩
      have hle : n ≤ 17592186044416 := by have := hv.le; omega
      have hWb : W ≤ 17592186044416000000 := by have := M.total_bound ws hgood ws.length (Nat.le_refl _); omega
      have hn0 : 0 < n := by
        rcases Nat.eq_zero_or_pos n with h0 | h0
        · rw [hn, h0] at hW htot; rw [show M.total ws 0 = 0 from rfl] at htot; omega
        · exact h0
      have hsplit : M.Split A n W (M.wAt ws) := ⟨by rw [← hn]; exact hW, by omega⟩
      have FN := Lib.hid (fun w' g' (k : Qt w w') (hg : w.heap.size ≤ g') (hr : RowI .i64 w' g' 2 (M.shares A W ws)) => show SplitV ad (A : Int) ws w (.returned (.tuple #[.slice (some ⟨g', 0, none⟩) n n, .nilIface])) w' from
        ⟨_, by rw [e0]; rfl, k, .inr ⟨e0, g', by rw [hn], hg, by rw [hW]; exact hr⟩⟩)
      rw [hW] at SW
      obtain ⟨p, cap, rfl, hp⟩ := hv.val
      obtain rfl := hp (fun e => by rw [e] at hn; simp at hn; omega)
      have HV := Lib.hid hv
      have hmk1 := fun (W : World) => run_make_row' (P := Tryz.prog) 24 2 (.int .i64 0) 8 Tryz.underlying24 infoI64 rfl .i64 .i64 n (by omega) (by omega) W
      have hmk2 := fun (W : World) => run_make_row' (P := Tryz.prog) 68 56 (.int .u64 0) 8 Tryz.underlying68 infoU64 rfl .i64 .i64 n (by omega) (by omega) W
      rw [cellsI_made] at hmk1 hmk2
      rw [hn] at SW ⊢
      have HG := Lib.hid hgood
      have HSP := Lib.hid hsplit
      have HN := Lib.hid hn
      clear hE hv hbad a0 ha e0 hgood htot hW hp hn hsplit
      have hA : A < 9223372036854775808 := by omega
      have HAb := Lib.hid hA
      clear hA a1
      go_enter Tryz.func11, Tryz.ntmps11
      go_wp2_with fail
      refine (SW.out).mono ?_
      rintro e w1 ⟨rfl, k1⟩
      have K1 := Lib.hid k1; clear k1
      have hbA : decide ((A : Int) < 0) = false := decide_eq_false (by omega)
      have H0 := Lib.hid (show LayAt A W ws w1 w1.heap.size (w1.heap.size + 1) 0 ((w1.alloc (.cells (cellsI .i64 (List.replicate n 0)) 2)).alloc (.cells (cellsI .u64 (List.replicate n 0)) 56)) by
        have hs : (w1.alloc (.cells (cellsI .i64 (List.replicate n 0)) 2)).heap.size = w1.heap.size + 1 := World.size_alloc w1 _
        refine ⟨Nat.zero_le _, ?_, ?_, ?_⟩
        · have := (RowI.new .i64 w1 2 (List.replicate n 0)).qt ((Qt.refl _).alloc (.cells (cellsI .u64 (List.replicate n 0)) 56))
          unfold layQ M.quos
          rw [HN.out]
          simpa using this
        · have := RowI.new .u64 (w1.alloc (.cells (cellsI .i64 (List.replicate n 0)) 2)) 56 (List.replicate n 0)
          rw [hs] at this
          unfold layR M.rems
          rw [HN.out]
          simpa using this
        · exact Qt.since (((Qt.refl w1).alloc _).alloc _))
      go_wp2
      go_loopw [10, 37] (fun l i wr => ∃ k : Nat, i = .int .i64 k ∧ l = .int .i64 ((A - M.sumTo (M.quo A W (M.wAt ws)) k : Nat) : Int) ∧ LayAt A W ws w1 w1.heap.size (w1.heap.size + 1) k wr) (fun _ i _ => n - (intOf i).toNat)
      case atStart => exact ⟨0, rfl, rfl, H0.out⟩
      case round =>
        obtain ⟨k, rfl, rfl, hL⟩ := hrel
        clear H0
        obtain ⟨hk, hq, hr, hS⟩ := hL
        have HL := Lib.hid (show LayAt A W ws w1 w1.heap.size (w1.heap.size + 1) k wr from ⟨hk, hq, hr, hS⟩)
        by_cases hlt : k < n
        · have hlt' : k < ws.length := by rw [HN.out]; exact hlt
          have hcx := ((HV.out.qt K1.out).since hS).cells k _ (List.getElem?_eq_getElem hlt')
          have hmem : ws[k] ∈ ws := List.getElem_mem _
          have hgx := HG.out _ hmem
          have hw : (M.wAt ws k : Int) = ws[k] := by rw [M.wAt_get hlt']; omega
          rw [← hw] at hcx hgx
          have hwW : M.wAt ws k ≤ W := by rw [← HSP.out.sum]; exact M.sumTo_le _ n k hlt
          have hAW := HAb.out
          have PO := Lib.hid (fun Wd => portion_any A (M.wAt ws k) W Wd (by omega) hwW HSP.out.pos (by omega))
          have hqA := M.quo_left HSP.out hlt
          have HST := Lib.hid (fun w2 (q : Qt wr w2) => HL.out.step hlt' (Nat.le_refl _) (Nat.le_succ _) (by omega) q)
          have HLF := Lib.hid (show A - M.sumTo (M.quo A W (M.wAt ws)) (k + 1) = A - M.sumTo (M.quo A W (M.wAt ws)) k - A * M.wAt ws k / W from M.left_step)
          have hcell := Lib.hid (fun (w2 : World) (q : Qt wr w2) => And.intro ((hq.qt q).cell (layQ_at hlt')) (And.intro ((hq.qt q).frozen k) (And.intro ((hr.qt q).cell (layR_at hlt')) ((hr.qt q).frozen k))))
          unfold M.quo M.rem at HST
          obtain ⟨q0, hq0⟩ : ∃ q0, A * M.wAt ws k / W = q0 := ⟨_, rfl⟩
          obtain ⟨r0, hr0⟩ : ∃ r0, A * M.wAt ws k % W = r0 := ⟨_, rfl⟩
          obtain ⟨l0, hl0⟩ : ∃ l0, A - M.sumTo (M.quo A W (M.wAt ws)) k = l0 := ⟨_, rfl⟩
          have hl0A : l0 ≤ A := by omega
          rw [hq0, hr0] at PO HST
          rw [hq0, hl0] at HLF hqA
          rw [hl0]
          obtain ⟨x, hx⟩ : ∃ x, M.wAt ws k = x := ⟨_, rfl⟩
          rw [hx] at hcx hgx PO
          have hx1 : (x : Int) ≤ 1000000 := hgx.2
          have hq0A : q0 < 9223372036854775808 := Nat.lt_of_le_of_lt (Nat.le_trans hqA hl0A) hAW
          have W1 := wrapU_nat hAW
          have W2 := wrap64_nat hq0A
          have W3 := wrap64_nat (a := l0 - q0) (Nat.lt_of_le_of_lt (Nat.le_trans (Nat.sub_le _ _) hl0A) hAW)
          have W3' := sub_nat hqA
          clear hmem hgx hw hwW hqA hq0A hq0 hr0 hl0 hl0A hx hAW hk hlt' hq hr hS
          go_wp2_with fail
          refine (PO.out _).mono ?_
          rintro e w2 ⟨rfl, k2⟩
          have K2 := Lib.hid k2
          obtain ⟨c1, c2, c3, c4⟩ := hcell.out _ k2
          clear k2
          go_wp2
          go_roundw
          case rel => exact ⟨k + 1, by go_num, by rw [HLF.out]; exact congrArg (Value.int .i64) W3, HST.out _ K2.out⟩
          case measure => simp [intOf]; omega
        · obtain rfl : k = n := by have := HN.out; omega
          have hlen : (M.rems A W ws k).length = k := by simp [M.rems]
          rw [← HN.out, layQ_end, HN.out] at hq
          rw [← HN.out, layR_end, HN.out] at hr
          have hs := hS.size
          have GR := Lib.hid (greatest_any (M.rem A W (M.wAt ws)) k (w1.heap.size + 1) 0 k wr hn0 hle (Nat.le_refl _) hr.lt (fun i hi => by
            rw [Nat.zero_add]
            exact hr.cell (by unfold M.rems; rw [List.getElem?_map, List.getElem?_range hi]; rfl)))
          have hq' : RowI .i64 wr w1.heap.size 2 (M.given (M.quo A W (M.wAt ws)) k [] 0) := by rw [M.given_zero]; exact hq
          have HQ := Lib.hid hq'
          have HS := Lib.hid hS
          have hleft : A - M.sumTo (M.quo A W (M.wAt ws)) k = M.left A k W (M.wAt ws) := rfl
          have hlk := M.left_le HSP.out
          rw [hleft]
          obtain ⟨lf, hlf⟩ : ∃ lf, M.left A k W (M.wAt ws) = lf := ⟨_, rfl⟩
          have HLF := Lib.hid hlf
          rw [hlf] at hlk ⊢
          clear hleft hlf hq hq' hr hlen hS hs hk hlt
          go_wp2_with fail
          refine (GR.out).mono ?_
          rintro e w2 ⟨go, o, rfl, hgo, hro, hso, k2⟩
          have K2 := Lib.hid k2
          have G0 := Lib.hid (show GiveAt (M.quo A W (M.wAt ws)) k o w1 w1.heap.size go 0 w2 by
            refine ⟨?_, hro, HS.out.step k2 (fun _ e => e.elim)⟩
            have := HQ.out.qt k2
            rw [M.given_zero] at this ⊢
            exact this)
          have HSO := Lib.hid hso
          have hgs : w1.heap.size < go := by have := HQ.out.lt; omega
          have hlo : o.length = k := hso.length
          have HLO := Lib.hid hlo
          have HGS := Lib.hid hgs
          clear hgo hro hso k2 hgs hlo
          go_wp2
          go_loopw [70] (fun j wr => ∃ m : Nat, m ≤ lf ∧ j = .int .i64 m ∧ GiveAt (M.quo A W (M.wAt ws)) k o w1 w1.heap.size go m wr) (fun j _ => lf - (intOf j).toNat)
          case atStart => exact ⟨0, Nat.zero_le _, rfl, G0.out⟩
          case round =>
            obtain ⟨m, hm, rfl, hG⟩ := hrel
            clear G0
            have HGG := Lib.hid hG
            obtain ⟨g1, g2, g3⟩ := hG
            by_cases hlt : m < lf
            · have hmo : m < o.length := by rw [HLO.out]; omega
              have hon : o[m] < k := HSO.out.mem.1 (List.getElem_mem hmo)
              have hst := HGG.out.step hmo HSO.out.nodup hon (Nat.le_refl _) (Nat.ne_of_lt HGS.out)
              have c1 := g2.cell (i := m) (x := (o[m] : Int)) (by rw [List.getElem?_map, List.getElem?_eq_getElem hmo]; rfl)
              have c2 := g1.cell (M.given_step hmo HSO.out.nodup hon).1
              have c3 := g1.frozen o[m]
              have hqs : M.quo A W (M.wAt ws) o[m] + 1 ≤ A := by
                have h1 := M.share_le HSP.out hon
                have h2 : o[m] ∈ o.take lf := List.mem_iff_getElem.2 ⟨m, by rw [List.length_take]; omega, by rw [List.getElem_take]⟩
                have h3 := (HSO.out.take lf hon).1 h2
                unfold M.share at h1
                rw [HLF.out, if_pos h3] at h1
                exact h1
              have hqA2 := HAb.out
              have HST := Lib.hid hst
              obtain ⟨at', hat⟩ : ∃ x, o[m] = x := ⟨_, rfl⟩
              rw [hat] at hon c1 c2 c3 hqs HST
              obtain ⟨qa, hqa⟩ : ∃ x, M.quo A W (M.wAt ws) at' = x := ⟨_, rfl⟩
              rw [hqa] at c2 hqs HST
              have W5 := wrap64_succ (Nat.lt_of_le_of_lt hqs hqA2)
              clear hst hat hqa g1 g2 g3 hmo hqA2 hqs
              go_wp2
              go_roundw
              case rel => exact ⟨m + 1, hlt, by go_num, HST.out⟩
              case measure => simp [intOf]; omega
            · obtain rfl : m = lf := by omega
              have FIN := Lib.hid (FN.out wr w1.heap.size (Qt.trans K1.out (Since.qt g3)) (K1.out.size) (by
                have h := g1
                have e := HSO.out
                rw [← HN.out] at e h
                rw [← HLF.out, ← HN.out, M.given_end e] at h
                exact h))
              clear g1 g2 g3 hlt hm
              go_wp2
              go_ret2
              exact FIN.out
end Go.Proofs.YtjjlpjfojgkpkaaGreatDoor
