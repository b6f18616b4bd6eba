/-
  The contract of remitlaw04.MoneySums: it answers true.
-/
import Derived.Test.YtdoemhlekncjdaaDoorMRates
namespace Go.Proofs.YtdoemhlekncjdaaDoor
open Go.RowKit Go.WideShapes
set_option maxRecDepth 100000

theorem fit_some {v : Int} (h : -9223372036854775808 ≤ v ∧ v < 9223372036854775808) : M.fit v = some v := if_pos h
theorem fit_none {v : Int} (h : ¬ (-9223372036854775808 ≤ v ∧ v < 9223372036854775808)) : M.fit v = none := if_neg h
theorem tdiv2 (a : Int) : a.tdiv 2 = if a < 0 then -((-a) / 2) else a / 2 := by
  split
  · rw [show a.tdiv 2 = -((-a).tdiv 2) by rw [Int.neg_tdiv, Int.neg_neg], Int.tdiv_eq_ediv_of_nonneg (by omega)]
  · rw [Int.tdiv_eq_ediv_of_nonneg (by omega)]
/-- The halves. -/
theorem half_spec (a b : Int) (a0 : -9223372036854775808 ≤ a) (a1 : a < 9223372036854775808) (b0 : -9223372036854775808 ≤ b) (b1 : b < 9223372036854775808) :
    ∃ h : Int, wrap64 (wrap64 (wrap64 (a.tdiv 2) + wrap64 (b.tdiv 2)) + wrap64 ((wrap64 (a.tmod 2 + b.tmod 2)).tdiv 2)) = h ∧ 2 * h - 1 ≤ a + b ∧ a + b ≤ 2 * h + 1 := by
  refine ⟨_, rfl, ?_⟩
  rw [Int.tmod_def, Int.tmod_def, tdiv2 a, tdiv2 b]
  obtain ⟨ta, hta, ha⟩ : ∃ ta : Int, (if a < 0 then -((-a) / 2) else a / 2) = ta ∧ ((a = 2 * ta) ∨ (0 < a ∧ a = 2 * ta + 1) ∨ (a < 0 ∧ a = 2 * ta - 1)) := ⟨_, rfl, by split <;> omega⟩
  obtain ⟨tb, htb, hb⟩ : ∃ tb : Int, (if b < 0 then -((-b) / 2) else b / 2) = tb ∧ ((b = 2 * tb) ∨ (0 < b ∧ b = 2 * tb + 1) ∨ (b < 0 ∧ b = 2 * tb - 1)) := ⟨_, rfl, by split <;> omega⟩
  rw [hta, htb, show wrap64 ta = ta by unfold wrap64; omega, show wrap64 tb = tb by unfold wrap64; omega]
  clear hta htb
  obtain ⟨r, hr⟩ : ∃ r : Int, a - 2 * ta + (b - 2 * tb) = r := ⟨_, rfl⟩
  have hr2 : -2 ≤ r ∧ r ≤ 2 := by omega
  rw [hr, show wrap64 r = r by unfold wrap64; omega, tdiv2 r]
  obtain ⟨tr, htr, htr2⟩ : ∃ tr : Int, (if r < 0 then -((-r) / 2) else r / 2) = tr ∧ ((r = 2 * tr) ∨ (0 < r ∧ r = 2 * tr + 1) ∨ (r < 0 ∧ r = 2 * tr - 1)) := ⟨_, rfl, by split <;> omega⟩
  rw [htr, show wrap64 (ta + tb) = ta + tb by unfold wrap64; omega, show wrap64 tr = tr by unfold wrap64; omega, show wrap64 (ta + tb + tr) = ta + tb + tr by unfold wrap64; omega]
  omega
def overB (h : Int) : Bool := decide (4611686018427387904 ≤ h) || decide (h < -4611686018427387904)
def nearB (h : Int) : Bool := (decide (4611686018427387901 < h) && decide (h < 4611686018427387907)) || (decide (-4611686018427387907 < h) && decide (h < -4611686018427387901))
theorem half_yes {h v : Int} (h1 : 2 * h - 1 ≤ v) (h2 : v ≤ 2 * h + 1) (hv : -9223372036854775808 ≤ v ∧ v < 9223372036854775808) : nearB h = true ∨ overB h = false := by
  unfold nearB overB
  simp only [Bool.or_eq_true, Bool.and_eq_true, decide_eq_true_eq, Bool.or_eq_false_iff, decide_eq_false_iff_not]
  omega
theorem half_no {h v : Int} (h1 : 2 * h - 1 ≤ v) (h2 : v ≤ 2 * h + 1) (hv : ¬ (-9223372036854775808 ≤ v ∧ v < 9223372036854775808)) : nearB h = true ∨ overB h = true := by
  unfold nearB overB
  simp only [Bool.or_eq_true, Bool.and_eq_true, decide_eq_true_eq]
  omega
theorem sumI_split (xs : List Int) (k : Nat) : M.sumI xs = M.sumI (xs.take k) + M.sumI (xs.drop k) := by
  conv => lhs; rw [← List.take_append_drop k xs]
  exact M.sumI_append _ _
theorem cut_spec (cut : Int) (n : Nat) (hn : n ≤ 17592186044416) : ∃ k : Nat, wrap64 ((IntKind.u64.wrap cut).tmod ((n : Int) + 1)) = (k : Int) ∧ k ≤ n := by
  have h0 : 0 ≤ IntKind.u64.wrap cut := by rw [IntKind.wrap_u64]; omega
  rw [Int.tmod_eq_emod_of_nonneg h0]
  generalize IntKind.u64.wrap cut = u at *
  have h1 := Int.emod_nonneg u (show ((n : Int) + 1) ≠ 0 by omega)
  have h2 := Int.emod_lt_of_pos u (show 0 < (n : Int) + 1 by omega)
  generalize u % ((n : Int) + 1) = z at *
  exact ⟨z.toNat, by unfold wrap64; omega, by omega⟩
theorem addr_zero (p : Option Addr) : p.map (fun x : Addr => x.add 0) = p := by
  cases p with
  | none => rfl
  | some a => rfl
theorem slice_low (pv : Option Addr) (n cap k : Nat) (hk : k ≤ cap) (W : World) : (Instr.slice 29 (.slice pv n cap) none (some (.int .i64 (k : Int))) none).run Tryd.prog W = .ok (.slice pv k cap) W := by
  rw [run_slice_h W 29 pv n cap Tryd.underlying29 .i64 (k : Int) (by omega) (by omega)]
  rw [show Tryd.prog.elem 29 = 2 by kernel_rfl, Tryd.sizeOf2]
  simp only [Result.andThen, sliced, Int.toNat_natCast, Nat.zero_mul, Nat.sub_zero]
  by_cases hc : cap = 0
  · rw [if_pos hc]
  · rw [if_neg hc, addr_zero]
/-- What list[k:] is. -/
def highV (pv : Option Addr) (n cap k : Nat) : Value := .slice (if cap = k then pv else pv.map (fun x : Addr => x.add k)) (n - k) (cap - k)
theorem slice_high (pv : Option Addr) (n cap k : Nat) (hk : k ≤ n) (W : World) : (Instr.slice 29 (.slice pv n cap) (some (.int .i64 (k : Int))) none none).run Tryd.prog W = .ok (highV pv n cap k) W := by
  rw [run_slice_l W 29 pv n cap Tryd.underlying29 .i64 (k : Int) (by omega) (by omega)]
  rw [show Tryd.prog.elem 29 = 2 by kernel_rfl, Tryd.sizeOf2]
  simp only [Result.andThen, sliced, Int.toNat_natCast, Nat.mul_one]
  rfl
theorem high_ints {k : IntKind} {w : World} {pv : Option Addr} {m cap g off : Nat} {xs : List Int} (h : IntsAt k w (.slice pv m cap) g off xs) {n : Nat} (hn : n ≤ m) : IntsAt k w (highV pv m cap n) g (off + n) (xs.drop n) := by
  have hm : m = xs.length := by
    obtain ⟨a', c', e, _⟩ := h.val
    injection e
  have hr := h.room _ _ _ rfl
  refine ⟨⟨_, _, by rw [List.length_drop, ← hm]; rfl, fun hne => ?_⟩, by have := h.le; rw [List.length_drop]; omega, fun a' n' c' e => ?_, fun i x hx => ?_⟩
  · have hlt : n < xs.length := by
      rcases Nat.lt_or_ge n xs.length with h1 | h1
      · exact h1
      · exact absurd (List.drop_eq_nil_of_le h1) hne
    obtain ⟨a', c', e, ha⟩ := h.val
    injection e with e1 e2 e3
    rw [if_neg (by omega), e1, ha (fun e => by rw [e] at hlt; simp at hlt), Option.map_some, add_plain]
  · unfold highV at e
    injection e with e1 e2 e3
    omega
  · rw [List.getElem?_drop] at hx
    rw [Nat.add_assoc]
    exact h.cells _ x hx
theorem fit_bounds {v x : Int} (h : M.fit v = some x) : x = v ∧ -9223372036854775808 ≤ v ∧ v < 9223372036854775808 := by
  unfold M.fit at h
  split at h
  · injection h with h; exact ⟨h.symm, by omega, by omega⟩
  · cases h
set_option maxHeartbeats 6400000 in
theorem sums_any (ad : Nat → Addr) (a b cut : Int) (v : Value) (g off : Nat) (xs : List Int) (w : World) (a0 : -9223372036854775808 ≤ a) (a1 : a < 9223372036854775808) (b0 : -9223372036854775808 ≤ b) (b1 : b < 9223372036854775808) (c0 : -9223372036854775808 ≤ cut) (c1 : cut < 9223372036854775808)
    (hE : Errs ad w) (htab : Tab10 w) (hv : IntsAt .i64 w v g off xs) (hx : ∀ x ∈ xs, -9223372036854775808 ≤ x ∧ x < 9223372036854775808) :
    Calls Tryd.prog 4 #[.int .i64 a, .int .i64 b, v, .int .i64 cut] w fun e w' => e = .returned (.bool true) ∧ Qt w w' := by
  have FX := Lib.hid (fixed_any ad w hE htab)
  have HE := Lib.hid (fun W (q : Qt w W) => hE.qt q)
  have HV := Lib.hid (fun W (q : Qt w W) => hv.qt q)
  have HX := Lib.hid hx
  have AD := Lib.hid (fun W (q : Qt w W) (c d : Int) (c0 : -9223372036854775808 ≤ c) (c1 : c < 9223372036854775808) (d0 : -9223372036854775808 ≤ d) (d1 : d < 9223372036854775808) => add_any ad c d W (hE.qt q) c0 c1 d0 d1)
  have SB := Lib.hid (fun W (q : Qt w W) (c d : Int) (c0 : -9223372036854775808 ≤ c) (c1 : c < 9223372036854775808) (d0 : -9223372036854775808 ≤ d) (d1 : d < 9223372036854775808) => sub_any ad c d W (hE.qt q) c0 c1 d0 d1)
  have SU := Lib.hid (fun W (q : Qt w W) va ga oa ys (hy : IntsAt .i64 W va ga oa ys) (hys : ∀ x ∈ ys, -9223372036854775808 ≤ x ∧ x < 9223372036854775808) => sum4_any ad va ga oa ys W (hE.qt q) hy hys)
  have N0 := Lib.hid (fun W => num_nil W)
  have N10 := Lib.hid (fun W (q : Qt w W) => num_any ad 10 W (hE.qt q) (by decide))
  rw [show errV ad 10 = .iface 121 (.pointer (some (ad 10))) from rfl] at N10
  clear hE htab hv hx
  have A0 := Lib.hid (And.intro a0 (And.intro a1 (And.intro b0 b1)))
  have C0 := Lib.hid (And.intro c0 c1)
  have A0 := Lib.hid (And.intro a0 (And.intro a1 (And.intro b0 b1)))
  have C0 := Lib.hid (And.intro c0 c1)
  have A0 := Lib.hid (And.intro a0 (And.intro a1 (And.intro b0 b1)))
  have C0 := Lib.hid (And.intro c0 c1)
  have A0 := Lib.hid (And.intro a0 (And.intro a1 (And.intro b0 b1)))
  have C0 := Lib.hid (And.intro c0 c1)
  have A0 := Lib.hid (And.intro a0 (And.intro a1 (And.intro b0 b1)))
  have C0 := Lib.hid (And.intro c0 c1)
  have A0 := Lib.hid (And.intro a0 (And.intro a1 (And.intro b0 b1)))
  have C0 := Lib.hid (And.intro c0 c1)
  by_cases hf : -9223372036854775808 ≤ a + b ∧ a + b < 9223372036854775808
  · have AB := Lib.hid (fun W (q : Qt w W) => AD.out W q a b a0 a1 b0 b1)
    have BA := Lib.hid (fun W (q : Qt w W) => AD.out W q b a b0 b1 a0 a1)
    have SL := Lib.hid (fun W (q : Qt w W) => SU.out _ (q.alloc _) _ _ _ [b, a] (built_ints W [b, a] 2 2 rfl (by show (2 : Nat) ≤ _; decide)) (by intro x hx; simp at hx; omega))
    rw [show M.sumI [b, a] = a + b by simp [M.sumI]; omega] at SL
    rw [show b + a = a + b by omega] at BA
    obtain ⟨h, hh, hh1, hh2⟩ := half_spec a b a0 a1 b0 b1
    rw [sumM_some (fit_some hf)] at AB BA SL
    have HF := Lib.hid (half_yes hh1 hh2 hf)
    have SBX := Lib.hid (fun W (q : Qt w W) => SB.out W q (a + b) b hf.1 hf.2 b0 b1)
    rw [show a + b - b = a by omega, sumM_some (fit_some ⟨a0, a1⟩)] at SBX
    obtain ⟨x, hx⟩ : ∃ x, a + b = x := ⟨_, rfl⟩
    rw [hx] at AB BA SL SBX
    clear hx hf hh1 hh2 a0 a1 b0 b1 c0 c1
    go_enter Tryd.func4, Tryd.ntmps4
    go_wp2_with fail
    refine (FX.out).mono ?_
    rintro e w1 ⟨rfl, k1⟩
    have K1 := Lib.hid k1; clear k1
    go_wp2_with fail
    refine (AB.out _ K1.out).mono ?_
    rintro e w2 ⟨rfl, k2⟩
    have K2 := Lib.hid (Qt.trans K1.out k2); clear k2
    go_wp2_with fail
    refine (SL.out _ K2.out).mono ?_
    rintro e w3 ⟨rfl, k3⟩
    have K3 := Lib.hid (Qt.trans (K2.out.alloc _) k3); clear k3
    go_wp2_with fail
    refine (BA.out _ K3.out).mono ?_
    rintro e w4 ⟨rfl, k4⟩
    have K4 := Lib.hid (Qt.trans K3.out k4); clear k4
    go_upto_region 8 with (first | (go_at_call 13; refine (N0.out _).mono ?_; rintro e wN ⟨rfl, rfl⟩))
    go_upto_region 9 with (fail)
    rw [hh]
    clear hh
    go_cut [16] from 97 to 102 (fun o wx => w4 = wx ∧ o = .bool (overB h))
    case first =>
      by_cases o1 : 4611686018427387904 ≤ h
      · have d1 : decide (4611686018427387904 ≤ h) = true := decide_eq_true o1
        clear o1
        go_wp2
        go_meet
        exact ⟨rfl, congrArg Value.bool (by unfold overB; simp [d1])⟩
      · have d1 : decide (4611686018427387904 ≤ h) = false := decide_eq_false o1
        clear o1
        go_wp2
        go_meet
        exact ⟨rfl, congrArg Value.bool (by unfold overB; simp [d1])⟩
    case rest =>
      obtain ⟨rfl, rfl⟩ := hcut
      go_upto_region 10 with (fail)
      go_cut [17] from 103 to 116 (fun o wx => w4 = wx ∧ o = .bool (nearB h))
      case first =>
        by_cases o1 : 4611686018427387901 < h
        · have d1 : decide (4611686018427387901 < h) = true := decide_eq_true o1
          clear o1
          by_cases o2 : h < 4611686018427387907
          · have d2 : decide (h < 4611686018427387907) = true := decide_eq_true o2
            clear o2
            go_wp2
            go_meet
            exact ⟨rfl, congrArg Value.bool (by unfold nearB; simp [d1, d2])⟩
          · have d2 : decide (h < 4611686018427387907) = false := decide_eq_false o2
            have d3 : decide (-4611686018427387907 < h) = true := decide_eq_true (by omega)
            clear o2
            go_wp2
            go_meet
            exact ⟨rfl, congrArg Value.bool (by unfold nearB; simp [d1, d2, d3])⟩
        · have d1 : decide (4611686018427387901 < h) = false := decide_eq_false o1
          clear o1
          by_cases o2 : -4611686018427387907 < h
          · have d2 : decide (-4611686018427387907 < h) = true := decide_eq_true o2
            clear o2
            go_wp2
            go_meet
            exact ⟨rfl, congrArg Value.bool (by unfold nearB; simp [d1, d2])⟩
          · have d2 : decide (-4611686018427387907 < h) = false := decide_eq_false o2
            clear o2
            go_wp2
            go_meet
            exact ⟨rfl, congrArg Value.bool (by unfold nearB; simp [d1, d2])⟩
      case rest =>
        obtain ⟨rfl, rfl⟩ := hcut
        have HFO := HF.out
        generalize nearB h = nb at *
        generalize overB h = ob at *
        go_upto_region 11 with (fail)
        go_cut [124] from 117 to 124 (fun t wx => w4 = wx ∧ t = .bool false)
        case first =>
          rcases HFO with rfl | rfl
          · go_wp2
            go_meet
            exact ⟨rfl, rfl⟩
          · cases nb
            · go_wp2
              go_meet
              exact ⟨rfl, rfl⟩
            · go_wp2
              go_meet
              exact ⟨rfl, rfl⟩
        case rest =>
          obtain ⟨rfl, rfl⟩ := hcut
          clear HFO
          go_wp2_with fail
          refine (SBX.out _ K4.out).mono ?_
          rintro e w20 ⟨rfl, k20⟩
          have K20 := Lib.hid (Qt.trans K4.out k20); clear k20
          by_cases hd : -9223372036854775808 ≤ a - b ∧ a - b < 9223372036854775808
          · have SD := Lib.hid (fun W (q : Qt w W) => SB.out W q a b A0.out.1 A0.out.2.1 A0.out.2.2.1 A0.out.2.2.2)
            have AD2 := Lib.hid (fun W (q : Qt w W) => AD.out W q (a - b) b hd.1 hd.2 A0.out.2.2.1 A0.out.2.2.2)
            rw [sumM_some (fit_some hd)] at SD
            rw [show a - b + b = a by omega, sumM_some (fit_some ⟨A0.out.1, A0.out.2.1⟩)] at AD2
            obtain ⟨y, hy⟩ : ∃ y, a - b = y := ⟨_, rfl⟩
            rw [hy] at SD AD2
            clear hy hd
            go_wp2_with fail
            refine (SD.out _ K20.out).mono ?_
            rintro e w21 ⟨rfl, k21⟩
            have K21 := Lib.hid (Qt.trans K20.out k21); clear k21
            go_wp2_with fail
            refine (AD2.out _ K21.out).mono ?_
            rintro e w22 ⟨rfl, k22⟩
            have K22 := Lib.hid (Qt.trans K21.out k22); clear k22
            obtain ⟨pv, cap, rfl, hpv⟩ := (HV.out w (Qt.refl w)).val
            have hle := (HV.out w (Qt.refl w)).le
            have hcap := (HV.out w (Qt.refl w)).room _ _ _ rfl
            obtain ⟨k, hk, hkl⟩ := cut_spec cut xs.length hle
            have SW := Lib.hid (fun W (q : Qt w W) => SU.out W q _ g off xs (HV.out W q) HX.out)
            have SLO := Lib.hid (fun W (q : Qt w W) => SU.out W q (.slice pv k cap) g off (xs.take k) ((HV.out W q).take hkl) (fun x hx => HX.out x (List.mem_of_mem_take hx)))
            have SHI := Lib.hid (fun W (q : Qt w W) => SU.out W q (highV pv xs.length cap k) g (off + k) (xs.drop k) (high_ints (HV.out W q) hkl) (fun x hx => HX.out x (List.mem_of_mem_drop hx)))
            rw [sumI_split xs k] at SW
            have EL := fun W => slice_low pv xs.length cap k (by omega) W
            have EH := fun W => slice_high pv xs.length cap k hkl W
            generalize M.sumI (xs.take k) = L at *
            generalize M.sumI (xs.drop k) = R at *
            obtain ⟨x1, E1, hE1⟩ := sumM_shape ad (L + R)
            obtain ⟨x3, E3, hE3⟩ := sumM_shape ad R
            clear hpv
            go_upto_region 23 with (fail)
            rw [hk]
            clear hk
            cases hL : M.fit L with
            | none =>
              rw [sumM_none hL] at SLO
              rw [hE1] at SW
              rw [hE3] at SHI
              clear hE1 hE3 hL
              go_wp2_with fail
              refine (SW.out _ K22.out).mono ?_
              rintro e w23 ⟨rfl, k23⟩
              have K23 := Lib.hid (Qt.trans K22.out k23); clear k23
              go_wp2_with fail
              refine (SLO.out _ K23.out).mono ?_
              rintro e w24 ⟨rfl, k24⟩
              have K24 := Lib.hid (Qt.trans K23.out k24); clear k24
              go_wp2_with fail
              refine (SHI.out _ K24.out).mono ?_
              rintro e w25 ⟨rfl, k25⟩
              have K25 := Lib.hid (Qt.trans K24.out k25); clear k25
              go_wp2
              go_ret
              exact ⟨rfl, K25.out⟩
            | some l =>
              rw [sumM_some hL] at SLO
              obtain ⟨rfl, l0, l1⟩ := fit_bounds hL
              cases hR : M.fit R with
              | none =>
                rw [sumM_none hR] at SHI
                rw [hE1] at SW
                clear hE1 hE3 hL hR l0 l1
                go_wp2_with fail
                refine (SW.out _ K22.out).mono ?_
                rintro e w23 ⟨rfl, k23⟩
                have K23 := Lib.hid (Qt.trans K22.out k23); clear k23
                go_wp2_with fail
                refine (SLO.out _ K23.out).mono ?_
                rintro e w24 ⟨rfl, k24⟩
                have K24 := Lib.hid (Qt.trans K23.out k24); clear k24
                go_wp2_with fail
                refine (SHI.out _ K24.out).mono ?_
                rintro e w25 ⟨rfl, k25⟩
                have K25 := Lib.hid (Qt.trans K24.out k25); clear k25
                go_wp2
                go_ret
                exact ⟨rfl, K25.out⟩
              | some r =>
                rw [sumM_some hR] at SHI
                obtain ⟨rfl, r0, r1⟩ := fit_bounds hR
                have AD4 := Lib.hid (fun W (q : Qt w W) => AD.out W q l r l0 l1 r0 r1)
                clear hE1 hE3 hL hR l0 l1 r0 r1
                cases hS : M.fit (l + r) with
                | none =>
                  rw [sumM_none hS] at AD4 SW
                  clear hS
                  go_wp2_with fail
                  refine (SW.out _ K22.out).mono ?_
                  rintro e w23 ⟨rfl, k23⟩
                  have K23 := Lib.hid (Qt.trans K22.out k23); clear k23
                  go_wp2_with fail
                  refine (SLO.out _ K23.out).mono ?_
                  rintro e w24 ⟨rfl, k24⟩
                  have K24 := Lib.hid (Qt.trans K23.out k24); clear k24
                  go_wp2_with fail
                  refine (SHI.out _ K24.out).mono ?_
                  rintro e w25 ⟨rfl, k25⟩
                  have K25 := Lib.hid (Qt.trans K24.out k25); clear k25
                  go_wp2_with fail
                  refine (AD4.out _ K25.out).mono ?_
                  rintro e w26 ⟨rfl, k26⟩
                  have K26 := Lib.hid (Qt.trans K25.out k26); clear k26
                  go_wp2_with fail
                  refine (N10.out _ K26.out).mono ?_
                  rintro e w27 ⟨rfl, k27⟩
                  have K27 := Lib.hid (Qt.trans K26.out k27); clear k27
                  go_wp2_with fail
                  refine (N10.out _ K27.out).mono ?_
                  rintro e w28 ⟨rfl, k28⟩
                  have K28 := Lib.hid (Qt.trans K27.out k28); clear k28
                  go_wp2
                  go_ret
                  exact ⟨rfl, K28.out⟩
                | some sm =>
                  rw [sumM_some hS] at AD4 SW
                  clear hS
                  go_wp2_with fail
                  refine (SW.out _ K22.out).mono ?_
                  rintro e w23 ⟨rfl, k23⟩
                  have K23 := Lib.hid (Qt.trans K22.out k23); clear k23
                  go_wp2_with fail
                  refine (SLO.out _ K23.out).mono ?_
                  rintro e w24 ⟨rfl, k24⟩
                  have K24 := Lib.hid (Qt.trans K23.out k24); clear k24
                  go_wp2_with fail
                  refine (SHI.out _ K24.out).mono ?_
                  rintro e w25 ⟨rfl, k25⟩
                  have K25 := Lib.hid (Qt.trans K24.out k25); clear k25
                  go_wp2_with fail
                  refine (AD4.out _ K25.out).mono ?_
                  rintro e w26 ⟨rfl, k26⟩
                  have K26 := Lib.hid (Qt.trans K25.out k26); clear k26
                  go_wp2_with (first | (go_at_call 13; refine (N0.out _).mono ?_; rintro e wN ⟨rfl, rfl⟩))
                  go_ret
                  exact ⟨rfl, K26.out⟩
          · have SD := Lib.hid (fun W (q : Qt w W) => SB.out W q a b A0.out.1 A0.out.2.1 A0.out.2.2.1 A0.out.2.2.2)
            rw [sumM_none (fit_none hd)] at SD
            clear hd
            go_wp2_with fail
            refine (SD.out _ K20.out).mono ?_
            rintro e w21 ⟨rfl, k21⟩
            have K21 := Lib.hid (Qt.trans K20.out k21); clear k21
            have K22 := Lib.hid K21.out
            obtain ⟨pv, cap, rfl, hpv⟩ := (HV.out w (Qt.refl w)).val
            have hle := (HV.out w (Qt.refl w)).le
            have hcap := (HV.out w (Qt.refl w)).room _ _ _ rfl
            obtain ⟨k, hk, hkl⟩ := cut_spec cut xs.length hle
            have SW := Lib.hid (fun W (q : Qt w W) => SU.out W q _ g off xs (HV.out W q) HX.out)
            have SLO := Lib.hid (fun W (q : Qt w W) => SU.out W q (.slice pv k cap) g off (xs.take k) ((HV.out W q).take hkl) (fun x hx => HX.out x (List.mem_of_mem_take hx)))
            have SHI := Lib.hid (fun W (q : Qt w W) => SU.out W q (highV pv xs.length cap k) g (off + k) (xs.drop k) (high_ints (HV.out W q) hkl) (fun x hx => HX.out x (List.mem_of_mem_drop hx)))
            rw [sumI_split xs k] at SW
            have EL := fun W => slice_low pv xs.length cap k (by omega) W
            have EH := fun W => slice_high pv xs.length cap k hkl W
            generalize M.sumI (xs.take k) = L at *
            generalize M.sumI (xs.drop k) = R at *
            obtain ⟨x1, E1, hE1⟩ := sumM_shape ad (L + R)
            obtain ⟨x3, E3, hE3⟩ := sumM_shape ad R
            clear hpv
            go_upto_region 23 with (fail)
            rw [hk]
            clear hk
            cases hL : M.fit L with
            | none =>
              rw [sumM_none hL] at SLO
              rw [hE1] at SW
              rw [hE3] at SHI
              clear hE1 hE3 hL
              go_wp2_with fail
              refine (SW.out _ K22.out).mono ?_
              rintro e w23 ⟨rfl, k23⟩
              have K23 := Lib.hid (Qt.trans K22.out k23); clear k23
              go_wp2_with fail
              refine (SLO.out _ K23.out).mono ?_
              rintro e w24 ⟨rfl, k24⟩
              have K24 := Lib.hid (Qt.trans K23.out k24); clear k24
              go_wp2_with fail
              refine (SHI.out _ K24.out).mono ?_
              rintro e w25 ⟨rfl, k25⟩
              have K25 := Lib.hid (Qt.trans K24.out k25); clear k25
              go_wp2
              go_ret
              exact ⟨rfl, K25.out⟩
            | some l =>
              rw [sumM_some hL] at SLO
              obtain ⟨rfl, l0, l1⟩ := fit_bounds hL
              cases hR : M.fit R with
              | none =>
                rw [sumM_none hR] at SHI
                rw [hE1] at SW
                clear hE1 hE3 hL hR l0 l1
                go_wp2_with fail
                refine (SW.out _ K22.out).mono ?_
                rintro e w23 ⟨rfl, k23⟩
                have K23 := Lib.hid (Qt.trans K22.out k23); clear k23
                go_wp2_with fail
                refine (SLO.out _ K23.out).mono ?_
                rintro e w24 ⟨rfl, k24⟩
                have K24 := Lib.hid (Qt.trans K23.out k24); clear k24
                go_wp2_with fail
                refine (SHI.out _ K24.out).mono ?_
                rintro e w25 ⟨rfl, k25⟩
                have K25 := Lib.hid (Qt.trans K24.out k25); clear k25
                go_wp2
                go_ret
                exact ⟨rfl, K25.out⟩
              | some r =>
                rw [sumM_some hR] at SHI
                obtain ⟨rfl, r0, r1⟩ := fit_bounds hR
                have AD4 := Lib.hid (fun W (q : Qt w W) => AD.out W q l r l0 l1 r0 r1)
                clear hE1 hE3 hL hR l0 l1 r0 r1
                cases hS : M.fit (l + r) with
                | none =>
                  rw [sumM_none hS] at AD4 SW
                  clear hS
                  go_wp2_with fail
                  refine (SW.out _ K22.out).mono ?_
                  rintro e w23 ⟨rfl, k23⟩
                  have K23 := Lib.hid (Qt.trans K22.out k23); clear k23
                  go_wp2_with fail
                  refine (SLO.out _ K23.out).mono ?_
                  rintro e w24 ⟨rfl, k24⟩
                  have K24 := Lib.hid (Qt.trans K23.out k24); clear k24
                  go_wp2_with fail
                  refine (SHI.out _ K24.out).mono ?_
                  rintro e w25 ⟨rfl, k25⟩
                  have K25 := Lib.hid (Qt.trans K24.out k25); clear k25
                  go_wp2_with fail
                  refine (AD4.out _ K25.out).mono ?_
                  rintro e w26 ⟨rfl, k26⟩
                  have K26 := Lib.hid (Qt.trans K25.out k26); clear k26
                  go_wp2_with fail
                  refine (N10.out _ K26.out).mono ?_
                  rintro e w27 ⟨rfl, k27⟩
                  have K27 := Lib.hid (Qt.trans K26.out k27); clear k27
                  go_wp2_with fail
                  refine (N10.out _ K27.out).mono ?_
                  rintro e w28 ⟨rfl, k28⟩
                  have K28 := Lib.hid (Qt.trans K27.out k28); clear k28
                  go_wp2
                  go_ret
                  exact ⟨rfl, K28.out⟩
                | some sm =>
                  rw [sumM_some hS] at AD4 SW
                  clear hS
                  go_wp2_with fail
                  refine (SW.out _ K22.out).mono ?_
                  rintro e w23 ⟨rfl, k23⟩
                  have K23 := Lib.hid (Qt.trans K22.out k23); clear k23
                  go_wp2_with fail
                  refine (SLO.out _ K23.out).mono ?_
                  rintro e w24 ⟨rfl, k24⟩
                  have K24 := Lib.hid (Qt.trans K23.out k24); clear k24
                  go_wp2_with fail
                  refine (SHI.out _ K24.out).mono ?_
                  rintro e w25 ⟨rfl, k25⟩
                  have K25 := Lib.hid (Qt.trans K24.out k25); clear k25
                  go_wp2_with fail
                  refine (AD4.out _ K25.out).mono ?_
                  rintro e w26 ⟨rfl, k26⟩
                  have K26 := Lib.hid (Qt.trans K25.out k26); clear k26
                  go_wp2_with (first | (go_at_call 13; refine (N0.out _).mono ?_; rintro e wN ⟨rfl, rfl⟩))
                  go_ret
                  exact ⟨rfl, K26.out⟩
  · have AB := Lib.hid (fun W (q : Qt w W) => AD.out W q a b a0 a1 b0 b1)
    have BA := Lib.hid (fun W (q : Qt w W) => AD.out W q b a b0 b1 a0 a1)
    have SL := Lib.hid (fun W (q : Qt w W) => SU.out _ (q.alloc _) _ _ _ [b, a] (built_ints W [b, a] 2 2 rfl (by show (2 : Nat) ≤ _; decide)) (by intro x hx; simp at hx; omega))
    rw [show M.sumI [b, a] = a + b by simp [M.sumI]; omega] at SL
    rw [show b + a = a + b by omega] at BA
    obtain ⟨h, hh, hh1, hh2⟩ := half_spec a b a0 a1 b0 b1
    rw [sumM_none (fit_none hf)] at AB BA SL
    have HF := Lib.hid (half_no hh1 hh2 hf)
    clear hf hh1 hh2 a0 a1 b0 b1 c0 c1
    go_enter Tryd.func4, Tryd.ntmps4
    go_wp2_with fail
    refine (FX.out).mono ?_
    rintro e w1 ⟨rfl, k1⟩
    have K1 := Lib.hid k1; clear k1
    go_wp2_with fail
    refine (AB.out _ K1.out).mono ?_
    rintro e w2 ⟨rfl, k2⟩
    have K2 := Lib.hid (Qt.trans K1.out k2); clear k2
    go_wp2_with fail
    refine (SL.out _ K2.out).mono ?_
    rintro e w3 ⟨rfl, k3⟩
    have K3 := Lib.hid (Qt.trans (K2.out.alloc _) k3); clear k3
    go_wp2_with fail
    refine (BA.out _ K3.out).mono ?_
    rintro e w4 ⟨rfl, k4⟩
    have K4 := Lib.hid (Qt.trans K3.out k4); clear k4
    go_wp2_with fail
    refine (N10.out _ K4.out).mono ?_
    rintro e w5 ⟨rfl, k5⟩
    have K5 := Lib.hid (Qt.trans K4.out k5); clear k5
    go_wp2_with fail
    refine (N10.out _ K5.out).mono ?_
    rintro e w6 ⟨rfl, k6⟩
    have K6 := Lib.hid (Qt.trans K5.out k6); clear k6
    go_wp2_with fail
    refine (N10.out _ K6.out).mono ?_
    rintro e w7 ⟨rfl, k7⟩
    have K7 := Lib.hid (Qt.trans K6.out k7); clear k7
    go_wp2_with fail
    refine (N10.out _ K7.out).mono ?_
    rintro e w8 ⟨rfl, k8⟩
    have K8 := Lib.hid (Qt.trans K7.out k8); clear k8
    go_wp2_with fail
    refine (N10.out _ K8.out).mono ?_
    rintro e w9 ⟨rfl, k9⟩
    have K9 := Lib.hid (Qt.trans K8.out k9); clear k9
    go_upto_region 8 with (fail)
    go_upto_region 9 with (fail)
    rw [hh]
    clear hh
    go_cut [16] from 97 to 102 (fun o wx => w9 = wx ∧ o = .bool (overB h))
    case first =>
      by_cases o1 : 4611686018427387904 ≤ h
      · have d1 : decide (4611686018427387904 ≤ h) = true := decide_eq_true o1
        clear o1
        go_wp2
        go_meet
        exact ⟨rfl, congrArg Value.bool (by unfold overB; simp [d1])⟩
      · have d1 : decide (4611686018427387904 ≤ h) = false := decide_eq_false o1
        clear o1
        go_wp2
        go_meet
        exact ⟨rfl, congrArg Value.bool (by unfold overB; simp [d1])⟩
    case rest =>
      obtain ⟨rfl, rfl⟩ := hcut
      go_upto_region 10 with (fail)
      go_cut [17] from 103 to 116 (fun o wx => w9 = wx ∧ o = .bool (nearB h))
      case first =>
        by_cases o1 : 4611686018427387901 < h
        · have d1 : decide (4611686018427387901 < h) = true := decide_eq_true o1
          clear o1
          by_cases o2 : h < 4611686018427387907
          · have d2 : decide (h < 4611686018427387907) = true := decide_eq_true o2
            clear o2
            go_wp2
            go_meet
            exact ⟨rfl, congrArg Value.bool (by unfold nearB; simp [d1, d2])⟩
          · have d2 : decide (h < 4611686018427387907) = false := decide_eq_false o2
            have d3 : decide (-4611686018427387907 < h) = true := decide_eq_true (by omega)
            clear o2
            go_wp2
            go_meet
            exact ⟨rfl, congrArg Value.bool (by unfold nearB; simp [d1, d2, d3])⟩
        · have d1 : decide (4611686018427387901 < h) = false := decide_eq_false o1
          clear o1
          by_cases o2 : -4611686018427387907 < h
          · have d2 : decide (-4611686018427387907 < h) = true := decide_eq_true o2
            clear o2
            go_wp2
            go_meet
            exact ⟨rfl, congrArg Value.bool (by unfold nearB; simp [d1, d2])⟩
          · have d2 : decide (-4611686018427387907 < h) = false := decide_eq_false o2
            clear o2
            go_wp2
            go_meet
            exact ⟨rfl, congrArg Value.bool (by unfold nearB; simp [d1, d2])⟩
      case rest =>
        obtain ⟨rfl, rfl⟩ := hcut
        have HFO := HF.out
        generalize nearB h = nb at *
        generalize overB h = ob at *
        go_upto_region 11 with (fail)
        go_cut [124] from 117 to 124 (fun t wx => w9 = wx ∧ t = .bool false)
        case first =>
          rcases HFO with rfl | rfl
          · go_wp2
            go_meet
            exact ⟨rfl, rfl⟩
          · cases nb
            · go_wp2
              go_meet
              exact ⟨rfl, rfl⟩
            · go_wp2
              go_meet
              exact ⟨rfl, rfl⟩
        case rest =>
          obtain ⟨rfl, rfl⟩ := hcut
          clear HFO
          have K20 := Lib.hid K9.out
          by_cases hd : -9223372036854775808 ≤ a - b ∧ a - b < 9223372036854775808
          · have SD := Lib.hid (fun W (q : Qt w W) => SB.out W q a b A0.out.1 A0.out.2.1 A0.out.2.2.1 A0.out.2.2.2)
            have AD2 := Lib.hid (fun W (q : Qt w W) => AD.out W q (a - b) b hd.1 hd.2 A0.out.2.2.1 A0.out.2.2.2)
            rw [sumM_some (fit_some hd)] at SD
            rw [show a - b + b = a by omega, sumM_some (fit_some ⟨A0.out.1, A0.out.2.1⟩)] at AD2
            obtain ⟨y, hy⟩ : ∃ y, a - b = y := ⟨_, rfl⟩
            rw [hy] at SD AD2
            clear hy hd
            go_wp2_with fail
            refine (SD.out _ K20.out).mono ?_
            rintro e w21 ⟨rfl, k21⟩
            have K21 := Lib.hid (Qt.trans K20.out k21); clear k21
            go_wp2_with fail
            refine (AD2.out _ K21.out).mono ?_
            rintro e w22 ⟨rfl, k22⟩
            have K22 := Lib.hid (Qt.trans K21.out k22); clear k22
            obtain ⟨pv, cap, rfl, hpv⟩ := (HV.out w (Qt.refl w)).val
            have hle := (HV.out w (Qt.refl w)).le
            have hcap := (HV.out w (Qt.refl w)).room _ _ _ rfl
            obtain ⟨k, hk, hkl⟩ := cut_spec cut xs.length hle
            have SW := Lib.hid (fun W (q : Qt w W) => SU.out W q _ g off xs (HV.out W q) HX.out)
            have SLO := Lib.hid (fun W (q : Qt w W) => SU.out W q (.slice pv k cap) g off (xs.take k) ((HV.out W q).take hkl) (fun x hx => HX.out x (List.mem_of_mem_take hx)))
            have SHI := Lib.hid (fun W (q : Qt w W) => SU.out W q (highV pv xs.length cap k) g (off + k) (xs.drop k) (high_ints (HV.out W q) hkl) (fun x hx => HX.out x (List.mem_of_mem_drop hx)))
            rw [sumI_split xs k] at SW
            have EL := fun W => slice_low pv xs.length cap k (by omega) W
            have EH := fun W => slice_high pv xs.length cap k hkl W
            generalize M.sumI (xs.take k) = L at *
            generalize M.sumI (xs.drop k) = R at *
            obtain ⟨x1, E1, hE1⟩ := sumM_shape ad (L + R)
            obtain ⟨x3, E3, hE3⟩ := sumM_shape ad R
            clear hpv
            go_upto_region 23 with (fail)
            rw [hk]
            clear hk
            cases hL : M.fit L with
            | none =>
              rw [sumM_none hL] at SLO
              rw [hE1] at SW
              rw [hE3] at SHI
              clear hE1 hE3 hL
              go_wp2_with fail
              refine (SW.out _ K22.out).mono ?_
              rintro e w23 ⟨rfl, k23⟩
              have K23 := Lib.hid (Qt.trans K22.out k23); clear k23
              go_wp2_with fail
              refine (SLO.out _ K23.out).mono ?_
              rintro e w24 ⟨rfl, k24⟩
              have K24 := Lib.hid (Qt.trans K23.out k24); clear k24
              go_wp2_with fail
              refine (SHI.out _ K24.out).mono ?_
              rintro e w25 ⟨rfl, k25⟩
              have K25 := Lib.hid (Qt.trans K24.out k25); clear k25
              go_wp2
              go_ret
              exact ⟨rfl, K25.out⟩
            | some l =>
              rw [sumM_some hL] at SLO
              obtain ⟨rfl, l0, l1⟩ := fit_bounds hL
              cases hR : M.fit R with
              | none =>
                rw [sumM_none hR] at SHI
                rw [hE1] at SW
                clear hE1 hE3 hL hR l0 l1
                go_wp2_with fail
                refine (SW.out _ K22.out).mono ?_
                rintro e w23 ⟨rfl, k23⟩
                have K23 := Lib.hid (Qt.trans K22.out k23); clear k23
                go_wp2_with fail
                refine (SLO.out _ K23.out).mono ?_
                rintro e w24 ⟨rfl, k24⟩
                have K24 := Lib.hid (Qt.trans K23.out k24); clear k24
                go_wp2_with fail
                refine (SHI.out _ K24.out).mono ?_
                rintro e w25 ⟨rfl, k25⟩
                have K25 := Lib.hid (Qt.trans K24.out k25); clear k25
                go_wp2
                go_ret
                exact ⟨rfl, K25.out⟩
              | some r =>
                rw [sumM_some hR] at SHI
                obtain ⟨rfl, r0, r1⟩ := fit_bounds hR
                have AD4 := Lib.hid (fun W (q : Qt w W) => AD.out W q l r l0 l1 r0 r1)
                clear hE1 hE3 hL hR l0 l1 r0 r1
                cases hS : M.fit (l + r) with
                | none =>
                  rw [sumM_none hS] at AD4 SW
                  clear hS
                  go_wp2_with fail
                  refine (SW.out _ K22.out).mono ?_
                  rintro e w23 ⟨rfl, k23⟩
                  have K23 := Lib.hid (Qt.trans K22.out k23); clear k23
                  go_wp2_with fail
                  refine (SLO.out _ K23.out).mono ?_
                  rintro e w24 ⟨rfl, k24⟩
                  have K24 := Lib.hid (Qt.trans K23.out k24); clear k24
                  go_wp2_with fail
                  refine (SHI.out _ K24.out).mono ?_
                  rintro e w25 ⟨rfl, k25⟩
                  have K25 := Lib.hid (Qt.trans K24.out k25); clear k25
                  go_wp2_with fail
                  refine (AD4.out _ K25.out).mono ?_
                  rintro e w26 ⟨rfl, k26⟩
                  have K26 := Lib.hid (Qt.trans K25.out k26); clear k26
                  go_wp2_with fail
                  refine (N10.out _ K26.out).mono ?_
                  rintro e w27 ⟨rfl, k27⟩
                  have K27 := Lib.hid (Qt.trans K26.out k27); clear k27
                  go_wp2_with fail
                  refine (N10.out _ K27.out).mono ?_
                  rintro e w28 ⟨rfl, k28⟩
                  have K28 := Lib.hid (Qt.trans K27.out k28); clear k28
                  go_wp2
                  go_ret
                  exact ⟨rfl, K28.out⟩
                | some sm =>
                  rw [sumM_some hS] at AD4 SW
                  clear hS
                  go_wp2_with fail
                  refine (SW.out _ K22.out).mono ?_
                  rintro e w23 ⟨rfl, k23⟩
                  have K23 := Lib.hid (Qt.trans K22.out k23); clear k23
                  go_wp2_with fail
                  refine (SLO.out _ K23.out).mono ?_
                  rintro e w24 ⟨rfl, k24⟩
                  have K24 := Lib.hid (Qt.trans K23.out k24); clear k24
                  go_wp2_with fail
                  refine (SHI.out _ K24.out).mono ?_
                  rintro e w25 ⟨rfl, k25⟩
                  have K25 := Lib.hid (Qt.trans K24.out k25); clear k25
                  go_wp2_with fail
                  refine (AD4.out _ K25.out).mono ?_
                  rintro e w26 ⟨rfl, k26⟩
                  have K26 := Lib.hid (Qt.trans K25.out k26); clear k26
                  go_wp2_with (first | (go_at_call 13; refine (N0.out _).mono ?_; rintro e wN ⟨rfl, rfl⟩))
                  go_ret
                  exact ⟨rfl, K26.out⟩
          · have SD := Lib.hid (fun W (q : Qt w W) => SB.out W q a b A0.out.1 A0.out.2.1 A0.out.2.2.1 A0.out.2.2.2)
            rw [sumM_none (fit_none hd)] at SD
            clear hd
            go_wp2_with fail
            refine (SD.out _ K20.out).mono ?_
            rintro e w21 ⟨rfl, k21⟩
            have K21 := Lib.hid (Qt.trans K20.out k21); clear k21
            have K22 := Lib.hid K21.out
            obtain ⟨pv, cap, rfl, hpv⟩ := (HV.out w (Qt.refl w)).val
            have hle := (HV.out w (Qt.refl w)).le
            have hcap := (HV.out w (Qt.refl w)).room _ _ _ rfl
            obtain ⟨k, hk, hkl⟩ := cut_spec cut xs.length hle
            have SW := Lib.hid (fun W (q : Qt w W) => SU.out W q _ g off xs (HV.out W q) HX.out)
            have SLO := Lib.hid (fun W (q : Qt w W) => SU.out W q (.slice pv k cap) g off (xs.take k) ((HV.out W q).take hkl) (fun x hx => HX.out x (List.mem_of_mem_take hx)))
            have SHI := Lib.hid (fun W (q : Qt w W) => SU.out W q (highV pv xs.length cap k) g (off + k) (xs.drop k) (high_ints (HV.out W q) hkl) (fun x hx => HX.out x (List.mem_of_mem_drop hx)))
            rw [sumI_split xs k] at SW
            have EL := fun W => slice_low pv xs.length cap k (by omega) W
            have EH := fun W => slice_high pv xs.length cap k hkl W
            generalize M.sumI (xs.take k) = L at *
            generalize M.sumI (xs.drop k) = R at *
            obtain ⟨x1, E1, hE1⟩ := sumM_shape ad (L + R)
            obtain ⟨x3, E3, hE3⟩ := sumM_shape ad R
            clear hpv
            go_upto_region 23 with (fail)
            rw [hk]
            clear hk
            cases hL : M.fit L with
            | none =>
              rw [sumM_none hL] at SLO
              rw [hE1] at SW
              rw [hE3] at SHI
              clear hE1 hE3 hL
              go_wp2_with fail
              refine (SW.out _ K22.out).mono ?_
              rintro e w23 ⟨rfl, k23⟩
              have K23 := Lib.hid (Qt.trans K22.out k23); clear k23
              go_wp2_with fail
              refine (SLO.out _ K23.out).mono ?_
              rintro e w24 ⟨rfl, k24⟩
              have K24 := Lib.hid (Qt.trans K23.out k24); clear k24
              go_wp2_with fail
              refine (SHI.out _ K24.out).mono ?_
              rintro e w25 ⟨rfl, k25⟩
              have K25 := Lib.hid (Qt.trans K24.out k25); clear k25
              go_wp2
              go_ret
              exact ⟨rfl, K25.out⟩
            | some l =>
              rw [sumM_some hL] at SLO
              obtain ⟨rfl, l0, l1⟩ := fit_bounds hL
              cases hR : M.fit R with
              | none =>
                rw [sumM_none hR] at SHI
                rw [hE1] at SW
                clear hE1 hE3 hL hR l0 l1
                go_wp2_with fail
                refine (SW.out _ K22.out).mono ?_
                rintro e w23 ⟨rfl, k23⟩
                have K23 := Lib.hid (Qt.trans K22.out k23); clear k23
                go_wp2_with fail
                refine (SLO.out _ K23.out).mono ?_
                rintro e w24 ⟨rfl, k24⟩
                have K24 := Lib.hid (Qt.trans K23.out k24); clear k24
                go_wp2_with fail
                refine (SHI.out _ K24.out).mono ?_
                rintro e w25 ⟨rfl, k25⟩
                have K25 := Lib.hid (Qt.trans K24.out k25); clear k25
                go_wp2
                go_ret
                exact ⟨rfl, K25.out⟩
              | some r =>
                rw [sumM_some hR] at SHI
                obtain ⟨rfl, r0, r1⟩ := fit_bounds hR
                have AD4 := Lib.hid (fun W (q : Qt w W) => AD.out W q l r l0 l1 r0 r1)
                clear hE1 hE3 hL hR l0 l1 r0 r1
                cases hS : M.fit (l + r) with
                | none =>
                  rw [sumM_none hS] at AD4 SW
                  clear hS
                  go_wp2_with fail
                  refine (SW.out _ K22.out).mono ?_
                  rintro e w23 ⟨rfl, k23⟩
                  have K23 := Lib.hid (Qt.trans K22.out k23); clear k23
                  go_wp2_with fail
                  refine (SLO.out _ K23.out).mono ?_
                  rintro e w24 ⟨rfl, k24⟩
                  have K24 := Lib.hid (Qt.trans K23.out k24); clear k24
                  go_wp2_with fail
                  refine (SHI.out _ K24.out).mono ?_
                  rintro e w25 ⟨rfl, k25⟩
                  have K25 := Lib.hid (Qt.trans K24.out k25); clear k25
                  go_wp2_with fail
                  refine (AD4.out _ K25.out).mono ?_
                  rintro e w26 ⟨rfl, k26⟩
                  have K26 := Lib.hid (Qt.trans K25.out k26); clear k26
                  go_wp2_with fail
                  refine (N10.out _ K26.out).mono ?_
                  rintro e w27 ⟨rfl, k27⟩
                  have K27 := Lib.hid (Qt.trans K26.out k27); clear k27
                  go_wp2_with fail
                  refine (N10.out _ K27.out).mono ?_
                  rintro e w28 ⟨rfl, k28⟩
                  have K28 := Lib.hid (Qt.trans K27.out k28); clear k28
                  go_wp2
                  go_ret
                  exact ⟨rfl, K28.out⟩
                | some sm =>
                  rw [sumM_some hS] at AD4 SW
                  clear hS
                  go_wp2_with fail
                  refine (SW.out _ K22.out).mono ?_
                  rintro e w23 ⟨rfl, k23⟩
                  have K23 := Lib.hid (Qt.trans K22.out k23); clear k23
                  go_wp2_with fail
                  refine (SLO.out _ K23.out).mono ?_
                  rintro e w24 ⟨rfl, k24⟩
                  have K24 := Lib.hid (Qt.trans K23.out k24); clear k24
                  go_wp2_with fail
                  refine (SHI.out _ K24.out).mono ?_
                  rintro e w25 ⟨rfl, k25⟩
                  have K25 := Lib.hid (Qt.trans K24.out k25); clear k25
                  go_wp2_with fail
                  refine (AD4.out _ K25.out).mono ?_
                  rintro e w26 ⟨rfl, k26⟩
                  have K26 := Lib.hid (Qt.trans K25.out k26); clear k26
                  go_wp2_with (first | (go_at_call 13; refine (N0.out _).mono ?_; rintro e wN ⟨rfl, rfl⟩))
                  go_ret
                  exact ⟨rfl, K26.out⟩
end Go.Proofs.YtdoemhlekncjdaaDoor
