/-
  The contract of remitlaw04.one, kinds Add, Sub, Rate, Parse, Sum, and no kind.
  The contract of remitlaw04.one, kind Split; all kinds.
  The contract of remitlaw04.MoneyPlays: it answers true.
  A []Op of MoneyPlays that came in.
-/
import Derived.Test.YtjjlpjfojgkpkaaGreatDoorMAllSplit
import Derived.Test.YtjjlpjfojgkpkaaGreatDoorMAllNum
import Derived.Test.YtjjlpjfojgkpkaaGreatDoorMAllText
import Derived.Test.YtjjlpjfojgkpkaaGreatDoorMSub
import Derived.Test.YtjjlpjfojgkpkaaGreatDoorMParseM
import Derived.Test.YtjjlpjfojgkpkaaGreatDoorMSameQ
import Derived.Test.YtjjlpjfojgkpkaaGreatDoorKeptInts
import Derived.Deep.RegionHeld3
import Derived.Test.YtjjlpjfojgkpkaaGreatDoorMDoorT
import Derived.Test.YtjjlpjfojgkpkaaGreatDoorMLift
import Derived.Deep.Slices
import Derived.Deep.Grids
import Derived.Lib.SmallJoins
import Derived.OpenShut
namespace Go.Proofs.YtjjlpjfojgkpkaaGreatDoor
open Go.RowKit Go.WideShapes
set_option maxRecDepth 100000

/-- An Op. -/
structure OpM where
  kind : Int
  a : Int
  b : Int
  n : Int
  s : ByteArray
  lv : Value
  xs : List Int
  wv : Value
  ws : List Int
def OpM.list (o : OpM) : List Value := [.int .i64 o.kind, .int .i64 o.a, .int .i64 o.b, .int .i64 o.n, .string o.s, o.lv, o.wv]
structure OpM.Ok (o : OpM) (w : World) : Prop where
  k0 : -9223372036854775808 ≤ o.kind
  k1 : o.kind < 9223372036854775808
  a0 : -9223372036854775808 ≤ o.a
  a1 : o.a < 9223372036854775808
  b0 : -9223372036854775808 ≤ o.b
  b1 : o.b < 9223372036854775808
  n0 : -9223372036854775808 ≤ o.n
  n1 : o.n < 9223372036854775808
  hs : o.s.size ≤ 1048576
  xl : o.xs.length ≤ 1048576
  wl : o.ws.length ≤ 1048576
  xb : ∀ x ∈ o.xs, -9223372036854775808 ≤ x ∧ x < 9223372036854775808
  xi : ∃ g off, IntsAt .i64 w o.lv g off o.xs
  wi : ∃ g off, IntsAt .i64 w o.wv g off o.ws
theorem OpM.Ok.qt {o : OpM} {w w' : World} (h : o.Ok w) (q : Qt w w') : o.Ok w' := by
  obtain ⟨g, off, h1⟩ := h.xi
  obtain ⟨g2, off2, h2⟩ := h.wi
  exact ⟨h.k0, h.k1, h.a0, h.a1, h.b0, h.b1, h.n0, h.n1, h.hs, h.xl, h.wl, h.xb, ⟨g, off, h1.qt q⟩, ⟨g2, off2, h2.qt q⟩⟩
def BoxCells (g : Nat) (k a b n : Int) (s : ByteArray) (lv wv : Value) (W' : World) : Prop := W'.cell? ⟨g, 0, none⟩ = some (.int .i64 k) ∧ W'.cell? ⟨g, 1, none⟩ = some (.int .i64 a) ∧ W'.cell? ⟨g, 2, none⟩ = some (.int .i64 b) ∧ W'.cell? ⟨g, 3, none⟩ = some (.int .i64 n) ∧ W'.cell? ⟨g, 4, none⟩ = some (.string s) ∧ W'.cell? ⟨g, 5, none⟩ = some lv ∧ W'.cell? ⟨g, 6, none⟩ = some wv
theorem laid_opM (w : World) (k a b n : Int) (s : ByteArray) (lv wv : Value) : ∃ W, w.alloc (.cells #[.int .i64 k, .int .i64 a, .int .i64 b, .int .i64 n, .string s, lv, wv] 27) = W ∧ Qt w W ∧ ∀ W', Qt W W' → BoxCells w.heap.size k a b n s lv wv W' := by
  refine ⟨_, rfl, (Qt.refl w).alloc _, fun W' q => ?_⟩
  have hb := heap_alloc_new w (.cells #[.int .i64 k, .int .i64 a, .int .i64 b, .int .i64 n, .string s, lv, wv] 27)
  have hb' := (q.block _ (lt_of_block hb) (fun e => e)).trans hb
  refine ⟨?_, ?_, ?_, ?_, ?_, ?_, ?_⟩ <;> (rw [cell_of_row W' _ _ _ _ _ hb']; rfl)
theorem fitV_sum (ad : Nat → Addr) (v : Int) : ∃ (X : Int) (n : Nat), n ≤ 37 ∧ sumM ad v = .tuple #[.int .i64 X, errV ad n] ∧ fitV v = .tuple #[.int .i64 X, .int .i64 (n : Nat)] := by
  cases h : M.fit v with
  | some x => exact ⟨x, 0, by decide, by rw [sumM_some h]; rfl, by unfold fitV; rw [h]; rfl⟩
  | none => exact ⟨0, 10, by decide, by rw [sumM_none h]; rfl, by unfold fitV; rw [h]; rfl⟩
theorem rateV_both (ad : Nat → Addr) (a n : Int) : ∃ (X : Int) (k : Nat), k ≤ 37 ∧ rateM ad a n = .tuple #[.int .i64 X, errV ad k] ∧ rateV a n = .tuple #[.int .i64 X, .int .i64 (k : Nat)] := by
  by_cases h : n < 0 ∨ 10000 < n
  · exact ⟨0, 6, by decide, if_pos h, if_pos h⟩
  · exact ⟨_, 0, by decide, if_neg h, if_neg h⟩
theorem parseV_both (ad : Nat → Addr) (s : List UInt8) (n : Int) : ∃ (X : Int) (k : Nat), k ≤ 37 ∧ parseM ad s n = .tuple #[.int .i64 X, errV ad k] ∧ parseV s n = .tuple #[.int .i64 X, .int .i64 (k : Nat)] := by
  refine ⟨_, _, ?_, rfl, ?_⟩
  · unfold M.parseR
    repeat' split
    all_goals first | decide | exact Nat.zero_le _
  · unfold parseV M.parseR
    repeat' split
    all_goals rfl
theorem codeQ (s : ByteArray) (w : World) (hs : s.size ≤ 1048576) : Calls Tryz.prog 13 #[.string s] w fun e w' => e = .returned (.bool (codeB s.data.toList)) ∧ w' = w := (code_any s w (by omega)).mono fun _ _ ⟨h1, h2⟩ => ⟨h1, h2.symm⟩
theorem refCodeQ (s : ByteArray) (w : World) (hs : s.size ≤ 1048576) : Calls Tryz.prog 24 #[.string s] w fun e w' => e = .returned (.bool (codeB s.data.toList)) ∧ w' = w := (refCode_any s w (by omega)).mono fun _ _ ⟨h1, h2⟩ => ⟨h1, h2.symm⟩
set_option maxHeartbeats 1600000 in
theorem one_add (ad : Nat → Addr) (k a b n : Int) (s : ByteArray) (lv wv : Value) (w : World) (X : Int) (e : Nat) (hk : k = 1)
    (CA : Hid (∀ W, Qt w W → Calls Tryz.prog 12 #[.int .i64 a, .int .i64 b] W fun z W' => z = .returned (.tuple #[.int .i64 X, errV ad e]) ∧ Qt W W'))
    (RA : Hid (∀ W, Qt w W → Calls Tryz.prog 14 #[.int .i64 a, .int .i64 b] W fun z W' => z = .returned (.tuple #[.int .i64 X, .int .i64 (e : Nat)]) ∧ Qt W W'))
    (NU : Hid (∀ W, Qt w W → Calls Tryz.prog 9 #[errV ad e] W fun z W' => z = .returned (.int .i64 (e : Nat)) ∧ Qt W W')) :
    Calls Tryz.prog 6 #[.agg #[.int .i64 k, .int .i64 a, .int .i64 b, .int .i64 n, .string s, lv, wv]] w fun z W' => z = .returned (.bool true) ∧ Qt w W' := by
  generalize errV ad e = EV at *
  subst hk
  obtain ⟨WA, hWA, qA, hC⟩ := laid_opM w 1 a b n s lv wv
  have HWA := Lib.hid hWA
  have QA := Lib.hid qA
  have HC := Lib.hid hC
  obtain ⟨d0, d1, d2, d3, d4, d5, d6⟩ := hC WA (Qt.refl _)
  clear hWA qA hC
  go_enter Tryz.func6, Tryz.ntmps6
  go_upto_region 3 with (fail)
  rw [HWA.out]
  go_wp2_with fail
  refine (CA.out _ QA.out).mono ?_
  rintro z w1 ⟨rfl, k1⟩
  have K1 := Lib.hid (Qt.trans QA.out k1)
  obtain ⟨d0, d1, d2, d3, d4, d5, d6⟩ := HC.out _ k1
  clear k1
  go_wp2_with fail
  refine (RA.out _ K1.out).mono ?_
  rintro z w2 ⟨rfl, k2⟩
  have K2 := Lib.hid (Qt.trans K1.out k2)
  clear k2
  go_wp2_with fail
  refine (NU.out _ K2.out).mono ?_
  rintro z w3 ⟨rfl, k3⟩
  have K3 := Lib.hid (Qt.trans K2.out k3)
  clear k3
  go_wp2
  go_ret
  exact ⟨rfl, K3.out⟩
set_option maxHeartbeats 1600000 in
theorem one_sub (ad : Nat → Addr) (k a b n : Int) (s : ByteArray) (lv wv : Value) (w : World) (X : Int) (e : Nat) (hk : k = 2)
    (CA : Hid (∀ W, Qt w W → Calls Tryz.prog 15 #[.int .i64 a, .int .i64 b] W fun z W' => z = .returned (.tuple #[.int .i64 X, errV ad e]) ∧ Qt W W'))
    (RA : Hid (∀ W, Qt w W → Calls Tryz.prog 16 #[.int .i64 a, .int .i64 b] W fun z W' => z = .returned (.tuple #[.int .i64 X, .int .i64 (e : Nat)]) ∧ Qt W W'))
    (NU : Hid (∀ W, Qt w W → Calls Tryz.prog 9 #[errV ad e] W fun z W' => z = .returned (.int .i64 (e : Nat)) ∧ Qt W W')) :
    Calls Tryz.prog 6 #[.agg #[.int .i64 k, .int .i64 a, .int .i64 b, .int .i64 n, .string s, lv, wv]] w fun z W' => z = .returned (.bool true) ∧ Qt w W' := by
  generalize errV ad e = EV at *
  subst hk
  obtain ⟨WA, hWA, qA, hC⟩ := laid_opM w 2 a b n s lv wv
  have HWA := Lib.hid hWA
  have QA := Lib.hid qA
  have HC := Lib.hid hC
  obtain ⟨d0, d1, d2, d3, d4, d5, d6⟩ := hC WA (Qt.refl _)
  clear hWA qA hC
  go_enter Tryz.func6, Tryz.ntmps6
  go_upto_region 3 with (fail)
  rw [HWA.out]
  go_wp2_with fail
  refine (CA.out _ QA.out).mono ?_
  rintro z w1 ⟨rfl, k1⟩
  have K1 := Lib.hid (Qt.trans QA.out k1)
  obtain ⟨d0, d1, d2, d3, d4, d5, d6⟩ := HC.out _ k1
  clear k1
  go_wp2_with fail
  refine (RA.out _ K1.out).mono ?_
  rintro z w2 ⟨rfl, k2⟩
  have K2 := Lib.hid (Qt.trans K1.out k2)
  clear k2
  go_wp2_with fail
  refine (NU.out _ K2.out).mono ?_
  rintro z w3 ⟨rfl, k3⟩
  have K3 := Lib.hid (Qt.trans K2.out k3)
  clear k3
  go_wp2
  go_ret
  exact ⟨rfl, K3.out⟩
set_option maxHeartbeats 1600000 in
theorem one_rate (ad : Nat → Addr) (k a b n : Int) (s : ByteArray) (lv wv : Value) (w : World) (X : Int) (e : Nat) (hk : k = 4)
    (CA : Hid (∀ W, Qt w W → Calls Tryz.prog 10 #[.int .i64 a, .int .i64 n] W fun z W' => z = .returned (.tuple #[.int .i64 X, errV ad e]) ∧ Qt W W'))
    (RA : Hid (∀ W, Qt w W → Calls Tryz.prog 19 #[.int .i64 a, .int .i64 n] W fun z W' => z = .returned (.tuple #[.int .i64 X, .int .i64 (e : Nat)]) ∧ Qt W W'))
    (NU : Hid (∀ W, Qt w W → Calls Tryz.prog 9 #[errV ad e] W fun z W' => z = .returned (.int .i64 (e : Nat)) ∧ Qt W W')) :
    Calls Tryz.prog 6 #[.agg #[.int .i64 k, .int .i64 a, .int .i64 b, .int .i64 n, .string s, lv, wv]] w fun z W' => z = .returned (.bool true) ∧ Qt w W' := by
  generalize errV ad e = EV at *
  subst hk
  obtain ⟨WA, hWA, qA, hC⟩ := laid_opM w 4 a b n s lv wv
  have HWA := Lib.hid hWA
  have QA := Lib.hid qA
  have HC := Lib.hid hC
  obtain ⟨d0, d1, d2, d3, d4, d5, d6⟩ := hC WA (Qt.refl _)
  clear hWA qA hC
  go_enter Tryz.func6, Tryz.ntmps6
  go_upto_region 3 with (fail)
  rw [HWA.out]
  go_wp2_with fail
  refine (CA.out _ QA.out).mono ?_
  rintro z w1 ⟨rfl, k1⟩
  have K1 := Lib.hid (Qt.trans QA.out k1)
  obtain ⟨d0, d1, d2, d3, d4, d5, d6⟩ := HC.out _ k1
  clear k1
  go_wp2_with fail
  refine (RA.out _ K1.out).mono ?_
  rintro z w2 ⟨rfl, k2⟩
  have K2 := Lib.hid (Qt.trans K1.out k2)
  clear k2
  go_wp2_with fail
  refine (NU.out _ K2.out).mono ?_
  rintro z w3 ⟨rfl, k3⟩
  have K3 := Lib.hid (Qt.trans K2.out k3)
  clear k3
  go_wp2
  go_ret
  exact ⟨rfl, K3.out⟩
set_option maxHeartbeats 1600000 in
theorem one_parse (ad : Nat → Addr) (k a b n : Int) (s : ByteArray) (lv wv : Value) (w : World) (X : Int) (e : Nat) (hk : k = 8)
    (CA : Hid (∀ W, Qt w W → Calls Tryz.prog 8 #[.string s, .int .i64 n] W fun z W' => z = .returned (.tuple #[.int .i64 X, errV ad e]) ∧ Qt W W'))
    (RA : Hid (∀ W, Qt w W → Calls Tryz.prog 26 #[.string s, .int .i64 n] W fun z W' => z = .returned (.tuple #[.int .i64 X, .int .i64 (e : Nat)]) ∧ Qt W W'))
    (NU : Hid (∀ W, Qt w W → Calls Tryz.prog 9 #[errV ad e] W fun z W' => z = .returned (.int .i64 (e : Nat)) ∧ Qt W W')) :
    Calls Tryz.prog 6 #[.agg #[.int .i64 k, .int .i64 a, .int .i64 b, .int .i64 n, .string s, lv, wv]] w fun z W' => z = .returned (.bool true) ∧ Qt w W' := by
  generalize errV ad e = EV at *
  subst hk
  obtain ⟨WA, hWA, qA, hC⟩ := laid_opM w 8 a b n s lv wv
  have HWA := Lib.hid hWA
  have QA := Lib.hid qA
  have HC := Lib.hid hC
  obtain ⟨d0, d1, d2, d3, d4, d5, d6⟩ := hC WA (Qt.refl _)
  clear hWA qA hC
  go_enter Tryz.func6, Tryz.ntmps6
  go_upto_region 3 with (fail)
  rw [HWA.out]
  go_wp2_with fail
  refine (CA.out _ QA.out).mono ?_
  rintro z w1 ⟨rfl, k1⟩
  have K1 := Lib.hid (Qt.trans QA.out k1)
  obtain ⟨d0, d1, d2, d3, d4, d5, d6⟩ := HC.out _ k1
  clear k1
  go_wp2_with fail
  refine (RA.out _ K1.out).mono ?_
  rintro z w2 ⟨rfl, k2⟩
  have K2 := Lib.hid (Qt.trans K1.out k2)
  clear k2
  go_wp2_with fail
  refine (NU.out _ K2.out).mono ?_
  rintro z w3 ⟨rfl, k3⟩
  have K3 := Lib.hid (Qt.trans K2.out k3)
  clear k3
  go_wp2
  go_ret
  exact ⟨rfl, K3.out⟩
set_option maxHeartbeats 1600000 in
theorem one_none (k a b n : Int) (s : ByteArray) (lv wv : Value) (w : World) (hk : k < 1 ∨ 8 < k) :
    Calls Tryz.prog 6 #[.agg #[.int .i64 k, .int .i64 a, .int .i64 b, .int .i64 n, .string s, lv, wv]] w fun z W' => z = .returned (.bool true) ∧ Qt w W' := by
  have j1 : (k == 1) = false := by rw [beq_eq_false_iff_ne]; omega
  have j2 : (k == 2) = false := by rw [beq_eq_false_iff_ne]; omega
  have j3 : (k == 3) = false := by rw [beq_eq_false_iff_ne]; omega
  have j4 : (k == 4) = false := by rw [beq_eq_false_iff_ne]; omega
  have j5 : (k == 5) = false := by rw [beq_eq_false_iff_ne]; omega
  have j6 : (k == 6) = false := by rw [beq_eq_false_iff_ne]; omega
  have j7 : (k == 7) = false := by rw [beq_eq_false_iff_ne]; omega
  have j8 : (k == 8) = false := by rw [beq_eq_false_iff_ne]; omega
  clear hk
  obtain ⟨k', hk⟩ : ∃ k', k' = k := ⟨_, rfl⟩
  clear hk k'
  obtain ⟨WA, hWA, qA, hC⟩ := laid_opM w k a b n s lv wv
  have HWA := Lib.hid hWA
  have QA := Lib.hid qA
  have HC := Lib.hid hC
  obtain ⟨d0, d1, d2, d3, d4, d5, d6⟩ := hC WA (Qt.refl _)
  clear hWA qA hC
  go_enter Tryz.func6, Tryz.ntmps6
  go_upto_region 3 with (fail)
  rw [HWA.out]
  go_wp2_with fail
  refine (num_nil _).mono ?_
  rintro z w3 ⟨rfl, rfl⟩
  go_wp2
  go_ret
  exact ⟨rfl, QA.out⟩
set_option maxHeartbeats 1600000 in
theorem one_sum (ad : Nat → Addr) (k a b n : Int) (s : ByteArray) (pv : Option Addr) (cv g off : Nat) (xs : List Int) (wv : Value) (w : World) (X : Int) (e : Nat) (hk : k = 3) (xl : xs.length ≤ 1048576) (hx : IntsAt .i64 w (.slice pv xs.length cv) g off xs)
    (CA : Hid (∀ W, Qt w W → ∀ v g off, IntsAt .i64 W v g off xs → Calls Tryz.prog 17 #[v] W fun z W' => z = .returned (.tuple #[.int .i64 X, errV ad e]) ∧ Qt W W'))
    (RA : Hid (∀ W, Qt w W → ∀ v g off, IntsAt .i64 W v g off xs → Calls Tryz.prog 18 #[v] W fun z W' => z = .returned (.tuple #[.int .i64 X, .int .i64 (e : Nat)]) ∧ Qt W W'))
    (NU : Hid (∀ W, Qt w W → Calls Tryz.prog 9 #[errV ad e] W fun z W' => z = .returned (.int .i64 (e : Nat)) ∧ Qt W W')) :
    Calls Tryz.prog 6 #[.agg #[.int .i64 k, .int .i64 a, .int .i64 b, .int .i64 n, .string s, (.slice pv xs.length cv), wv]] w fun z W' => z = .returned (.bool true) ∧ Qt w W' := by
  generalize errV ad e = EV at *
  have HX := Lib.hid (fun W (q : Qt w W) => hx.qt q)
  obtain ⟨i0, hi, hz0, hz1, hz2⟩ := info_parts infoI64
  clear hx
  subst hk
  obtain ⟨WA, hWA, qA, hC⟩ := laid_opM w 3 a b n s (.slice pv xs.length cv) wv
  have HWA := Lib.hid hWA
  have QA := Lib.hid qA
  have HC := Lib.hid hC
  obtain ⟨d0, d1, d2, d3, d4, d5, d6⟩ := hC WA (Qt.refl _)
  clear hWA qA hC
  go_enter Tryz.func6, Tryz.ntmps6
  go_upto_region 3 with (fail)
  rw [HWA.out]
  have O1 := Lib.hid (own_empty 2 WA)
  have L1 := Lib.hid (fun o => (HX.out _ (QA.out.alloc o)).newsI)
  have d5' := fun o => (HC.out _ ((Qt.refl WA).alloc o)).2.2.2.2.2.1
  go_wp2_with (at_builtin; refine wpList_append_list _ rfl _ _ 24 rfl 2 i0 (.int .i64 0) 8 Tryz.underlying24 hi hz0 hz1 hz2 rfl _ 0 [] rfl O1.out pv xs.length cv (xs.map intV) rfl (by simp) (L1.out _) (intV_one xs) (by simp; unfold maxLen; omega) (by simp; omega) ?_)
  intro v1 w1 hown1 hgrow1 hlat1
  have K1 := Lib.hid ((QA.out.alloc (.cells #[] 2)).grown hgrow1 (fun k hk e => by have h5 := QA.out.size; simp [Value.ownBlock] at e; omega))
  have KA1 := Lib.hid (((Qt.refl WA).alloc (.cells #[] 2)).grown hgrow1 (fun k hk e => by simp [Value.ownBlock] at e; omega))
  try simp only [Nat.zero_add, List.nil_append] at hown1
  have n1 : NewL 2 0 w1 v1 xs := ⟨by simpa using hown1, fun _ _ => Nat.zero_le _⟩
  obtain ⟨g1, I1⟩ := n1.at (by omega)
  have HI := Lib.hid I1
  clear hown1 hgrow1 hlat1 n1 I1 O1 L1
  go_wp2_with fail
  refine (CA.out _ K1.out _ _ _ HI.out).mono ?_
  rintro z w2 ⟨rfl, k2⟩
  have K2' := Lib.hid (Qt.trans K1.out k2)
  obtain ⟨d0, d1, d2, d3, d4, d5, d6⟩ := HC.out _ (Qt.trans KA1.out k2)
  clear k2
  go_wp2_with fail
  refine (RA.out _ K2'.out _ _ _ (HX.out _ K2'.out)).mono ?_
  rintro z w2b ⟨rfl, k2⟩
  have K2 := Lib.hid (Qt.trans K2'.out k2)
  clear k2
  go_wp2_with fail
  refine (NU.out _ K2.out).mono ?_
  rintro z w3 ⟨rfl, k3⟩
  have K3 := Lib.hid (Qt.trans K2.out k3)
  clear k3
  go_wp2
  go_ret
  exact ⟨rfl, K3.out⟩
set_option maxHeartbeats 1600000 in
theorem one_code (k a b n : Int) (s : ByteArray) (lv wv : Value) (w : World) (hk : k = 6) (hs : s.size ≤ 1048576) :
    Calls Tryz.prog 6 #[.agg #[.int .i64 k, .int .i64 a, .int .i64 b, .int .i64 n, .string s, lv, wv]] w fun z W' => z = .returned (.bool true) ∧ Qt w W' := by
  subst hk
  obtain ⟨WA, hWA, qA, hC⟩ := laid_opM w 6 a b n s lv wv
  have HWA := Lib.hid hWA
  have QA := Lib.hid qA
  have HC := Lib.hid hC
  obtain ⟨d0, d1, d2, d3, d4, d5, d6⟩ := hC WA (Qt.refl _)
  clear hWA qA hC
  go_enter Tryz.func6, Tryz.ntmps6
  go_upto_region 3 with (fail)
  rw [HWA.out]
  go_wp2_with fail
  go_quiet ((first | (go_at_call 13; exact Calls.quiet_of_same (codeQ s _ hs)) | (go_at_call 24; exact Calls.quiet_of_same (refCodeQ s _ hs))))
  go_wp2
  go_ret
  exact ⟨rfl, QA.out.drewN _⟩
set_option maxHeartbeats 1600000 in
theorem one_text (k a b n : Int) (s : ByteArray) (lv wv : Value) (w : World) (t : ByteArray) (hk : k = 7)
    (CA : Hid (∀ W, Qt w W → Calls Tryz.prog 7 #[.int .i64 a, .int .i64 n] W fun z W' => z = .returned (.string t) ∧ Qt W W'))
    (RA : Hid (∀ W, Qt w W → Calls Tryz.prog 25 #[.int .i64 a, .int .i64 n] W fun z W' => z = .returned (.string t) ∧ Qt W W')) :
    Calls Tryz.prog 6 #[.agg #[.int .i64 k, .int .i64 a, .int .i64 b, .int .i64 n, .string s, lv, wv]] w fun z W' => z = .returned (.bool true) ∧ Qt w W' := by
  subst hk
  obtain ⟨WA, hWA, qA, hC⟩ := laid_opM w 7 a b n s lv wv
  have HWA := Lib.hid hWA
  have QA := Lib.hid qA
  have HC := Lib.hid hC
  obtain ⟨d0, d1, d2, d3, d4, d5, d6⟩ := hC WA (Qt.refl _)
  clear hWA qA hC
  go_enter Tryz.func6, Tryz.ntmps6
  go_upto_region 3 with (fail)
  rw [HWA.out]
  have HC2 := Lib.hid (fun W' (q : Qt WA W') => show W'.cell? ⟨w.heap.size, 1, none⟩ = some (.int .i64 a) ∧ W'.cell? ⟨w.heap.size, 3, none⟩ = some (.int .i64 n) from ⟨(HC.out W' q).2.1, (HC.out W' q).2.2.2.1⟩)
  go_wp2_with fail
  go_region_held3 (fun W' => W'.cell? ⟨w.heap.size, 1, none⟩ = some (.int .i64 a) ∧ W'.cell? ⟨w.heap.size, 3, none⟩ = some (.int .i64 n))
    (first | exact HC2.out _ (Qt.trans (Keeps.drew (Qt.refl WA)) (Qt.trans kT kR)) | exact HC2.out _ (Qt.trans (Keeps.drew (Qt.refl WA)) kT) | exact HC2.out _ (Keeps.drew (Qt.refl _)))
    (first | (go_at_call 7; refine (CA.out _ (Keeps.drew QA.out)).mono ?_; rintro e wT ⟨rfl, kT⟩) | (go_at_call 25; refine (RA.out _ (Qt.trans (Keeps.drew QA.out) kT)).mono ?_; rintro e wR ⟨rfl, kR⟩))
  have KF := Lib.hid (Qt.trans (Keeps.drew QA.out) (Qt.trans kT kR))
  go_wp2
  go_ret
  exact ⟨rfl, KF.out⟩
end Go.Proofs.YtjjlpjfojgkpkaaGreatDoor
namespace Go.Proofs.YtjjlpjfojgkpkaaGreatDoor
open Go.RowKit Go.WideShapes
set_option maxRecDepth 100000

set_option maxHeartbeats 3200000 in
theorem one_split (ad : Nat → Addr) (k a b n : Int) (s : ByteArray) (lv : Value) (pv : Option Addr) (cv g off : Nat) (ws : List Int) (w : World) (LL : List Int) (e : Nat) (hk : k = 5) (wl : ws.length ≤ 1048576) (hll : LL.length ≤ 17592186044416) (hx : IntsAt .i64 w (.slice pv ws.length cv) g off ws)
    (CA : Hid (∀ W, Qt w W → ∀ v g off, IntsAt .i64 W v g off ws → Calls Tryz.prog 11 #[.int .i64 a, v] W fun z W' => ∃ vr, z = .returned (.tuple #[vr, errV ad e]) ∧ Qt W W' ∧ NewL 2 W.heap.size W' vr LL))
    (RA : Hid (∀ W, Qt w W → ∀ v g off, IntsAt .i64 W v g off ws → Calls Tryz.prog 21 #[.int .i64 a, v] W fun z W' => ∃ vr, z = .returned (.tuple #[vr, .int .i64 (e : Nat)]) ∧ Qt W W' ∧ NewL 2 W.heap.size W' vr LL))
    (NU : Hid (∀ W, Qt w W → Calls Tryz.prog 9 #[errV ad e] W fun z W' => z = .returned (.int .i64 (e : Nat)) ∧ Qt W W')) :
    Calls Tryz.prog 6 #[.agg #[.int .i64 k, .int .i64 a, .int .i64 b, .int .i64 n, .string s, lv, (.slice pv ws.length cv)]] w fun z W' => z = .returned (.bool true) ∧ Qt w W' := by
  generalize errV ad e = EV at *
  have HX := Lib.hid (fun W (q : Qt w W) => hx.qt q)
  clear hx
  subst hk
  obtain ⟨WA, hWA, qA, hC⟩ := laid_opM w 5 a b n s lv (.slice pv ws.length cv)
  have HWA := Lib.hid hWA
  have QA := Lib.hid qA
  have HC := Lib.hid hC
  obtain ⟨d0, d1, d2, d3, d4, d5, d6⟩ := hC WA (Qt.refl _)
  clear hWA qA hC
  go_enter Tryz.func6, Tryz.ntmps6
  go_upto_region 3 with (fail)
  rw [HWA.out]
  go_wp2_with fail
  refine (spareInts_any _ g off ws WA (HX.out _ QA.out) (by omega)).mono ?_
  rintro z w1 ⟨gf, cf, rfl, hn1, k1⟩
  have N1 := Lib.hid (NewL.of_ints hn1)
  have K1 := Lib.hid (Qt.trans QA.out k1)
  have KA1 := Lib.hid k1
  obtain ⟨d0, d1, d2, d3, d4, d5, d6⟩ := HC.out _ k1
  have hm8 : (ws ++ marksI 80).length ≤ 17592186044416 := by rw [List.length_append, marksI_length]; omega
  have IN := Lib.hid (N1.out.take hm8)
  have FU := Lib.hid (fun W (q : Qt w1 W) => (N1.out.qt q).atg hm8)
  clear k1 hn1
  go_wp2_with fail
  refine (CA.out _ K1.out _ _ _ IN.out).mono ?_
  rintro z w2 ⟨va, rfl, k2, n2⟩
  have K2 := Lib.hid (Qt.trans K1.out k2)
  have K12 := Lib.hid k2
  have NA := Lib.hid n2
  obtain ⟨d0, d1, d2, d3, d4, d5, d6⟩ := HC.out _ (Qt.trans KA1.out k2)
  clear k2 n2
  go_wp2_with fail
  refine (RA.out _ K2.out _ _ _ (HX.out _ K2.out)).mono ?_
  rintro z w3 ⟨vb, rfl, k3, n3⟩
  have K3 := Lib.hid (Qt.trans K2.out k3)
  have K13 := Lib.hid (Qt.trans K12.out k3)
  obtain ⟨ga, hIa⟩ := (NA.out.qt k3).at hll
  obtain ⟨gb, hIb⟩ := n3.at hll
  have IA := Lib.hid (fun W (q : Qt w3 W) => hIa.qt q)
  have IB := Lib.hid (fun W (q : Qt w3 W) => hIb.qt q)
  have KA3 := Lib.hid (Qt.trans KA1.out K13.out)
  clear k3 n3 hIa hIb
  go_wp2_with fail
  refine (NU.out _ K3.out).mono ?_
  rintro z w4 ⟨rfl, k4⟩
  have K4 := Lib.hid (Qt.trans K3.out k4)
  have K34 := Lib.hid k4
  clear k4
  go_wp2_with fail
  refine (same_alike _ _ _ _ _ _ LL _ (IA.out _ K34.out) (IB.out _ K34.out)).mono ?_
  rintro z w5 ⟨rfl, n5, rfl⟩
  have K35 := Lib.hid (Keeps.drewN K34.out n5)
  have K5 := Lib.hid (Keeps.drewN K4.out n5)
  generalize w4.drewN n5 = w5 at *
  obtain ⟨d0, d1, d2, d3, d4, d5, d6⟩ := HC.out _ (Qt.trans KA3.out K35.out)
  go_wp2_with fail
  refine (keptInts_any _ _ gf 0 g off ws w5 (FU.out _ (Qt.trans K13.out K35.out)) (HX.out _ K5.out) (by omega)).mono ?_
  rintro z w6 ⟨rfl, k6⟩
  have K6 := Lib.hid (Qt.trans K5.out k6)
  clear k6
  go_wp2
  go_ret
  exact ⟨rfl, K6.out⟩

theorem one_any (ad : Nat → Addr) (m : Int) (o : OpM) (w : World) (hE : Errs ad w) (hT : Tab10 w) (hm : MaxL4 m w) (hR : VarR w) (ok : o.Ok w) :
    Calls Tryz.prog 6 #[.agg #[.int .i64 o.kind, .int .i64 o.a, .int .i64 o.b, .int .i64 o.n, .string o.s, o.lv, o.wv]] w fun z W' => z = .returned (.bool true) ∧ Qt w W' := by
  have NU := fun e (he : e ≤ 37) => Lib.hid (fun W (q : Qt w W) => num_any ad e W (hE.qt q) he)
  by_cases h1 : o.kind = 1
  · obtain ⟨X, e, he, e1, e2⟩ := fitV_sum ad (o.a + o.b)
    exact one_add ad _ _ _ _ _ _ _ w X e h1 (Lib.hid (fun W q => e1 ▸ add_any ad o.a o.b W (hE.qt q) ok.a0 ok.a1 ok.b0 ok.b1)) (Lib.hid (fun W _ => e2 ▸ refAdd_any o.a o.b W ok.a0 ok.a1 ok.b0 ok.b1)) (NU e he)
  by_cases h2 : o.kind = 2
  · obtain ⟨X, e, he, e1, e2⟩ := fitV_sum ad (o.a - o.b)
    exact one_sub ad _ _ _ _ _ _ _ w X e h2 (Lib.hid (fun W q => e1 ▸ sub_any ad o.a o.b W (hE.qt q) ok.a0 ok.a1 ok.b0 ok.b1)) (Lib.hid (fun W _ => e2 ▸ refSub_any o.a o.b W ok.a0 ok.a1 ok.b0 ok.b1)) (NU e he)
  by_cases h3 : o.kind = 3
  · obtain ⟨X, e, he, e1, e2⟩ := fitV_sum ad (M.sumI o.xs)
    obtain ⟨g, off, hx⟩ := ok.xi
    obtain ⟨p, c, hlv, _⟩ := hx.val
    rw [hlv] at hx ⊢
    exact one_sum ad _ _ _ _ _ p c g off o.xs _ w X e h3 ok.xl hx (Lib.hid (fun W q v g off hv => e1 ▸ sum4_any ad v g off o.xs W (hE.qt q) hv ok.xb)) (Lib.hid (fun W _ v g off hv => e2 ▸ refSum4_any v g off o.xs W hv ok.xb)) (NU e he)
  by_cases h4 : o.kind = 4
  · obtain ⟨X, e, he, e1, e2⟩ := rateV_both ad o.a o.n
    exact one_rate ad _ _ _ _ _ _ _ w X e h4 (Lib.hid (fun W q => e1 ▸ rate_any ad o.a o.n W (hE.qt q) ok.a0 ok.a1 ok.n0 ok.n1)) (Lib.hid (fun W _ => e2 ▸ (refRate_any o.a o.n W ok.a0 ok.a1 ok.n0 ok.n1).mono fun _ _ ⟨h1, h2⟩ => ⟨h1, h2 ▸ Qt.refl _⟩)) (NU e he)
  by_cases h5 : o.kind = 5
  · obtain ⟨g, off, hx⟩ := ok.wi
    obtain ⟨p, c, hwv, _⟩ := hx.val
    rw [hwv] at hx ⊢
    have hle : M.splitE o.a o.ws ≤ 37 := by
      unfold M.splitE
      split
      · decide
      · split <;> decide
    have hwl := ok.wl
    exact one_split ad _ _ _ _ _ _ p c g off o.ws w (ansS o.a o.ws) (M.splitE o.a o.ws) h5 ok.wl (Nat.le_trans (ansS_len _ _) (by omega)) hx
      (Lib.hid (fun W q v g off hv => (split4_any ad o.a v g off o.ws W ok.a0 ok.a1 (hE.qt q) hv).mono fun z W' h => h.new (by omega)))
      (Lib.hid (fun W _ v g off hv => (refSplit_any o.a v g off o.ws W ok.a0 ok.a1 hv (by omega)).mono fun z W' h => h)) (NU _ hle)
  by_cases h6 : o.kind = 6
  · exact one_code _ _ _ _ _ _ _ w h6 ok.hs
  by_cases h7 : o.kind = 7
  · exact one_text _ _ _ _ _ _ _ w (textB o.a o.n) h7 (Lib.hid (fun W q => text_any o.a o.n W ok.a0 ok.a1 (hT.qt q))) (Lib.hid (fun W _ => refText_any o.a o.n W ok.a0 ok.a1 ok.n0 ok.n1))
  by_cases h8 : o.kind = 8
  · obtain ⟨X, e, he, e1, e2⟩ := parseV_both ad o.s.data.toList o.n
    have hs := ok.hs
    exact one_parse ad _ _ _ _ _ _ _ w X e h8 (Lib.hid (fun W q => e1 ▸ parse_any ad o.s o.n m W (hE.qt q) (q.cellv hm) (hR.qt q) (by omega) ok.n0 ok.n1)) (Lib.hid (fun W _ => e2 ▸ (refParse_any o.s o.n W (by omega) ok.n0 ok.n1).mono fun _ _ ⟨h1, h2⟩ => ⟨h1, h2 ▸ Qt.refl _⟩)) (NU e he)
  have hk0 := ok.k0
  exact one_none _ _ _ _ _ _ _ w (by omega)
end Go.Proofs.YtjjlpjfojgkpkaaGreatDoor
namespace Go.Proofs.YtjjlpjfojgkpkaaGreatDoor
open Go.RowKit Go.WideShapes
set_option maxRecDepth 100000

/-- A []Op that came in, in block g from off on. -/
structure ScriptM (W : World) (v : Value) (g off : Nat) (os : List OpM) : Prop where
  val : ∃ a cap, v = .slice a os.length cap ∧ (os ≠ [] → a = some ⟨g, off, none⟩)
  le : os.length ≤ 1048576
  cells : ∀ (k : Nat) (o : OpM), os[k]? = some o → ∀ (j : Nat) (u : Value), o.list[j]? = some u → W.cell? ⟨g, off + k * 7 + j, none⟩ = some u
  each : ∀ (k : Nat) (o : OpM), os[k]? = some o → o.Ok W
theorem ScriptM.elem {W : World} {v : Value} {g off : Nat} {os : List OpM} (h : ScriptM W v g off os) {k : Nat} (hk : k < os.length) : ∃ o cap, os[k]? = some o ∧ v = .slice (some ⟨g, off, none⟩) os.length cap := by
  obtain ⟨a, cap, rfl, ha⟩ := h.val
  have hne : os ≠ [] := by rintro rfl; simp at hk
  obtain rfl := ha hne
  exact ⟨os[k], cap, List.getElem?_eq_getElem hk, rfl⟩

set_option maxHeartbeats 1600000 in
theorem plays4_any (ad : Nat → Addr) (m : Int) (v : Value) (g off : Nat) (os : List OpM) (w : World) (hE : Errs ad w) (hT : Tab10 w) (hm : MaxL4 m w) (hR : VarR w) (hs : ScriptM w v g off os) :
    Calls Tryz.prog 3 #[v] w fun e w' => e = .returned (.bool true) ∧ Qt w w' := by
  have FX := Lib.hid (fixed_any ad w hE hT)
  have HSC := Lib.hid hs
  have ONE := Lib.hid (fun W (q : Qt w W) (o : OpM) (ok : o.Ok w) => one_any ad m o W (hE.qt q) (hT.qt q) (q.cellv hm) (hR.qt q) (ok.qt q))
  have hle := hs.le
  obtain ⟨va, vc, rfl, _⟩ := hs.val
  clear hs hE hT hm hR
  go_enter Tryz.func3, Tryz.ntmps3
  go_wp2_with fail
  refine (FX.out).mono ?_
  rintro e w1 ⟨rfl, k1⟩
  have K1 := Lib.hid k1; clear k1
  go_wp2_with fail
  go_loopw [9] (fun iv wr => ∃ n : Nat, n ≤ os.length ∧ iv = .int .i64 n ∧ Qt w wr) (fun iv _ => os.length - (intOf iv).toNat)
  case atStart => exact ⟨0, Nat.zero_le _, rfl, K1.out⟩
  case round =>
    obtain ⟨n, hn, rfl, hq⟩ := hrel
    have HQ := Lib.hid hq
    by_cases hlt : n < os.length
    · obtain ⟨o, cap, ho, hval⟩ := HSC.out.elem hlt
      injection hval with hva _ hvc
      subst hva hvc
      have ok := HSC.out.each n o ho
      have c0 : wr.cell? ⟨g, off + n * 7, none⟩ = some (.int .i64 o.kind) := hq.cellv (HSC.out.cells n o ho 0 (.int .i64 o.kind) rfl)
      have c1 := hq.cellv (HSC.out.cells n o ho 1 (.int .i64 o.a) rfl)
      have c2 := hq.cellv (HSC.out.cells n o ho 2 (.int .i64 o.b) rfl)
      have c3 := hq.cellv (HSC.out.cells n o ho 3 (.int .i64 o.n) rfl)
      have c4 := hq.cellv (HSC.out.cells n o ho 4 (.string o.s) rfl)
      have c5 := hq.cellv (HSC.out.cells n o ho 5 o.lv rfl)
      have c6 := hq.cellv (HSC.out.cells n o ho 6 o.wv rfl)
      obtain ⟨p5, q5, h5, _⟩ := (show ∃ a cap, o.lv = .slice a o.xs.length cap ∧ True from by obtain ⟨g, off, h⟩ := ok.xi; obtain ⟨a, cap, h, _⟩ := h.val; exact ⟨a, cap, h, trivial⟩)
      obtain ⟨p6, q6, h6, _⟩ := (show ∃ a cap, o.wv = .slice a o.ws.length cap ∧ True from by obtain ⟨g, off, h⟩ := ok.wi; obtain ⟨a, cap, h, _⟩ := h.val; exact ⟨a, cap, h, trivial⟩)
      have OA := Lib.hid (fun W q => ONE.out W q o ok)
      rw [h5, h6] at OA
      rw [h5] at c5
      rw [h6] at c6
      obtain ⟨WA, hWA, qA, hC⟩ := laid_opM wr o.kind o.a o.b o.n o.s (.slice p5 o.xs.length q5) (.slice p6 o.ws.length q6)
      have HWA := Lib.hid hWA
      have QA := Lib.hid (Qt.trans hq qA)
      obtain ⟨d0, d1, d2, d3, d4, d5, d6⟩ := hC WA (Qt.refl _)
      clear hWA qA hC hq ok ho h5 h6
      generalize o.kind = kk at *
      generalize o.a = oa at *
      generalize o.b = ob at *
      generalize o.n = on at *
      generalize o.s = os' at *
      generalize o.xs = oxs at *
      generalize o.ws = ows at *
      go_wp2_with fail
      rw [HWA.out]
      go_wp2_with fail
      refine (OA.out _ QA.out).mono ?_
      rintro e w5 ⟨rfl, k5⟩
      have K5 := Lib.hid (Qt.trans QA.out k5)
      clear k5
      go_wp2
      go_roundw
      case rel => exact ⟨n + 1, hlt, by go_num, K5.out⟩
      case measure => simp [intOf]; omega
    · obtain rfl : n = os.length := by omega
      clear hq hlt
      go_wp2
      go_ret
      exact ⟨rfl, HQ.out⟩
end Go.Proofs.YtjjlpjfojgkpkaaGreatDoor
namespace Go.Proofs.YtjjlpjfojgkpkaaGreatDoor
open Go.ChangeShapes Go.WideShapes Go.ChangeAt Go.RowKit
set_option maxRecDepth 100000

theorem bulk_one {H : Type} (d : DataW H) : 1 ≤ Rows.uptoBulk d := by
  cases d with
  | lit l => cases l <;> simp [Rows.uptoBulk]
  | _ => simp [Rows.uptoBulk]
theorem bulk_len {H : Type} : ∀ l : List (DataW H), l.length ≤ Rows.uptoBulkAll l
  | [] => by simp [Rows.uptoBulkAll]
  | d :: r => by have := bulk_len r; have := bulk_one d; simp only [Rows.uptoBulkAll, List.length_cons]; omega
theorem bulk_mem {H : Type} : ∀ (l : List (DataW H)) (d : DataW H), d ∈ l → Rows.uptoBulk d ≤ Rows.uptoBulkAll l
  | [], _, h => by cases h
  | x :: r, d, h => by
    simp only [Rows.uptoBulkAll]
    rcases List.mem_cons.1 h with rfl | h
    · omega
    · have := bulk_mem r d h; omega
theorem cellsI64s : Tryz.prog.cellsOf 24 = 1 := by kernel_rfl
theorem cellsInts : Tryz.prog.cellsOf 25 = 1 := by kernel_rfl
theorem cellsStr : Tryz.prog.cellsOf 9 = 1 := by kernel_rfl
theorem cellsOp4 : Tryz.prog.cellsOf 27 = 7 := by kernel_rfl
theorem bulk_list {H : Type} {d : DataW H} {xs : List Int} (h : (d = .nil ∧ xs = []) ∨ ∃ spare, d = .slice (lits .i64 xs) spare) : xs.length ≤ Rows.uptoBulk d := by
  rcases h with ⟨_, rfl⟩ | ⟨spare, rfl⟩
  · simp
  · have := bulk_len (lits (H := H) .i64 xs)
    have e : (lits (H := H) .i64 xs).length = xs.length := by simp [lits]
    simp only [Rows.uptoBulk]
    omega

/-- One Op's cells that came in. -/
theorem op4_of_trod {H : Type} {enc : TypeId × Value → H} {W : World} {fuel : Nat} {cs : List Value} {x : DataW H × List MemPlace} (hf : DataW.trod enc Tryz.prog W 0 (fun _ => true) true fuel 27 cs = some x) (hb : Rows.uptoBulk x.1 ≤ 1048576) :
    ∃ o : OpM, cs = o.list ∧ o.Ok W := by
  obtain ⟨xs, n, _, hx, hcl, hxl, hel⟩ := DataW.trod_struct Tryz.underlying27 hf
  have hl : cs.length = 7 := by rw [hcl, cellsOp4]
  match cs, hl with
  | [c0, c1, c2, c3, c4, c5, c6], _ =>
  have hx7 : xs.length = 7 := hxl
  match xs, hx7 with
  | [y0, y1, y2, y3, y4, y5, y6], _ =>
  have t0 : DataW.trod enc Tryz.prog W 0 (fun _ => true) true n 3 (([c0, c1, c2, c3, c4, c5, c6].drop 0).take (Tryz.prog.cellsOf 3)) = some y0 := hel 0 _ rfl
  have t1 : DataW.trod enc Tryz.prog W 0 (fun _ => true) true n 2 (([c0, c1, c2, c3, c4, c5, c6].drop 1).take (Tryz.prog.cellsOf 2)) = some y1 := hel 1 _ rfl
  have t2 : DataW.trod enc Tryz.prog W 0 (fun _ => true) true n 2 (([c0, c1, c2, c3, c4, c5, c6].drop 2).take (Tryz.prog.cellsOf 2)) = some y2 := hel 2 _ rfl
  have t3 : DataW.trod enc Tryz.prog W 0 (fun _ => true) true n 3 (([c0, c1, c2, c3, c4, c5, c6].drop 3).take (Tryz.prog.cellsOf 3)) = some y3 := hel 3 _ rfl
  have t4 : DataW.trod enc Tryz.prog W 0 (fun _ => true) true n 9 (([c0, c1, c2, c3, c4, c5, c6].drop 4).take (Tryz.prog.cellsOf 9)) = some y4 := hel 4 _ rfl
  have t5 : DataW.trod enc Tryz.prog W 0 (fun _ => true) true n 24 (([c0, c1, c2, c3, c4, c5, c6].drop 5).take (Tryz.prog.cellsOf 24)) = some y5 := hel 5 _ rfl
  have t6 : DataW.trod enc Tryz.prog W 0 (fun _ => true) true n 25 (([c0, c1, c2, c3, c4, c5, c6].drop 6).take (Tryz.prog.cellsOf 25)) = some y6 := hel 6 _ rfl
  rw [cellsInt] at t0 t3
  rw [cellsI64] at t1 t2
  rw [cellsStr] at t4
  rw [cellsI64s] at t5
  rw [cellsInts] at t6
  simp only [List.drop_zero, List.drop_succ_cons, List.take_succ_cons, List.take_zero] at t0 t1 t2 t3 t4 t5 t6
  obtain ⟨z0, e0, rfl, w0⟩ := DataW.trod_int Tryz.underlying3 t0
  obtain ⟨z1, e1, rfl, w1⟩ := DataW.trod_int Tryz.underlying2 t1
  obtain ⟨z2, e2, rfl, w2⟩ := DataW.trod_int Tryz.underlying2 t2
  obtain ⟨z3, e3, rfl, w3⟩ := DataW.trod_int Tryz.underlying3 t3
  obtain ⟨z4, e4, rfl, _⟩ := DataW.trod_string Tryz.underlying9 t4
  obtain ⟨g5, o5, s5, hst5, hxb5, hd5⟩ := open_list Tryz.underlying24 Tryz.underlying2 cellsI64 t5
  obtain ⟨g6, o6, s6, hst6, hxb6, hd6⟩ := open_list Tryz.underlying25 Tryz.underlying3 cellsInt t6
  simp only [List.cons.injEq, and_true] at e0 e1 e2 e3 e4
  subst e0 e1 e2 e3 e4 hx
  simp only [List.map_cons, List.map_nil, Rows.uptoBulk, Rows.uptoBulkAll] at hb
  have b0 := bounds_i64 w0
  have b1 := bounds_i64 w1
  have b2 := bounds_i64 w2
  have b3 := bounds_i64 w3
  have hz4 : z4.size = z4.data.toList.length := rfl
  have l5 := bulk_list hd5
  have l6 := bulk_list hd6
  exact ⟨⟨z0, z1, z2, z3, z4, c5, s5, c6, s6⟩, rfl, ⟨b0.1, by have := b0.2; simp only; omega, b1.1, by have := b1.2; simp only; omega, b2.1, by have := b2.2; simp only; omega, b3.1, by have := b3.2; simp only; omega, by simp only; omega, by simp only; omega, by simp only; omega, hxb5, ⟨g5, o5, hst5 (by omega)⟩, ⟨g6, o6, hst6 (by omega)⟩⟩⟩

theorem choose_list {α : Type} {Q : Nat → α → Prop} : ∀ (n : Nat), (∀ k, k < n → ∃ o, Q k o) → ∃ os : List α, os.length = n ∧ ∀ (k : Nat) (o : α), os[k]? = some o → Q k o
  | 0, _ => ⟨[], rfl, fun k o h => by simp at h⟩
  | n + 1, h => by
    obtain ⟨os, hl, ho⟩ := choose_list n (fun k hk => h k (by omega))
    obtain ⟨o, hq⟩ := h n (by omega)
    refine ⟨os ++ [o], by simp [hl], fun k o' hk => ?_⟩
    by_cases hkn : k < n
    · rw [List.getElem?_append_left (by omega)] at hk
      exact ho k o' hk
    · rw [List.getElem?_append_right (by omega)] at hk
      have hk0 : k - os.length = 0 := by
        have := (List.getElem?_eq_some_iff.1 hk).1
        simp at this
        omega
      rw [hk0] at hk
      simp at hk
      subst hk
      obtain rfl : k = n := by omega
      exact hq

/-- A []Op that came in. -/
theorem open_script {H : Type} {enc : TypeId × Value → H} {W : World} {fuel : Nat} {c : Value} {y : DataW H × List MemPlace} (h : DataW.trod enc Tryz.prog W 0 (fun _ => true) true fuel 22 [c] = some y) (hb : Rows.uptoBulk y.1 ≤ 1048576) :
    ∃ (g off : Nat) (os : List OpM), ScriptM W c g off os := by
  rcases Go.Deep.open_slice Tryz.underlying22 h with ⟨hcs, hx⟩ | ⟨a, len, cap, m, n, D, Pl, hcs, _, hl, hm, hmc, hx, hel⟩
  · simp at hcs
    subst hcs
    exact ⟨0, 0, [], ⟨⟨none, 0, rfl, fun h => absurd rfl h⟩, by simp, fun k o hk => by simp at hk, fun k o hk => by simp at hk⟩⟩
  · simp at hcs
    subst hcs
    simp only [if_true] at hmc
    rw [cellsOp4] at hel
    rw [hx] at hb
    simp only [Rows.uptoBulk] at hb
    obtain ⟨b, off, spot⟩ := a
    have hlen := bulk_len ((List.range len).map D)
    simp only [List.length_map, List.length_range] at hlen
    have hpart : ∀ k, k < len → Rows.uptoBulk (D k) ≤ 1048576 := by
      intro k hk
      have := bulk_mem ((List.range len).map D) (D k) (List.mem_map_of_mem (List.mem_range.2 hk))
      omega
    have hone : ∀ k, k < len → ∃ o : OpM, W.cells? 0 ((⟨b, off, spot⟩ : Addr).add (k * 7)) 7 = some o.list ∧ o.Ok W := by
      intro k hk
      obtain ⟨cs', hcs', ht⟩ := hel k (by omega)
      obtain ⟨o, rfl, h1⟩ := op4_of_trod ht (hpart k hk)
      exact ⟨o, hcs', h1⟩
    obtain ⟨os, hol, hos⟩ := choose_list len hone
    have hspot : os ≠ [] → spot = none := by
      intro hne
      obtain ⟨o, r, rfl⟩ := List.exists_cons_of_ne_nil hne
      have h0 := (World.cells?_some (hos 0 o rfl).1).2.2 0 (by omega)
      have h1 : W.cell? (((⟨b, off, spot⟩ : Addr).add (0 * 7)).add 0) = some (.int .i64 o.kind) := h0
      simpa [Addr.add] using World.cell?_spot h1
    refine ⟨b, off, os, ⟨⟨some ⟨b, off, spot⟩, cap, by rw [hol], fun hne => by rw [hspot hne]⟩, by omega, fun k o hk j u hj => ?_, fun k o hk => (hos k o hk).2⟩⟩
    have hne : os ≠ [] := by rintro rfl; simp at hk
    obtain rfl := hspot hne
    have hj7 : j < 7 := (List.getElem?_eq_some_iff.1 hj).1
    have h0 := (World.cells?_some (hos k o hk).1).2.2 j hj7
    rw [add_plain, add_plain] at h0
    exact h0.trans hj
end Go.Proofs.YtjjlpjfojgkpkaaGreatDoor
