/-
  The contract of remitref10.record.
-/
import Derived.Test.YtggogaaooacooaaDoorP26
import Derived.Test.YtggogaaooacooaaDoorP33
import Derived.Test.YtggogaaooacooaaDoorP34
import Derived.BigQuiet
import Derived.Lib.SmallJoins
import Derived.Deep.RegionHeld3
namespace Go.Proofs.YtggogaaooacooaaDoor
open Go.RowKit Go.WideShapes
set_option maxRecDepth 100000

/-- What record tells. -/
def recV (p : Nat) : Option (List UInt8) → Value
  | none => .tuple #[.string ⟨#[]⟩, .int .i64 0, .bool false]
  | some v => .tuple #[strV v, .int .i64 (p + J.cost v.length : Nat), .bool true]
theorem byte_at {X : ByteArray} {k : Nat} (h : k < X.size) : X.data.toList[k]? = some X[k] := by
  have h' : k < X.data.toList.length := by simpa using h
  rw [List.getElem?_eq_getElem h']
  rfl
theorem first_byte {X : ByteArray} (h : 0 < X.size) {b : UInt8} (e : X.data.toList[0]? = some b) : X[0] = b := by
  rw [byte_at h] at e
  injection e
theorem size_bytes {X : ByteArray} {q : List UInt8} (hq : X.data.toList = q) (h : 5 ≤ X.size) : ((J.sizeOf q : Nat) : Int) = (X[1].toNat : Int) + (X[2].toNat : Int) * 256 + (X[3].toNat : Int) * 65536 + (X[4].toNat : Int) * 16777216 := by
  have hl : X.data.toList.length = X.size := by simp
  obtain ⟨a0, a1, a2, a3, a4, r, hr⟩ : ∃ a0 a1 a2 a3 a4 r, X.data.toList = a0 :: a1 :: a2 :: a3 :: a4 :: r := by
    match hx : X.data.toList, hl with
    | [], k => simp at k; omega
    | [_], k => simp at k; omega
    | [_, _], k => simp at k; omega
    | [_, _, _], k => simp at k; omega
    | [_, _, _, _], k => simp at k; omega
    | a0 :: a1 :: a2 :: a3 :: a4 :: r, _ => exact ⟨a0, a1, a2, a3, a4, r, rfl⟩
  have e1 : X[1] = a1 := by have := byte_at (X := X) (k := 1) (by omega); rw [hr] at this; injection this with this; exact this.symm
  have e2 : X[2] = a2 := by have := byte_at (X := X) (k := 2) (by omega); rw [hr] at this; injection this with this; exact this.symm
  have e3 : X[3] = a3 := by have := byte_at (X := X) (k := 3) (by omega); rw [hr] at this; injection this with this; exact this.symm
  have e4 : X[4] = a4 := by have := byte_at (X := X) (k := 4) (by omega); rw [hr] at this; injection this with this; exact this.symm
  rw [e1, e2, e3, e4, ← hq, hr]
  unfold J.sizeOf
  simp only [List.drop_succ_cons, List.drop_zero, List.take_succ_cons, List.take_zero, E.num]
  omega

theorem infoU8J : (Tryd.prog.info? 5).map (fun i => (i.zero, i.size, i.bytes)) = some (some (.int .u8 0), 1, 1) := by kernel_rfl
theorem qt_bytesJ (w : World) (e : TypeId) (s : ByteArray) : Qt w (Lib.bytesWorld w e s) := Qt.of_below (Joins.below_bytesWorld w.heap.size w e s (Nat.le_refl _))
/-- What the first loop keeps: the text of the first k pieces. -/
def R1At (w : World) (s : Nat → Option (List UInt8)) (p C : Nat) (P : Nat → List UInt8) (tv kv : Value) (wr : World) : Prop :=
  ∃ k, 1 ≤ k ∧ k ≤ C ∧ kv = .int .i64 k ∧ (∀ j, j < k → s (p + j) = some (P j)) ∧ MarkB wr tv (J.textTo P k) ∧ (∀ g, tv.ownBlock = some g → w.heap.size ≤ g) ∧ Qt w wr
theorem R1At.more {w wr w2 w3 : World} {s : Nat → Option (List UInt8)} {p C k : Nat} {P : Nat → List UInt8} {tv v' : Value} (hk : 1 ≤ k) (hkC : k < C) (hs : ∀ j, j < k → s (p + j) = some (P j)) (hp : s (p + k) = some (P k)) (hn : ∀ g, tv.ownBlock = some g → w.heap.size ≤ g) (q : Qt w wr) (q2 : Qt wr w2)
    (hm : MarkB w3 v' (J.textTo P k ++ (P k).drop 1)) (hg : w2.grownBy w3 tv.ownBlock) (hl : Later w2 tv.ownBlock v'.ownBlock) : R1At w s p C P v' (.int .i64 ((k : Int) + 1)) w3 := by
  have q3 := Qt.trans q q2
  refine ⟨k + 1, by omega, hkC, by push_cast; rfl, fun j hj => ?_, ?_, fun g hg' => ?_, Keeps.grown q3 hg (fun j hj e => by have := hn j e.symm; omega)⟩
  · rcases Nat.lt_or_ge j k with h | h
    · exact hs j h
    · obtain rfl : j = k := by omega
      exact hp
  · obtain ⟨m, rfl⟩ : ∃ m, k = m + 1 := ⟨k - 1, by omega⟩
    exact hm
  · rcases hl with e | ⟨x, e, hx⟩
    · exact hn g (e ▸ hg')
    · rw [hg'] at e
      injection e with e
      subst e
      exact Nat.le_trans q3.size hx
/-- What the second loop keeps: the first k pieces are the text's. -/
def R2At (w2 : World) (T : List UInt8) (C : Nat) (P : Nat → List UInt8) (kv : Value) (wr : World) : Prop :=
  ∃ k, k ≤ C ∧ kv = .int .i64 k ∧ (∀ j, j < k → P j = J.pay T j) ∧ Qt w2 wr
theorem R2At.more {w2 wr w3 : World} {T : List UInt8} {C k : Nat} {P : Nat → List UInt8} (hk : k < C) (h : ∀ j, j < k → P j = J.pay T j) (hp : P k = J.pay T k) (q : Qt w2 wr) (q2 : Qt wr w3) : R2At w2 T C P (.int .i64 ((k : Int) + 1)) w3 :=
  ⟨k + 1, hk, by push_cast; rfl, fun j hj => by
    rcases Nat.lt_or_ge j k with h' | h'
    · exact h j h'
    · obtain rfl : j = k := by omega
      exact hp, Qt.trans q q2⟩
theorem textFrom (s : ByteArray) (a : Nat) (h : a ≤ s.size) (wx : World) : (Instr.slice 9 (.string s) (some (.int .i64 (a : Int))) none none).run Tryd.prog wx = .ok (.string (s.extract a s.size)) wx := by
  have h1 := run_slice_string_l (P := Tryd.prog) wx 9 s Tryd.underlying9 .i64 (a : Int) (by omega) (by omega)
  rw [Int.toNat_natCast] at h1
  exact h1
theorem textFrom_data (s : ByteArray) (a : Nat) : (s.extract a s.size).data.toList = s.data.toList.drop a := by
  rw [dslice, List.take_of_length_le (by rw [List.length_drop, dlen7]; omega)]
theorem wrap_size {b1 b2 b3 b4 z : Nat} (h1 : b1 < 256) (h2 : b2 < 256) (h3 : b3 < 256) (h4 : b4 < 256) (hz : (z : Int) = (b1 : Int) + (b2 : Int) * 256 + (b3 : Int) * 65536 + (b4 : Int) * 16777216) :
    wrap64 (wrap64 (wrap64 (wrap64 (b1 : Int) + wrap64 (wrap64 (b2 : Int) * 256)) + wrap64 (wrap64 (b3 : Int) * 65536)) + wrap64 (wrap64 (b4 : Int) * 16777216)) = (z : Int) := by
  rw [show wrap64 (b1 : Int) = b1 by unfold wrap64; omega, show wrap64 (b2 : Int) = b2 by unfold wrap64; omega, show wrap64 (b3 : Int) = b3 by unfold wrap64; omega, show wrap64 (b4 : Int) = b4 by unfold wrap64; omega]
  rw [show wrap64 ((b2 : Int) * 256) = b2 * 256 by unfold wrap64; omega, show wrap64 ((b3 : Int) * 65536) = b3 * 65536 by unfold wrap64; omega, show wrap64 ((b4 : Int) * 16777216) = b4 * 16777216 by unfold wrap64; omega]
  rw [show wrap64 ((b1 : Int) + b2 * 256) = b1 + b2 * 256 by unfold wrap64; omega]
  rw [show wrap64 ((b1 : Int) + b2 * 256 + b3 * 65536) = b1 + b2 * 256 + b3 * 65536 by unfold wrap64; omega, hz]
  unfold wrap64; omega

set_option maxHeartbeats 3200000 in
theorem rrecord_any {w0 w : World} {j b c : Nat} {d u : DS} (h : Pair j w0 w b c d u) (hf : u.Few) (ho : u.off = false) (i n v p : Nat) (h1 : 1 ≤ v) (h2 : v ≤ 1099511627776) (hn : n ≤ 65536) (hin : i + n ≤ u.dur.length) (hp : p < n) :
    Calls Tryd.prog 73 #[.pointer (some ⟨c, 0, none⟩), .int .i64 i, .int .i64 n, .int .i64 v, .int .i64 p] w fun e w' => e = .returned (recV p (J.rec (J.secs u i v) n p)) ∧ Qt w w' := by
  have SEC := Lib.hid (fun (k : Nat) (hk : p + k < n) (W : World) (q : Qt w W) => (rsec_any (h.qt q) hf ho i v (p + k) h1 h2 (by omega) (by omega)))
  have O1 := SEC.out 0 (by omega) w (Qt.refl w)
  rw [Nat.add_zero] at O1
  have HN := Lib.hid (show n ≤ 65536 ∧ p < n from ⟨hn, hp⟩)
  cases hq : J.secs u i v p with
  | none =>
    have FIN := Lib.hid (J.rec_no1 (n := n) hq)
    rw [hq] at O1
    have O2 := Lib.hid (show Calls Tryd.prog 88 #[.pointer (some ⟨c, 0, none⟩), .int .i64 i, .int .i64 p, .int .i64 v] w fun e w' => e = .returned (.tuple #[.string ⟨#[]⟩, .bool false]) ∧ Qt w w' from O1)
    clear O1 h hf ho h1 h2 hn hin hp hq
    go_enter Tryd.func73, Tryd.ntmps73
    go_wp2_with fail
    refine O2.out.mono ?_
    rintro e w1 ⟨rfl, q1⟩
    have Q1 := Lib.hid q1; clear q1
    go_wp2
    go_ret3
    exact ⟨by rw [FIN.out]; rfl, Q1.out⟩
  | some q =>
    rw [hq] at O1
    obtain ⟨X, hX⟩ : ∃ X : ByteArray, X = ⟨q.toArray⟩ := ⟨_, rfl⟩
    have hXl : X.data.toList = q := by rw [hX]
    have hXz : X.size = q.length := by rw [← dlen7, hXl]
    have O2 := Lib.hid (show Calls Tryd.prog 88 #[.pointer (some ⟨c, 0, none⟩), .int .i64 i, .int .i64 p, .int .i64 v] w fun e w' => e = .returned (.tuple #[.string X, .bool true]) ∧ Qt w w' from by rw [hX]; exact O1)
    clear O1
    by_cases h5 : X.size < 5
    · have FIN := Lib.hid (J.rec_no2 (n := n) hq (fun v k => by have := (J.pay0_five k).1; omega))
      have z5 : decide ((X.size : Int) < 5) = true := decide_eq_true (by omega)
      have z5' : decide (X.size < 5) = true := decide_eq_true h5
      clear h hf ho h1 h2 hn hin hp hq hX hXl hXz h5
      go_enter Tryd.func73, Tryd.ntmps73
      go_wp2_with fail
      refine O2.out.mono ?_
      rintro e w1 ⟨rfl, q1⟩
      have Q1 := Lib.hid q1; clear q1
      go_wp2
      go_ret3
      exact ⟨by rw [FIN.out]; rfl, Q1.out⟩
    · have z5 : decide ((X.size : Int) < 5) = false := decide_eq_false (by omega)
      have z5' : decide (X.size < 5) = false := decide_eq_false h5
      have g0 : 0 < X.size := by omega
      have HXZ := Lib.hid hXz
      have HXL := Lib.hid hXl
      by_cases hb : X[0] = 1
      · have zb : (((X[0].toNat : Nat) : Int) != 1) = false := by rw [hb]; rfl
        have h5' : 5 ≤ X.size := by omega
        have g1 : 1 < X.size := by omega
        have g2 : 2 < X.size := by omega
        have g3 : 3 < X.size := by omega
        have g4 : 4 < X.size := by omega
        have k1 : (1 : Int) < (X.size : Int) := by omega
        have k2 : (2 : Int) < (X.size : Int) := by omega
        have k3 : (3 : Int) < (X.size : Int) := by omega
        have k4 : (4 : Int) < (X.size : Int) := by omega
        have zz := wrap_size (UInt8.toNat_lt X[1]) (UInt8.toNat_lt X[2]) (UInt8.toNat_lt X[3]) (UInt8.toNat_lt X[4]) (size_bytes hXl h5')
        have hZ := J.size_lt q
        have RMF := Lib.hid (fun (hr : n < p + J.cost (J.sizeOf q)) => J.rec_room hq hr)
        have MISS := Lib.hid (fun (k : Nat) (hk : k < J.cost (J.sizeOf q)) (hm : J.secs u i v (p + k) = none) => J.rec_miss (n := n) hq hk hm)
        have SHORT := Lib.hid (fun (k : Nat) (r : List UInt8) (hk : k + 1 < J.cost (J.sizeOf q)) (hm : J.secs u i v (p + (k + 1)) = some r) (hr : r.length < 1) => J.rec_short (n := n) hq hk hm hr)
        obtain ⟨P, hP⟩ : ∃ P : Nat → List UInt8, P = fun k => (J.secs u i v (p + k)).getD [] := ⟨_, rfl⟩
        have hP0 : P 0 = q := by rw [hP]; show (J.secs u i v (p + 0)).getD [] = q; rw [Nat.add_zero, hq]; rfl
        have hPs : ∀ k r, J.secs u i v (p + k) = some r → P k = r := fun k r e => by rw [hP]; show (J.secs u i v (p + k)).getD [] = r; rw [e]; rfl
        have hPl : ∀ k, (P k).length ≤ 234 := fun k => by
          rw [hP]
          show ((J.secs u i v (p + k)).getD []).length ≤ 234
          cases e : J.secs u i v (p + k) with
          | none => exact Nat.zero_le _
          | some r => exact (E.open_some e).1
        have SIZ := Lib.hid (fun hh hs => J.rec_size (s := J.secs u i v) (n := n) (p := p) (P := P) hh hs)
        have UNL := Lib.hid (fun k hh hk hs => J.rec_unlike (s := J.secs u i v) (n := n) (p := p) (k := k) (P := P) hh hk hs)
        have YES := Lib.hid (fun hh hr hs hp => J.rec_yes (s := J.secs u i v) (n := n) (p := p) (P := P) hh hr hs hp)
        rw [hP0] at SIZ UNL YES
        have HPS := Lib.hid hPs
        have HPL := Lib.hid hPl
        have HQ0 := Lib.hid (show J.secs u i v (p + 0) = some (P 0) by rw [Nat.add_zero, hP0]; exact hq)
        have SEC2 := Lib.hid (fun (k : Nat) (hk : p + k < n) (W : World) (q : Qt w W) => (show Calls Tryd.prog 88 #[.pointer (some ⟨c, 0, none⟩), .int .i64 i, .int .i64 ((p : Int) + (k : Int)), .int .i64 v] W fun e w' => e = .returned (openV (J.secs u i v (p + k))) ∧ Qt W w' from by
          have h := SEC.out k hk W q
          rw [Int.natCast_add] at h
          exact h))
        have CO := fun W => refCost_any ((J.sizeOf q : Nat) : Int) (by omega) W
        rw [costZ_nat] at CO
        obtain ⟨Z, hZe⟩ : ∃ Z, J.sizeOf q = Z := ⟨_, rfl⟩
        rw [hZe] at zz hZ RMF MISS SHORT SIZ UNL YES CO
        obtain ⟨C, hC⟩ : ∃ C, J.cost Z = C := ⟨_, rfl⟩
        have hC1 : 1 ≤ C := by rw [← hC]; exact J.cost_pos _
        have HCC := Lib.hid hC
        rw [hC] at RMF MISS SHORT SIZ UNL YES CO
        have hw : wrap64 ((n : Int) - (p : Int)) = (n : Int) - (p : Int) := by unfold wrap64; omega
        have SF : ∀ wx, (Instr.slice 9 (.string X) (some (.int .i64 5)) none none).run Tryd.prog wx = .ok (.string (X.extract 5 X.size)) wx := textFrom X 5 h5'
        have hXm : (X.extract 5 X.size).size ≤ maxLen := by rw [← dlen7, textFrom_data, List.length_drop, dlen7, hXz]; have := (E.open_some hq).1; unfold maxLen; omega
        have hPX : (X.extract 5 X.size).data.toList = (P 0).drop 5 := by rw [textFrom_data, hXl, hP0]
        obtain ⟨Y, hY⟩ : ∃ Y, X.extract 5 X.size = Y := ⟨_, rfl⟩
        rw [hY] at SF hXm hPX
        have HPX := Lib.hid hPX
        have HXM := Lib.hid hXm
        have HZB := Lib.hid hZ
        have HC1 := Lib.hid hC1
        clear h hf ho h1 h2 hn hin hp hX hXz hb h5 h5' hP hP0 hPs hPl hq hZe hC SEC hXm hXl hZ hC1 hPX hY
        go_enter Tryd.func73, Tryd.ntmps73
        go_wp2_with fail
        refine O2.out.mono ?_
        rintro e w1 ⟨rfl, q1⟩
        have Q1 := Lib.hid q1; clear q1
        go_wp2
        go_quiet (fail)
        rw [zz]
        clear zz
        obtain ⟨wd, hwd⟩ : ∃ W, w1.drewN nq = W := ⟨_, rfl⟩
        have QD := Lib.hid (show Qt w wd from hwd ▸ Keeps.drewN Q1.out nq)
        rw [hwd]
        clear hwd Q1
        go_wp2_with fail
        refine (CO _).mono ?_
        rintro e w2 ⟨rfl, rfl⟩
        by_cases hroom : n < p + C
        · have FIN := Lib.hid (RMF.out hroom)
          have zr : decide ((n : Int) - (p : Int) < (C : Int)) = true := decide_eq_true (by omega)
          clear hroom
          go_wp2
          go_ret3
          exact ⟨by rw [FIN.out]; rfl, QD.out⟩
        · have zr : decide ((n : Int) - (p : Int) < (C : Int)) = false := decide_eq_false (by omega)
          have HR := Lib.hid (show p + C ≤ n by omega)
          have CB := fun W : World => Lib.run_convert_string_bytes (P := Tryd.prog) W 9 75 5 Y Tryd.underlying9 Tryd.underlying75 Tryd.underlying5
          have MK := Lib.hid (MarkB.made w2 Y HXM.out)
          have QB := Lib.hid (Qt.trans QD.out (qt_bytesJ w2 5 Y))
          have START := Lib.hid (show R1At w (J.secs u i v) p C P (.slice (some ⟨w2.heap.size, 0, none⟩) Y.size (grownCap w2 Y.size 0 5)) (.int .i64 1) (Lib.bytesWorld w2 5 Y) from
            ⟨1, Nat.le_refl _, HC1.out, rfl, fun j hj => by obtain rfl : j = 0 := by omega
                                                            exact HQ0.out, by have h := MK.out; rw [HPX.out] at h; exact h, fun g hg => by injection hg with hg; rw [← hg]; exact QD.out.size, QB.out⟩)
          clear hroom MK
          go_wp2
          obtain ⟨i0, hi0, hzz0, hzz1, hzz2⟩ := info_parts infoU8J
          have HI0 := Lib.hid (show Tryd.prog.info? 5 = some i0 ∧ i0.zero = some (.int .u8 0) ∧ i0.size = 1 ∧ i0.bytes = 1 from ⟨hi0, hzz0, hzz1, hzz2⟩)
          clear hi0 hzz0 hzz1 hzz2 CO CB hw zr
          go_loopw [17, 18] (fun tv kv wr => R1At w (J.secs u i v) p C P tv kv wr) (fun _ kv _ => C - (intOf kv).toNat)
          case atStart => exact START.out
          case round =>
            obtain ⟨k, hk1, hkC, rfl, hks, hmk, hnew, hq⟩ := hrel
            obtain ⟨ta, tc, rfl⟩ := hmk.shape
            have HK := Lib.hid hks
            have HMK := Lib.hid hmk
            have HNW := Lib.hid hnew
            have HQ := Lib.hid hq
            have HTL := Lib.hid (J.text_le HPL.out k)
            have hkp : (k : Int) ≤ 65536 := by have := HR.out; have := HN.out; omega
            have hpb : (p : Int) ≤ 65536 := by have := HN.out; omega
            by_cases hlt : k < C
            · have zlt : decide ((k : Int) < (C : Int)) = true := decide_eq_true (by omega)
              have zlt' : decide (k < C) = true := decide_eq_true hlt
              have SK := SEC2.out k (by have := HR.out; omega) wr hq
              have HLT := Lib.hid (show 1 ≤ k ∧ k < C from ⟨hk1, hlt⟩)
              clear hks hmk hnew hq hk1 hkC hlt
              cases hs : J.secs u i v (p + k) with
              | none =>
                rw [hs] at SK
                have FIN := Lib.hid (MISS.out k HLT.out.2 hs)
                have S2 := Lib.hid (show Calls Tryd.prog 88 #[.pointer (some ⟨c, 0, none⟩), .int .i64 i, .int .i64 ((p : Int) + (k : Int)), .int .i64 v] wr fun e w' => e = .returned (.tuple #[.string ⟨#[]⟩, .bool false]) ∧ Qt wr w' from SK)
                clear SK hs
                go_wp2_with fail
                refine S2.out.mono ?_
                rintro e3 w5 ⟨rfl, q5⟩
                have Q5 := Lib.hid (Qt.trans HQ.out q5)
                clear q5
                go_wp2
                go_ret3
                exact ⟨by rw [FIN.out]; rfl, Q5.out⟩
              | some r =>
                rw [hs] at SK
                obtain ⟨R, hR⟩ : ∃ R : ByteArray, R = ⟨r.toArray⟩ := ⟨_, rfl⟩
                have hRl : R.data.toList = r := by rw [hR]
                have hRz : R.size = r.length := by rw [← dlen7, hRl]
                have S2 := Lib.hid (show Calls Tryd.prog 88 #[.pointer (some ⟨c, 0, none⟩), .int .i64 i, .int .i64 ((p : Int) + (k : Int)), .int .i64 v] wr fun e w' => e = .returned (.tuple #[.string R, .bool true]) ∧ Qt wr w' from by rw [hR]; exact SK)
                have HPK := Lib.hid (HPS.out k r hs)
                by_cases h1 : R.size < 1
                · have FIN := Lib.hid (show J.rec (J.secs u i v) n p = none from by
                    obtain ⟨k', rfl⟩ : ∃ k', k = k' + 1 := ⟨k - 1, by have := HLT.out; omega⟩
                    exact SHORT.out k' r HLT.out.2 hs (by omega))
                  have z1 : decide ((R.size : Int) < 1) = true := decide_eq_true (by omega)
                  have z1' : decide (R.size < 1) = true := decide_eq_true h1
                  clear SK hs hR hRl hRz h1
                  go_wp2_with fail
                  refine S2.out.mono ?_
                  rintro e3 w5 ⟨rfl, q5⟩
                  have Q5 := Lib.hid (Qt.trans HQ.out q5)
                  clear q5
                  go_wp2
                  go_ret3
                  exact ⟨by rw [FIN.out]; rfl, Q5.out⟩
                · have z1 : decide ((R.size : Int) < 1) = false := decide_eq_false (by omega)
                  have z1' : decide (R.size < 1) = false := decide_eq_false h1
                  have SF1 : ∀ wx, (Instr.slice 9 (.string R) (some (.int .i64 1)) none none).run Tryd.prog wx = .ok (.string (R.extract 1 R.size)) wx := textFrom R 1 (by omega)
                  have hY1 : (R.extract 1 R.size).data.toList = (P k).drop 1 := by rw [textFrom_data, hRl, HPK.out]
                  obtain ⟨Y1, hYe⟩ : ∃ Y, R.extract 1 R.size = Y := ⟨_, rfl⟩
                  rw [hYe] at SF1 hY1
                  have hYz : Y1.size ≤ 234 := by rw [← dlen7, hY1, List.length_drop]; have := HPL.out k; omega
                  have hb1 : (J.textTo P k).length + Y1.size ≤ 140737488355328 := by have := HTL.out; have := HLT.out; omega
                  have hb2 : (J.textTo P k).length + Y1.size ≤ maxLen := by unfold maxLen; have := HTL.out; have := HLT.out; omega
                  have HY1 := Lib.hid hY1
                  have HSP := Lib.hid (show J.secs u i v (p + k) = some (P k) by rw [hs, HPK.out])
                  have HME := Lib.hid (show C - (intOf (.int .i64 ((k : Int) + 1))).toNat < C - (intOf (.int .i64 (k : Int))).toNat by have := HLT.out; simp [intOf]; omega)
                  clear SK hs hR hRl hRz h1 hYe hY1 hYz
                  go_wp2_with fail
                  refine S2.out.mono ?_
                  rintro e3 w5 ⟨rfl, q5⟩
                  have Q5 := Lib.hid q5
                  have M5 := Lib.hid (HMK.out.qt q5)
                  clear q5
                  go_wp2_with (at_builtin; refine wpList_append_mark rfl _ _ rfl i0 HI0.out.1 HI0.out.2.1 HI0.out.2.2.1 HI0.out.2.2.2 _ (J.textTo P k) rfl M5.out Y1 rfl hb1 hb2 ?_)
                  intro v' w7 hm7 hg hl
                  have FN := Lib.hid (show R1At w (J.secs u i v) p C P v' (.int .i64 ((k : Int) + 1)) w7 from R1At.more HLT.out.1 HLT.out.2 HK.out HSP.out HNW.out HQ.out Q5.out (by rw [← HY1.out]; exact hm7) hg hl)
                  clear hm7 hg hl
                  go_wp2
                  exact ⟨FN.out, HME.out⟩
            · obtain rfl : k = C := by omega
              have zlt : decide ((k : Int) < (k : Int)) = false := decide_eq_false (by omega)
              obtain ⟨T, hT⟩ : ∃ T : List UInt8, J.textTo P k = T := ⟨_, rfl⟩
              rw [hT] at HMK HTL ⊢
              rw [hT] at SIZ UNL YES
              clear hks hmk hnew hq hk1 hkC hlt
              by_cases hsz : T.length = Z
              · have zs : ((T.length : Int) != (Z : Int)) = false := by rw [bne_eq_false_iff_eq]; omega
                obtain ⟨TS, hTS⟩ : ∃ TS : ByteArray, TS = ⟨T.toArray⟩ := ⟨_, rfl⟩
                have hTl : TS.data.toList = T := by rw [hTS]
                have hTz : TS.size = Z := by rw [← dlen7, hTl, hsz]
                have CV : ∀ W, Qt wr W → (convert 75 9 (.slice ta T.length tc)).run Tryd.prog W = .ok (.string TS) W := fun W q => by rw [hTS]; exact (HMK.out.qt q).conv
                have CV0 := CV wr (Qt.refl wr)
                have HCV := Lib.hid CV
                have PI := pieces_any TS (by rw [hTz]; have := HZB.out; omega)
                rw [hTl, hTz, HCC.out] at PI
                have HSZ := Lib.hid hsz
                have HVT := Lib.hid (show strV T = .string TS by rw [hTS]; rfl)
                clear CV hTS hTl hTz hsz hT
                go_wp2_with fail
                refine (PI wr).mono ?_
                rintro e4 w5 ⟨wv, rfl, hN5⟩
                obtain ⟨wa, wc, rfl⟩ := hN5.shape
                rw [J.seg_length] at *
                have HN5 := Lib.hid hN5
                have Q5 := Lib.hid (Qt.trans HQ.out hN5.qt)
                clear hN5
                go_wp2
                obtain ⟨wo, rfl⟩ : ∃ wo : World, wo = wr := ⟨_, rfl⟩
                go_loopw [22] (fun kv wr => R2At w5 T k P kv wr) (fun kv _ => k - (intOf kv).toNat)
                case atStart => exact ⟨0, Nat.zero_le _, rfl, fun j hj => absurd hj (Nat.not_lt_zero j), Qt.refl _⟩
                case round =>
                  obtain ⟨m, hmC, rfl, hms, hq2⟩ := hrel
                  have HMS := Lib.hid hms
                  have HQ2 := Lib.hid hq2
                  have hmb : (m : Int) ≤ 65536 := by omega
                  by_cases hlt : m < k
                  · have zlt2 : decide ((m : Int) < (k : Int)) = true := decide_eq_true (by omega)
                    have zlt2' : decide (m < k) = true := decide_eq_true hlt
                    have SK := SEC2.out m (by have := HR.out; omega) wr (Qt.trans Q5.out hq2)
                    have hsm := HK.out m hlt
                    rw [hsm] at SK
                    obtain ⟨R, hR⟩ : ∃ R : ByteArray, R = ⟨(P m).toArray⟩ := ⟨_, rfl⟩
                    have hRl : R.data.toList = P m := by rw [hR]
                    have S2 := Lib.hid (show Calls Tryd.prog 88 #[.pointer (some ⟨c, 0, none⟩), .int .i64 i, .int .i64 ((p : Int) + (m : Int)), .int .i64 v] wr fun e w' => e = .returned (.tuple #[.string R, .bool true]) ∧ Qt wr w' from by rw [hR]; exact SK)
                    have hx : (J.seg T 0 k)[m]? = some (J.pay T m) := by rw [J.seg_get T 0 hlt, Nat.zero_add]
                    obtain ⟨g, rfl, _⟩ := newT_cell HN5.out hx
                    have HCE := Lib.hid (fun W (q : Qt w5 W) => (show W.cell? ⟨g, m, none⟩ = some (strV (J.pay T m)) from by
                      obtain ⟨g', e, hc⟩ := newT_cell (HN5.out.quiet q) hx
                      injection e with e
                      injection e with e
                      subst e
                      exact hc))
                    obtain ⟨V, hV⟩ : ∃ V : ByteArray, strV (J.pay T m) = .string V ∧ V.data.toList = J.pay T m := ⟨⟨(J.pay T m).toArray⟩, rfl, rfl⟩
                    rw [hV.1] at HCE
                    have HME := Lib.hid (show k - (intOf (.int .i64 ((m : Int) + 1))).toNat < k - (intOf (.int .i64 (m : Int))).toNat by simp [intOf]; omega)
                    have HLT := Lib.hid hlt
                    by_cases hpe : P m = J.pay T m
                    · have ze : (R.toList == V.toList) = true := by rw [bytes_eq7, hRl, hV.2]; exact decide_eq_true hpe
                      have ze2 : (R.toList != V.toList) = false := by rw [bytes_ne7, hRl, hV.2]; exact decide_eq_false (fun q => q hpe)
                      have HPE := Lib.hid hpe
                      clear SK hsm hR hRl hms hq2 hmC hlt hpe hV hx
                      go_wp2_with fail
                      refine S2.out.mono ?_
                      rintro e6 w7 ⟨rfl, q7⟩
                      have Q7 := Lib.hid q7
                      have c7 := HCE.out w7 (Qt.trans HQ2.out q7)
                      clear q7
                      go_wp2
                      exact ⟨R2At.more HLT.out HMS.out HPE.out HQ2.out Q7.out, HME.out⟩
                    · have ze : (R.toList == V.toList) = false := by rw [bytes_eq7, hRl, hV.2]; exact decide_eq_false hpe
                      have ze2 : (R.toList != V.toList) = true := by rw [bytes_ne7, hRl, hV.2]; exact decide_eq_true hpe
                      have FIN := Lib.hid (UNL.out m HK.out hlt hpe)
                      clear SK hsm hR hRl hms hq2 hmC hlt hpe hV hx
                      go_wp2_with fail
                      refine S2.out.mono ?_
                      rintro e6 w7 ⟨rfl, q7⟩
                      have Q7 := Lib.hid (Qt.trans Q5.out (Qt.trans HQ2.out q7))
                      have c7 := HCE.out w7 (Qt.trans HQ2.out q7)
                      clear q7
                      go_wp2
                      go_ret3
                      exact ⟨by rw [FIN.out]; rfl, Q7.out⟩
                  · obtain rfl : m = k := by omega
                    have zlt2 : decide ((m : Int) < (m : Int)) = false := decide_eq_false (by omega)
                    have FIN := Lib.hid (YES.out HK.out HR.out HSZ.out (fun j hj => hms j hj))
                    have FV := Lib.hid (show recV p (some T) = .tuple #[.string TS, .int .i64 ((p : Int) + (m : Int)), .bool true] by
                      show Value.tuple #[strV T, .int .i64 ((p + J.cost T.length : Nat) : Int), .bool true] = _
                      rw [HVT.out, HSZ.out, HCC.out, Int.natCast_add])
                    have QE := Lib.hid (Qt.trans Q5.out hq2)
                    have CV2 := HCV.out wr (Qt.trans HN5.out.qt hq2)
                    clear hms hq2 hmC hlt
                    go_wp2
                    go_ret3
                    exact ⟨by rw [FIN.out, FV.out]; rfl, QE.out⟩
              · have zs : ((T.length : Int) != (Z : Int)) = true := by rw [bne_iff_ne]; omega
                have FIN := Lib.hid (SIZ.out HK.out hsz)
                clear hsz hT
                go_wp2
                go_ret3
                exact ⟨by rw [FIN.out]; rfl, HQ.out⟩
      · have zb : (((X[0].toNat : Nat) : Int) != 1) = true := by
          rw [bne_iff_ne]
          intro k
          exact hb (UInt8.toNat_inj.1 (by rw [show (1 : UInt8).toNat = 1 from rfl]; omega))
        have FIN := Lib.hid (J.rec_no2 (n := n) hq (fun v k => hb (by
          have h0 := (J.pay0_five k).2
          rw [← hXl] at h0
          exact first_byte g0 h0)))
        clear h hf ho h1 h2 hn hin hp hX hXl hXz hb hq
        go_enter Tryd.func73, Tryd.ntmps73
        go_wp2_with fail
        refine O2.out.mono ?_
        rintro e w1 ⟨rfl, q1⟩
        have Q1 := Lib.hid q1; clear q1
        go_wp2
        go_ret3
        exact ⟨by rw [FIN.out]; rfl, Q1.out⟩
end Go.Proofs.YtggogaaooacooaaDoor
