/-
  The contract of remitlaw05.IdentSlips: it answers true.
-/
import Derived.Test.YtalopcbjcgbdfaaDoorISlip
import Derived.Test.YtalopcbjcgbdfaaDoorILives
import Derived.Test.YtalopcbjcgbdfaaDoorIOrder
import Derived.WalkSpells
namespace Go.Proofs.YtalopcbjcgbdfaaDoor
open Go.RowKit Go.WideShapes
set_option maxRecDepth 100000

theorem one5_list (s : ByteArray) (k : Nat) (hk : k < s.size) (d : UInt8) {t : ByteArray} (h : t ∈ one5 s k hk d) :
    I.dig d = true ∧ s[k] ≠ d ∧ t.data.toList = s.data.toList.take k ++ d :: s.data.toList.drop (k + 1) ∧ s.data.toList = s.data.toList.take k ++ s[k] :: s.data.toList.drop (k + 1) := by
  unfold one5 at h
  split at h
  · rename_i q
    rw [List.mem_singleton] at h
    subst h
    refine ⟨q.1, fun e => q.2 (by rw [e]), ?_, ?_⟩
    · rw [dapp, dapp, dhead, dtail, List.append_assoc]; rfl
    · have h2 : k < s.data.toList.length := hk
      rw [show s[k] = s.data.toList[k] from rfl, List.getElem_cons_drop, List.take_append_drop]
  · cases h
theorem two5_list (s : ByteArray) (k : Nat) {t : ByteArray} (h : t ∈ two5 s k) :
    ∃ hk : k + 1 < s.size, I.dig s[k + 1] = true ∧ s[k] ≠ s[k + 1] ∧ t.data.toList = s.data.toList.take k ++ s[k + 1] :: s[k] :: s.data.toList.drop (k + 2) ∧ s.data.toList = s.data.toList.take k ++ s[k] :: s[k + 1] :: s.data.toList.drop (k + 2) := by
  unfold two5 at h
  split at h
  · rename_i hk
    split at h
    · rename_i q
      rw [List.mem_singleton] at h
      subst h
      refine ⟨hk, q.1, fun e => q.2 (by rw [e]), ?_, ?_⟩
      · rw [dapp, dapp, dhead, dtail, List.append_assoc]; rfl
      · have h2 : k + 1 < s.data.toList.length := hk
        rw [show s[k + 1] = s.data.toList[k + 1] from rfl, List.getElem_cons_drop, show s[k] = s.data.toList[k] from rfl, List.getElem_cons_drop, List.take_append_drop]
    · cases h
  · cases h
theorem slipsL_mem {s : ByteArray} {i : Int} {d : UInt8} {t : ByteArray} (h : t ∈ slipsL s i d) : ∃ (k : Nat) (hk : k < s.size), I.dig s[k] = true ∧ (t ∈ one5 s k hk d ∨ t ∈ two5 s k) := by
  unfold slipsL at h
  split at h
  · rename_i q
    split at h
    · rename_i q2
      exact ⟨_, q.2, q2, List.mem_append.1 h⟩
    · cases h
  · cases h
theorem slips_chk {s : ByteArray} {i : Int} {d : UInt8} (h : I.chk s.data.toList = 0) {t : ByteArray} (ht : t ∈ slipsL s i d) : I.chk t.data.toList = 7 ∨ I.chk t.data.toList = 8 := by
  have key : I.chk t.data.toList ≠ 0 := by
    obtain ⟨k, hk, hd, ht | ht⟩ := slipsL_mem ht
    · obtain ⟨h1, h2, h3, h4⟩ := one5_list s k hk d ht
      rw [h3]; rw [h4] at h
      exact I.chk_one h hd h1 h2
    · obtain ⟨hk2, h1, h2, h3, h4⟩ := two5_list s k ht
      rw [h3]; rw [h4] at h
      exact I.chk_swap h hd h1 h2
  rcases chk_cases t.data.toList with q | q | q
  · exact absurd q key
  · exact .inl q
  · exact .inr q
theorem numV_end (s : List UInt8) : (I.numV s).2 = 0 ∨ (I.numV s).2 = 7 ∨ (I.numV s).2 = 8 := by
  unfold I.numV
  split
  · split
    · split
      · exact .inr (.inl rfl)
      · exact .inl rfl
    · exact .inr (.inr rfl)
  · exact .inr (.inl rfl)
theorem slips_num {s : ByteArray} {i : Int} {d : UInt8} {v : Nat} (h : I.numV s.data.toList = (v, 0)) {t : ByteArray} (ht : t ∈ slipsL s i d) : ∃ n, I.numV t.data.toList = (0, n) ∧ (n = 7 ∨ n = 8) := by
  have key : (I.numV t.data.toList).2 ≠ 0 := by
    obtain ⟨k, hk, hd, ht | ht⟩ := slipsL_mem ht
    · obtain ⟨h1, h2, h3, h4⟩ := one5_list s k hk d ht
      rw [h3]; rw [h4] at h
      exact I.tok_one h hd h1 h2
    · obtain ⟨hk2, h1, h2, h3, h4⟩ := two5_list s k ht
      rw [h3]; rw [h4] at h
      exact I.tok_swap h hd h1 h2
  cases hn : I.numV t.data.toList with
  | mk a n =>
    rw [hn] at key
    have hz := I.numV_zero hn key
    subst hz
    refine ⟨n, rfl, ?_⟩
    rcases numV_end t.data.toList with q | q | q <;> rw [hn] at q
    · exact absurd q key
    · exact .inl q
    · exact .inr q
theorem slipsL_size {s : ByteArray} {i : Int} {d : UInt8} {t : ByteArray} (ht : t ∈ slipsL s i d) : t.size ≤ s.size + 2 := by
  have e1 : t.size = t.data.toList.length := rfl
  have e2 : s.size = s.data.toList.length := rfl
  obtain ⟨k, hk, hd, ht | ht⟩ := slipsL_mem ht
  · obtain ⟨_, _, h3, h4⟩ := one5_list s k hk d ht
    have := congrArg List.length h3
    have := congrArg List.length h4
    simp only [List.length_append, List.length_cons] at *
    omega
  · obtain ⟨_, _, _, h3, h4⟩ := two5_list s k ht
    have := congrArg List.length h3
    have := congrArg List.length h4
    simp only [List.length_append, List.length_cons] at *
    omega
theorem slipsL_len (s : ByteArray) (i : Int) (d : UInt8) : (slipsL s i d).length ≤ 2 := by
  unfold slipsL
  split
  · split
    · rw [List.length_append]
      have h1 := one5_len s i.toNat (by omega) d
      have h2 : (two5 s i.toNat).length ≤ 1 := by unfold two5; split <;> (try split) <;> simp
      omega
    · simp
  · simp

/-- What Make answers: a text that passes, or ErrForm. -/
def MakV (ef : Addr) (x : ByteArray) (e : Value) : Prop := (e = .nilIface ∧ x.size ≤ 34 ∧ I.chk x.data.toList = 0) ∨ e = formV ef
theorem makV_ex (ef : Addr) (c b : List UInt8) : ∃ x e, makeV ef c b = .tuple #[.string x, e] ∧ MakV ef x e := by
  cases h : I.country c && I.body b with
  | false => exact ⟨_, _, makeV_none h, .inr rfl⟩
  | true =>
    rw [Bool.and_eq_true] at h
    obtain ⟨d, hm, _, _, _, hk⟩ := I.make_some h.1 h.2
    refine ⟨_, _, makeV_some hm, .inl ⟨rfl, ?_, hk⟩⟩
    have hf := (I.chk_zero.1 hk).1
    exact (form_size (s := ⟨(c ++ d ++ b).toArray⟩) hf).2
def MakCut (x : ByteArray) (w : World) (t : Value) (wx : World) : Prop := w = wx ∧ ((t = .bool true ∧ x.size ≤ 34 ∧ I.chk x.data.toList = 0) ∨ t = .bool false)
/-- An error that is none of nil. -/
def IsErr (v : Value) : Prop := ∃ a, v = .iface 107 (.pointer (some a))
theorem check_err (ef ed : Addr) (t : ByteArray) (W : World) (hs : t.size ≤ maxLen) (hf : FormAt ef W) (hd : DigAt ed W) (h : I.chk t.data.toList = 7 ∨ I.chk t.data.toList = 8) :
    ∃ a : Addr, Calls Tryd.prog 13 #[.string t] W fun e w' => e = .returned (.iface 107 (.pointer (some a))) ∧ Qt W w' := by
  have hc := iCheck_any ef ed t W hs hf hd
  have e : chkS t = I.chk t.data.toList := rfl
  rw [e] at hc
  rcases h with h | h
  · rw [h] at hc; exact ⟨ef, hc⟩
  · rw [h] at hc; exact ⟨ed, hc⟩
theorem number_err (ef ed : Addr) (t : ByteArray) (W : World) (hs : t.size ≤ maxLen) (hf : FormAt ef W) (hd : DigAt ed W) (h : ∃ n, I.numV t.data.toList = (0, n) ∧ (n = 7 ∨ n = 8)) :
    ∃ a : Addr, Calls Tryd.prog 25 #[.string t] W fun e w' => e = .returned (.tuple #[.int .i64 0, .iface 107 (.pointer (some a))]) ∧ Qt W w' := by
  have hc := iNumber_any ef ed t W hs hf hd
  obtain ⟨n, hn, hq⟩ := h
  unfold numbV at hc
  rw [hn] at hc
  rcases hq with rfl | rfl
  · exact ⟨ef, hc⟩
  · exact ⟨ed, hc⟩
theorem news_cell {w wr : World} {g n c : Nat} {l : List ByteArray} (h : NewS w wr (.slice (some ⟨g, 0, none⟩) n c) l) {j : Nat} (hj : j < l.length) : wr.cell? ⟨g, j, none⟩ = some (.string l[j]) := by
  have h1 := h.own.cells (g := g) rfl j (.string l[j]) (by rw [List.getElem?_map, List.getElem?_eq_getElem hj]; rfl)
  rw [add_plain, Nat.zero_add] at h1
  exact h1
theorem news_shape {w wr : World} {v : Value} {l : List ByteArray} (h : NewS w wr v l) : ∃ a c, v = .slice a l.length c ∧ (0 < l.length → ∃ g, a = some ⟨g, 0, none⟩) := own_shape1 h.own

theorem numbT (n : Int) (h : 1 ≤ n) (h2 : n ≤ 999999999999) : I.numV (tokS n.toNat).data.toList = (n.toNat, 0) := I.numV_tok (n := n.toNat) (by omega) (by omega)
set_option maxHeartbeats 3200000 in
theorem slipsLaw_any (er ef ed ei : Addr) (c b : ByteArray) (n i : Int) (d : Nat) (w : World) (hd8 : d < 256)
    (n0 : -9223372036854775808 ≤ n) (n1 : n < 9223372036854775808) (i0 : -9223372036854775808 ≤ i) (i1 : i < 9223372036854775808) (hc : c.size ≤ 140737488351232) (hb : b.size ≤ 140737488351232)
    (hr : RangeAt er w) (hf : FormAt ef w) (hd : DigAt ed w) (hi : IdAt ei w) (ht : Tab10 w) :
    Calls Tryd.prog 7 #[.string c, .string b, .int .i64 n, .int .i64 i, .int .u8 d] w fun e w' => e = .returned (.bool true) ∧ Qt w w' := by
  obtain ⟨d, rfl⟩ : ∃ u : UInt8, d = u.toNat := ⟨d.toUInt8, by rw [Nat.toUInt8, UInt8.toNat_ofNat']; exact (Nat.mod_eq_of_lt hd8).symm⟩
  have HL := Lib.hid (iLives_any ef ei w hf hi)
  have M := Lib.hid (fun W (k : Qt w W) => iMake_any ef c b W (by unfold maxLen; omega) (by unfold maxLen; omega) (hf.qt k))
  obtain ⟨x1, e1, q1, h1⟩ := makV_ex ef c.data.toList b.data.toList
  rw [q1] at M
  have H1 := Lib.hid h1
  have T := Lib.hid (fun W (k : Qt w W) => iToken_any er ef n W n0 n1 (hr.qt k) (hf.qt k) (ht.qt k))
  have SL := Lib.hid (fun s W (hs : s.size ≤ 1125899906842624) => slips5_any s i d W hs i0 i1)
  have CE := Lib.hid (fun t W (k : Qt w W) hs h => check_err ef ed t W hs (hf.qt k) (hd.qt k) h)
  have NE := Lib.hid (fun t W (k : Qt w W) hs h => number_err ef ed t W hs (hf.qt k) (hd.qt k) h)
  have RE := Lib.hid (fun W (k : Qt w W) => show W.cell? ⟨0, 0, none⟩ = some (rangeV er) from hr.qt k)
  clear q1 h1 hr hf hd hi ht hc hb i0 i1
  go_enter Tryd.func7, Tryd.ntmps7
  go_wp2_with fail
  refine HL.out.mono ?_
  rintro e w1 ⟨rfl, k1⟩
  have K1 := Lib.hid k1; clear k1
  go_wp2_with fail
  refine (M.out _ K1.out).mono ?_
  rintro e w2 ⟨rfl, k2⟩
  have K2 := Lib.hid (Qt.trans K1.out k2); clear k2
  go_upto_region 5 with (fail)
  go_cut [30] from 29 to 30 (fun t wx => MakCut x1 w2 t wx)
  case first =>
    rcases H1.out with ⟨rfl, hx⟩ | rfl
    · have HX := Lib.hid hx
      clear hx
      go_wp2
      go_meet
      exact ⟨rfl, .inl ⟨rfl, HX.out⟩⟩
    · go_wp2
      go_meet
      exact ⟨rfl, .inr rfl⟩
  case rest =>
    obtain ⟨rfl, hm⟩ := hcut
    have HM := Lib.hid hm
    clear hm H1 HL M
    go_upto_if 30 with (fail)
    go_cut [15] from 31 to 43 (fun t wx => Qt w wx ∧ ∃ z : Value, t = z)
    case first =>
      rcases HM.out with ⟨rfl, hsz, hx⟩ | rfl
      · have SP := Lib.hid (SL.out x1 w2 (by omega))
        have HE := Lib.hid (fun t ht => slips_chk (i := i) (d := d) (t := t) hx ht)
        have HZ := Lib.hid (fun t ht => show t.size ≤ maxLen from Nat.le_trans (slipsL_size (s := x1) (i := i) (d := d) (t := t) ht) (by unfold maxLen; omega))
        have hL2 := slipsL_len x1 i d
        clear hx hsz HM NE T RE SL
        go_wp2_with fail
        refine SP.out.mono ?_
        rintro e w3 ⟨v, rfl, hn⟩
        obtain ⟨a, cc, hv, hga⟩ := news_shape hn
        subst hv
        have HN := Lib.hid hn
        have HG := Lib.hid hga
        clear hn hga SP
        generalize slipsL x1 i d = L at *
        go_wp2
        go_loopw [36] (fun j wr => ∃ k : Nat, k ≤ L.length ∧ j = .int .i64 k ∧ Qt w3 wr) (fun j _ => L.length - (intOf j).toNat)
        case atStart => exact ⟨0, Nat.zero_le _, rfl, Qt.refl _⟩
        case round =>
          obtain ⟨k, hk, rfl, q⟩ := hrel
          have Q := Lib.hid q
          clear q
          by_cases hlt : k < L.length
          · obtain ⟨g, rfl⟩ := HG.out (by omega)
            have hcell := news_cell (HN.out.quiet Q.out) hlt
            have hfr : k < L.length := hlt
            obtain ⟨ad, hC⟩ := CE.out L[k] wr (Qt.trans K2.out (Qt.trans HN.out.qt Q.out)) (HZ.out _ (List.getElem_mem _)) (HE.out _ (List.getElem_mem _))
            have HC := Lib.hid hC
            clear hC
            go_wp2_with fail
            refine HC.out.mono ?_
            rintro e w4 ⟨rfl, k4⟩
            have Q4 := Lib.hid (Qt.trans Q.out k4)
            clear k4 hcell
            go_wp2
            go_roundw
            case rel => exact ⟨k + 1, by omega, by go_num, Q4.out⟩
            case measure => simp [intOf]; omega
          · obtain rfl : k = L.length := by omega
            have Q5 := Lib.hid (Qt.trans K2.out (Qt.trans HN.out.qt Q.out))
            clear hlt
            go_wp2
            go_meet
            exact ⟨Q5.out, ⟨_, rfl⟩⟩
      · go_wp2
        go_meet
        exact ⟨K2.out, ⟨_, rfl⟩⟩
    case rest =>
      obtain ⟨q, _⟩ := hcut
      have K3 := Lib.hid q
      clear q HM K1 K2 CE
      obtain ⟨x2, e2, q2, h2⟩ := tokV_ex er n
      have T2 := Lib.hid (T.out _ K3.out)
      rw [q2] at T2
      clear q2 T
      rcases h2 with ⟨a1, a2, rfl, rfl⟩ | ⟨_, rfl, rfl⟩
      · have HV := numbT n a1 a2
        have SP := Lib.hid (fun W => SL.out (tokS n.toNat) W (by rw [tokS_size]; decide))
        have HE := Lib.hid (fun t ht => slips_num (i := i) (d := d) (t := t) HV ht)
        have HZ := Lib.hid (fun t ht => show t.size ≤ maxLen from Nat.le_trans (slipsL_size (s := tokS n.toNat) (i := i) (d := d) (t := t) ht) (by rw [tokS_size]; decide))
        have hL2 := slipsL_len (tokS n.toNat) i d
        clear HV SL RE a1 a2
        go_wp2_with fail
        refine T2.out.mono ?_
        rintro e w3 ⟨rfl, k3⟩
        have K4 := Lib.hid (Qt.trans K3.out k3); clear k3 T2
        go_wp2_with fail
        refine (SP.out _).mono ?_
        rintro e w4 ⟨v, rfl, hn⟩
        obtain ⟨a, cc, hv, hga⟩ := news_shape hn
        subst hv
        have HN := Lib.hid hn
        have HG := Lib.hid hga
        clear hn hga SP
        generalize slipsL (tokS n.toNat) i d = L at *
        go_wp2
        go_loopw [59] (fun j wr => ∃ k : Nat, k ≤ L.length ∧ j = .int .i64 k ∧ Qt w4 wr) (fun j _ => L.length - (intOf j).toNat)
        case atStart => exact ⟨0, Nat.zero_le _, rfl, Qt.refl _⟩
        case round =>
          obtain ⟨k, hk, rfl, q⟩ := hrel
          have Q := Lib.hid q
          clear q
          by_cases hlt : k < L.length
          · obtain ⟨g, rfl⟩ := HG.out (by omega)
            have hcell := news_cell (HN.out.quiet Q.out) hlt
            obtain ⟨ad, hC⟩ := NE.out L[k] wr (Qt.trans K4.out (Qt.trans HN.out.qt Q.out)) (HZ.out _ (List.getElem_mem _)) (HE.out _ (List.getElem_mem _))
            have HC := Lib.hid hC
            clear hC
            go_wp2_with fail
            refine HC.out.mono ?_
            rintro e w5 ⟨rfl, k4⟩
            have Q4 := Lib.hid (Qt.trans Q.out k4)
            clear k4 hcell
            go_wp2
            go_roundw
            case rel => exact ⟨k + 1, by omega, by go_num, Q4.out⟩
            case measure => simp [intOf]; omega
          · obtain rfl : k = L.length := by omega
            have Q5 := Lib.hid (Qt.trans K4.out (Qt.trans HN.out.qt Q.out))
            clear hlt
            go_wp2
            go_ret
            exact ⟨rfl, Q5.out⟩
      · have HEQ := eq_same er
        go_wp2_with fail
        refine T2.out.mono ?_
        rintro e w3 ⟨rfl, k3⟩
        have q4 := Qt.trans K3.out k3
        have K4 := Lib.hid q4
        have hr4 := RE.out _ q4
        clear k3 q4 T2
        go_wp2
        go_ret
        exact ⟨rfl, K4.out⟩
end Go.Proofs.YtalopcbjcgbdfaaDoor
