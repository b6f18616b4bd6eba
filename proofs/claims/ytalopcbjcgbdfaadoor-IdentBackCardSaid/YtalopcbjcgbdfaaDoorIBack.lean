/-
  The contract of remitlaw05.IdentBack: it answers true.
-/
import Derived.Test.YtalopcbjcgbdfaaDoorINorm
import Derived.Test.YtalopcbjcgbdfaaDoorILives
import Derived.Test.YtalopcbjcgbdfaaDoorConv
import Derived.Deep.QuietTactic
import Derived.BigQuiet
import Derived.Deep.DeepCutAuto
import Derived.WalkSpells
import Derived.Outline
namespace Go.Proofs.YtalopcbjcgbdfaaDoor
open Go.RowKit Go.WideShapes
set_option maxRecDepth 100000

/-- A list that came in: its cells. -/
structure ListAt (w : World) (a : Option Addr) (n g off : Nat) (V : Nat → Value) : Prop where
  addr : 0 < n → a = some ⟨g, off, none⟩
  cells : ∀ j, j < n → w.cell? ⟨g, off + j, none⟩ = some (V j)
theorem ListAt.qt {w w' : World} {a : Option Addr} {n g off : Nat} {V : Nat → Value} (h : ListAt w a n g off V) (k : Qt w w') : ListAt w' a n g off V := ⟨h.addr, fun j hj => k.cellv (h.cells j hj)⟩

/-- What Make answers: a text with its parts, or ErrForm. -/
def BackV (ef : Addr) (c b : ByteArray) (x : ByteArray) (e : Value) : Prop :=
  (e = .nilIface ∧ ∃ d : List UInt8, d.length = 2 ∧ I.country c.data.toList = true ∧ C.digits (b.data.toList ++ c.data.toList) = some d ∧ x.data.toList = c.data.toList ++ d ++ b.data.toList ∧ I.chk x.data.toList = 0 ∧ x.data.toList.all I.dl = true) ∨ (e = formV ef ∧ x = ⟨#[]⟩)
theorem backV_ex (ef : Addr) (c b : ByteArray) : ∃ x e, makeV ef c.data.toList b.data.toList = .tuple #[.string x, e] ∧ BackV ef c b x e := by
  cases h : I.country c.data.toList && I.body b.data.toList with
  | false => exact ⟨_, _, makeV_none h, .inr ⟨rfl, rfl⟩⟩
  | true =>
    rw [Bool.and_eq_true] at h
    obtain ⟨d, hm, hd, hl, _, hk⟩ := I.make_some h.1 h.2
    exact ⟨_, _, makeV_some hm, .inl ⟨rfl, d, hl, h.1, hd, rfl, hk, I.form_dl (I.chk_zero.1 hk).1⟩⟩

/-- The loose text behind k characters. -/
def LooseAt (s : ByteArray) (w0 : World) (v i : Value) (wr : World) : Prop := ∃ (k : Nat) (Y : ByteArray), k ≤ s.size ∧ i = .int .i64 k ∧ v = .string Y ∧ I.norm Y.data.toList = s.data.toList.take k ∧ Y.size ≤ 6 * k ∧ Qt w0 wr
theorem LooseAt.more {s : ByteArray} {k : Nat} {w0 wr w2 : World} {Z : ByteArray} {c : UInt8} (hk : k < s.size) (hZ : I.norm Z.data.toList = s.data.toList.take k) (hs : Z.size ≤ 6 * k + 5) (hc : I.norm [c] = [s[k]]) (q : Qt w0 wr) (q2 : Qt wr w2) :
    LooseAt s w0 (.string (Z ++ ⟨#[c]⟩)) (.int .i64 ((k : Int) + 1)) w2 := by
  refine ⟨k + 1, Z ++ ⟨#[c]⟩, hk, by push_cast; rfl, rfl, ?_, ?_, Qt.trans q q2⟩
  · rw [dapp, I.norm_append, hZ, take_next s k hk, show (⟨#[c]⟩ : ByteArray).data.toList = [c] from rfl, hc]
  · rw [ByteArray.size_append]
    show Z.size + 1 ≤ _
    omega
/-- .. behind some blanks. -/
def InnerAt (s : ByteArray) (k : Nat) (v i : Value) : Prop := ∃ (m : Nat) (Z : ByteArray), m ≤ 5 ∧ i = .int .i64 m ∧ v = .string Z ∧ I.norm Z.data.toList = s.data.toList.take k ∧ Z.size ≤ 6 * k + m
theorem norm_blank1 (Z : ByteArray) : I.norm (Z ++ ⟨#[32]⟩).data.toList = I.norm Z.data.toList := by
  rw [dapp, I.norm_append]
  exact List.append_nil _
theorem InnerAt.more {s : ByteArray} {k m : Nat} {Z : ByteArray} (hm : m < 5) (hZ : I.norm Z.data.toList = s.data.toList.take k) (hs : Z.size ≤ 6 * k + m) : InnerAt s k (.string (Z ++ ⟨#[32]⟩)) (.int .i64 ((m : Int) + 1)) :=
  ⟨m + 1, _, hm, by push_cast; rfl, rfl, by rw [norm_blank1]; exact hZ, by rw [ByteArray.size_append]; show Z.size + 1 ≤ _; omega⟩
theorem all_at {s : ByteArray} (h : s.data.toList.all I.dl = true) {k : Nat} (hk : k < s.size) : I.dl s[k] = true := List.all_eq_true.1 h _ (List.getElem_mem (l := s.data.toList) (n := k) hk)

theorem back_parts {c b x : ByteArray} {d : List UInt8} (hd : d.length = 2) (hc : I.country c.data.toList = true) (hx : x.data.toList = c.data.toList ++ d ++ b.data.toList) :
    x.size = 4 + b.size ∧ x.extract 0 2 = c ∧ x.extract 4 x.size = b ∧ (x.extract 2 4).data.toList = d := by
  have hc2 := (I.country_iff.1 hc).1
  obtain ⟨h1, h2, h3, _⟩ := I.parts_of c.data.toList d b.data.toList hc2 hd
  have e : x.size = x.data.toList.length := rfl
  have eb : b.size = b.data.toList.length := rfl
  refine ⟨?_, ?_, ?_, ?_⟩
  · rw [e, eb, hx]; simp only [List.length_append]; omega
  · rw [str_list (s := x.extract 0 2) (l := c.data.toList) (by rw [dhead, hx, h1])]
  · rw [str_list (s := x.extract 4 x.size) (l := b.data.toList) (by rw [dtail, hx, h3])]
  · rw [dslice, hx]; exact h2
theorem normV_good {ef ed : Addr} {Y : List UInt8} {s : ByteArray} (h : I.norm Y = s.data.toList) (hk : I.chk s.data.toList = 0) : normV ef ed Y = .tuple #[.string s, .nilIface] := by
  unfold normV
  rw [h, if_pos hk, ← str_list (s := s) rfl]
theorem bytes_eq5 {D E : ByteArray} : (D.toList == E.toList) = decide (D.data.toList = E.data.toList) := by
  rw [Lib.toList_data, Lib.toList_data, Bool.eq_iff_iff, beq_iff_eq, decide_eq_true_iff]
theorem check_err5 {ef ed : Addr} {w : World} (CK : ∀ (t : ByteArray) (W : World), Qt w W → t.size ≤ maxLen → Calls Tryd.prog 13 #[.string t] W fun e w' => e = .returned (accE ef ed (chkS t)) ∧ Qt W w') (t : ByteArray) (W : World) (q : Qt w W) (hs : t.size ≤ maxLen) (h : I.chk t.data.toList ≠ 0) :
    ∃ a : Addr, Calls Tryd.prog 13 #[.string t] W fun e w' => e = .returned (.iface 107 (.pointer (some a))) ∧ Qt W w' := by
  have hc := CK t W q hs
  have e : chkS t = I.chk t.data.toList := rfl
  rw [e] at hc
  rcases chk_cases t.data.toList with h1 | h1 | h1
  · exact absurd h1 h
  · rw [h1] at hc; exact ⟨ef, hc⟩
  · rw [h1] at hc; exact ⟨ed, hc⟩
theorem dl_cap {c : UInt8} (h : I.dl c = true) (h2 : 65 ≤ c.toNat) : c.toNat ≤ 90 ∧ I.cap c = true := by
  unfold I.dl I.dig I.cap at h
  rw [Bool.or_eq_true, decide_eq_true_iff, decide_eq_true_iff] at h
  have : c.toNat ≤ 90 := by omega
  exact ⟨this, decide_eq_true ⟨h2, this⟩⟩
theorem bytes_same (c : ByteArray) : (c.toList != c.toList) = false := by simp
set_option maxHeartbeats 6400000 in
theorem back_any (ef ed ei : Addr) (c b o : ByteArray) (a2 a3 : Option Addr) (n2 n3 k2 k3 g2 g3 o2 o3 : Nat) (X : Nat → Int) (B : Nat → Bool) (w : World)
    (hc : c.size ≤ 140737488351232) (hb : b.size ≤ 140737488351232)
    (hX : ListAt w a2 n2 g2 o2 (fun j => .int .i64 (X j))) (hB : ListAt w a3 n3 g3 o3 (fun j => .bool (B j)))
    (hf : FormAt ef w) (hd : DigAt ed w) (hi : IdAt ei w) :
    Calls Tryd.prog 6 #[.string c, .string b, .slice a2 n2 k2, .slice a3 n3 k3, .string o] w fun e w' => e = .returned (.bool true) ∧ Qt w w' := by
  have HL := Lib.hid (iLives_any ef ei w hf hi)
  have M := Lib.hid (fun W (k : Qt w W) => iMake_any ef c b W (by unfold maxLen; omega) (by unfold maxLen; omega) (hf.qt k))
  obtain ⟨s, e1, q1, h1⟩ := backV_ex ef c b
  rw [q1] at M
  have CK := Lib.hid (fun t W (k : Qt w W) hs => iCheck_any ef ed t W hs (hf.qt k) (hd.qt k))
  have NM := Lib.hid (fun t W (k : Qt w W) hs => iNormal_any ef ed t W hs (hf.qt k) (hd.qt k))
  have FE := Lib.hid (fun W (k : Qt w W) => show W.cell? ⟨1, 0, none⟩ = some (formV ef) from hf.qt k)
  have LX := Lib.hid (fun W (k : Qt w W) => hX.qt k)
  have LB := Lib.hid (fun W (k : Qt w W) => hB.qt k)
  clear q1 hf hd hi hX hB
  rcases h1 with ⟨rfl, d, hd2, hcc, hdg, hx, hk, hal⟩ | ⟨rfl, rfl⟩
  · obtain ⟨p1, p2, p3, p4⟩ := back_parts hd2 hcc hx
    have hform := (I.chk_zero.1 hk).1
    obtain ⟨l4, l34⟩ := form_size (s := s) hform
    have CS := Lib.hid (fun W k => CK.out s W k (by unfold maxLen; omega))
    rw [show chkS s = 0 from hk, show accE ef ed 0 = .nilIface from rfl] at CS
    have z1 : ((s.size : Int) != 4 + (b.size : Int)) = false := by rw [bne_eq_false_iff_eq]; omega
    have z2 : ((s.extract 0 2).toList != c.toList) = false := by rw [p2]; exact bytes_same c
    have z3 : ((s.extract 4 s.size).toList != b.toList) = false := by rw [p3]; exact bytes_same b
    have f2 : (s.extract 0 2).toList = c.toList := by rw [p2]
    have f3 : (s.extract 4 s.size).toList = b.toList := by rw [p3]
    have hb30 : b.size ≤ 30 := by omega
    have hc2 : c.size ≤ 2 := by have := (I.country_iff.1 hcc).1; rw [dlen] at this; omega
    have i2 : (2 : Int) ≤ (s.size : Int) := by omega
    have i4 : (4 : Int) ≤ (s.size : Int) := by omega
    have j2 : 2 ≤ s.size := by omega
    have j4 : 4 ≤ s.size := by omega
    have HU := Lib.hid (fun k (hk : k < s.size) => all_at hal hk)
    have hnm := I.norm_dl hal
    have HO := Lib.hid (fun (q : List UInt8) (hq : q.length = 2) (hne : q ≠ d) => I.chk_other hcc hdg hq hne)
    have HX := Lib.hid hx
    have HP4 := Lib.hid p4
    clear p1 p2 p3 p4 hx hform hal hcc hdg hd2 hb hc
    go_enter Tryd.func6, Tryd.ntmps6
    go_wp2_with fail
    refine HL.out.mono ?_
    rintro e w1 ⟨rfl, k1⟩
    have K1 := Lib.hid k1; clear k1
    go_wp2_with fail
    refine (M.out _ K1.out).mono ?_
    rintro e w2 ⟨rfl, k2⟩
    have K2 := Lib.hid (Qt.trans K1.out k2); clear k2
    go_wp2_with fail
    refine (CS.out _ K2.out).mono ?_
    rintro e w3 ⟨rfl, k3⟩
    have K3 := Lib.hid (Qt.trans K2.out k3); clear k3
    have H0 := Lib.hid (show LooseAt s w3 (.string ⟨#[]⟩) (.int .i64 0) w3 from ⟨0, ⟨#[]⟩, Nat.zero_le _, rfl, rfl, rfl, Nat.zero_le _, Qt.refl _⟩)
    clear HL M CS K1 K2
    go_wp2
    go_loopw [14, 15] (fun v i wr => LooseAt s w3 v i wr) (fun _ i _ => s.size - (intOf i).toNat)
    case atStart => exact H0.out
    case round =>
      obtain ⟨k, Y, hk1, rfl, rfl, hY, hYs, q⟩ := hrel
      obtain ⟨wr, rfl⟩ : ∃ wq : World, wq = wr := ⟨_, rfl⟩
      have Q := Lib.hid q
      by_cases hlt : k < s.size
      · have hdl := HU.out k hlt
        have hcb := s[k].toNat_lt
        have HA := Lib.hid (fun o => (Qt.refl wr).alloc o)
        have FM := Lib.hid (fun Z c hZ hZs hc w2 q2 => @LooseAt.more s k w3 wr w2 Z c hlt hZ hZs hc q q2)
        have hone := I.norm_one hdl
        have hup : 65 ≤ s[k].toNat → s[k].toNat ≤ 90 := fun h => (dl_cap hdl h).1
        have hlow : 65 ≤ s[k].toNat → I.norm [s[k] + 32] = [s[k]] := fun h => I.norm_low (dl_cap hdl h).2
        have hcv := fun W a => conv1 W a
        have hY6 : Y.size ≤ 6 * k := hYs
        have hmx : ¬ 9223372036854775807 < Y.size + 1 := by omega
        have HYN := Lib.hid hY
        clear hdl q hY
        by_cases t1 : k < n2
        · have hcell := (LX.out wr (Qt.trans K3.out Q.out)).cells k t1
          obtain rfl := (LX.out wr (Qt.trans K3.out Q.out)).addr (by omega)
          generalize X k = x at hcell
          have HC := Lib.hid hcell
          clear hcell
          go_wp2
          go_loop [14, 16] (fun v m => InnerAt s k v m) (fun _ m => 5 - (intOf m).toNat)
          case atStart => exact ⟨0, Y, by decide, rfl, rfl, HYN.out, by omega⟩
          case round =>
            obtain ⟨m, Z, hm, rfl, rfl, hZ0, hZs0⟩ := hrel
            have hcell := HC.out
            have hzx : ¬ 9223372036854775807 < Z.size + 1 := by omega
            by_cases c1 : (m : Int) < x
            · have d1 : decide ((m : Int) < x) = true := decide_eq_true c1
              by_cases c2 : m < 5
              · have d2 : decide (m < 5) = true := decide_eq_true c2
                have d3 : decide ((m : Int) < 5) = true := decide_eq_true (by omega)
                have HI := Lib.hid (InnerAt.more c2 hZ0 hZs0)
                clear hZ0
                go_wp2
                go_round
                case rel => exact HI.out
                case measure => simp [intOf]; omega
              · have d2 : decide (m < 5) = false := decide_eq_false c2
                have d3 : decide ((m : Int) < 5) = false := decide_eq_false (by omega)
                have hZ := hZ0
                have hZs : Z.size ≤ 6 * k + 5 := by omega
                clear hZ0 hZs0 HYN
                by_cases s1 : k < n3
                · have v1 : decide (k < n3) = true := decide_eq_true s1
                  have v2 : decide ((k : Int) < (n3 : Int)) = true := decide_eq_true (by omega)
                  have hb3 : wr.cell? ⟨g3, o3 + k, none⟩ = some (.bool (B k)) := (LB.out wr (Qt.trans K3.out Q.out)).cells k s1
                  obtain rfl := (LB.out wr (Qt.trans K3.out Q.out)).addr (by omega)
                  cases hbb : B k with
                  | false =>
                    rw [hbb] at hb3
                    clear hbb
                    have F := Lib.hid (FM.out Z s[k] hZ hZs hone)
                    go_wp2
                    go_roundw
                    case rel => exact F.out _ (HA.out _)
                    case measure => simp [intOf]; omega
                  | true =>
                    rw [hbb] at hb3
                    clear hbb
                    by_cases s2 : 65 ≤ s[k].toNat
                    · have s3 : s[k].toNat ≤ 90 := hup s2
                      have v3 : decide (65 ≤ s[k].toNat) = true := decide_eq_true s2
                      have v4 : decide ((65 : Int) ≤ (s[k].toNat : Int)) = true := decide_eq_true (by omega)
                      have v5 : decide (s[k].toNat ≤ 90) = true := decide_eq_true s3
                      have v6 : decide ((s[k].toNat : Int) ≤ 90) = true := decide_eq_true (by omega)
                      have F := Lib.hid (FM.out Z (s[k] + 32) hZ hZs (hlow s2))
                      go_wp2
                      go_roundw
                      case rel => exact F.out _ (HA.out _)
                      case measure => simp [intOf]; omega
                    · have v3 : decide (65 ≤ s[k].toNat) = false := decide_eq_false s2
                      have v4 : decide ((65 : Int) ≤ (s[k].toNat : Int)) = false := decide_eq_false (by omega)
                      have F := Lib.hid (FM.out Z s[k] hZ hZs hone)
                      go_wp2
                      go_roundw
                      case rel => exact F.out _ (HA.out _)
                      case measure => simp [intOf]; omega
                · have v1 : decide (k < n3) = false := decide_eq_false s1
                  have v2 : decide ((k : Int) < (n3 : Int)) = false := decide_eq_false (by omega)
                  have F := Lib.hid (FM.out Z s[k] hZ hZs hone)
                  go_wp2
                  go_roundw
                  case rel => exact F.out _ (HA.out _)
                  case measure => simp [intOf]; omega
            · have d1 : decide ((m : Int) < x) = false := decide_eq_false c1
              have hZ := hZ0
              have hZs : Z.size ≤ 6 * k + 5 := by omega
              clear hZ0 hZs0 HYN
              by_cases s1 : k < n3
              · have v1 : decide (k < n3) = true := decide_eq_true s1
                have v2 : decide ((k : Int) < (n3 : Int)) = true := decide_eq_true (by omega)
                have hb3 : wr.cell? ⟨g3, o3 + k, none⟩ = some (.bool (B k)) := (LB.out wr (Qt.trans K3.out Q.out)).cells k s1
                obtain rfl := (LB.out wr (Qt.trans K3.out Q.out)).addr (by omega)
                cases hbb : B k with
                | false =>
                  rw [hbb] at hb3
                  clear hbb
                  have F := Lib.hid (FM.out Z s[k] hZ hZs hone)
                  go_wp2
                  go_roundw
                  case rel => exact F.out _ (HA.out _)
                  case measure => simp [intOf]; omega
                | true =>
                  rw [hbb] at hb3
                  clear hbb
                  by_cases s2 : 65 ≤ s[k].toNat
                  · have s3 : s[k].toNat ≤ 90 := hup s2
                    have v3 : decide (65 ≤ s[k].toNat) = true := decide_eq_true s2
                    have v4 : decide ((65 : Int) ≤ (s[k].toNat : Int)) = true := decide_eq_true (by omega)
                    have v5 : decide (s[k].toNat ≤ 90) = true := decide_eq_true s3
                    have v6 : decide ((s[k].toNat : Int) ≤ 90) = true := decide_eq_true (by omega)
                    have F := Lib.hid (FM.out Z (s[k] + 32) hZ hZs (hlow s2))
                    go_wp2
                    go_roundw
                    case rel => exact F.out _ (HA.out _)
                    case measure => simp [intOf]; omega
                  · have v3 : decide (65 ≤ s[k].toNat) = false := decide_eq_false s2
                    have v4 : decide ((65 : Int) ≤ (s[k].toNat : Int)) = false := decide_eq_false (by omega)
                    have F := Lib.hid (FM.out Z s[k] hZ hZs hone)
                    go_wp2
                    go_roundw
                    case rel => exact F.out _ (HA.out _)
                    case measure => simp [intOf]; omega
              · have v1 : decide (k < n3) = false := decide_eq_false s1
                have v2 : decide ((k : Int) < (n3 : Int)) = false := decide_eq_false (by omega)
                have F := Lib.hid (FM.out Z s[k] hZ hZs hone)
                go_wp2
                go_roundw
                case rel => exact F.out _ (HA.out _)
                case measure => simp [intOf]; omega
        · have hZ := HYN.out
          have hZs : Y.size ≤ 6 * k + 5 := by omega
          obtain ⟨Z, rfl⟩ : ∃ Z, Z = Y := ⟨Y, rfl⟩
          clear HYN hYs hY6
          by_cases s1 : k < n3
          · have v1 : decide (k < n3) = true := decide_eq_true s1
            have v2 : decide ((k : Int) < (n3 : Int)) = true := decide_eq_true (by omega)
            have hb3 : wr.cell? ⟨g3, o3 + k, none⟩ = some (.bool (B k)) := (LB.out wr (Qt.trans K3.out Q.out)).cells k s1
            obtain rfl := (LB.out wr (Qt.trans K3.out Q.out)).addr (by omega)
            cases hbb : B k with
            | false =>
              rw [hbb] at hb3
              clear hbb
              have F := Lib.hid (FM.out Z s[k] hZ hZs hone)
              go_wp2
              go_roundw
              case rel => exact F.out _ (HA.out _)
              case measure => simp [intOf]; omega
            | true =>
              rw [hbb] at hb3
              clear hbb
              by_cases s2 : 65 ≤ s[k].toNat
              · have s3 : s[k].toNat ≤ 90 := hup s2
                have v3 : decide (65 ≤ s[k].toNat) = true := decide_eq_true s2
                have v4 : decide ((65 : Int) ≤ (s[k].toNat : Int)) = true := decide_eq_true (by omega)
                have v5 : decide (s[k].toNat ≤ 90) = true := decide_eq_true s3
                have v6 : decide ((s[k].toNat : Int) ≤ 90) = true := decide_eq_true (by omega)
                have F := Lib.hid (FM.out Z (s[k] + 32) hZ hZs (hlow s2))
                go_wp2
                go_roundw
                case rel => exact F.out _ (HA.out _)
                case measure => simp [intOf]; omega
              · have v3 : decide (65 ≤ s[k].toNat) = false := decide_eq_false s2
                have v4 : decide ((65 : Int) ≤ (s[k].toNat : Int)) = false := decide_eq_false (by omega)
                have F := Lib.hid (FM.out Z s[k] hZ hZs hone)
                go_wp2
                go_roundw
                case rel => exact F.out _ (HA.out _)
                case measure => simp [intOf]; omega
          · have v1 : decide (k < n3) = false := decide_eq_false s1
            have v2 : decide ((k : Int) < (n3 : Int)) = false := decide_eq_false (by omega)
            have F := Lib.hid (FM.out Z s[k] hZ hZs hone)
            go_wp2
            go_roundw
            case rel => exact F.out _ (HA.out _)
            case measure => simp [intOf]; omega
      · obtain rfl : k = s.size := by omega
        have hYn : I.norm (Y ++ ⟨#[32]⟩).data.toList = s.data.toList := by
          rw [norm_blank1, hY, List.take_of_length_le (by rw [dlen]; exact Nat.le_refl _)]
        have hYs2 : Y.size ≤ 6 * 34 := by omega
        have hmx : ¬ 9223372036854775807 < Y.size + 1 := by omega
        have Q2 := Lib.hid (Qt.trans K3.out q)
        have N1 := Lib.hid (NM.out (Y ++ ⟨#[32]⟩) wr Q2.out (by rw [ByteArray.size_append]; show Y.size + 1 ≤ _; omega))
        rw [normV_good hYn hk] at N1
        have N2 := Lib.hid (fun W k => NM.out s W k (by omega))
        rw [normV_good hnm hk] at N2
        clear q hY hYs hYn hnm hk hlt NM
        go_wp2_with fail
        refine N1.out.mono ?_
        rintro e w4 ⟨rfl, k4⟩
        have K4 := Lib.hid (Qt.trans Q2.out k4); clear k4
        go_wp2_with fail
        refine (N2.out _ K4.out).mono ?_
        rintro e w5 ⟨rfl, k5⟩
        have K5 := Lib.hid (Qt.trans K4.out k5); clear k5
        by_cases o2 : o.size = 2
        · have y1 : ((o.size : Int) != 2) = false := by rw [bne_eq_false_iff_eq]; omega
          by_cases od : o.data.toList = d
          · have y2 : (o.toList == (s.extract 2 4).toList) = true := by rw [bytes_eq5, HP4.out, decide_eq_true od]
            clear od o2
            go_wp2
            go_ret
            exact ⟨rfl, K5.out⟩
          · have y2 : (o.toList == (s.extract 2 4).toList) = false := by rw [bytes_eq5, HP4.out, decide_eq_false od]
            have hne := HO.out o.data.toList (by rw [dlen]; exact o2) od
            obtain ⟨ad, hC⟩ := check_err5 CK.out (c ++ o ++ b) w5 K5.out (by rw [ByteArray.size_append, ByteArray.size_append]; unfold maxLen; omega) (by rw [dapp, dapp]; exact hne)
            have HC := Lib.hid hC
            have hm1 : ¬ 9223372036854775807 < c.size + o.size := by omega
            have hm2 : ¬ 9223372036854775807 < c.size + o.size + b.size := by omega
            clear hne hC od o2
            go_wp2_with fail
            refine HC.out.mono ?_
            rintro e w6 ⟨rfl, k6⟩
            have K6 := Lib.hid (Qt.trans K5.out k6); clear k6
            go_wp2
            go_ret
            exact ⟨rfl, K6.out⟩
        · have y1 : ((o.size : Int) != 2) = true := by rw [bne_iff_ne]; omega
          clear o2
          go_wp2
          go_ret
          exact ⟨rfl, K5.out⟩
  · have HEQ := eq_same ef
    clear hc hb
    go_enter Tryd.func6, Tryd.ntmps6
    go_wp2_with fail
    refine HL.out.mono ?_
    rintro e w1 ⟨rfl, k1⟩
    have K1 := Lib.hid k1; clear k1
    go_wp2_with fail
    refine (M.out _ K1.out).mono ?_
    rintro e w2 ⟨rfl, k2⟩
    have q2 := Qt.trans K1.out k2
    have K2 := Lib.hid q2
    have hf2 := FE.out _ q2
    clear k2 q2
    go_wp2
    go_ret
    exact ⟨rfl, K2.out⟩
end Go.Proofs.YtalopcbjcgbdfaaDoor
