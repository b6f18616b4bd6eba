/-
  The contract of remitlaw01.WireTexts: it answers true.
-/
import Derived.Test.YtilhkbohemghlaaDoorLists
import Derived.Test.YtilhkbohemghlaaDoorShort
namespace Go.Proofs.YtilhkbohemghlaaDoor
open Go.ChangeShapes Go.WideShapes Go.ChangeAt Go.RowKit
set_option maxRecDepth 100000

def otherL : List UInt8 := [111, 116, 104, 101, 114]
theorem eachB_replicate (x : List UInt8) : ∀ n, (eachB (List.replicate n x)).length = n * (textB x).length
  | 0 => by simp [eachB]
  | n + 1 => by rw [List.replicate_succ, eachB, List.length_append, eachB_replicate x n, Nat.succ_mul]; omega

theorem textB_other : (textB otherL).length = 6 := by
  unfold textB
  rw [List.length_append, show otherL.length = 5 from rfl, Lib.uvarint_small (by decide)]
  rfl

/-- The reading loop: k lists read. -/
def ThreeAt (ss : List (List UInt8)) (B : Nat) (w : World) (v i : Value) (wr : World) : Prop :=
  ∃ k : Nat, k ≤ 3 ∧ i = .int .i64 k ∧ ∃ ls : List (Value × List (List UInt8)), ls.length = k ∧ (∀ x ∈ ls, x.2 = ss) ∧ Lists B v ls wr ∧ Keeps (fun b => B ≤ b) w wr

set_option maxHeartbeats 6400000 in
theorem texts_any (ad : Nat → Addr) (v : Value) (g o : Nat) (ss : List (List UInt8)) (w : World) (hE : Errs ad w) (hs : Strs w v g o ss) (hl : ss.length ≤ 1048576) (hel : ∀ s ∈ ss, s.length ≤ 1048576) (hsum : (eachB ss).length ≤ 1073741824) :
    Calls Tryd.prog 8 #[v] w fun e w' => e = .returned (.bool true) ∧ Keeps (fun _ => False) w w' := by
  obtain ⟨a, cap0, rfl, ha⟩ := hs.val
  have HS := Lib.hid (fun (W : World) (q : Since w.heap.size w W) => hs.since q (Nat.le_refl _))
  have HE := Lib.hid (fun (W : World) (q : Since w.heap.size w W) => hE.since (Nat.le_refl _) q)
  have HE0 := Lib.hid hE
  have Hgl := Lib.hid (fun hne => hs.lt hne)
  have Hel := Lib.hid hel
  clear hs hE ha hel
  go_enter Tryd.func8, Tryd.ntmps8
  go_wp2_with fail
  refine (fixed_any ad w HE0.out).mono ?_
  rintro e W1 ⟨rfl, k1⟩
  have S1 := Lib.hid (show Since w.heap.size w W1 from k1.mono (fun _ _ h => h.elim))
  have z1 := k1.size
  clear k1
  go_wp2_with fail
  refine (spare_any _ g o ss W1 (HS.out W1 S1.out) (by omega)).mono ?_
  rintro e W2 ⟨gf, cap, rfl, hn2, k2⟩
  have hle : (ss ++ marksL 80).length = ss.length + 80 := by rw [List.length_append, marksL_length]
  have hgf : W1.heap.size ≤ gf := hn2.new gf rfl
  have hgf2 : gf < W2.heap.size := (World.ownsRowF_of hn2.own).lt gf rfl |>.2
  have S2 := Lib.hid (S1.out.step k2 (fun _ h => h.elim))
  have HN2 := Lib.hid hn2
  have Hle := Lib.hid hle
  have z2 := k2.size
  clear hn2 k2 hle
  go_wp2_with fail
  refine (wnew_any W2).mono ?_
  rintro e W3 ⟨rfl, h3, k3, s3⟩
  have S3 := Lib.hid (S2.out.step k3 (fun _ h => h.elim))
  have HN3 := Lib.hid (HN2.out.kept k3 (fun _ _ h => h))
  have H3 := Lib.hid h3
  clear h3 k3 HN2
  go_wp2_with fail
  refine (wnew_any W3).mono ?_
  rintro e W4 ⟨rfl, h4, k4, s4⟩
  have S4 := Lib.hid (S3.out.step k4 (fun _ h => h.elim))
  have HN4 := Lib.hid (HN3.out.kept k4 (fun _ _ h => h))
  have HA4 := Lib.hid (H3.out.kept k4 (fun h => h) (fun _ e => by cases e))
  have HB4 := Lib.hid h4
  clear h4 k4 HN3 H3
  go_wp2_with fail
  refine (wtexts_any W2.heap.size none [] _ gf 0 ss W4 HA4.out (HN4.out.head (by omega)) (fun _ => ⟨by omega, by simp⟩) (by simp; omega)).mono ?_
  rintro e W5 ⟨rfl, rA, hA5, k5⟩
  rw [List.nil_append] at hA5
  have hrA : ∀ k, rA = some k → W4.heap.size ≤ k := fun k e => by
    rcases k5.later with q | ⟨g', q, hg'⟩
    · rw [q] at e; cases e
    · rw [q] at e; injection e with e; omega
  have HrA := Lib.hid hrA
  have hS5 : ∀ i, (i = W2.heap.size ∨ some i = (none : Option Nat)) → i = W2.heap.size := fun i e => by rcases e with e | e; exact e; cases e
  have S5 := Lib.hid (S4.out.step k5.keeps (fun i e => by have := hS5 i e; omega))
  have HN5 := Lib.hid (HN4.out.kept k5.keeps (fun k e q => by have := hS5 k q; simp [Value.ownBlock] at e; omega))
  have HB5 := Lib.hid (HB4.out.kept k5.keeps (fun q => by have := hS5 _ q; omega) (fun _ e => by cases e))
  have HA5 := Lib.hid hA5
  have z5 := k5.keeps.size
  clear hA5 k5 hrA hS5 HN4 HA4 HB4
  go_wp2_with fail
  refine (kept_any _ _ gf 0 g o ss W5 (HN5.out.whole Hle.out (by rw [Hle.out]; omega)) (HS.out W5 S5.out) (by omega)).mono ?_
  rintro e W6 ⟨rfl, k6⟩
  have S6 := Lib.hid (S5.out.step k6 (fun _ h => h.elim))
  have HN6 := Lib.hid (HN5.out.kept k6 (fun _ _ h => h))
  have HB6 := Lib.hid (HB5.out.kept k6 (fun h => h) (fun _ _ h => h))
  have HA6 := Lib.hid (HA5.out.kept k6 (fun h => h) (fun _ _ h => h))
  have z6 := k6.size
  clear k6 HN5 HA5 HB5
  go_wp2_with fail
  refine (wout_any W2.heap.size rA _ W6 HA6.out).mono ?_
  rintro e W7 ⟨rfl, hA7, k7⟩
  have S7 := Lib.hid (S6.out.step k7 (fun i e => by have := HrA.out i e.symm; omega))
  have HN7 := Lib.hid (HN6.out.kept k7 (fun k e q => by have := HrA.out k q.symm; simp [Value.ownBlock] at e; omega))
  have HB7 := Lib.hid (HB6.out.kept k7 (fun q => by have := HrA.out _ q.symm; omega) (fun _ e => by cases e))
  have HA7 := Lib.hid hA7
  have z7 := k7.size
  clear hA7 k7 HN6 HA6 HB6
  have HF7 := Lib.hid (HN7.out.filled (strV otherL) Hle.out)
  generalize hX : (⟨(textsB ss).toArray⟩ : ByteArray) = X
  have HX := Lib.hid hX
  clear hX HN7
  go_wp2
  have hbw : gf < W2.heap.size ∧ W2.heap.size < W3.heap.size ∧ W3.heap.size < W4.heap.size ∧ w.heap.size ≤ gf := ⟨hgf2, s3, s4, by omega⟩
  clear hgf hgf2 s3 s4 z1 z2
  generalize W2.heap.size = bw at *
  generalize W3.heap.size = bv at *
  go_loopw [8, 47] (fun _ i wr => SpoilAt (strV otherL) gf cap (ss.length + 80) W7 i wr) (fun _ i _ => ss.length + 80 - (intOf i).toNat)
  case atStart => exact ⟨0, Nat.zero_le _, rfl, HF7.out, Keeps.refl _ _⟩
  case round =>
    obtain ⟨k, hk, rfl, hf, hK⟩ := hrel
    by_cases hlt : k < ss.length + 80
    · obtain ⟨⟨u0, hc⟩, hz⟩ := hf.slot hlt
      have fin := Lib.hid (SpoilAt.more hlt hf hK)
      have hlt' : (k : Int) < (ss.length : Int) + 80 := by omega
      clear hf hK
      go_wp2
      go_roundw
      case rel => exact fin.out
      case measure => simp [intOf]; omega
    · obtain rfl : k = ss.length + 80 := by omega
      have S8 := Lib.hid (S7.out.step hK (fun i e => by omega))
      have HB8 := Lib.hid (HB7.out.kept hK (fun q => by omega) (fun _ e => by cases e))
      have HA8 := Lib.hid (HA7.out.kept hK (fun q => by omega) (fun k e q => by have := HrA.out k e; omega))
      have Hin8 := Lib.hid (hf.strs (m := ss.length) (by omega) (by omega))
      have z8 := hK.size
      have hrl : (List.replicate ss.length otherL).length = ss.length := List.length_replicate
      have hRs : (eachB (List.replicate ss.length otherL)).length ≤ 6291456 := by rw [eachB_replicate, textB_other]; omega
      have Hrl := Lib.hid hrl
      clear hf hK hlt hrl HF7
      go_wp2_with fail
      refine (wtexts_any bv none [] _ gf 0 (List.replicate ss.length otherL) wr HB8.out Hin8.out (fun _ => ⟨by omega, by simp⟩) (by simp; omega)).mono ?_
      rintro e W9 ⟨rfl, rB, hB9, k9⟩
      rw [List.nil_append] at hB9
      have hrB : ∀ k, rB = some k → W4.heap.size ≤ k := fun k e => by
        rcases k9.later with q | ⟨g', q, hg'⟩
        · rw [q] at e; cases e
        · rw [q] at e; injection e with e; omega
      have HrB := Lib.hid hrB
      have hS9 : ∀ i, (i = bv ∨ some i = (none : Option Nat)) → i = bv := fun i e => by rcases e with e | e; exact e; cases e
      have S9 := Lib.hid (S8.out.step k9.keeps (fun i e => by have := hS9 i e; omega))
      have HA9 := Lib.hid (HA8.out.kept k9.keeps (fun q => by have := hS9 _ q; omega) (fun k e q => by have := hS9 _ q; have := HrA.out k e; omega))
      have HB9 := Lib.hid hB9
      have hAB : ∀ k, rA = some k → rB ≠ some k := fun k e q => by
        have h1 := HA8.out.rlt e
        rcases k9.later with q2 | ⟨g', q2, hg'⟩
        · rw [q2] at q; cases q
        · rw [q2] at q; injection q with q; omega
      have HAB := Lib.hid hAB
      have z9 := k9.keeps.size
      clear hB9 k9 hrB hS9 hAB HA8 HB8 Hin8
      go_wp2_with fail
      refine (wout_any bw rA _ W9 HA9.out).mono ?_
      rintro e W10 ⟨rfl, hA10, k10⟩
      have S10 := Lib.hid (S9.out.step k10 (fun i e => by have := HrA.out i e.symm; omega))
      have HB10 := Lib.hid (HB9.out.kept k10 (fun q => by have := HrA.out _ q.symm; omega) (fun k e q => HAB.out k q.symm e))
      have z10 := k10.size
      clear hA10 k10 HA9 HB9 HAB
      rw [HX.out]
      have hXs : X.size = (textsB ss).length := by rw [← HX.out]; rfl
      have htl := textsB_le ss (by omega)
      have hXs' : X.size ≤ 1099511627776 := by omega
      have hXr : rest X 0 = textsB ss ++ [] := by rw [← HX.out]; simp [rest]
      have HXd := Lib.hid (show textsD (ss.length : Int) (longestN ss : Int) (rest X 0) = .inr (ss, (textsB ss).length) by rw [hXr]; exact textsD_enc (by omega) (by omega) (fun s hs => ⟨by have := Hel.out s hs; omega, by have := longestN_ge hs; omega⟩))
      have hlong : longestN ss ≤ 1048576 := longest_le Hel.out
      clear hXr hXs htl
      obtain ⟨i0, hi, hz0, hz1, hz2⟩ := info_parts infoTexts
      go_wp2
      have hO10 := Lib.hid (fun (S : Nat → Prop) (hS : ∀ i, S i → W10.heap.size ≤ i) => OffErrs.of_ge HE0.out (S := S) (fun i e => by have := hS i e; omega))
      have hzw : w.heap.size ≤ W10.heap.size := by omega
      go_loopw [9, 10] (fun v i wr => ThreeAt ss W10.heap.size W10 v i wr) (fun _ i _ => 3 - (intOf i).toNat)
      case atStart => exact ⟨0, by omega, rfl, [], rfl, by simp, Lists.nil _ _, Keeps.refl _ _⟩
      case round =>
        obtain ⟨k, hk, rfl, ls, hlk, hlx, hL, hK⟩ := hrel
        obtain ⟨wo, rfl⟩ : ∃ wo : World, wo = wr := ⟨_, rfl⟩
        have HL := Lib.hid hL
        have HK := Lib.hid hK
        have Hlx := Lib.hid hlx
        have zo := hK.size
        by_cases hlt : k < 3
        · clear hL hK hlx
          go_wp2_with fail
          refine (rread_any X wo (by omega)).mono ?_
          rintro e W11 ⟨rfl, h11, k11⟩
          have S11 := Lib.hid ((S10.out.step HK.out (fun i e => by omega)).step k11 (fun _ h => h.elim))
          have z11 := k11.size
          have H11 := Lib.hid h11
          have K11 := Lib.hid k11
          clear h11 k11
          go_wp2_with fail
          refine (longest_any _ g o ss W11 (HS.out W11 S11.out) (fun s hs => by have := Hel.out s hs; omega)).mono ?_
          rintro e W11' ⟨rfl, rfl⟩
          go_wp2_with fail
          refine (rtexts_ok ad wo.heap.size X 0 _ ss (ss.length : Int) (longestN ss : Int) W11' H11.out (HE.out W11' S11.out) (hO10.out _ (fun i e => by omega)) hXs' (by omega) (by omega) HXd.out).mono ?_
          rintro e W12 ⟨xv, rfl, hn12, hm12⟩
          obtain ⟨g12, hs12, _⟩ := hn12.strs (by omega)
          have S12 := Lib.hid (S11.out.step hm12.keeps (fun i e => by omega))
          have HN12 := Lib.hid hn12
          have HM12 := Lib.hid hm12
          have z12 := hm12.keeps.size
          clear hn12 hm12
          go_wp2_with fail
          refine (same_any xv _ g12 0 g o ss W12 hs12 (HS.out W12 S12.out)).mono ?_
          rintro e W13 ⟨rfl, n13, rfl⟩
          clear hs12
          have kk : Keeps (fun b => b = wo.heap.size) wo (W12.drewN n13) := ((K11.out.mono (T := fun b => b = wo.heap.size) (fun _ _ h => h.elim)).trans HM12.out.keeps (fun _ _ e => e)).drewN n13
          have hx13 := (HN12.out.kept ((Keeps.refl (fun _ => False) W12).drewN n13) (fun _ _ h => h)).own
          obtain ⟨xa, xc, rfl, _⟩ := own_shape1 hx13
          have HX13 := Lib.hid hx13
          have Hl13 := Lib.hid (HL.out.kept kk (fun b e hb => by omega))
          have Hkk := Lib.hid kk
          have own13 := Hl13.out.row
          have S13 := Lib.hid (S12.out.drewN n13)
          have hxnew : ∀ b, (Value.slice xa ss.length xc).ownBlock = some b → wo.heap.size ≤ b := fun b e => by have := HN12.out.new b e; omega
          have Hxnew := Lib.hid hxnew
          clear kk hx13 hxnew
          generalize W12.drewN n13 = W14 at *
          go_wp2_with (at_builtin; refine wpList_append_cells0 _ rfl _ _ 39 rfl 28 i0 (.slice none 0 0) 1 24 Tryd.underlying39 hi hz0 hz1 hz2 rfl (by decide) _ ls.length _ rfl (ownsRow_kept own13 ((Keeps.refl (fun _ => False) _).alloc _) (fun _ _ h => h)) ⟨W14.heap.size, 0, none⟩ 1 1 [.slice xa ss.length xc] rfl rfl ?c1 ?c2 ?c3 ?c4 ?_)
          case c1 => exact World.news_of_block (cs := #[.slice xa ss.length xc]) (heap_alloc_new W14 _)
          case c2 => intro u hu; rw [List.mem_singleton.1 hu]; rfl
          case c3 => unfold maxLen; omega
          case c4 => omega
          intro v' W15 hown hg hlat _
          have z14 := Hkk.out.size
          have fin : ThreeAt ss W10.heap.size W10 v' (.int .i64 ((k + 1 : Nat) : Int)) W15 := by
            have q := HL.out.add (x := .slice xa ss.length xc) (ss := ss) (by omega) (by rw [World.size_alloc]; omega) (ownsRow_kept HX13.out ((Keeps.refl (fun _ => False) W14).alloc _) (fun _ _ h => h)) Hxnew.out (Hl13.out.kept (S := fun _ => False) ((Keeps.refl _ _).alloc _) (fun _ e _ => e.elim)) hg hlat (by rw [hlk]; exact hown)
            refine ⟨k + 1, hlt, rfl, _, by simp [hlk], ?_, q, ?_⟩
            · intro x hx
              rcases List.mem_append.1 hx with hx | hx
              · exact Hlx.out x hx
              · rw [List.mem_singleton.1 hx]
            · exact Keeps.grown (((HK.out.trans Hkk.out (fun i _ e => by omega))).alloc _) hg (fun j hj e => HL.out.newv j e.symm)
          have Fin := Lib.hid fin
          clear fin hown hg hlat own13
          go_wp2
          go_roundw
          case rel => exact Fin.out
          case measure => simp [intOf]; omega
        · obtain rfl : k = 3 := by omega
          rw [show ((3 : Nat) : Int) = 3 from rfl]
          have hrow := hL.row
          rw [hlk] at hrow
          obtain ⟨al, cl, rfl, hal⟩ := own_shape1 hrow
          obtain ⟨gl, rfl⟩ := hal (by omega)
          have HrB2 := Lib.hid (fun k (e : rB = some k) => HB10.out.rlt e)
          have HB11 := Lib.hid (HB10.out.kept hK (fun q => by omega) (fun k e q => by have := HB10.out.rlt e; omega))
          have Sk := Lib.hid (S10.out.step hK (fun i e => by omega))
          have Hlk := Lib.hid hlk
          clear hL hK hlx hlk hrow hal hlt hk HB10 hi hz0 hz1 hz2 HXd
          go_wp2
          go_loopw [92] (fun i wr => ∃ k n : Nat, k ≤ 3 ∧ i = .int .i64 k ∧ wr = wo.drewN n) (fun i _ => 3 - (intOf i).toNat)
          case atStart => exact ⟨0, 0, by omega, rfl, rfl⟩
          case round =>
            obtain ⟨k, n, hk, rfl, rfl⟩ := hrel
            have hLn := HL.out.kept ((Keeps.refl (fun _ => False) wo).drewN n) (fun _ e _ => e.elim)
            by_cases hlt : k < 3
            · obtain ⟨⟨xv, xs⟩, hx⟩ : ∃ x, ls[k]? = some x := ⟨_, List.getElem?_eq_getElem (by have := Hlk.out; omega)⟩
              have hxs : xs = ss := Hlx.out _ (List.mem_of_getElem? hx)
              subst hxs
              have hrow := hLn.row
              rw [Hlk.out] at hrow
              have hc := (own_cell hrow (i := k) (u := xv) (by rw [List.getElem?_map, hx]; rfl)).1
              have hxn : NewStrs 0 (wo.drewN n) xv xs := ⟨hLn.each k _ hx, fun _ _ => Nat.zero_le _⟩
              obtain ⟨xa, xc, rfl, _⟩ := own_shape1 hxn.own
              obtain ⟨g12, hs12, _⟩ := hxn.strs (by omega)
              have Hs12 := Lib.hid hs12
              have SN := Lib.hid (Sk.out.drewN n)
              clear hLn hrow hxn hs12 hx
              go_wp2_with fail
              refine (same_any (.slice xa xs.length xc) _ g12 0 g o xs (wo.drewN n) Hs12.out (HS.out _ SN.out)).mono ?_
              rintro e W13 ⟨rfl, n13, rfl⟩
              clear hc
              go_wp2
              go_roundw
              case rel => exact ⟨k + 1, n + n13, by omega, by go_num, rfl⟩
              case measure => simp [intOf]; omega
            · obtain rfl : k = 3 := by omega
              rw [show ((3 : Nat) : Int) = 3 from rfl]
              have HLn := Lib.hid hLn
              have HBn := Lib.hid (HB11.out.kept ((Keeps.refl (fun _ => False) wo).drewN n) (fun h => h) (fun _ _ h => h))
              have Sn := Lib.hid (Sk.out.drewN n)
              have zn : wo.heap.size ≤ (wo.drewN n).heap.size := ((Keeps.refl (fun _ => False) wo).drewN n).size
              clear hLn hlt hk HB11 HL Sk
              generalize wo.drewN n = wn at *
              go_wp2_with fail
              refine (wout_any bv rB _ wn HBn.out).mono ?_
              rintro e W16 ⟨rfl, _, k16⟩
              have S16 := Lib.hid (Since.step Sn.out k16 (fun i e => by have := HrB.out i e.symm; omega))
              have HL16 := Lib.hid (HLn.out.kept k16 (fun b e _ => HrB2.out b e.symm))
              have z16 := k16.size
              clear k16
              generalize hR : List.replicate ss.length otherL = R at *
              have HR := Lib.hid hR
              clear hR
              have hRn : R.length = ss.length := by rw [← HR.out]; exact List.length_replicate
              have hRx : ∀ s ∈ R, s = otherL := fun s hs => by rw [← HR.out] at hs; exact List.eq_of_mem_replicate hs
              have hYs : (⟨(textsB R).toArray⟩ : ByteArray).size = (textsB R).length := rfl
              have hRt := textsB_le R (by omega)
              have hYr : rest (⟨(textsB R).toArray⟩ : ByteArray) 0 = textsB R ++ [] := by simp [rest]
              have HYd := Lib.hid (show textsD (ss.length : Int) (5 : Int) (rest (⟨(textsB R).toArray⟩ : ByteArray) 0) = .inr (R, (textsB R).length) by rw [hYr]; exact textsD_enc (by omega) (by omega) (fun s hs => by rw [hRx s hs]; exact ⟨by decide, by decide⟩))
              have HRx := Lib.hid hRx
              have HRn := Lib.hid hRn
              have hYs' : (⟨(textsB R).toArray⟩ : ByteArray).size ≤ 1099511627776 := by omega
              clear hYs hRt hYr hRx hRn
              generalize (⟨(textsB R).toArray⟩ : ByteArray) = Y at *
              go_wp2_with fail
              refine (rread_any Y W16 (by omega)).mono ?_
              rintro e W17 ⟨rfl, h17, k17⟩
              have S17 := Lib.hid (Since.step S16.out k17 (fun _ h => h.elim))
              have HL17 := Lib.hid (HL16.out.kept k17 (fun _ e _ => e.elim))
              have H17 := Lib.hid h17
              have z17 := k17.size
              clear h17 k17
              go_wp2_with fail
              refine (HL17.out.own (by rw [Hlk.out]; omega) (fun x hx => by rw [Hlx.out x hx]; omega)).mono ?_
              rintro e W18 ⟨rfl, k18⟩
              have S18 := Lib.hid (Since.step S17.out k18 (fun i ⟨j, x, hj, e⟩ => by have := HL17.out.new j x hj i e; omega))
              have H18 := Lib.hid (H17.out.kept k18 (fun ⟨j, x, hj, e⟩ => by have := ownsRow_lt (HL16.out.each j x hj) e; omega))
              have z18 := k18.size
              clear k18
              go_wp2_with fail
              refine (rtexts_ok ad W16.heap.size Y 0 _ R (ss.length : Int) 5 W18 H18.out (HE.out W18 S18.out) (hO10.out _ (fun i e => by omega)) hYs' (by omega) (by omega) HYd.out).mono ?_
              rintro e W19 ⟨yv, rfl, hn19, hm19⟩
              have S19 := Lib.hid (Since.step S18.out hm19.keeps (fun i e => by omega))
              obtain ⟨ya, yc, rfl, hya⟩ := own_shape1 hn19.own
              have Hya := Lib.hid hya
              have HN19 := Lib.hid hn19
              rw [HRn.out]
              rw [HRn.out] at HN19
              clear hn19 hm19 hya
              go_wp2
              go_loop [129] (fun i => ∃ k : Nat, k ≤ ss.length ∧ i = .int .i64 k) (fun i => ss.length - (intOf i).toNat)
              case atStart => exact ⟨0, Nat.zero_le _, rfl⟩
              case round =>
                obtain ⟨k, hk, rfl⟩ := hrel
                by_cases hlt : k < ss.length
                · obtain ⟨by', rfl⟩ := Hya.out (by rw [HRn.out]; omega)
                  have hget : R[k]? = some otherL := by
                    rw [← HR.out, List.getElem?_replicate, if_pos hlt]
                  have hown := HN19.out.own
                  rw [HRn.out] at hown
                  have hc : W19.cell? ⟨by', k, none⟩ = some (.string ⟨#[111, 116, 104, 101, 114]⟩) := (own_cell hown (by rw [List.getElem?_map, hget]; rfl)).1
                  clear hget hown
                  go_wp2
                  go_round
                  case rel => exact ⟨k + 1, by omega, by go_num⟩
                  case measure => simp [intOf]; omega
                · obtain rfl : k = ss.length := by omega
                  clear hlt hk
                  go_wp2
                  go_ret
                  exact ⟨rfl, Keeps.fresh S19.out⟩
end Go.Proofs.YtilhkbohemghlaaDoor
