/-
  The contracts of the reference's number and Split.
-/
import Derived.Test.YtfhfbpjhjigbnaaDoorKSplit
import Derived.Test.YtfhfbpjhjigbnaaDoorKRefJoin
import Derived.Deep.RegionHeld3
import Derived.BigQuiet
import Derived.Deep.QuietTactic
namespace Go.Proofs.YtfhfbpjhjigbnaaDoor
open Go.RowKit Go.WideShapes
set_option maxRecDepth 100000

theorem ret_int' {k : IntKind} {a b : Int} (h : a = b) : Ending.returned (.int k a) = .returned (.int k b) := by rw [h]

set_option maxHeartbeats 1600000 in
theorem refNumber_any (s : ByteArray) (a : Nat) (w : World) (hs : s.size ≤ 4194304) (ha : a + 8 ≤ s.size) : Calls Tryd.prog 32 #[.string s, .int .i64 (a : Nat)] w fun e w' => e = .returned (.int .i64 ((K.deB ((s.data.toList.drop a).take 8) : Nat) - 9223372036854775808)) ∧ w = w' := by
  have hd8 : K.deB ((s.data.toList.drop a).take 8) < 18446744073709551616 := deB_take_lt _ 8
  go_enter Tryd.func32, Tryd.ntmps32
  go_wp2
  go_loop [5, 6] (fun u i => ∃ j : Nat, j ≤ 8 ∧ i = .int .i64 ((a + j : Nat) : Int) ∧ u = .int .u64 (K.deB ((s.data.toList.drop a).take j) : Nat)) (fun _ i => a + 9 - (intOf i).toNat)
  case atStart => exact ⟨0, by omega, rfl, rfl⟩
  case round =>
    obtain ⟨j, hj, rfl, rfl⟩ := hrel
    by_cases hlt : j < 8
    · have hx := deB_take_lt (s.data.toList.drop a) j
      have hx2 : K.deB ((s.data.toList.drop a).take j) < 72057594037927936 := Nat.lt_of_lt_of_le hx (by rw [show (72057594037927936 : Nat) = 256 ^ 7 from rfl]; exact Nat.pow_le_pow_right (by decide) (by omega))
      have hks : a + j < s.size := by omega
      have hst := take_drop_snoc s a j hks
      have hor := or_byte _ s[a + j].toNat hx2 s[a + j].toNat_lt
      have E1 := Lib.hid (show K.deB ((s.data.toList.drop a).take (j + 1)) = K.deB ((s.data.toList.drop a).take j) * 256 + s[a + j].toNat by rw [hst, deB_snoc])
      have hbb : s[a + j].toNat < 256 := s[a + j].toNat_lt
      have HOr := Lib.hid hor
      clear hor hst hx
      generalize K.deB ((s.data.toList.drop a).take j) = X at *
      go_wp2
      go_round
      case rel => exact ⟨j + 1, by omega, by simp; omega, by rw [E1.out, ← HOr.out]⟩
      case measure => simp [intOf]; omega
    · obtain rfl : j = 8 := by omega
      clear hlt hj
      obtain ⟨X, hX⟩ : ∃ X, K.deB ((s.data.toList.drop a).take 8) = X := ⟨_, rfl⟩
      rw [hX] at hd8 ⊢
      have e : wrap64 (IntKind.u64.wrap ((X : Int) - 9223372036854775808)) = (X : Int) - 9223372036854775808 := by
        unfold wrap64
        rw [IntKind.wrap_u64]; omega
      have E := Lib.hid e
      have HX := Lib.hid hX
      clear e hX
      go_wp2
      go_ret
      exact ⟨ret_int' (by rw [HX.out]; exact E.out), rfl⟩

theorem byte_eq0 (c : UInt8) : ((c.toNat : Int) == 0) = decide (c = 0) := byte_eq c 0 (by decide)
theorem ff_cases' (c : UInt8) : ((c.toNat : Int) == 255) = decide (c = 255) := byte_eq c 255 (by decide)

/-! ### Split -/
/-- What the reference's Split answers. -/
def RSplitV (l : List UInt8) (w : World) (e : Ending) (w' : World) : Prop :=
  Qt w w' ∧ ((∃ ps v, K.splitB l = some ps ∧ ps.length ≤ l.length ∧ NewParts w.heap.size w' v (ps.map ofPart) ∧ e = .returned (.tuple #[v, .int .i64 0])) ∨
    (K.splitB l = none ∧ ∃ v, NewParts w.heap.size w' v [] ∧ e = .returned (.tuple #[v, .int .i64 7])))

def RSAt (s : ByteArray) (w : World) (v i : Value) (wr : World) : Prop :=
  ∃ (a : Nat) (ps : List K.PartD), i = .int .i64 (a : Nat) ∧ a ≤ s.size ∧ ps.length ≤ a ∧ K.splitB s.data.toList = (K.splitB (s.data.toList.drop a)).map (ps ++ ·) ∧ NewParts w.heap.size wr v (ps.map ofPart) ∧ Since w.heap.size w wr

theorem NewParts.empty (B : Nat) (W : World) (hB : B ≤ W.heap.size) : NewParts B (W.alloc (.cells #[] 25)) (.slice (some ⟨W.heap.size, 0, none⟩) 0 0) [] :=
  ⟨⟨rfl, .inr ⟨W.heap.size, 0, #[], rfl, Nat.zero_le _, heap_alloc_new W _, Nat.le_refl _, Nat.zero_le _, rfl, rfl⟩⟩, fun g hg => by simp [Value.ownBlock] at hg; omega⟩

/-- What is known of the part that the reference has made of what stands at a place. -/
def Reads (L : List UInt8) (p : K.PartD) : Prop := K.headB L = if K.formB p <+: L then some (p, L.drop (K.formB p).length) else none

theorem reads_txt {L : List UInt8} {r : List UInt8} (h : L = 2 :: r) : Reads L (.txt (K.scanB r)) := by
  subst h
  unfold Reads
  rw [K.headB, if_neg (by decide), if_pos rfl, K.unesc_scan, formB_txt]
  simp only [List.singleton_append, List.cons_append, List.nil_append, List.cons_prefix_cons, true_and]
  by_cases hp : K.escB (K.scanB r) ++ [0, 1] <+: r
  · rw [if_pos hp, if_pos hp]
    simp
  · rw [if_neg hp, if_neg hp]; rfl
theorem reads_num {L : List UInt8} (h1 : L.head? = some 1) (hl : 9 ≤ L.length) : Reads L (.num ((K.deB ((L.drop 1).take 8) : Int) - 9223372036854775808)) := by
  unfold Reads
  have h := headB_num h1 hl
  obtain ⟨_, h2⟩ := K.headB_inv h
  have hlen : (K.formB (.num ((K.deB ((L.drop 1).take 8) : Int) - 9223372036854775808))).length = 9 := by rw [formB_num]; simp [K.beB_length]
  rw [if_pos ⟨_, h2.symm⟩, hlen]
  exact h
theorem Reads.over {L : List UInt8} {p : K.PartD} (h : Reads L p) (hl : L.length < (K.formB p).length) : K.headB L = none := by
  unfold Reads at h
  rw [h, if_neg (fun e => by have := e.length_le; omega)]
theorem Reads.other {L : List UInt8} {p : K.PartD} (h : Reads L p) (hne : L.take (K.formB p).length ≠ K.formB p) : K.headB L = none := by
  unfold Reads at h
  rw [h, if_neg (fun e => hne (List.prefix_iff_eq_take.1 e).symm)]
theorem Reads.hit {L : List UInt8} {p : K.PartD} (h : Reads L p) (he : L.take (K.formB p).length = K.formB p) : K.headB L = some (p, L.drop (K.formB p).length) := by
  unfold Reads at h
  rw [h, if_pos (List.prefix_iff_eq_take.2 he.symm)]

theorem scan_le : ∀ (n : Nat) (l : List UInt8), l.length ≤ n → (K.scanB l).length ≤ l.length
  | _, [], _ => by simp [K.scanB]
  | 0, c :: l, h => by simp at h
  | n + 1, [c], _ => by simp only [K.scanB]; split <;> simp
  | n + 1, c :: d :: r, h => by
    simp only [List.length_cons] at h
    rw [K.scanB]
    split
    · split
      · have := scan_le n r (by omega); simp; omega
      · simp
    · have := scan_le n (d :: r) (by simp; omega); simp at this ⊢; omega

theorem RSAt.bad {s : ByteArray} {a : Nat} {ps : List K.PartD} (ha : a < s.size) (he : K.splitB s.data.toList = (K.splitB (s.data.toList.drop a)).map (ps ++ ·)) (hh : K.headB (s.data.toList.drop a) = none) : K.splitB s.data.toList = none := by
  have hne : s.data.toList.drop a ≠ [] := by
    intro e
    have := congrArg List.length e
    rw [List.length_drop] at this
    have hl : s.data.toList.length = s.size := rfl
    simp at this; omega
  rw [he, splitB_none hne hh]; rfl

theorem RSAt.more {s : ByteArray} {a : Nat} {ps : List K.PartD} {p : K.PartD} {w wr w2 w3 : World} {v v' : Value} (hl : ps.length ≤ a) (hF : a + (K.formB p).length ≤ s.size) (he : K.splitB s.data.toList = (K.splitB (s.data.toList.drop a)).map (ps ++ ·)) (hn : NewParts w.heap.size wr v (ps.map ofPart)) (hS : Since w.heap.size w wr)
    (hh : K.headB (s.data.toList.drop a) = some (p, (s.data.toList.drop a).drop (K.formB p).length)) (k2 : Qt wr w2) (hg : w2.grownBy w3 v.ownBlock) (hlat : Later w2 v.ownBlock v'.ownBlock) (hown : w3.ownsRow 0 25 3 v' (ps.length + 1) (psCells (ps.map ofPart) ++ (ofPart p).list)) :
    RSAt s w v' (.int .i64 ((a : Int) + ((K.formB p).length : Nat))) w3 := by
  have h0 := hS.size
  have h2 := k2.size
  have hf := formB_ne p
  refine ⟨a + (K.formB p).length, ps ++ [p], by simp, hF, by rw [List.length_append]; simp; omega, ?_, ⟨?_, fun g hg' => ?_⟩, Keeps.grown (hS.step k2 (fun _ h => h.elim)) hg (fun j hj e => hn.new j e.symm)⟩
  · rw [he, splitB_some hh, List.drop_drop, Option.map_map]
    congr 1
    funext x
    simp
  · rw [List.map_append, List.length_append, psCells_append, List.map_cons, List.map_nil, psCells_one, List.length_map]
    exact hown
  · rcases hlat with e | ⟨g', e, hge⟩
    · exact hn.new g (e ▸ hg')
    · rw [e] at hg'; injection hg' with hg'; omega

/-- The inner loop: what is scanned. -/
def ScanAt (s : ByteArray) (a : Nat) (W1 : World) (bv i : Value) (wr : World) : Prop :=
  ∃ (k : Nat) (u : List UInt8), i = .int .i64 (k : Nat) ∧ a + 1 ≤ k ∧ k ≤ s.size ∧ u.length ≤ k ∧ K.scanB (s.data.toList.drop (a + 1)) = u ++ K.scanB (s.data.toList.drop k) ∧ Bytes W1 bv u wr

set_option maxHeartbeats 12800000 in
theorem refSplit_any (s : ByteArray) (w : World) (hs : s.size ≤ 4194304) : Calls Tryd.prog 17 #[.string s] w (RSplitV s.data.toList w) := by
  obtain ⟨i0, hi, hz0, hz1, hz2⟩ := info_parts infoPart
  obtain ⟨i1, hi1, hy0, hy1, hy2⟩ := info_parts infoByte
  have hlen : s.data.toList.length = s.size := rfl
  have A0 := Lib.hid (show RSAt s w (.slice (some ⟨w.heap.size, 0, none⟩) 0 0) (.int .i64 0) (w.alloc (.cells #[] 25)) from ⟨0, [], rfl, Nat.zero_le _, Nat.le_refl _, by show K.splitB s.data.toList = Option.map _ (K.splitB s.data.toList); cases K.splitB s.data.toList <;> simp, NewParts.empty _ w (Nat.le_refl _), (Keeps.refl _ _).alloc _⟩)
  go_enter Tryd.func17, Tryd.ntmps17
  go_wp2
  go_loopw [4, 5] (fun v i wr => RSAt s w v i wr) (fun _ i _ => s.size - (intOf i).toNat)
  case atStart => exact A0.out
  case round =>
    obtain ⟨a, ps, rfl, ha, hpl, he, hn, hS⟩ := hrel
    by_cases hlt : a < s.size
    · obtain ⟨wo, rfl⟩ : ∃ wo : World, wo = wr := ⟨_, rfl⟩
      have hdg := drop_get s a hlt
      have Bad := Lib.hid (fun (hh : K.headB (s.data.toList.drop a) = none) (W : World) (hw : Qt w W) (n : Nat) (hn : W.heap.size = n) => show RSplitV s.data.toList w (.returned (.tuple #[.slice (some ⟨n, 0, none⟩) 0 0, .int .i64 7])) (W.alloc (.cells #[] 25)) from
        ⟨hw.alloc _, .inr ⟨RSAt.bad hlt he hh, _, hn ▸ NewParts.empty _ W hw.size, rfl⟩⟩)
      have Own := Lib.hid (fun W (k : Qt wo W) => (hn.qt k).own)
      rw [List.length_map] at Own
      have Hnl := Lib.hid (fun g (e : _ = some g) => ownsRow_lt hn.own (k := g) e)
      have HN := Lib.hid hn
      have HS := Lib.hid hS
      have He := Lib.hid he
      have hpz := heap_alloc_new wo (.cells #[.bool false, .int .i64 0, .string ⟨#[]⟩] 25)
      have K0 := Lib.hid (show Qt wo (wo.alloc (.cells #[.bool false, .int .i64 0, .string ⟨#[]⟩] 25)) from (Keeps.refl _ _).alloc _)
      have HZ := Lib.hid hpz
      have b1 := byte_eq s[a] 1 (by decide)
      have b2 := byte_eq s[a] 2 (by decide)
      have hsz := hS.size
      clear hn hS he hpz
      by_cases h1 : s[a] = 1
      · have hh : (s.data.toList.drop a).head? = some 1 := by rw [hdg, h1]; rfl
        have b1' : ((s[a].toNat : Int) == 1) = true := by simp [h1]
        by_cases h9 : s.size < a + 9
        · have Fin := Lib.hid (Bad.out (headB_num_no hh (by rw [List.length_drop]; omega)) _ (Qt.trans (Since.qt HS.out) K0.out) (wo.heap.size + 1) (by simp))
          clear b1 b2 h1 hh hdg
          go_wp2
          go_ret2
          exact Fin.out
        · have hq := refNumber_any s (a + 1) (wo.alloc (.cells #[.bool false, .int .i64 0, .string ⟨#[]⟩] 25)) hs (by omega)
          rw [show (((a + 1 : Nat)) : Int) = (a : Int) + 1 by simp] at hq
          have hrd := reads_num hh (by rw [List.length_drop]; omega)
          rw [List.drop_drop] at hrd
          have hx : K.deB ((s.data.toList.drop (a + 1)).take 8) < 18446744073709551616 := deB_take_lt _ 8
          generalize K.deB ((s.data.toList.drop (a + 1)).take 8) = X at *
          have HR := Lib.hid hrd
          have Hq := Lib.hid hq
          have Hpo := Lib.hid (show (ofPart (.num ((X : Int) - 9223372036854775808))).Ok from ⟨by simp only [ofPart]; omega, by simp only [ofPart]; omega, by simp [ofPart, ByteArray.size]⟩)
          clear b1 b2 h1 hh hdg hrd hq
          have hp2 := heap_alloc_new wo (.cells #[.bool true, .int .i64 ((X : Int) - 9223372036854775808), .string ⟨#[]⟩] 25)
          have K2 := Lib.hid (show Qt wo (wo.alloc (.cells #[.bool true, .int .i64 ((X : Int) - 9223372036854775808), .string ⟨#[]⟩] 25)) from (Keeps.refl _ _).alloc _)
          go_wp2_with fail
          refine Hq.out.mono ?_
          rintro e w1 ⟨rfl, rfl⟩
          have hp2 : _ = some (Obj.cells #[.bool (ofPart (K.PartD.num ((X : Int) - 9223372036854775808))).b, .int .i64 (ofPart (K.PartD.num ((X : Int) - 9223372036854775808))).n, .string (ofPart (K.PartD.num ((X : Int) - 9223372036854775808))).s] 25 (0, 0)) := hp2
          try go_wp2_with fail
          refine (form_any _ Hpo.out _).mono ?_
          rintro e w3 ⟨fv, rfl, hf, k3⟩
          rw [part_ofPart] at hf
          have hp3 := (k3.block _ (lt_of_block hp2) (fun e => e)).trans hp2
          have K3 := Lib.hid (Qt.trans K2.out k3)
          obtain ⟨fg, fc, rfl, _, _⟩ := hf.form (formB_ne _)
          have HCv := Lib.hid (fun W' (k : Qt w3 W') => own_conv (hf.qt k).own)
          have H1 := Lib.hid (ofPart_one (K.PartD.num ((X : Int) - 9223372036854775808)))
          have hfl := formB_ne (K.PartD.num ((X : Int) - 9223372036854775808))
          have hF3 : (K.formB (K.PartD.num ((X : Int) - 9223372036854775808))).length ≤ 8388620 := by
            have := formB_le (ofPart (K.PartD.num ((X : Int) - 9223372036854775808)))
            rw [part_ofPart] at this
            have := Hpo.out.s
            omega
          have HF := Lib.hid (fun h : s.size < a + (K.formB (K.PartD.num ((X : Int) - 9223372036854775808))).length => HR.out.over (by rw [List.length_drop]; omega))
          have HO := Lib.hid (fun h => HR.out.other h)
          have HH := Lib.hid (fun h => HR.out.hit h)
          have Mo := Lib.hid (fun hh hF w2 w3 v' k2 hg hlat hown => RSAt.more (s := s) (a := a) (p := (K.PartD.num ((X : Int) - 9223372036854775808))) (w2 := w2) (w3 := w3) (v' := v') hpl hF He.out HN.out HS.out hh k2 hg hlat hown)
          clear hf k3 hp2 HR Hpo
          have hex := Lib.extract_data s a (a + (K.formB (K.PartD.num ((X : Int) - 9223372036854775808))).length)
          rw [show a + (K.formB (K.PartD.num ((X : Int) - 9223372036854775808))).length - a = (K.formB (K.PartD.num ((X : Int) - 9223372036854775808))).length by omega] at hex
          have hexb : ((s.extract a (a + (K.formB (K.PartD.num ((X : Int) - 9223372036854775808))).length)).toList == (⟨(K.formB (K.PartD.num ((X : Int) - 9223372036854775808))).toArray⟩ : ByteArray).toList) = decide ((s.data.toList.drop a).take (K.formB (K.PartD.num ((X : Int) - 9223372036854775808))).length = K.formB (K.PartD.num ((X : Int) - 9223372036854775808))) := by
            rw [ByteArray.toList_eq, ByteArray.toList_eq, hex, Bool.eq_iff_iff]; simp
          generalize ofPart (K.PartD.num ((X : Int) - 9223372036854775808)) = P at *
          generalize hFF : K.formB (K.PartD.num ((X : Int) - 9223372036854775808)) = FF at *
          clear hFF hex
          have hexb2 : ((s.extract a (a + FF.length)).toList == FF) = decide ((s.data.toList.drop a).take FF.length = FF) := by
            have e : (⟨FF.toArray⟩ : ByteArray).toList = FF := by rw [ByteArray.toList_eq]
            rwa [e] at hexb
          have hw : IntKind.i64.wrap ((a : Int) + (FF.length : Int)) = (a : Int) + (FF.length : Int) := IntWalk.i64_in _ (by omega)
          have hnn : ((a : Int) + (FF.length : Int)).toNat = a + FF.length := by omega
          by_cases hov : s.size < a + FF.length
          · have hd : decide ((s.size : Int) < (a : Int) + (FF.length : Int)) = true := decide_eq_true (by omega)
            have hov' : (s.size : Int) < (a : Int) + (FF.length : Int) := by omega
            have Fin := Lib.hid (fun W k => Bad.out (HF.out hov) W (Qt.trans (Since.qt HS.out) k) W.heap.size rfl)
            clear hov HF HO HH Mo hexb hexb2 hp3
            go_wp2
            go_quiet (fail)
            have K4 := Lib.hid (K3.out.drewN nq)
            generalize w3.drewN nq = w4 at *
            go_wp2
            go_ret2
            exact Fin.out _ K4.out
          · have hd : decide ((s.size : Int) < (a : Int) + (FF.length : Int)) = false := decide_eq_false (by omega)
            have hov' : ¬ (s.size : Int) < (a : Int) + (FF.length : Int) := by omega
            have hb1 : (0 : Int) ≤ (a : Int) := by omega
            have hb2 : (a : Int) ≤ (a : Int) + (FF.length : Int) := by omega
            have hb3 : (a : Int) + (FF.length : Int) ≤ (s.size : Int) := by omega
            by_cases heq : (s.data.toList.drop a).take FF.length = FF
            · rw [decide_eq_true heq] at hexb hexb2
              have Hh := Lib.hid (HH.out heq)
              clear heq HF HO HH
              go_wp2
              go_region_held3 (fun W' => (convert 48 9 (.slice (some ⟨fg, 0, none⟩) FF.length fc)).run Tryd.prog W' = .ok (.string ⟨FF.toArray⟩) W') (exact HCv.out _ (Keeps.drew (Qt.refl _))) (fail)
              have K4 := Lib.hid (Keeps.drew K3.out)
              have hp4 : w3.drew.heap[wo.heap.size]? = some (.cells #[.bool P.b, .int .i64 P.n, .string P.s] 25 (0, 0)) := hp3
              generalize w3.drew = w4 at *
              have d : ∀ j, w4.cell? ⟨wo.heap.size, j, none⟩ = _ := fun j => cell_of_row _ _ _ _ _ _ hp4
              have d0 := d 0
              have d1 := d 1
              have d2 := d 2
              have HA := Lib.hid (fun o => Qt.trans K4.out ((Keeps.refl (fun _ => False) w4).alloc o))
              clear d hp4 hp3 hw hnn hd hexb hexb2
              go_wp2_with (at_builtin; refine wpList_append_cells0 _ rfl _ _ 22 rfl 25 i0 _ 3 32 Tryd.underlying22 hi hz0 hz1 hz2 rfl (by decide) _ ps.length _ rfl (Own.out _ (HA.out _)) ⟨w4.heap.size, 0, none⟩ 1 1 [.bool P.b, .int .i64 P.n, .string P.s] rfl rfl (World.news_of_block (cs := #[.bool P.b, .int .i64 P.n, .string P.s]) (heap_alloc_new w4 _)) H1.out (by unfold maxLen; omega) (by omega) ?_)
              intro v' w5 hown hg hlat _
              have fin := Lib.hid (Mo.out Hh.out (by omega) _ w5 v' (HA.out _) hg hlat hown)
              clear hown hg hlat Mo d0 d1 d2
              go_wp2
              go_roundw
              case rel => exact fin.out
              case measure => simp [intOf]; omega
            · rw [decide_eq_false heq] at hexb hexb2
              have Fin := Lib.hid (fun W k => Bad.out (HO.out heq) W (Qt.trans (Since.qt HS.out) k) W.heap.size rfl)
              clear heq HF HO HH Mo hp3
              go_wp2
              go_region_held3 (fun W' => (convert 48 9 (.slice (some ⟨fg, 0, none⟩) FF.length fc)).run Tryd.prog W' = .ok (.string ⟨FF.toArray⟩) W') (exact HCv.out _ (Keeps.drew (Qt.refl _))) (fail)
              have K4 := Lib.hid (Keeps.drew K3.out)
              generalize w3.drew = w4 at *
              go_wp2
              go_ret2
              exact Fin.out _ K4.out
      · have b1' : ((s[a].toNat : Int) == 1) = false := by simpa [h1] using b1
        by_cases h2 : s[a] = 2
        · have b2' : ((s[a].toNat : Int) == 2) = true := by simp [h2]
          clear b1 b2
          go_wp2
          have Z1 := Lib.hid HZ.out
          have hwl : wo.heap.size < (wo.alloc (.cells #[.bool false, .int .i64 0, .string ⟨#[]⟩] 25)).heap.size := by simp
          have hws : (wo.alloc (.cells #[.bool false, .int .i64 0, .string ⟨#[]⟩] 25)).heap.size = wo.heap.size + 1 := by simp
          generalize wo.alloc (.cells #[.bool false, .int .i64 0, .string ⟨#[]⟩] 25) = W1 at *
          rw [← hws]
          clear hws
          have E0 := Lib.hid (show ScanAt s a W1 (.slice (some ⟨W1.heap.size, 0, none⟩) 0 0) (.int .i64 ((a : Int) + 1)) (W1.alloc (.cells #[] 5)) from ⟨a + 1, [], by simp, Nat.le_refl _, hlt, Nat.zero_le _, rfl, ⟨NewBytes.empty W1, (Keeps.refl _ _).alloc _⟩⟩)
          go_loopw [7, 8] (fun bv i wr => ScanAt s a W1 bv i wr) (fun _ i _ => s.size - (intOf i).toNat)
          case atStart => exact E0.out
          case round =>
            obtain ⟨k, u, rfl, hk1, hk2, hul, hsc, hb⟩ := hrel
            have HB := Lib.hid hb
            have hbs := hb.since.size
            have HA := Lib.hid (fun o => (Keeps.refl (fun _ => False) wr).alloc o)
            by_cases hk : k < s.size
            · have hdk := drop_get s k hk
              have hkk : IntKind.i64.wrap ((k : Int) + 1) = (k : Int) + 1 := IntWalk.i64_in _ (by omega)
              by_cases hx0 : s[k] = 0
              · have hb0 : ((s[k].toNat : Int) != 0) = false := by rw [hx0]; rfl
                by_cases hk1 : k + 1 = s.size
                · have hend : ((k : Int) + 1 == (s.size : Int)) = true := by simp; omega
                  have hscan : K.scanB (s.data.toList.drop (a + 1)) = u := by
                    rw [hsc, hdk, hx0, List.drop_eq_nil_of_le (by have : s.data.toList.length = s.size := rfl; omega)]; simp [K.scanB]
                  clear hsc hdk hx0
                  have hcv1 := own_conv hb.nb.own
                  have hz1 : wr.heap[wo.heap.size]? = some (.cells #[.bool false, .int .i64 0, .string ⟨#[]⟩] 25 (0, 0)) := (hb.since.block _ (lt_of_block HZ.out) (fun e => by omega)).trans HZ.out
                  have Ks := Lib.hid (show Qt wo wr from Qt.trans K0.out (Since.qt hb.since))
                  have HR := Lib.hid (show Reads (s.data.toList.drop a) (.txt u) from hscan ▸ reads_txt (by rw [hdg, h2]))
                  have Hpo := Lib.hid (show (ofPart (.txt u)).Ok from ⟨by simp [ofPart], by simp [ofPart], by simp only [ofPart, size_list]; omega⟩)
                  clear hb hscan hdg h1 h2
                  have hp2 := setRow_heap wr wo.heap.size _ #[.bool false, .int .i64 0, .string ⟨u.toArray⟩] 25 (0, 0) hz1
                  have kf := Keeps.setRow (S := fun _ => False) (a := wo) Ks.out (g := wo.heap.size) (fun h => absurd h (by omega)) #[.bool false, .int .i64 0, .string ⟨u.toArray⟩]
                  have d : ∀ j, (wr.setRow wo.heap.size #[.bool false, .int .i64 0, .string ⟨u.toArray⟩]).cell? ⟨wo.heap.size, j, none⟩ = _ := fun j => cell_of_row _ _ _ _ _ _ hp2
                  have c0 := d 0
                  have c1 := d 1
                  have c2 := d 2
                  have Hp2 := Lib.hid hp2
                  clear d hp2
                  go_wp2_with (refine wpList_store_row _ rfl 25 _ _ rfl wo.heap.size _ _ 25 rfl rfl hz1 (by kernel_rfl) rfl (part_one _ _ _) ?_)
                  have hp2 := Hp2.out
                  clear c0 c1 c2 Hp2 hz1 hcv1
                  generalize wr.setRow wo.heap.size _ = W2 at *
                  have K2 := Lib.hid kf
                  clear kf

                  have hp2 : _ = some (Obj.cells #[.bool (ofPart (K.PartD.txt u)).b, .int .i64 (ofPart (K.PartD.txt u)).n, .string (ofPart (K.PartD.txt u)).s] 25 (0, 0)) := hp2
                  try go_wp2_with fail
                  refine (form_any _ Hpo.out _).mono ?_
                  rintro e w3 ⟨fv, rfl, hf, k3⟩
                  rw [part_ofPart] at hf
                  have hp3 := (k3.block _ (lt_of_block hp2) (fun e => e)).trans hp2
                  have K3 := Lib.hid (Qt.trans K2.out k3)
                  obtain ⟨fg, fc, rfl, _, _⟩ := hf.form (formB_ne _)
                  have HCv := Lib.hid (fun W' (k : Qt w3 W') => own_conv (hf.qt k).own)
                  have H1 := Lib.hid (ofPart_one (K.PartD.txt u))
                  have hfl := formB_ne (K.PartD.txt u)
                  have hF3 : (K.formB (K.PartD.txt u)).length ≤ 8388620 := by
                    have := formB_le (ofPart (K.PartD.txt u))
                    rw [part_ofPart] at this
                    have := Hpo.out.s
                    omega
                  have HF := Lib.hid (fun h : s.size < a + (K.formB (K.PartD.txt u)).length => HR.out.over (by rw [List.length_drop]; omega))
                  have HO := Lib.hid (fun h => HR.out.other h)
                  have HH := Lib.hid (fun h => HR.out.hit h)
                  have Mo := Lib.hid (fun hh hF w2 w3 v' k2 hg hlat hown => RSAt.more (s := s) (a := a) (p := (K.PartD.txt u)) (w2 := w2) (w3 := w3) (v' := v') hpl hF He.out HN.out HS.out hh k2 hg hlat hown)
                  clear hf k3 hp2 HR Hpo
                  have hex := Lib.extract_data s a (a + (K.formB (K.PartD.txt u)).length)
                  rw [show a + (K.formB (K.PartD.txt u)).length - a = (K.formB (K.PartD.txt u)).length by omega] at hex
                  have hexb : ((s.extract a (a + (K.formB (K.PartD.txt u)).length)).toList == (⟨(K.formB (K.PartD.txt u)).toArray⟩ : ByteArray).toList) = decide ((s.data.toList.drop a).take (K.formB (K.PartD.txt u)).length = K.formB (K.PartD.txt u)) := by
                    rw [ByteArray.toList_eq, ByteArray.toList_eq, hex, Bool.eq_iff_iff]; simp
                  generalize ofPart (K.PartD.txt u) = P at *
                  generalize hFF : K.formB (K.PartD.txt u) = FF at *
                  clear hFF hex
                  have hexb2 : ((s.extract a (a + FF.length)).toList == FF) = decide ((s.data.toList.drop a).take FF.length = FF) := by
                    have e : (⟨FF.toArray⟩ : ByteArray).toList = FF := by rw [ByteArray.toList_eq]
                    rwa [e] at hexb
                  have hw : IntKind.i64.wrap ((a : Int) + (FF.length : Int)) = (a : Int) + (FF.length : Int) := IntWalk.i64_in _ (by omega)
                  have hnn : ((a : Int) + (FF.length : Int)).toNat = a + FF.length := by omega
                  by_cases hov : s.size < a + FF.length
                  · have hd : decide ((s.size : Int) < (a : Int) + (FF.length : Int)) = true := decide_eq_true (by omega)
                    have hov' : (s.size : Int) < (a : Int) + (FF.length : Int) := by omega
                    have Fin := Lib.hid (fun W k => Bad.out (HF.out hov) W (Qt.trans (Since.qt HS.out) k) W.heap.size rfl)
                    clear hov HF HO HH Mo hexb hexb2 hp3
                    go_wp2
                    go_quiet (fail)
                    have K4 := Lib.hid (K3.out.drewN nq)
                    generalize w3.drewN nq = w4 at *
                    go_wp2
                    go_ret2
                    exact Fin.out _ K4.out
                  · have hd : decide ((s.size : Int) < (a : Int) + (FF.length : Int)) = false := decide_eq_false (by omega)
                    have hov' : ¬ (s.size : Int) < (a : Int) + (FF.length : Int) := by omega
                    have hb1 : (0 : Int) ≤ (a : Int) := by omega
                    have hb2 : (a : Int) ≤ (a : Int) + (FF.length : Int) := by omega
                    have hb3 : (a : Int) + (FF.length : Int) ≤ (s.size : Int) := by omega
                    by_cases heq : (s.data.toList.drop a).take FF.length = FF
                    · rw [decide_eq_true heq] at hexb hexb2
                      have Hh := Lib.hid (HH.out heq)
                      clear heq HF HO HH
                      go_wp2
                      go_region_held3 (fun W' => (convert 48 9 (.slice (some ⟨fg, 0, none⟩) FF.length fc)).run Tryd.prog W' = .ok (.string ⟨FF.toArray⟩) W') (exact HCv.out _ (Keeps.drew (Qt.refl _))) (fail)
                      have K4 := Lib.hid (Keeps.drew K3.out)
                      have hp4 : w3.drew.heap[wo.heap.size]? = some (.cells #[.bool P.b, .int .i64 P.n, .string P.s] 25 (0, 0)) := hp3
                      generalize w3.drew = w4 at *
                      have d : ∀ j, w4.cell? ⟨wo.heap.size, j, none⟩ = _ := fun j => cell_of_row _ _ _ _ _ _ hp4
                      have d0 := d 0
                      have d1 := d 1
                      have d2 := d 2
                      have HA := Lib.hid (fun o => Qt.trans K4.out ((Keeps.refl (fun _ => False) w4).alloc o))
                      clear d hp4 hp3 hw hnn hd hexb hexb2
                      go_wp2_with (at_builtin; refine wpList_append_cells0 _ rfl _ _ 22 rfl 25 i0 _ 3 32 Tryd.underlying22 hi hz0 hz1 hz2 rfl (by decide) _ ps.length _ rfl (Own.out _ (HA.out _)) ⟨w4.heap.size, 0, none⟩ 1 1 [.bool P.b, .int .i64 P.n, .string P.s] rfl rfl (World.news_of_block (cs := #[.bool P.b, .int .i64 P.n, .string P.s]) (heap_alloc_new w4 _)) H1.out (by unfold maxLen; omega) (by omega) ?_)
                      intro v' w5 hown hg hlat _
                      have fin := Lib.hid (Mo.out Hh.out (by omega) _ w5 v' (HA.out _) hg hlat hown)
                      clear hown hg hlat Mo d0 d1 d2
                      go_wp2
                      go_roundw
                      case rel => exact fin.out
                      case measure => simp [intOf]; omega
                    · rw [decide_eq_false heq] at hexb hexb2
                      have Fin := Lib.hid (fun W k => Bad.out (HO.out heq) W (Qt.trans (Since.qt HS.out) k) W.heap.size rfl)
                      clear heq HF HO HH Mo hp3
                      go_wp2
                      go_region_held3 (fun W' => (convert 48 9 (.slice (some ⟨fg, 0, none⟩) FF.length fc)).run Tryd.prog W' = .ok (.string ⟨FF.toArray⟩) W') (exact HCv.out _ (Keeps.drew (Qt.refl _))) (fail)
                      have K4 := Lib.hid (Keeps.drew K3.out)
                      generalize w3.drew = w4 at *
                      go_wp2
                      go_ret2
                      exact Fin.out _ K4.out
                · have hk3 : k + 1 < s.size := by omega
                  have hend : ((k : Int) + 1 == (s.size : Int)) = false := by simp; omega
                  have hdk2 := drop_get s (k + 1) hk3
                  have hkt : ((k : Int) + 1).toNat = k + 1 := by omega
                  by_cases hy : s[k + 1] = 255
                  · have hb255 : ((s[k + 1].toNat : Int) != 255) = false := by rw [hy]; rfl
                    have Own1 := Lib.hid (fun W (k2 : Qt wr W) => hb.own k2)
                    have fin := Lib.hid (fun (v' : Value) (w2 w3 : World) (k2 : Qt wr w2) (hg : w2.grownBy w3 _) (hl : Later w2 _ v'.ownBlock) (hown : w3.ownsRow 0 5 1 v' (u.length + 1) (Lib.byteCells u ++ [.int .u8 0])) => show ScanAt s a W1 v' (.int .i64 ((k : Int) + 2)) w3 from
                      ⟨k + 2, u ++ [0], by simp, by omega, by omega, by simp; omega, by rw [hsc, hdk, hx0, hdk2, hy, K.scanB_zero]; simp, hb.app (m := [0]) k2 hg hl hown⟩)
                    clear hsc hdk hx0 hdk2 hy hb
                    go_wp2_with (at_builtin; refine wpList_append_cells0 _ rfl _ _ 48 rfl 5 i1 (.int .u8 0) 1 1 Tryd.underlying48 hi1 hy0 hy1 hy2 rfl (by decide) _ u.length (Lib.byteCells u) rfl (Own1.out _ (HA.out _)) ⟨wr.heap.size, 0, none⟩ 1 1 [.int .u8 0] rfl rfl (World.news_of_block (cs := #[.int .u8 0]) (heap_alloc_new wr _)) (by intro q hq; rw [List.mem_singleton.1 hq]; rfl) (by unfold maxLen; omega) (by omega) ?_)
                    intro v' w3 hown hg hl _
                    have fin2 := Lib.hid (fin.out v' _ w3 (HA.out _) hg hl hown)
                    clear hown hg hl Own1 fin
                    go_wp2
                    go_roundw
                    case rel => exact fin2.out
                    case measure => simp [intOf]; omega
                  · have hb255 : ((s[k + 1].toNat : Int) != 255) = true := by
                      have := ff_cases' s[k + 1]
                      rw [bne, this]; simpa using hy
                    have hscan : K.scanB (s.data.toList.drop (a + 1)) = u := by
                      rw [hsc, hdk, hx0, hdk2, K.scanB_end hy]; simp
                    clear hsc hdk hx0 hdk2 hy
                    have hcv1 := own_conv hb.nb.own
                    have hz1 : wr.heap[wo.heap.size]? = some (.cells #[.bool false, .int .i64 0, .string ⟨#[]⟩] 25 (0, 0)) := (hb.since.block _ (lt_of_block HZ.out) (fun e => by omega)).trans HZ.out
                    have Ks := Lib.hid (show Qt wo wr from Qt.trans K0.out (Since.qt hb.since))
                    have HR := Lib.hid (show Reads (s.data.toList.drop a) (.txt u) from hscan ▸ reads_txt (by rw [hdg, h2]))
                    have Hpo := Lib.hid (show (ofPart (.txt u)).Ok from ⟨by simp [ofPart], by simp [ofPart], by simp only [ofPart, size_list]; omega⟩)
                    clear hb hscan hdg h1 h2
                    have hp2 := setRow_heap wr wo.heap.size _ #[.bool false, .int .i64 0, .string ⟨u.toArray⟩] 25 (0, 0) hz1
                    have kf := Keeps.setRow (S := fun _ => False) (a := wo) Ks.out (g := wo.heap.size) (fun h => absurd h (by omega)) #[.bool false, .int .i64 0, .string ⟨u.toArray⟩]
                    have d : ∀ j, (wr.setRow wo.heap.size #[.bool false, .int .i64 0, .string ⟨u.toArray⟩]).cell? ⟨wo.heap.size, j, none⟩ = _ := fun j => cell_of_row _ _ _ _ _ _ hp2
                    have c0 := d 0
                    have c1 := d 1
                    have c2 := d 2
                    have Hp2 := Lib.hid hp2
                    clear d hp2
                    go_wp2_with (refine wpList_store_row _ rfl 25 _ _ rfl wo.heap.size _ _ 25 rfl rfl hz1 (by kernel_rfl) rfl (part_one _ _ _) ?_)
                    have hp2 := Hp2.out
                    clear c0 c1 c2 Hp2 hz1 hcv1
                    generalize wr.setRow wo.heap.size _ = W2 at *
                    have K2 := Lib.hid kf
                    clear kf

                    have hp2 : _ = some (Obj.cells #[.bool (ofPart (K.PartD.txt u)).b, .int .i64 (ofPart (K.PartD.txt u)).n, .string (ofPart (K.PartD.txt u)).s] 25 (0, 0)) := hp2
                    try go_wp2_with fail
                    refine (form_any _ Hpo.out _).mono ?_
                    rintro e w3 ⟨fv, rfl, hf, k3⟩
                    rw [part_ofPart] at hf
                    have hp3 := (k3.block _ (lt_of_block hp2) (fun e => e)).trans hp2
                    have K3 := Lib.hid (Qt.trans K2.out k3)
                    obtain ⟨fg, fc, rfl, _, _⟩ := hf.form (formB_ne _)
                    have HCv := Lib.hid (fun W' (k : Qt w3 W') => own_conv (hf.qt k).own)
                    have H1 := Lib.hid (ofPart_one (K.PartD.txt u))
                    have hfl := formB_ne (K.PartD.txt u)
                    have hF3 : (K.formB (K.PartD.txt u)).length ≤ 8388620 := by
                      have := formB_le (ofPart (K.PartD.txt u))
                      rw [part_ofPart] at this
                      have := Hpo.out.s
                      omega
                    have HF := Lib.hid (fun h : s.size < a + (K.formB (K.PartD.txt u)).length => HR.out.over (by rw [List.length_drop]; omega))
                    have HO := Lib.hid (fun h => HR.out.other h)
                    have HH := Lib.hid (fun h => HR.out.hit h)
                    have Mo := Lib.hid (fun hh hF w2 w3 v' k2 hg hlat hown => RSAt.more (s := s) (a := a) (p := (K.PartD.txt u)) (w2 := w2) (w3 := w3) (v' := v') hpl hF He.out HN.out HS.out hh k2 hg hlat hown)
                    clear hf k3 hp2 HR Hpo
                    have hex := Lib.extract_data s a (a + (K.formB (K.PartD.txt u)).length)
                    rw [show a + (K.formB (K.PartD.txt u)).length - a = (K.formB (K.PartD.txt u)).length by omega] at hex
                    have hexb : ((s.extract a (a + (K.formB (K.PartD.txt u)).length)).toList == (⟨(K.formB (K.PartD.txt u)).toArray⟩ : ByteArray).toList) = decide ((s.data.toList.drop a).take (K.formB (K.PartD.txt u)).length = K.formB (K.PartD.txt u)) := by
                      rw [ByteArray.toList_eq, ByteArray.toList_eq, hex, Bool.eq_iff_iff]; simp
                    generalize ofPart (K.PartD.txt u) = P at *
                    generalize hFF : K.formB (K.PartD.txt u) = FF at *
                    clear hFF hex
                    have hexb2 : ((s.extract a (a + FF.length)).toList == FF) = decide ((s.data.toList.drop a).take FF.length = FF) := by
                      have e : (⟨FF.toArray⟩ : ByteArray).toList = FF := by rw [ByteArray.toList_eq]
                      rwa [e] at hexb
                    have hw : IntKind.i64.wrap ((a : Int) + (FF.length : Int)) = (a : Int) + (FF.length : Int) := IntWalk.i64_in _ (by omega)
                    have hnn : ((a : Int) + (FF.length : Int)).toNat = a + FF.length := by omega
                    by_cases hov : s.size < a + FF.length
                    · have hd : decide ((s.size : Int) < (a : Int) + (FF.length : Int)) = true := decide_eq_true (by omega)
                      have hov' : (s.size : Int) < (a : Int) + (FF.length : Int) := by omega
                      have Fin := Lib.hid (fun W k => Bad.out (HF.out hov) W (Qt.trans (Since.qt HS.out) k) W.heap.size rfl)
                      clear hov HF HO HH Mo hexb hexb2 hp3
                      go_wp2
                      go_quiet (fail)
                      have K4 := Lib.hid (K3.out.drewN nq)
                      generalize w3.drewN nq = w4 at *
                      go_wp2
                      go_ret2
                      exact Fin.out _ K4.out
                    · have hd : decide ((s.size : Int) < (a : Int) + (FF.length : Int)) = false := decide_eq_false (by omega)
                      have hov' : ¬ (s.size : Int) < (a : Int) + (FF.length : Int) := by omega
                      have hb1 : (0 : Int) ≤ (a : Int) := by omega
                      have hb2 : (a : Int) ≤ (a : Int) + (FF.length : Int) := by omega
                      have hb3 : (a : Int) + (FF.length : Int) ≤ (s.size : Int) := by omega
                      by_cases heq : (s.data.toList.drop a).take FF.length = FF
                      · rw [decide_eq_true heq] at hexb hexb2
                        have Hh := Lib.hid (HH.out heq)
                        clear heq HF HO HH
                        go_wp2
                        go_region_held3 (fun W' => (convert 48 9 (.slice (some ⟨fg, 0, none⟩) FF.length fc)).run Tryd.prog W' = .ok (.string ⟨FF.toArray⟩) W') (exact HCv.out _ (Keeps.drew (Qt.refl _))) (fail)
                        have K4 := Lib.hid (Keeps.drew K3.out)
                        have hp4 : w3.drew.heap[wo.heap.size]? = some (.cells #[.bool P.b, .int .i64 P.n, .string P.s] 25 (0, 0)) := hp3
                        generalize w3.drew = w4 at *
                        have d : ∀ j, w4.cell? ⟨wo.heap.size, j, none⟩ = _ := fun j => cell_of_row _ _ _ _ _ _ hp4
                        have d0 := d 0
                        have d1 := d 1
                        have d2 := d 2
                        have HA := Lib.hid (fun o => Qt.trans K4.out ((Keeps.refl (fun _ => False) w4).alloc o))
                        clear d hp4 hp3 hw hnn hd hexb hexb2
                        go_wp2_with (at_builtin; refine wpList_append_cells0 _ rfl _ _ 22 rfl 25 i0 _ 3 32 Tryd.underlying22 hi hz0 hz1 hz2 rfl (by decide) _ ps.length _ rfl (Own.out _ (HA.out _)) ⟨w4.heap.size, 0, none⟩ 1 1 [.bool P.b, .int .i64 P.n, .string P.s] rfl rfl (World.news_of_block (cs := #[.bool P.b, .int .i64 P.n, .string P.s]) (heap_alloc_new w4 _)) H1.out (by unfold maxLen; omega) (by omega) ?_)
                        intro v' w5 hown hg hlat _
                        have fin := Lib.hid (Mo.out Hh.out (by omega) _ w5 v' (HA.out _) hg hlat hown)
                        clear hown hg hlat Mo d0 d1 d2
                        go_wp2
                        go_roundw
                        case rel => exact fin.out
                        case measure => simp [intOf]; omega
                      · rw [decide_eq_false heq] at hexb hexb2
                        have Fin := Lib.hid (fun W k => Bad.out (HO.out heq) W (Qt.trans (Since.qt HS.out) k) W.heap.size rfl)
                        clear heq HF HO HH Mo hp3
                        go_wp2
                        go_region_held3 (fun W' => (convert 48 9 (.slice (some ⟨fg, 0, none⟩) FF.length fc)).run Tryd.prog W' = .ok (.string ⟨FF.toArray⟩) W') (exact HCv.out _ (Keeps.drew (Qt.refl _))) (fail)
                        have K4 := Lib.hid (Keeps.drew K3.out)
                        generalize w3.drew = w4 at *
                        go_wp2
                        go_ret2
                        exact Fin.out _ K4.out
              · have hb0 : ((s[k].toNat : Int) != 0) = true := by
                  rw [bne, byte_eq0]; simpa using hx0
                have Own1 := Lib.hid (fun W (k2 : Qt wr W) => hb.own k2)
                have fin := Lib.hid (fun (v' : Value) (w2 w3 : World) (k2 : Qt wr w2) (hg : w2.grownBy w3 _) (hl : Later w2 _ v'.ownBlock) (hown : w3.ownsRow 0 5 1 v' (u.length + 1) (Lib.byteCells u ++ [.int .u8 (s[k].toNat : Nat)])) => show ScanAt s a W1 v' (.int .i64 ((k : Int) + 1)) w3 from
                  ⟨k + 1, u ++ [s[k]], by simp, by omega, by omega, by simp; omega, by rw [hsc, hdk, K.scanB_ne hx0]; simp, hb.app (m := [s[k]]) k2 hg hl hown⟩)
                clear hsc hdk hx0 hb
                go_wp2_with (at_builtin; refine wpList_append_cells0 _ rfl _ _ 48 rfl 5 i1 (.int .u8 0) 1 1 Tryd.underlying48 hi1 hy0 hy1 hy2 rfl (by decide) _ u.length (Lib.byteCells u) rfl (Own1.out _ (HA.out _)) ⟨wr.heap.size, 0, none⟩ 1 1 [.int .u8 (s[k].toNat : Nat)] rfl rfl (World.news_of_block (cs := #[.int .u8 (s[k].toNat : Nat)]) (heap_alloc_new wr _)) (by intro q hq; rw [List.mem_singleton.1 hq]; rfl) (by unfold maxLen; omega) (by omega) ?_)
                intro v' w3 hown hg hl _
                have fin2 := Lib.hid (fin.out v' _ w3 (HA.out _) hg hl hown)
                clear hown hg hl Own1 fin
                go_wp2
                go_roundw
                case rel => exact fin2.out
                case measure => simp [intOf]; omega
            · obtain rfl : k = s.size := by omega
              have hscan : K.scanB (s.data.toList.drop (a + 1)) = u := by
                rw [hsc, show s.data.toList.drop s.size = [] from List.drop_eq_nil_of_le (Nat.le_of_eq hlen)]; simp [K.scanB]
              clear hsc hk
              have hcv1 := own_conv hb.nb.own
              have hz1 : wr.heap[wo.heap.size]? = some (.cells #[.bool false, .int .i64 0, .string ⟨#[]⟩] 25 (0, 0)) := (hb.since.block _ (lt_of_block HZ.out) (fun e => by omega)).trans HZ.out
              have Ks := Lib.hid (show Qt wo wr from Qt.trans K0.out (Since.qt hb.since))
              have HR := Lib.hid (show Reads (s.data.toList.drop a) (.txt u) from hscan ▸ reads_txt (by rw [hdg, h2]))
              have Hpo := Lib.hid (show (ofPart (.txt u)).Ok from ⟨by simp [ofPart], by simp [ofPart], by simp only [ofPart, size_list]; omega⟩)
              clear hb hscan hdg h1 h2
              have hp2 := setRow_heap wr wo.heap.size _ #[.bool false, .int .i64 0, .string ⟨u.toArray⟩] 25 (0, 0) hz1
              have kf := Keeps.setRow (S := fun _ => False) (a := wo) Ks.out (g := wo.heap.size) (fun h => absurd h (by omega)) #[.bool false, .int .i64 0, .string ⟨u.toArray⟩]
              have d : ∀ j, (wr.setRow wo.heap.size #[.bool false, .int .i64 0, .string ⟨u.toArray⟩]).cell? ⟨wo.heap.size, j, none⟩ = _ := fun j => cell_of_row _ _ _ _ _ _ hp2
              have c0 := d 0
              have c1 := d 1
              have c2 := d 2
              have Hp2 := Lib.hid hp2
              clear d hp2
              go_wp2_with (refine wpList_store_row _ rfl 25 _ _ rfl wo.heap.size _ _ 25 rfl rfl hz1 (by kernel_rfl) rfl (part_one _ _ _) ?_)
              have hp2 := Hp2.out
              clear c0 c1 c2 Hp2 hz1 hcv1
              generalize wr.setRow wo.heap.size _ = W2 at *
              have K2 := Lib.hid kf
              clear kf

              have hp2 : _ = some (Obj.cells #[.bool (ofPart (K.PartD.txt u)).b, .int .i64 (ofPart (K.PartD.txt u)).n, .string (ofPart (K.PartD.txt u)).s] 25 (0, 0)) := hp2
              try go_wp2_with fail
              refine (form_any _ Hpo.out _).mono ?_
              rintro e w3 ⟨fv, rfl, hf, k3⟩
              rw [part_ofPart] at hf
              have hp3 := (k3.block _ (lt_of_block hp2) (fun e => e)).trans hp2
              have K3 := Lib.hid (Qt.trans K2.out k3)
              obtain ⟨fg, fc, rfl, _, _⟩ := hf.form (formB_ne _)
              have HCv := Lib.hid (fun W' (k : Qt w3 W') => own_conv (hf.qt k).own)
              have H1 := Lib.hid (ofPart_one (K.PartD.txt u))
              have hfl := formB_ne (K.PartD.txt u)
              have hF3 : (K.formB (K.PartD.txt u)).length ≤ 8388620 := by
                have := formB_le (ofPart (K.PartD.txt u))
                rw [part_ofPart] at this
                have := Hpo.out.s
                omega
              have HF := Lib.hid (fun h : s.size < a + (K.formB (K.PartD.txt u)).length => HR.out.over (by rw [List.length_drop]; omega))
              have HO := Lib.hid (fun h => HR.out.other h)
              have HH := Lib.hid (fun h => HR.out.hit h)
              have Mo := Lib.hid (fun hh hF w2 w3 v' k2 hg hlat hown => RSAt.more (s := s) (a := a) (p := (K.PartD.txt u)) (w2 := w2) (w3 := w3) (v' := v') hpl hF He.out HN.out HS.out hh k2 hg hlat hown)
              clear hf k3 hp2 HR Hpo
              have hex := Lib.extract_data s a (a + (K.formB (K.PartD.txt u)).length)
              rw [show a + (K.formB (K.PartD.txt u)).length - a = (K.formB (K.PartD.txt u)).length by omega] at hex
              have hexb : ((s.extract a (a + (K.formB (K.PartD.txt u)).length)).toList == (⟨(K.formB (K.PartD.txt u)).toArray⟩ : ByteArray).toList) = decide ((s.data.toList.drop a).take (K.formB (K.PartD.txt u)).length = K.formB (K.PartD.txt u)) := by
                rw [ByteArray.toList_eq, ByteArray.toList_eq, hex, Bool.eq_iff_iff]; simp
              generalize ofPart (K.PartD.txt u) = P at *
              generalize hFF : K.formB (K.PartD.txt u) = FF at *
              clear hFF hex
              have hexb2 : ((s.extract a (a + FF.length)).toList == FF) = decide ((s.data.toList.drop a).take FF.length = FF) := by
                have e : (⟨FF.toArray⟩ : ByteArray).toList = FF := by rw [ByteArray.toList_eq]
                rwa [e] at hexb
              have hw : IntKind.i64.wrap ((a : Int) + (FF.length : Int)) = (a : Int) + (FF.length : Int) := IntWalk.i64_in _ (by omega)
              have hnn : ((a : Int) + (FF.length : Int)).toNat = a + FF.length := by omega
              by_cases hov : s.size < a + FF.length
              · have hd : decide ((s.size : Int) < (a : Int) + (FF.length : Int)) = true := decide_eq_true (by omega)
                have hov' : (s.size : Int) < (a : Int) + (FF.length : Int) := by omega
                have Fin := Lib.hid (fun W k => Bad.out (HF.out hov) W (Qt.trans (Since.qt HS.out) k) W.heap.size rfl)
                clear hov HF HO HH Mo hexb hexb2 hp3
                go_wp2
                go_quiet (fail)
                have K4 := Lib.hid (K3.out.drewN nq)
                generalize w3.drewN nq = w4 at *
                go_wp2
                go_ret2
                exact Fin.out _ K4.out
              · have hd : decide ((s.size : Int) < (a : Int) + (FF.length : Int)) = false := decide_eq_false (by omega)
                have hov' : ¬ (s.size : Int) < (a : Int) + (FF.length : Int) := by omega
                have hb1 : (0 : Int) ≤ (a : Int) := by omega
                have hb2 : (a : Int) ≤ (a : Int) + (FF.length : Int) := by omega
                have hb3 : (a : Int) + (FF.length : Int) ≤ (s.size : Int) := by omega
                by_cases heq : (s.data.toList.drop a).take FF.length = FF
                · rw [decide_eq_true heq] at hexb hexb2
                  have Hh := Lib.hid (HH.out heq)
                  clear heq HF HO HH
                  go_wp2
                  go_region_held3 (fun W' => (convert 48 9 (.slice (some ⟨fg, 0, none⟩) FF.length fc)).run Tryd.prog W' = .ok (.string ⟨FF.toArray⟩) W') (exact HCv.out _ (Keeps.drew (Qt.refl _))) (fail)
                  have K4 := Lib.hid (Keeps.drew K3.out)
                  have hp4 : w3.drew.heap[wo.heap.size]? = some (.cells #[.bool P.b, .int .i64 P.n, .string P.s] 25 (0, 0)) := hp3
                  generalize w3.drew = w4 at *
                  have d : ∀ j, w4.cell? ⟨wo.heap.size, j, none⟩ = _ := fun j => cell_of_row _ _ _ _ _ _ hp4
                  have d0 := d 0
                  have d1 := d 1
                  have d2 := d 2
                  have HA := Lib.hid (fun o => Qt.trans K4.out ((Keeps.refl (fun _ => False) w4).alloc o))
                  clear d hp4 hp3 hw hnn hd hexb hexb2
                  go_wp2_with (at_builtin; refine wpList_append_cells0 _ rfl _ _ 22 rfl 25 i0 _ 3 32 Tryd.underlying22 hi hz0 hz1 hz2 rfl (by decide) _ ps.length _ rfl (Own.out _ (HA.out _)) ⟨w4.heap.size, 0, none⟩ 1 1 [.bool P.b, .int .i64 P.n, .string P.s] rfl rfl (World.news_of_block (cs := #[.bool P.b, .int .i64 P.n, .string P.s]) (heap_alloc_new w4 _)) H1.out (by unfold maxLen; omega) (by omega) ?_)
                  intro v' w5 hown hg hlat _
                  have fin := Lib.hid (Mo.out Hh.out (by omega) _ w5 v' (HA.out _) hg hlat hown)
                  clear hown hg hlat Mo d0 d1 d2
                  go_wp2
                  go_roundw
                  case rel => exact fin.out
                  case measure => simp [intOf]; omega
                · rw [decide_eq_false heq] at hexb hexb2
                  have Fin := Lib.hid (fun W k => Bad.out (HO.out heq) W (Qt.trans (Since.qt HS.out) k) W.heap.size rfl)
                  clear heq HF HO HH Mo hp3
                  go_wp2
                  go_region_held3 (fun W' => (convert 48 9 (.slice (some ⟨fg, 0, none⟩) FF.length fc)).run Tryd.prog W' = .ok (.string ⟨FF.toArray⟩) W') (exact HCv.out _ (Keeps.drew (Qt.refl _))) (fail)
                  have K4 := Lib.hid (Keeps.drew K3.out)
                  generalize w3.drew = w4 at *
                  go_wp2
                  go_ret2
                  exact Fin.out _ K4.out
        · have b2' : ((s[a].toNat : Int) == 2) = false := by simpa [h2] using b2
          have Fin := Lib.hid (Bad.out (headB_other (by rw [hdg]; rfl) h1 h2) _ (Qt.trans (Since.qt HS.out) K0.out) (wo.heap.size + 1) (by simp))
          clear b1 b2 h1 h2 hdg
          go_wp2
          go_ret2
          exact Fin.out
    · obtain rfl : a = s.size := by omega
      have hd : s.data.toList.drop s.size = [] := List.drop_eq_nil_of_le (Nat.le_of_eq hlen)
      have Fin := Lib.hid (show RSplitV s.data.toList w (.returned (.tuple #[_, .int .i64 0])) wr from ⟨Since.qt hS, .inl ⟨ps, _, by rw [he, hd, splitB_nil]; simp, by omega, hn, rfl⟩⟩)
      clear hn hS he hd hlt
      go_wp2
      go_ret2
      exact Fin.out
end Go.Proofs.YtfhfbpjhjigbnaaDoor
