/-
  The contract of remitmem.OwnTexts: lists in blocks apart are each their own.
-/
import Derived.Test.YtilhkbohemghlaaDoorPool
import Derived.Deep.RegionHeld3
import Derived.Deep.RegionLaw
namespace Go.Proofs.YtilhkbohemghlaaDoor
open Go.ChangeShapes Go.WideShapes Go.ChangeAt Go.RowKit
set_option maxRecDepth 100000

theorem infoTexts : (Tryd.prog.info? 28).map (fun i => (i.zero, i.size, i.bytes)) = some (some (.slice none 0 0), 1, 24) := by kernel_rfl

def MarkAt (n : Nat) (v : Value) (l : Nat → Value) (len : Nat → Nat) (w : World) (i : Value) (wr : World) : Prop :=
  ∃ k : Nat, k ≤ n ∧ i = .int .i64 k ∧ Apart n v l len (dOf len k 0) wr ∧ Keeps (fun b => ∃ j, j < n ∧ (l j).ownBlock = some b) w wr
def MarkIn (n k : Nat) (v : Value) (l : Nat → Value) (len : Nat → Nat) (w : World) (i : Value) (wr : World) : Prop :=
  ∃ t : Nat, t ≤ len k ∧ i = .int .i64 t ∧ Apart n v l len (dOf len k t) wr ∧ Keeps (fun b => ∃ j, j < n ∧ (l j).ownBlock = some b) w wr

theorem MarkIn.more {n k t b c : Nat} {v : Value} {l : Nat → Value} {len : Nat → Nat} {w wr W : World} (hk : k < n) (ht : t < len k) (hl : l k = .slice (some ⟨b, 0, none⟩) (len k) c) (h : Apart n v l len (dOf len k t) wr) (hK : Keeps (fun b => ∃ j, j < n ∧ (l j).ownBlock = some b) w wr) (k1 : Keeps (fun _ => False) wr W) :
    MarkIn n k v l len w (.int .i64 ((t + 1 : Nat) : Int)) (W.setCell ⟨b, t, none⟩ (strV (wordL (k : Nat) (t : Nat)))) :=
  ⟨t + 1, ht, rfl, (h.quiet k1).mark hk hl ht, (hK.trans k1 (fun _ _ e => e.elim)).setCell (p := ⟨b, t, none⟩) (fun _ => ⟨k, hk, by rw [hl]; rfl⟩) _⟩

def GrowAt (n : Nat) (v gv : Value) (l : Nat → Value) (len : Nat → Nat) (B : Nat) (w : World) (i : Value) (wr : World) : Prop :=
  ∃ t : Nat, t ≤ 80 ∧ i = .int .i64 t ∧ ∃ G, Pool n v gv l len B G (cOf len t 0) wr ∧ Keeps (fun b => (∃ j, j < n ∧ (l j).ownBlock = some b) ∨ B ≤ b) w wr
def GrowIn (n t : Nat) (v gv : Value) (l : Nat → Value) (len : Nat → Nat) (B : Nat) (w : World) (i : Value) (wr : World) : Prop :=
  ∃ k : Nat, k ≤ n ∧ i = .int .i64 k ∧ ∃ G, Pool n v gv l len B G (cOf len t k) wr ∧ Keeps (fun b => (∃ j, j < n ∧ (l j).ownBlock = some b) ∨ B ≤ b) w wr

theorem GrowIn.more {n t k B gg cg g' cap' : Nat} {v : Value} {l G : Nat → Value} {len : Nat → Nat} {w wr w2 w3 : World} (hk : k < n) (hB : B ≤ wr.heap.size) (h : Pool n v (.slice (some ⟨gg, 0, none⟩) n cg) l len B G (cOf len t k) wr) (hK : Keeps (fun b => (∃ j, j < n ∧ (l j).ownBlock = some b) ∨ B ≤ b) w wr) (k2 : Keeps (fun _ => False) wr w2)
    (hown : w3.ownsRow 0 9 1 (.slice (some ⟨g', 0, none⟩) (cOf len t k k + 1) cap') (cOf len t k k + 1) ((marksOf k (cOf len t k k)).map strV ++ [strV (wordL (k : Nat) (cOf len t k k : Nat))]))
    (hc : (some g' = (G k).ownBlock ∧ w2.grownBy w3 (G k).ownBlock) ∨ (w2.heap.size ≤ g' ∧ w2.grownBy w3 none)) :
    (w3.cell? ⟨gg, k, none⟩ = some (G k) ∧ w3.frozen? ⟨gg, k, none⟩ = false) ∧
    GrowIn n t v (.slice (some ⟨gg, 0, none⟩) n cg) l len B w (.int .i64 ((k + 1 : Nat) : Int)) (w3.setCell ⟨gg, k, none⟩ (.slice (some ⟨g', 0, none⟩) (cOf len t k k + 1) cap')) := by
  obtain ⟨q1, q2, q3⟩ := h.grow hk rfl k2 hB hown hc
  refine ⟨q1, k + 1, hk, rfl, upd G k (.slice (some ⟨g', 0, none⟩) (cOf len t k k + 1) cap'), ?_, hK.trans q3 (fun b _ e => e.imp (fun e => ⟨k, hk, e⟩) id)⟩
  rw [show cOf len t (k + 1) = upd (cOf len t k) k (cOf len t k k + 1) by rw [← cOf_upd, cOf_at]]
  exact q2

set_option maxHeartbeats 6400000 in
theorem ownT_any (v : Value) (n : Nat) (l : Nat → Value) (len : Nat → Nat) (w : World) (hA : Apart n v l len (dOf len 0 0) w) (hn : n ≤ 1073741824) (hlen : ∀ j, j < n → len j ≤ 1099511627776) :
    Calls Tryd.prog 20 #[v] w fun e w' => e = .returned (.bool true) ∧ Keeps (fun b => ∃ j, j < n ∧ (l j).ownBlock = some b) w w' := by
  obtain ⟨av, cv, rfl, hav⟩ := own_shape1 hA.lists
  have Hav := Lib.hid hav
  have Hlen := Lib.hid hlen
  have HA := Lib.hid hA
  clear hav hlen hA
  go_enter Tryd.func20, Tryd.ntmps20
  go_wp2
  go_loopw [15] (fun i wr => MarkAt n (.slice av n cv) l len w i wr) (fun i _ => n - (intOf i).toNat)
  case atStart => exact ⟨0, Nat.zero_le _, rfl, HA.out, Keeps.refl _ _⟩
  case round =>
    obtain ⟨k, hk, rfl, ha, hK⟩ := hrel
    obtain ⟨wo, rfl⟩ : ∃ wo : World, wo = wr := ⟨_, rfl⟩
    by_cases hlt : k < n
    · obtain ⟨gl, rfl⟩ := Hav.out (by omega)
      obtain ⟨al, cl, hl, hal⟩ := ha.shape hlt
      have hc := (own_cell ha.lists (map_range_get l hlt)).1
      rw [hl] at hc
      have hlk := Hlen.out k hlt
      have Ha := Lib.hid ha
      have HK := Lib.hid hK
      have Hl := Lib.hid hl
      have Hal := Lib.hid hal
      clear ha hK hl hal
      generalize hm : len k = m at hc hlk
      have Hm := Lib.hid hm
      clear hm
      go_wp2
      go_loopw [22] (fun i wr => MarkIn n k (.slice (some ⟨gl, 0, none⟩) n cv) l len w i wr) (fun i _ => m - (intOf i).toNat)
      case atStart => exact ⟨0, Nat.zero_le _, rfl, Ha.out, HK.out⟩
      case round =>
        obtain ⟨t, ht, rfl, ha, hK⟩ := hrel
        rw [Hm.out] at ht
        by_cases htl : t < m
        · obtain ⟨bl, rfl⟩ := Hal.out (by rw [Hm.out]; omega)
          have Ha2 := Lib.hid ha
          have HK2 := Lib.hid hK
          clear ha hK
          go_wp2_with fail
          refine (word_spec k t wr).mono ?_
          rintro e W ⟨rfl, k1⟩
          have hl' := Hl.out
          obtain ⟨⟨u0, hu⟩, hz⟩ := (Ha2.out.quiet k1).slot hlt hl' (t := t) (by rw [Hm.out]; exact htl)
          have fin := Lib.hid (MarkIn.more hlt (by rw [Hm.out]; exact htl) hl' Ha2.out HK2.out k1)
          have htl' : (t : Int) < (m : Int) := by omega
          clear k1 hl' hc
          go_wp2
          go_roundw
          case rel => exact fin.out
          case measure => simp [intOf]; omega
        · obtain rfl : t = m := by omega
          have fin : MarkAt n (.slice (some ⟨gl, 0, none⟩) n cv) l len w (.int .i64 ((k + 1 : Nat) : Int)) wr := ⟨k + 1, hlt, rfl, by rw [← dOf_next, Hm.out]; exact ha, hK⟩
          have Fin := Lib.hid fin
          clear fin ha hK htl
          go_wp2
          go_roundw
          case rel => exact Fin.out
          case measure => simp [intOf]; omega
    · obtain rfl : n = k := by omega
      obtain ⟨i0, hi, hz0, hz1, hz2⟩ := info_parts infoTexts
      have hsz := hK.size
      have Ha := Lib.hid ha
      have HK := Lib.hid hK
      have hnews : (List.range n).map l ≠ [] → ∃ ad, av = some ad ∧ ∀ (j : Nat) u, ((List.range n).map l)[j]? = some u → (wo.alloc (.cells #[] 28)).cell? (ad.add j) = some u := by
        intro hne
        have h0 : 0 < n := by
          rcases Nat.eq_zero_or_pos n with e | e
          · subst e; exact absurd rfl hne
          · exact e
        obtain ⟨gl, rfl⟩ := Hav.out h0
        refine ⟨_, rfl, fun j u hj => ?_⟩
        have h1 := (own_cell ha.lists hj).1
        rw [add_plain, Nat.zero_add]
        rw [((Keeps.refl (fun _ => False) wo).alloc (.cells #[] 28)).cell (World.block_lt_of_cell? _ _ h1) (fun e => e)]
        exact h1
      have Hnews := Lib.hid hnews
      have hones : ∀ u ∈ (List.range n).map l, u.oneCell' = true := by
        intro u hu
        obtain ⟨j, hj, rfl⟩ := List.mem_map.1 hu
        obtain ⟨a, c, e, _⟩ := ha.shape (List.mem_range.1 hj)
        rw [e]; rfl
      have Hones := Lib.hid hones
      have hrl : ((List.range n).map l).length = n := by simp
      have Hrl := Lib.hid hrl
      have hown0 := World.ownsRow_made (base := 0) (size := 1) (e := 28) wo #[] 0 (Nat.zero_le _) (by unfold maxLen; omega) (by simp)
      clear ha hK hnews hones hrl hlt hk
      generalize hRL : (List.range n).map l = RL at *
      have HRL := Lib.hid hRL
      clear hRL
      go_wp2_with (at_builtin; refine wpList_append_list _ rfl _ _ 39 rfl 28 i0 (.slice none 0 0) 24 Tryd.underlying39 hi hz0 hz1 hz2 rfl _ 0 [] rfl hown0 av n cv RL rfl Hrl.out.symm Hnews.out Hones.out (by rw [Hrl.out]; unfold maxLen; omega) (by rw [Hrl.out]; omega) ?_)
      intro gv W2 hown2 hg2 hl2
      have k2 : Keeps (fun _ => False) wo W2 := Keeps.fresh (((Keeps.refl (fun b => wo.heap.size ≤ b) wo).alloc _).grown hg2 (fun j _ e => by simp [Value.ownBlock] at e; omega))
      have hgn : ∀ b, gv.ownBlock = some b → wo.heap.size ≤ b := by
        intro b e
        rcases hl2 with q | ⟨g, q, hge⟩
        · rw [q] at e; simp [Value.ownBlock] at e; omega
        · rw [q] at e; injection e with e; rw [World.size_alloc] at hge; omega
      have hgo : W2.ownsRow 0 28 1 gv n ((List.range n).map l) := by rw [HRL.out]; simpa [Hrl.out] using hown2
      have hP : Pool n (.slice av n cv) gv l len wo.heap.size l len W2 := Pool.start Ha.out (fun j hj => by unfold dOf; rw [if_pos hj]) k2 hgo (Nat.le_refl _) hgn
      have K2 := Lib.hid (HK.out.trans (k2.mono (T := fun b => ∃ j, j < n ∧ (l j).ownBlock = some b) (fun _ _ e => e.elim)) (fun _ _ e => e))
      have hz2' := k2.size
      clear hown2 hg2 hl2 hown0 hgn Hnews Hones Hrl HRL k2 HK HA Ha
      obtain ⟨ag, cg, rfl, hag⟩ := own_shape1 hgo
      have Hag := Lib.hid hag
      have HP := Lib.hid hP
      have hB := hsz
      generalize wo.heap.size = B at *
      clear hag hP hgo hi hz0 hz1 hz2
      obtain ⟨i1, hi, hz0, hz1, hz2⟩ := info_parts infoString
      go_wp2
      go_loopw [7] (fun i wr => GrowAt n (.slice av n cv) (.slice ag n cg) l len B W2 i wr) (fun i _ => 80 - (intOf i).toNat)
      case atStart => exact ⟨0, by omega, rfl, l, HP.out.congr (fun j _ => by simp [cOf]), Keeps.refl _ _⟩
      case round =>
        obtain ⟨t, ht, rfl, G, hP, hK⟩ := hrel
        obtain ⟨wp, rfl⟩ : ∃ wp : World, wp = wr := ⟨_, rfl⟩
        by_cases hlt : t < 80
        · have HP' := Lib.hid hP
          have HK' := Lib.hid hK
          have Hdt := Lib.hid (show decide ((t : Int) < 80) = true by simp; omega)
          clear hP hK
          go_wp2
          rw [Hdt.out]
          go_loopw [42] (fun i wr => GrowIn n t (.slice av n cv) (.slice ag n cg) l len B W2 i wr) (fun i _ => n - (intOf i).toNat)
          case atStart => exact ⟨0, Nat.zero_le _, rfl, G, HP'.out, HK'.out⟩
          case round =>
            obtain ⟨k, hk, rfl, G', hP, hK⟩ := hrel
            by_cases hkn : k < n
            · obtain ⟨gg, rfl⟩ := Hag.out (by omega)
              obtain ⟨a, c, hG, _⟩ := own_shape1 (hP.each k hkn)
              have hc := (own_cell hP.grown (map_range_get G' hkn)).1
              have hlk := Hlen.out k hkn
              have hwB : B ≤ wr.heap.size := by have := hK.size; omega
              have Hown := Lib.hid (fun (W : World) (q : Keeps (fun _ => False) wr W) => hG ▸ (hP.quiet q).each k hkn)
              have Hcell := Lib.hid (fun (W : World) (q : Keeps (fun _ => False) wr W) => hG ▸ (own_cell (hP.quiet q).grown (map_range_get G' hkn)).1)
              have Hgrow := Lib.hid (fun (w2 w3 : World) (g' cap' : Nat) (q : Keeps (fun _ => False) wr w2) (ho) (hcc) => GrowIn.more (w3 := w3) (g' := g') (cap' := cap') hkn hwB hP hK q ho hcc)
              rw [hG] at hc Hgrow
              generalize hm : cOf len t k k = m at hc Hown Hcell Hgrow
              have hm' : m ≤ 1099511627900 := by rw [cOf_at] at hm; omega
              have Hm := Lib.hid hm
              clear hP hK hG hm
              go_wp2
              go_region_law (first | (go_simp; go_at_call 62; refine (word_spec _ _ _).mono ?_; rintro e w' ⟨rfl, k3⟩; have hc' := Hcell.out _ ((Keeps.refl _ _).drew.trans k3 (fun _ _ e => e)); have hc2 := Hcell.out _ (((Keeps.refl _ _).drew.trans k3 (fun _ _ e => e)).alloc (.cells #[.string ⟨(wordL (k : Nat) (m : Nat)).toArray⟩] 9))) | (refine step_append_one _ (by rfl) _ _ _ (by rfl) 9 i1 (.string ⟨#[]⟩) 16 Tryd.underlying28 hi hz0 hz1 hz2 rfl _ m _ (by rfl) (Hown.out _ (((Keeps.refl _ _).drew.trans k3 (fun _ _ e => e)).alloc _)) ⟨w'.heap.size, 0, none⟩ 1 (strV (wordL (k : Nat) (m : Nat))) (by rfl) (World.news_of_block (cs := #[strV (wordL (k : Nat) (m : Nat))]) (heap_alloc_new w' _)) rfl (by unfold maxLen; omega) (by omega) ?_; intro g' cap' w4 hown4 hcase4; obtain ⟨⟨q1, q2⟩, q3⟩ := Hgrow.out _ w4 g' cap' (((Keeps.refl _ _).drew.trans k3 (fun _ _ e => e)).alloc _) hown4 hcase4))
              all_goals
                have Fin := Lib.hid q3
                clear q1 q2 q3 hown4 hcase4 k3 hc hc' hc2
                go_wp2
                go_roundw
                case rel => exact Fin.out
                case measure => simp [intOf]; omega
            · obtain rfl : n = k := by omega
              have fin : GrowAt n (.slice av n cv) (.slice ag n cg) l len B W2 (.int .i64 ((t + 1 : Nat) : Int)) wr := ⟨t + 1, hlt, rfl, G', hP.congr (fun j hj => by unfold cOf; rw [if_pos hj, if_neg (by omega)]; omega), hK⟩
              have Fin := Lib.hid fin
              clear fin hP hK hkn
              go_wp2
              go_roundw
              case rel => exact Fin.out
              case measure => simp [intOf]; omega
        · obtain rfl : t = 80 := by omega
          have HPq := Lib.hid (fun (W : World) (q : Keeps (fun _ => False) wp W) => hP.quiet q)
          have HK' := Lib.hid hK
          clear hP hK hlt ht
          rw [show ((80 : Nat) : Int) = 80 from rfl]
          go_wp2
          go_loopw [65] (fun i wr => ∃ k : Nat, k ≤ n ∧ i = .int .i64 k ∧ Keeps (fun _ => False) wp wr) (fun i _ => n - (intOf i).toNat)
          case atStart => exact ⟨0, Nat.zero_le _, rfl, Keeps.refl _ _⟩
          case round =>
            obtain ⟨k, hk, rfl, hq⟩ := hrel
            obtain ⟨wq, rfl⟩ : ∃ wq : World, wq = wr := ⟨_, rfl⟩
            by_cases hkn : k < n
            · obtain ⟨gg, rfl⟩ := Hag.out (by omega)
              obtain ⟨gl, rfl⟩ := Hav.out (by omega)
              obtain ⟨a, c, hG, ha⟩ := own_shape1 ((HPq.out wq hq).each k hkn)
              obtain ⟨al, cl, hL, haL⟩ := (HPq.out wq hq).shapeL k hkn
              have hc := (own_cell (HPq.out wq hq).grown (map_range_get G hkn)).1
              have hlk := Hlen.out k hkn
              have hcm : cOf len 80 0 k = len k + 80 := by unfold cOf; rw [if_neg (by omega)]
              obtain ⟨b, rfl⟩ := ha (by omega)
              have HaL := Lib.hid haL
              have HlL := Lib.hid (fun (W : World) (q : Keeps (fun _ => False) wp W) => hL ▸ (own_cell (HPq.out W q).lists (map_range_get l hkn)).1)
              have Hmk := Lib.hid (fun (W : World) (q : Keeps (fun _ => False) wp W) (j : Nat) (hj : j < cOf len 80 0 k) => (own_cell (hG ▸ (HPq.out W q).each k hkn) (marksOf_get hj)).1)
              have Hold := Lib.hid (fun (W : World) (q : Keeps (fun _ => False) wp W) (bl : Nat) (e : (l k).ownBlock = some bl) (j : Nat) (hj : j < len k) => (HPq.out W q).old k hkn bl e j hj)
              rw [hL] at Hold
              rw [hG] at hc
              have Hq := Lib.hid hq
              clear hq hG hL haL ha
              have Hcm := Lib.hid hcm
              clear hcm
              generalize cOf len 80 0 k = m at *
              generalize len k = L at *
              go_wp2
              go_loopw [72] (fun i wr => ∃ j : Nat, j ≤ m ∧ i = .int .i64 j ∧ Keeps (fun _ => False) wp wr) (fun i _ => m - (intOf i).toNat)
              case atStart => exact ⟨0, Nat.zero_le _, rfl, Hq.out⟩
              case round =>
                obtain ⟨j, hj, rfl, hq2⟩ := hrel
                have Hq2 := Lib.hid hq2
                by_cases hjm : j < m
                · have hmb : m ≤ 1099511627900 := by have := Hcm.out; omega
                  have hcj : wr.cell? ⟨b, j, none⟩ = some (.string ⟨(wordL (k : Nat) (j : Nat)).toArray⟩) := Hmk.out wr hq2 j hjm
                  have hjm' : (j : Int) < (m : Int) := by omega
                  have Hcw := Lib.hid (fun (W : World) (q : Keeps (fun _ => False) wr.drew W) => show W.cell? ⟨b, j, none⟩ = some (.string ⟨(wordL (k : Nat) (j : Nat)).toArray⟩) from Hmk.out W (Hq2.out.drew.trans q (fun _ _ e => e)) j hjm)
                  clear hq2 hc
                  go_wp2
                  go_region_held3 (fun w' => w'.cell? ⟨b, j, none⟩ = some (.string ⟨(wordL (k : Nat) (j : Nat)).toArray⟩)) (first | go_keep | exact Hcw.out _ k3)
                    ((go_at_call 62; refine (word_spec _ _ _).mono ?_; rintro e w' ⟨rfl, k3⟩))
                  have hq3 := Hq2.out.drew.trans k3 (fun _ _ e => e)
                  have hc1 : w'.cell? ⟨b, j, none⟩ = some (.string ⟨(wordL (k : Nat) (j : Nat)).toArray⟩) := Hmk.out w' hq3 j hjm
                  have hc2 := HlL.out w' hq3
                  have Hq3 := Lib.hid hq3
                  clear k3 hq3 hcj
                  by_cases hjL : j < L
                  · obtain ⟨bl, rfl⟩ := HaL.out (by omega)
                    have hc3 : w'.cell? ⟨bl, j, none⟩ = some (.string ⟨(wordL (k : Nat) (j : Nat)).toArray⟩) := Hold.out w' Hq3.out bl rfl j hjL
                    have hd : decide (j < L) = true := by simpa using hjL
                    go_wp2
                    go_quiet (fail)
                    have fin := Lib.hid (Hq3.out.drewN nq)
                    clear hc1 hc2 hc3
                    go_wp2
                    go_roundw
                    case rel => exact ⟨j + 1, by omega, by go_num, fin.out⟩
                    case measure => simp [intOf]; omega
                  · have hd : decide (j < L) = false := by simpa using hjL
                    go_wp2
                    go_quiet (fail)
                    have fin := Lib.hid (Hq3.out.drewN nq)
                    clear hc1 hc2
                    go_wp2
                    go_roundw
                    case rel => exact ⟨j + 1, by omega, by go_num, fin.out⟩
                    case measure => simp [intOf]; omega
                · have hmb : m ≤ 1099511627900 := by have := Hcm.out; omega
                  obtain rfl : j = m := by omega
                  clear hq2 hjm hc
                  go_wp2
                  go_roundw
                  case rel => exact ⟨k + 1, by omega, by go_num, Hq2.out⟩
                  case measure => simp [intOf]; omega
            · obtain rfl : n = k := by omega
              have fin := Lib.hid ((K2.out.trans (HK'.out.mono (T := fun b => (∃ j, j < n ∧ (l j).ownBlock = some b) ∨ B ≤ b) (fun _ _ e => e)) (S := fun b => ∃ j, j < n ∧ (l j).ownBlock = some b) (fun b hb e => e.elim id (fun e => by omega))).trans hq (fun _ _ e => e.elim))
              clear hq hkn
              go_wp2
              go_ret
              exact ⟨rfl, fin.out⟩
end Go.Proofs.YtilhkbohemghlaaDoor
