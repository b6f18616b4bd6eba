/-
  The contract of remitlaw10.JournalLeaves: it answers true.
  Rows within what came in: each within reach; []bool, Fates.
  Layer 10's rows that came in: numbers, Lives.
-/
import Derived.Test.YtggogaaooacooaaDoorP45
import Derived.Test.YtggogaaooacooaaDoorP33
import Derived.Test.YtggogaaooacooaaDoorP09
import Derived.Deep.Slices
import Derived.OpenShut
import Derived.Lib.SmallJoins
import Derived.Test.YtggogaaooacooaaDoorP44
namespace Go.Proofs.YtggogaaooacooaaDoor
open Go.RowKit Go.WideShapes
set_option maxRecDepth 100000

theorem laid_lf (w : World) (o : LfV) : ∃ W, w.alloc (.cells #[.int .i64 o.more, o.sv, o.yv, .int .i64 o.arm, o.kv, .int .i64 o.f.torn, .int .i64 o.f.bytes] 64) = W ∧ Qt w W ∧ W.heap[w.heap.size]? = some (.cells o.list.toArray 64 (0, 0)) :=
  ⟨_, rfl, (Qt.refl w).alloc _, heap_alloc_new w _⟩
theorem lf_cells {g : Nat} {o : LfV} {W : World} (h : W.heap[g]? = some (.cells o.list.toArray 64 (0, 0))) : W.cell? ⟨g, 0, none⟩ = some (.int .i64 o.more) ∧ W.cell? ⟨g, 1, none⟩ = some o.sv ∧ W.cell? ⟨g, 2, none⟩ = some o.yv ∧ W.cell? ⟨g, 3, none⟩ = some (.int .i64 o.arm) ∧ W.cell? ⟨g, 4, none⟩ = some o.kv ∧ W.cell? ⟨g, 5, none⟩ = some (.int .i64 o.f.torn) ∧ W.cell? ⟨g, 6, none⟩ = some (.int .i64 o.f.bytes) := by
  have hc : ∀ (i : Nat) (v : Value), o.list[i]? = some v → W.cell? ⟨g, i, none⟩ = some v := fun i v hv => by rw [cell_of_row _ _ _ _ _ _ h]; simpa using hv
  exact ⟨hc 0 _ rfl, hc 1 _ rfl, hc 2 _ rfl, hc 3 _ rfl, hc 4 _ rfl, hc 5 _ rfl, hc 6 _ rfl⟩
/-- What the loop keeps. -/
def LeavesAt (w0 : World) (b i n N : Nat) (vv iv : Value) (wr : World) : Prop :=
  ∃ (k ver : Nat) (d : DS), k ≤ N ∧ iv = .int .i64 k ∧ vv = .int .i64 ver ∧ k ≤ ver ∧ ver ≤ 549755813888 ∧ DK (fun g => wr.heap.size ≤ g) w0 wr b d ∧ d.ways = [] ∧ d.off = false ∧ J.Backs d.dur i n ver ∧ d.FewM 0 (64 * k) ∧ d.dur.length = 40
theorem lv_n1 {n : Nat} (h : n ≤ 29) : (n : Int) ≤ 9223372036854775807 := by omega
theorem lv_n2 {n : Nat} (h : n ≤ 29) : n < 65536 := by omega
theorem lv_n3 {n : Nat} (h : n ≤ 29) : n ≤ 64 := by omega
theorem lv_u {u : Nat} (h : u ≤ 549755813888) : u + 1 ≤ 1099511627776 := by omega
theorem lv_u0 {u : Nat} (h : u ≤ 549755813888) : u ≤ 1099511627776 := by omega
theorem lv_u2 {u : Nat} (h : u ≤ 549755813888) : u ≤ 140737488355328 := by omega
theorem lv_m {k u : Nat} (h : k + 1 ≤ u) (h2 : u ≤ 549755813888) : 64 * k ≤ 288230376151711744 := by omega
theorem lv_m2 {k : Nat} : 64 * k + 64 ≤ 64 * (k + 1) := by omega
theorem lv_big {u : Nat} (h : 549755813888 < u) : decide (549755813888 < (u : Int)) = true := decide_eq_true (by omega)
theorem lv_big' {u : Nat} (h : ¬ 549755813888 < u) : decide (549755813888 < (u : Int)) = false := decide_eq_false (by omega)
theorem lv_ver {ver mm : Nat} (h : ver ≤ 549755813888) (hm : mm < 1000) : wrap64 (1 + (mm : Int)) = 1 + (mm : Int) ∧ wrap64 ((ver : Int) + (1 + (mm : Int))) = ((ver + (1 + mm) : Nat) : Int) := by
  unfold wrap64; omega

set_option maxHeartbeats 3200000 in
theorem leavesJ_any (ad : Nat → Addr) (y z : Int) (v : Value) (g off : Nat) (os : List LfV) (w : World) (hN : os.length ≤ 17592186044416) (hok : ∀ (k : Nat) (o : LfV), os[k]? = some o → o.Ok w) (hs : Recs 7 LfV.list w v g off os) (hE : Errs ad w) (hT : Tab w) :
    Calls Tryd.prog 6 #[.int .i64 y, .int .i64 z, v] w fun e w' => e = .returned (.bool true) ∧ Qt w w' := by
  have HE := Lib.hid hE
  have HT := Lib.hid hT
  have HSC := Lib.hid hs
  have HOK := Lib.hid hok
  have HNN := Lib.hid hN
  have FX := fixedJ_any ad w hE hT
  obtain ⟨va, vc, rfl, _⟩ := hs.val
  have hmy : wrap64 ((IntKind.u64.wrap y).tmod 5) = (modU y 5 : Int) := modU_wrap y 5 (by decide) (by decide)
  have hmz : wrap64 ((IntKind.u64.wrap z).tmod 30) = (modU z 30 : Int) := modU_wrap z 30 (by decide) (by decide)
  have hi5 : modU y 5 ≤ 4 := by have : modU y 5 < 5 := Nat.mod_lt _ (by decide); omega
  have hn30 : modU z 30 ≤ 29 := by have : modU z 30 < 30 := Nat.mod_lt _ (by decide); omega
  generalize modU y 5 = i at *
  generalize modU z 30 = n at *
  have HB := Lib.hid (show i ≤ 4 ∧ n ≤ 29 from ⟨hi5, hn30⟩)
  clear hok hs hE hT hN hi5 hn30
  go_enter Tryd.func6, Tryd.ntmps6
  go_wp2_with fail
  refine FX.mono ?_
  rintro e w1 ⟨rfl, q1⟩
  have K1 := Lib.hid q1
  clear q1 FX
  go_wp2_with fail
  refine (new_any ad 40 w1 (HE.out.kept K1.out (OffErrs.none ad))).mono ?_
  rintro e w2 (⟨hno, rfl, q2⟩ | ⟨n1, n2, b, rfl, hD, q2⟩)
  · exact absurd ⟨by decide, by decide⟩ hno
  have D2 := Lib.hid (show DK (fun g => w2.heap.size ≤ g) w w2 b (DS.newD 40) from dk_new K1.out hD q2)
  have START := Lib.hid (show LeavesAt w b i n os.length (.int .i64 0) (.int .i64 0) w2 from
    ⟨0, 0, DS.newD 40, Nat.zero_le _, rfl, rfl, Nat.le_refl _, Nat.zero_le _, D2.out, rfl, rfl, J.backs_new (by have := HB.out; omega), ⟨Nat.le_refl _, Nat.le_refl _, Nat.le_refl _, Nat.le_refl _⟩, by simp [DS.newD]⟩)
  clear hD q2 D2 K1
  go_wp2
  go_loopw [9, 36] (fun vv iv wr => LeavesAt w b i n os.length vv iv wr) (fun _ iv _ => os.length - (intOf iv).toNat)
  case atStart => exact START.out
  case round =>
    obtain ⟨k, ver, d, hk, rfl, rfl, hkv, hver, hDK, hways, hoff, hBk, hfew, hlen⟩ := hrel
    by_cases hlt : k < os.length
    · obtain ⟨o, cap, ho, hval⟩ := HSC.out.elem hlt
      injection hval with hva _ hvc
      subst hva hvc
      have HO := HOK.out k o ho
      have hq := hDK.since.qt
      have c0 : wr.cell? ⟨g, off + k * 7, none⟩ = some (.int .i64 o.more) := HSC.out.qt hq ho 0 _ rfl
      have c1 := HSC.out.qt hq ho 1 o.sv rfl
      have c2 := HSC.out.qt hq ho 2 o.yv rfl
      have c3 := HSC.out.qt hq ho 3 (.int .i64 o.arm) rfl
      have c4 := HSC.out.qt hq ho 4 o.kv rfl
      have c5 := HSC.out.qt hq ho 5 (.int .i64 o.f.torn) rfl
      have c6 := HSC.out.qt hq ho 6 (.int .i64 o.f.bytes) rfl
      obtain ⟨WA, hWA, qA, hBA⟩ := laid_lf wr o
      obtain ⟨d0, d1, d2, d3, d4, d5, d6⟩ := lf_cells hBA
      have HWA := Lib.hid hWA
      have zlt := sj_lt hlt
      have zlt' : decide (k < os.length) = true := decide_eq_true hlt
      obtain ⟨ik0, ik1⟩ := sj_in hlt
      have hk1 := sj_w1b (k := k) (Nat.le_trans (Nat.le_of_lt hlt) (Nat.le_trans HNN.out (by decide)))
      have hmm : wrap64 ((IntKind.u64.wrap o.more).tmod 1000) = (modU o.more 1000 : Int) := modU_wrap o.more 1000 (by decide) (by decide)
      have hml : modU o.more 1000 < 1000 := Nat.mod_lt _ (by decide)
      obtain ⟨hv1, hv2⟩ := lv_ver hver hml
      obtain ⟨mm, hmmE⟩ : ∃ mm, modU o.more 1000 = mm := ⟨_, rfl⟩
      rw [hmmE] at hmm hml hv1 hv2
      obtain ⟨u, hu⟩ : ∃ u, ver + (1 + mm) = u := ⟨_, rfl⟩
      rw [hu] at hv2
      have HLT := Lib.hid hlt
      have HME := Lib.hid (sj_meas hlt)
      have HKU := Lib.hid (show k + 1 ≤ u ∧ ver < u from ⟨by omega, by omega⟩)
      have DA := Lib.hid (show DK (fun x => WA.heap.size ≤ x) w WA b d from (hDK.qt qA).more (fun x e => .inl (Nat.le_trans qA.size e)))
      have HBK := Lib.hid hBk
      have HFW := Lib.hid hfew
      have HWY := Lib.hid hways
      have HOF := Lib.hid hoff
      have HLN := Lib.hid hlen
      have HOO := Lib.hid HO
      obtain ⟨sa, sc, hsv, _⟩ := HO.sizes
      obtain ⟨ya, yc, hyv, _⟩ := HO.syncs
      obtain ⟨ka, kc, hkvv, _⟩ := HO.kept
      clear hWA qA hBA hDK HO ho hq hBk hfew hways hoff hlen hmmE hkv hlt hk hml hver
      obtain ⟨more, sv, sizes, yv, syncs, arm, kv, ft⟩ := o
      simp only at hsv hyv hkvv
      subst hsv hyv hkvv
      simp only at c0 c1 c2 c3 c4 c5 c6 d0 d1 d2 d3 d4 d5 d6 HWA hmm
      by_cases hbig : 549755813888 < u
      · have zb : decide (549755813888 < (u : Int)) = true := lv_big hbig
        have zb' : decide (549755813888 < u) = true := decide_eq_true hbig
        have FIN := Lib.hid DA.out.since.qt
        clear hbig hu
        go_wp2_with fail
        rw [HWA.out]
        go_wp2
        go_ret
        exact ⟨rfl, FIN.out⟩
      · have zb : decide (549755813888 < (u : Int)) = false := lv_big' hbig
        have HUB := Lib.hid (Nat.le_of_not_lt hbig)
        have zb' : decide (549755813888 < u) = false := decide_eq_false hbig
        have LV := Lib.hid (livesJ_any (m := 64 * k) (v := u) HE.out HT.out DA.out HWY.out HOF.out HBK.out HKU.out.2 (lv_u0 HUB.out) (lv_n3 HB.out.2) HFW.out (lv_m HKU.out.1 HUB.out) (k : Int) ⟨more, .slice sa sizes.length sc, sizes, .slice ya syncs.length yc, syncs, arm, .slice ka ft.kept.length kc, ft⟩ HOO.out)
        have wu1 := sj_w1b (k := u) (lv_u2 HUB.out)
        clear hbig hu HOO
        go_wp2_with fail
        rw [HWA.out]
        go_wp2_with fail
        refine LV.out.mono ?_
        rintro e w5 ⟨rfl, d', dk5, hB5, hf5, hc5, hl5, hw5, ho5⟩
        have DK5 := Lib.hid dk5
        have LR := J.later_replay hB5 hw5 ho5 (Nat.lt_succ_self u) (lv_u HUB.out) (lv_n2 HB.out.2)
        have RP := dk_replay HE.out HT.out dk5 (i : Int) (n : Int) ((u : Int) + 1) (lv_n1 HB.out.2)
        rw [show (u : Int) + 1 = ((u + 1 : Nat) : Int) from rfl, LR, show ((u + 1 : Nat) : Int) = (u : Int) + 1 from rfl] at RP
        have NX := Lib.hid (fun (W : World) (q : Qt w5 W) => (show LeavesAt w b i n os.length (.int .i64 u) (.int .i64 ((k : Int) + 1)) W from
          ⟨k + 1, u, d', HLT.out, rfl, rfl, HKU.out.1, HUB.out, (dk5.qt q).more (fun x e => .inl (Nat.le_trans q.size e)), hw5, ho5, hB5, hf5.mono (Nat.le_refl _) lv_m2, hl5.trans HLN.out⟩))
        clear dk5 hB5 hf5 hc5 hl5 hw5 ho5 LR c0 c1 c2 c3 c4 c5 c6 d0 d1 d2 d3 d4 d5 d6 LV
        go_wp2_with fail
        refine RP.mono ?_
        rintro e w6 h6
        obtain ⟨rv, rfl, hN6⟩ := rpJ_ok h6
        obtain ⟨ra, rc, rfl⟩ := hN6.shape
        have FN := Lib.hid (NX.out w6 hN6.qt)
        clear h6 hN6 RP
        go_wp2
        rw [hk1]
        exact ⟨FN.out, HME.out⟩
    · obtain rfl := sj_eq hk hlt
      have zlt := sj_ge (Nat.le_refl os.length)
      have FIN := Lib.hid hDK.since.qt
      clear hDK hBk hfew hlt hk hways hoff hlen hkv hver
      go_wp2
      go_ret
      exact ⟨rfl, FIN.out⟩
end Go.Proofs.YtggogaaooacooaaDoor
namespace Go.Proofs.YtggogaaooacooaaDoor
open Go.ChangeShapes Go.WideShapes Go.ChangeAt Go.RowKit
set_option maxRecDepth 100000

theorem cellsBool9 : Tryd.prog.cellsOf 4 = 1 := by kernel_rfl
theorem bytesBool9 : Tryd.prog.bytesOf 4 = 1 := by kernel_rfl
theorem cellsBools9 : Tryd.prog.cellsOf 38 = 1 := by kernel_rfl
theorem cellsFate9 : Tryd.prog.cellsOf 40 = 3 := by kernel_rfl
/-- Each of its rows and texts is within reach. -/
def Reach {H : Type} (t : TypeId) (d : DataW H) : Prop := ∀ n ∈ d.weights Tryd.prog t, n ≤ reachBytes
theorem weights_all {H : Type} {P : Program} {e : TypeId} : ∀ {l : List (DataW H)} {d : DataW H}, d ∈ l → ∀ n ∈ d.weights P e, n ∈ DataW.weightsAll P e l
  | [], _, h, _, _ => by cases h
  | x :: r, d, h, n, hn => by
    simp only [DataW.weightsAll, List.mem_append]
    rcases List.mem_cons.1 h with rfl | h
    · exact .inl hn
    · exact .inr (weights_all h n hn)
theorem Reach.each {H : Type} {ts : List TypeId} {ds : List (DataW H)} (h : (DataW.weightsEach Tryd.prog ts ds).all (· ≤ reachBytes) = true) {j : Nat} {t : TypeId} {d : DataW H} (ht : ts[j]? = some t) (hd : ds[j]? = some d) : Reach t d := fun n hn => by
  have := List.all_eq_true.1 h _ (DataW.weights_mem_each ht hd n hn)
  simpa using this
theorem Reach.slice {H : Type} {t e : TypeId} {l spare : List (DataW H)} (hu : Tryd.prog.underlying t = some (.slice e)) (h : Reach t (.slice l spare)) : l.length * Tryd.prog.bytesOf e ≤ reachBytes ∧ ∀ d ∈ l, Reach e d := by
  unfold Reach at h
  simp only [DataW.weights, hu, List.mem_cons, List.mem_append] at h
  refine ⟨?_, fun d hd n hn => h n (.inr (.inl (weights_all hd n hn)))⟩
  have := h _ (.inl rfl)
  have h2 := Nat.mul_le_mul_right (Tryd.prog.bytesOf e) (Nat.le_add_right l.length spare.length)
  omega
theorem Reach.part {H : Type} {t : TypeId} {fs : Array Field} {ps : List (DataW H)} (hu : Tryd.prog.underlying t = some (.struct fs)) (h : Reach t (.agg ps)) {j : Nat} {f : Field} {d : DataW H} (hf : fs[j]? = some f) (hd : ps[j]? = some d) : Reach f.type d := fun n hn => by
  unfold Reach at h
  simp only [DataW.weights, hu] at h
  exact h n (DataW.weights_mem_each (t := f.type) (by simp [hf]) hd n hn)

/-- A []bool that came in. -/
theorem bools_of_trod9 {H : Type} {enc : TypeId × Value → H} {W : World} {fuel : Nat} {c : Value} {y : DataW H × List MemPlace} (h : DataW.trod enc Tryd.prog W 0 (fun _ => true) true fuel 38 [c] = some y) (hw : Reach 38 y.1) : ∃ l, Bools W c l ∧ l.length ≤ 140737488355328 := by
  rcases Go.Deep.open_slice Tryd.underlying38 h with ⟨hcs, _⟩ | ⟨ad, len, cap, m, n, D, Pl, hcs, _, hl, hm, hmc, hx, hel⟩
  · simp at hcs
    subst hcs
    exact ⟨[], ⟨none, 0, rfl, fun k x hx => by simp at hx⟩, by simp⟩
  · simp at hcs
    subst hcs
    simp only [if_true] at hmc
    rw [cellsBool9] at hel
    rw [hx] at hw
    have hlen := (hw.slice Tryd.underlying38).1
    rw [bytesBool9] at hlen
    simp only [List.length_map, List.length_range] at hlen
    unfold reachBytes at hlen
    have hone : ∀ k, k < len → ∃ b : Bool, W.cell? (ad.add k) = some (.bool b) := by
      intro k hk
      obtain ⟨cs', hcs', ht⟩ := hel k (by omega)
      obtain ⟨_, hcl, hat⟩ := World.cells?_some hcs'
      match cs', hcl with
      | [c0], _ =>
        obtain ⟨b, e, _⟩ := DataW.trod_bool Tryd.underlying4 ht
        simp at e
        subst e
        have := hat 0 (by omega)
        exact ⟨b, by simpa [Addr.add] using this⟩
    obtain ⟨b, off, spot⟩ := ad
    have hch : ∃ l : List Bool, l.length = len ∧ ∀ (k : Nat) (x : Bool), l[k]? = some x → W.cell? ((⟨b, off, spot⟩ : Addr).add k) = some (.bool x) := by
      clear hlen hw hx hel hm hmc hl h
      induction len with
      | zero => exact ⟨[], rfl, fun k x hx => by simp at hx⟩
      | succ q ih =>
        obtain ⟨l, h1, h2⟩ := ih (fun k hk => hone k (by omega))
        obtain ⟨x, hx⟩ := hone q (by omega)
        refine ⟨l ++ [x], by simp [h1], fun k y hy => ?_⟩
        by_cases hkl : k < l.length
        · rw [List.getElem?_append_left hkl] at hy; exact h2 k y hy
        · rw [List.getElem?_append_right (by omega)] at hy
          obtain ⟨q1, q2⟩ := List.getElem?_eq_some_iff.1 hy
          have : k - l.length = 0 := by simpa using q1
          simp [this] at q2
          subst q2
          obtain rfl : k = q := by omega
          exact hx
    obtain ⟨l, hll, hlc⟩ := hch
    refine ⟨l, ⟨some ⟨b, off, spot⟩, cap, by rw [hll], fun k x hx => ?_⟩, by omega⟩
    have hc := hlc k x hx
    have hl0 : 0 < l.length := by have := (List.getElem?_eq_some_iff.1 hx).1; omega
    have hc0 := hlc 0 l[0] (List.getElem?_eq_getElem hl0)
    have hsp : spot = none := by simpa [Addr.add] using World.cell?_spot hc0
    subst hsp
    rw [add_plain] at hc
    exact ⟨b, off, rfl, hc⟩

/-- A Fate's three cells. -/
theorem fate_of_trod9 {H : Type} {enc : TypeId × Value → H} {W : World} {fuel : Nat} {cs : List Value} {x : DataW H × List MemPlace} (hf : DataW.trod enc Tryd.prog W 0 (fun _ => true) true fuel 40 cs = some x) (hw : Reach 40 x.1) :
    ∃ (kv : Value) (f : FT), cs = [kv, .int .i64 f.torn, .int .i64 f.bytes] ∧ Bools W kv f.kept ∧ f.kept.length ≤ 140737488355328 := by
  obtain ⟨xs, n, _, hx, hcl, hxl, hel⟩ := DataW.trod_struct Tryd.underlying40 hf
  have hl : cs.length = 3 := by rw [hcl, cellsFate9]
  match cs, hl with
  | [c0, c1, c2], _ =>
  have hx3 : xs.length = 3 := hxl
  match xs, hx3 with
  | [y0, y1, y2], _ =>
  have t0 : DataW.trod enc Tryd.prog W 0 (fun _ => true) true n 38 (([c0, c1, c2].drop 0).take (Tryd.prog.cellsOf 38)) = some y0 := hel 0 _ rfl
  have t1 : DataW.trod enc Tryd.prog W 0 (fun _ => true) true n 3 (([c0, c1, c2].drop 1).take (Tryd.prog.cellsOf 3)) = some y1 := hel 1 _ rfl
  have t2 : DataW.trod enc Tryd.prog W 0 (fun _ => true) true n 3 (([c0, c1, c2].drop 2).take (Tryd.prog.cellsOf 3)) = some y2 := hel 2 _ rfl
  rw [cellsBools9] at t0
  rw [cellsInt] at t1 t2
  rw [hx] at hw
  have hw0 : Reach 38 y0.1 := hw.part Tryd.underlying40 (j := 0) rfl rfl
  simp only [List.drop_zero, List.drop_succ_cons, List.take_succ_cons, List.take_zero] at t0 t1 t2
  obtain ⟨z1, e1, rfl, _⟩ := DataW.trod_int Tryd.underlying3 t1
  obtain ⟨z2, e2, rfl, _⟩ := DataW.trod_int Tryd.underlying3 t2
  simp only [List.cons.injEq, and_true] at e1 e2
  subst e1 e2
  obtain ⟨l, hB, hl2⟩ := bools_of_trod9 t0 hw0
  exact ⟨c0, ⟨l, z1, z2⟩, rfl, hB, hl2⟩
end Go.Proofs.YtggogaaooacooaaDoor
namespace Go.Proofs.YtggogaaooacooaaDoor
open Go.ChangeShapes Go.WideShapes Go.ChangeAt Go.RowKit
set_option maxRecDepth 100000

theorem cellsIntJ : Tryd.prog.cellsOf 3 = 1 := by kernel_rfl
theorem bytesIntJ : Tryd.prog.bytesOf 3 = 8 := by kernel_rfl
theorem cellsIntsJ : Tryd.prog.cellsOf 62 = 1 := by kernel_rfl
theorem cellsLifeJ : Tryd.prog.cellsOf 64 = 7 := by kernel_rfl
theorem bytesLifeJ : Tryd.prog.bytesOf 64 = 104 := by kernel_rfl
/-- A []int that came in. -/
theorem nums_of_trod {H : Type} {enc : TypeId × Value → H} {W : World} {fuel : Nat} {c : Value} {y : DataW H × List MemPlace} (h : DataW.trod enc Tryd.prog W 0 (fun _ => true) true fuel 62 [c] = some y) (hw : Reach 62 y.1) : ∃ l, Nums W c l ∧ l.length ≤ 140737488355328 := by
  rcases Go.Deep.open_slice Tryd.underlying62 h with ⟨hcs, _⟩ | ⟨ad, len, cap, m, n, D, Pl, hcs, _, hl, hm, hmc, hx, hel⟩
  · simp at hcs
    subst hcs
    exact ⟨[], ⟨none, 0, rfl, fun k x hx => by simp at hx⟩, by simp⟩
  · simp at hcs
    subst hcs
    simp only [if_true] at hmc
    rw [cellsIntJ] at hel
    rw [hx] at hw
    have hlen := (hw.slice Tryd.underlying62).1
    rw [bytesIntJ] at hlen
    simp only [List.length_map, List.length_range] at hlen
    unfold reachBytes at hlen
    have hone : ∀ k, k < len → ∃ b : Int, W.cell? (ad.add k) = some (.int .i64 b) := by
      intro k hk
      obtain ⟨cs', hcs', ht⟩ := hel k (by omega)
      obtain ⟨_, hcl, hat⟩ := World.cells?_some hcs'
      match cs', hcl with
      | [c0], _ =>
        obtain ⟨b, e, _⟩ := DataW.trod_int Tryd.underlying3 ht
        simp at e
        subst e
        have := hat 0 (by omega)
        exact ⟨b, by simpa [Addr.add] using this⟩
    obtain ⟨b, off, spot⟩ := ad
    have hch : ∃ l : List Int, l.length = len ∧ ∀ (k : Nat) (x : Int), l[k]? = some x → W.cell? ((⟨b, off, spot⟩ : Addr).add k) = some (.int .i64 x) := by
      clear hlen hw hx hel hm hmc hl h
      induction len with
      | zero => exact ⟨[], rfl, fun k x hx => by simp at hx⟩
      | succ q ih =>
        obtain ⟨l, h1, h2⟩ := ih (fun k hk => hone k (by omega))
        obtain ⟨x, hx⟩ := hone q (by omega)
        refine ⟨l ++ [x], by simp [h1], fun k y hy => ?_⟩
        by_cases hkl : k < l.length
        · rw [List.getElem?_append_left hkl] at hy; exact h2 k y hy
        · rw [List.getElem?_append_right (by omega)] at hy
          obtain ⟨q1, q2⟩ := List.getElem?_eq_some_iff.1 hy
          have : k - l.length = 0 := by simpa using q1
          simp [this] at q2
          subst q2
          obtain rfl : k = q := by omega
          exact hx
    obtain ⟨l, hll, hlc⟩ := hch
    refine ⟨l, ⟨some ⟨b, off, spot⟩, cap, by rw [hll], fun k x hx => ?_⟩, by omega⟩
    have hc := hlc k x hx
    have hl0 : 0 < l.length := by have := (List.getElem?_eq_some_iff.1 hx).1; omega
    have hc0 := hlc 0 l[0] (List.getElem?_eq_getElem hl0)
    have hsp : spot = none := by simpa [Addr.add] using World.cell?_spot hc0
    subst hsp
    rw [add_plain] at hc
    exact ⟨b, off, rfl, hc⟩
/-- One Life's cells that came in. -/
theorem life_of_trod {H : Type} {enc : TypeId × Value → H} {W : World} (fuel : Nat) (cs : List Value) (x : DataW H × List MemPlace) (hf : DataW.trod enc Tryd.prog W 0 (fun _ => true) true fuel 64 cs = some x) (hw : Reach 64 x.1) :
    ∃ o : LfV, cs = o.list ∧ o.Ok W := by
  obtain ⟨xs, n, _, hx, hcl, hxl, hel⟩ := DataW.trod_struct Tryd.underlying64 hf
  have hl : cs.length = 7 := by rw [hcl, cellsLifeJ]
  match cs, hl with
  | [c0, c1, c2, c3, c4, c5, c6], _ =>
  have hx5 : xs.length = 5 := hxl
  match xs, hx5 with
  | [y0, y1, y2, y3, y4], _ =>
  have t0 : DataW.trod enc Tryd.prog W 0 (fun _ => true) true n 3 (([c0, c1, c2, c3, c4, c5, c6].drop 0).take (Tryd.prog.cellsOf 3)) = some y0 := hel 0 _ rfl
  have t1 : DataW.trod enc Tryd.prog W 0 (fun _ => true) true n 62 (([c0, c1, c2, c3, c4, c5, c6].drop 1).take (Tryd.prog.cellsOf 62)) = some y1 := hel 1 _ rfl
  have t2 : DataW.trod enc Tryd.prog W 0 (fun _ => true) true n 38 (([c0, c1, c2, c3, c4, c5, c6].drop 2).take (Tryd.prog.cellsOf 38)) = some y2 := hel 2 _ rfl
  have t3 : DataW.trod enc Tryd.prog W 0 (fun _ => true) true n 3 (([c0, c1, c2, c3, c4, c5, c6].drop 3).take (Tryd.prog.cellsOf 3)) = some y3 := hel 3 _ rfl
  have t4 : DataW.trod enc Tryd.prog W 0 (fun _ => true) true n 40 (([c0, c1, c2, c3, c4, c5, c6].drop 4).take (Tryd.prog.cellsOf 40)) = some y4 := hel 4 _ rfl
  rw [cellsIntJ] at t0 t3
  rw [cellsIntsJ] at t1
  rw [cellsBools9] at t2
  rw [cellsFate9] at t4
  rw [hx] at hw
  have hw1 : Reach 62 y1.1 := hw.part Tryd.underlying64 (j := 1) rfl rfl
  have hw2 : Reach 38 y2.1 := hw.part Tryd.underlying64 (j := 2) rfl rfl
  have hw4 : Reach 40 y4.1 := hw.part Tryd.underlying64 (j := 4) rfl rfl
  simp only [List.drop_zero, List.drop_succ_cons, List.take_succ_cons, List.take_zero] at t0 t1 t2 t3 t4
  obtain ⟨z0, e0, rfl, _⟩ := DataW.trod_int Tryd.underlying3 t0
  obtain ⟨z3, e3, rfl, w3⟩ := DataW.trod_int Tryd.underlying3 t3
  simp only [List.cons.injEq, and_true] at e0 e3
  subst e0 e3
  obtain ⟨xl, hX, hXl⟩ := nums_of_trod t1 hw1
  obtain ⟨bl, hB, hBl⟩ := bools_of_trod9 t2 hw2
  obtain ⟨kv, f, e4, hK, _⟩ := fate_of_trod9 t4 hw4
  simp only [List.cons.injEq, and_true] at e4
  obtain ⟨rfl, rfl, rfl⟩ := e4
  have b3 := bounds_i64 w3
  exact ⟨⟨z0, c1, xl, c2, bl, z3, c4, f⟩, rfl, ⟨hX, hXl, hB, hBl, by show z3 ≤ 9223372036854775807; omega, hK⟩⟩
/-- The Lives that came in. -/
theorem livesJ_of_trod {H : Type} {enc : TypeId × Value → H} {W : World} {fuel : Nat} {c : Value} {y : DataW H × List MemPlace} (h : DataW.trod enc Tryd.prog W 0 (fun _ => true) true fuel 61 [c] = some y) (hw : Reach 61 y.1) :
    ∃ (g off : Nat) (os : List LfV), (∀ (k : Nat) (o : LfV), os[k]? = some o → o.Ok W) ∧ Recs 7 LfV.list W c g off os := by
  obtain ⟨g, off, os, h1, h2, h3⟩ := open_recsQ (Q := Reach 64) (f := LfV.list) (P := LfV.Ok W) Tryd.underlying61 cellsLifeJ (by decide) (fun _ => rfl) life_of_trod h (fun l spare e => by rw [e] at hw; exact (hw.slice Tryd.underlying61).2)
  refine ⟨g, off, os, h1, h2 ?_⟩
  rcases h3 with ⟨_, rfl⟩ | ⟨l, spare, e, hl⟩
  · simp
  · rw [e] at hw
    have := (hw.slice Tryd.underlying61).1
    rw [bytesLifeJ, hl] at this
    unfold reachBytes at this
    omega
end Go.Proofs.YtggogaaooacooaaDoor
