/-
  Layer 9's rows that came in: Tries.
  AreaBack, plain: a disk of twelve sectors that were written, and a Write on it.
-/
import Derived.Test.YtcapifhmmkmboaaDoorP32
import Derived.Deep.Slices
import Derived.OpenShut
import Derived.Lib.SmallJoins
import Derived.Test.YtcapifhmmkmboaaDoorP24
namespace Go.Proofs.YtcapifhmmkmboaaDoor
open Go.ChangeShapes Go.WideShapes Go.ChangeAt Go.RowKit
set_option maxRecDepth 100000

theorem cellsBool9 : Tryd.prog.cellsOf 4 = 1 := by kernel_rfl
theorem bytesBool9 : Tryd.prog.bytesOf 4 = 1 := by kernel_rfl
theorem cellsBools9 : Tryd.prog.cellsOf 36 = 1 := by kernel_rfl
theorem cellsFate9 : Tryd.prog.cellsOf 38 = 3 := by kernel_rfl
theorem cellsTry9 : Tryd.prog.cellsOf 53 = 6 := by kernel_rfl
theorem bytesTry9 : Tryd.prog.bytesOf 53 = 64 := by kernel_rfl
/-- Each of its rows and texts is within reach. -/
def Reach {H : Type} (t : TypeId) (d : DataW H) : Prop := ∀ n ∈ d.weights Tryd.prog t, n ≤ reachBytes
theorem weights_all {H : Type} {P : Program} {e : TypeId} : ∀ {l : List (DataW H)} {d : DataW H}, d ∈ l → ∀ n ∈ d.weights P e, n ∈ DataW.weightsAll P e l
  | [], _, h, _, _ => by cases h
  | x :: r, d, h, n, hn => by
    simp only [DataW.weightsAll, List.mem_append]
    rcases List.mem_cons.1 h with rfl | h
    · exact .inl hn
    · exact .inr (weights_all h n hn)
theorem Reach.each {H : Type} {ts : List TypeId} {ds : List (DataW H)} (h : (DataW.weightsEach Tryd.prog ts ds).all (· ≤ reachBytes) = true) {j : Nat} {t : TypeId} {d : DataW H} (ht : ts[j]? = some t) (hd : ds[j]? = some d) : Reach t d := fun n hn => by
  have := List.all_eq_true.1 h _ (DataW.weights_mem_each ht hd n hn)
  simpa using this
theorem Reach.slice {H : Type} {t e : TypeId} {l spare : List (DataW H)} (hu : Tryd.prog.underlying t = some (.slice e)) (h : Reach t (.slice l spare)) : l.length * Tryd.prog.bytesOf e ≤ reachBytes ∧ ∀ d ∈ l, Reach e d := by
  unfold Reach at h
  simp only [DataW.weights, hu, List.mem_cons, List.mem_append] at h
  refine ⟨?_, fun d hd n hn => h n (.inr (.inl (weights_all hd n hn)))⟩
  have := h _ (.inl rfl)
  have h2 := Nat.mul_le_mul_right (Tryd.prog.bytesOf e) (Nat.le_add_right l.length spare.length)
  omega
theorem Reach.part {H : Type} {t : TypeId} {fs : Array Field} {ps : List (DataW H)} (hu : Tryd.prog.underlying t = some (.struct fs)) (h : Reach t (.agg ps)) {j : Nat} {f : Field} {d : DataW H} (hf : fs[j]? = some f) (hd : ps[j]? = some d) : Reach f.type d := fun n hn => by
  unfold Reach at h
  simp only [DataW.weights, hu] at h
  exact h n (DataW.weights_mem_each (t := f.type) (by simp [hf]) hd n hn)

/-- A []bool that came in. -/
theorem bools_of_trod9 {H : Type} {enc : TypeId × Value → H} {W : World} {fuel : Nat} {c : Value} {y : DataW H × List MemPlace} (h : DataW.trod enc Tryd.prog W 0 (fun _ => true) true fuel 36 [c] = some y) (hw : Reach 36 y.1) : ∃ l, Bools W c l ∧ l.length ≤ 140737488355328 := by
  rcases Go.Deep.open_slice Tryd.underlying36 h with ⟨hcs, _⟩ | ⟨ad, len, cap, m, n, D, Pl, hcs, _, hl, hm, hmc, hx, hel⟩
  · simp at hcs
    subst hcs
    exact ⟨[], ⟨none, 0, rfl, fun k x hx => by simp at hx⟩, by simp⟩
  · simp at hcs
    subst hcs
    simp only [if_true] at hmc
    rw [cellsBool9] at hel
    rw [hx] at hw
    have hlen := (hw.slice Tryd.underlying36).1
    rw [bytesBool9] at hlen
    simp only [List.length_map, List.length_range] at hlen
    unfold reachBytes at hlen
    have hone : ∀ k, k < len → ∃ b : Bool, W.cell? (ad.add k) = some (.bool b) := by
      intro k hk
      obtain ⟨cs', hcs', ht⟩ := hel k (by omega)
      obtain ⟨_, hcl, hat⟩ := World.cells?_some hcs'
      match cs', hcl with
      | [c0], _ =>
        obtain ⟨b, e, _⟩ := DataW.trod_bool Tryd.underlying4 ht
        simp at e
        subst e
        have := hat 0 (by omega)
        exact ⟨b, by simpa [Addr.add] using this⟩
    obtain ⟨b, off, spot⟩ := ad
    have hch : ∃ l : List Bool, l.length = len ∧ ∀ (k : Nat) (x : Bool), l[k]? = some x → W.cell? ((⟨b, off, spot⟩ : Addr).add k) = some (.bool x) := by
      clear hlen hw hx hel hm hmc hl h
      induction len with
      | zero => exact ⟨[], rfl, fun k x hx => by simp at hx⟩
      | succ q ih =>
        obtain ⟨l, h1, h2⟩ := ih (fun k hk => hone k (by omega))
        obtain ⟨x, hx⟩ := hone q (by omega)
        refine ⟨l ++ [x], by simp [h1], fun k y hy => ?_⟩
        by_cases hkl : k < l.length
        · rw [List.getElem?_append_left hkl] at hy; exact h2 k y hy
        · rw [List.getElem?_append_right (by omega)] at hy
          obtain ⟨q1, q2⟩ := List.getElem?_eq_some_iff.1 hy
          have : k - l.length = 0 := by simpa using q1
          simp [this] at q2
          subst q2
          obtain rfl : k = q := by omega
          exact hx
    obtain ⟨l, hll, hlc⟩ := hch
    refine ⟨l, ⟨some ⟨b, off, spot⟩, cap, by rw [hll], fun k x hx => ?_⟩, by omega⟩
    have hc := hlc k x hx
    have hl0 : 0 < l.length := by have := (List.getElem?_eq_some_iff.1 hx).1; omega
    have hc0 := hlc 0 l[0] (List.getElem?_eq_getElem hl0)
    have hsp : spot = none := by simpa [Addr.add] using World.cell?_spot hc0
    subst hsp
    rw [add_plain] at hc
    exact ⟨b, off, rfl, hc⟩

/-- A Fate's three cells. -/
theorem fate_of_trod9 {H : Type} {enc : TypeId × Value → H} {W : World} {fuel : Nat} {cs : List Value} {x : DataW H × List MemPlace} (hf : DataW.trod enc Tryd.prog W 0 (fun _ => true) true fuel 38 cs = some x) (hw : Reach 38 x.1) :
    ∃ (kv : Value) (f : FT), cs = [kv, .int .i64 f.torn, .int .i64 f.bytes] ∧ Bools W kv f.kept ∧ f.kept.length ≤ 140737488355328 := by
  obtain ⟨xs, n, _, hx, hcl, hxl, hel⟩ := DataW.trod_struct Tryd.underlying38 hf
  have hl : cs.length = 3 := by rw [hcl, cellsFate9]
  match cs, hl with
  | [c0, c1, c2], _ =>
  have hx3 : xs.length = 3 := hxl
  match xs, hx3 with
  | [y0, y1, y2], _ =>
  have t0 : DataW.trod enc Tryd.prog W 0 (fun _ => true) true n 36 (([c0, c1, c2].drop 0).take (Tryd.prog.cellsOf 36)) = some y0 := hel 0 _ rfl
  have t1 : DataW.trod enc Tryd.prog W 0 (fun _ => true) true n 3 (([c0, c1, c2].drop 1).take (Tryd.prog.cellsOf 3)) = some y1 := hel 1 _ rfl
  have t2 : DataW.trod enc Tryd.prog W 0 (fun _ => true) true n 3 (([c0, c1, c2].drop 2).take (Tryd.prog.cellsOf 3)) = some y2 := hel 2 _ rfl
  rw [cellsBools9] at t0
  rw [cellsInt] at t1 t2
  rw [hx] at hw
  have hw0 : Reach 36 y0.1 := hw.part Tryd.underlying38 (j := 0) rfl rfl
  simp only [List.drop_zero, List.drop_succ_cons, List.take_succ_cons, List.take_zero] at t0 t1 t2
  obtain ⟨z1, e1, rfl, _⟩ := DataW.trod_int Tryd.underlying3 t1
  obtain ⟨z2, e2, rfl, _⟩ := DataW.trod_int Tryd.underlying3 t2
  simp only [List.cons.injEq, and_true] at e1 e2
  subst e1 e2
  obtain ⟨l, hB, hl2⟩ := bools_of_trod9 t0 hw0
  exact ⟨c0, ⟨l, z1, z2⟩, rfl, hB, hl2⟩

/-- One Try's cells that came in. -/
theorem try_of_trod {H : Type} {enc : TypeId × Value → H} {W : World} (fuel : Nat) (cs : List Value) (x : DataW H × List MemPlace) (hf : DataW.trod enc Tryd.prog W 0 (fun _ => true) true fuel 53 cs = some x) (hw : Reach 53 x.1) :
    ∃ o : TryD, cs = o.list ∧ o.Ok W := by
  obtain ⟨xs, n, _, hx, hcl, hxl, hel⟩ := DataW.trod_struct Tryd.underlying53 hf
  have hl : cs.length = 6 := by rw [hcl, cellsTry9]
  match cs, hl with
  | [c0, c1, c2, c3, c4, c5], _ =>
  have hx4 : xs.length = 4 := hxl
  match xs, hx4 with
  | [y0, y1, y2, y3], _ =>
  have t0 : DataW.trod enc Tryd.prog W 0 (fun _ => true) true n 3 (([c0, c1, c2, c3, c4, c5].drop 0).take (Tryd.prog.cellsOf 3)) = some y0 := hel 0 _ rfl
  have t1 : DataW.trod enc Tryd.prog W 0 (fun _ => true) true n 35 (([c0, c1, c2, c3, c4, c5].drop 1).take (Tryd.prog.cellsOf 35)) = some y1 := hel 1 _ rfl
  have t2 : DataW.trod enc Tryd.prog W 0 (fun _ => true) true n 3 (([c0, c1, c2, c3, c4, c5].drop 2).take (Tryd.prog.cellsOf 3)) = some y2 := hel 2 _ rfl
  have t3 : DataW.trod enc Tryd.prog W 0 (fun _ => true) true n 38 (([c0, c1, c2, c3, c4, c5].drop 3).take (Tryd.prog.cellsOf 38)) = some y3 := hel 3 _ rfl
  rw [cellsInt] at t0 t2
  rw [cellsU64] at t1
  rw [cellsFate9] at t3
  rw [hx] at hw
  have hw3 : Reach 38 y3.1 := hw.part Tryd.underlying53 (j := 3) rfl rfl
  simp only [List.drop_zero, List.drop_succ_cons, List.take_succ_cons, List.take_zero] at t0 t1 t2 t3
  obtain ⟨z0, e0, rfl, _⟩ := DataW.trod_int Tryd.underlying3 t0
  obtain ⟨z1, e1, rfl, _⟩ := DataW.trod_int Tryd.underlying35 t1
  obtain ⟨z2, e2, rfl, w2⟩ := DataW.trod_int Tryd.underlying3 t2
  simp only [List.cons.injEq, and_true] at e0 e1 e2
  subst e0 e1 e2
  obtain ⟨kv, f, e3, hB, hk⟩ := fate_of_trod9 t3 hw3
  simp only [List.cons.injEq, and_true] at e3
  obtain ⟨rfl, rfl, rfl⟩ := e3
  have b2 := bounds_i64 w2
  exact ⟨⟨z0, z1, z2, c3, f⟩, rfl, ⟨by show z2 ≤ 9223372036854775807; omega, hB, hk⟩⟩

/-- The Tries that came in. -/
theorem tries_of_trod {H : Type} {enc : TypeId × Value → H} {W : World} {fuel : Nat} {c : Value} {y : DataW H × List MemPlace} (h : DataW.trod enc Tryd.prog W 0 (fun _ => true) true fuel 51 [c] = some y) (hw : Reach 51 y.1) :
    ∃ (g off : Nat) (os : List TryD), (∀ (k : Nat) (o : TryD), os[k]? = some o → o.Ok W) ∧ Recs 6 TryD.list W c g off os := by
  obtain ⟨g, off, os, h1, h2, h3⟩ := open_recsQ (Q := Reach 53) (f := TryD.list) (P := TryD.Ok W) Tryd.underlying51 cellsTry9 (by decide) (fun _ => rfl) try_of_trod h (fun l spare e => by rw [e] at hw; exact (hw.slice Tryd.underlying51).2)
  refine ⟨g, off, os, h1, h2 ?_⟩
  rcases h3 with ⟨_, rfl⟩ | ⟨l, spare, e, hl⟩
  · simp
  · rw [e] at hw
    have := (hw.slice Tryd.underlying51).1
    rw [bytesTry9, hl] at this
    unfold reachBytes at this
    omega
end Go.Proofs.YtcapifhmmkmboaaDoor
namespace Go.Proofs.YtcapifhmmkmboaaDoor
set_option maxRecDepth 100000

/-- Behind k sectors written. -/
structure BackI (k : Nat) (d : DS) : Prop where
  off : d.off = false
  armed : d.armed = -1
  len : d.dur.length = 12
  ways : d.ways.length = k
  wr : d.wr = k
  fl : d.fl = 0
  cr : d.cr = 0
theorem BackI.start : BackI 0 (DS.newD 12) := ⟨rfl, rfl, by simp [DS.newD], rfl, rfl, rfl, rfl⟩
theorem BackI.few {k : Nat} {d : DS} (h : BackI k d) (hk : k ≤ 12) : d.Few := ⟨by have := h.ways; omega, by have := h.wr; omega, by have := h.fl; omega, by have := h.cr; omega⟩
theorem BackI.write {k : Nat} {d : DS} (h : BackI k d) (hk : k < 12) {s : List UInt8} (hs : s.length = 256) : d.writeE (k : Int) s = 0 ∧ BackI (k + 1) (d.writeD (k : Int) s) := by
  have hr : d.reach (k : Int) = 0 := DS.reach_calm h.off (by rw [h.len]; exact hk)
  have ha : d.armed ≠ 0 := by rw [h.armed]; decide
  refine ⟨?_, ?_⟩
  · unfold DS.writeE; rw [if_neg (by rw [hr]; simp), if_neg (by omega), if_neg ha]
  · have hD : d.writeD (k : Int) s = { d with ways := d.ways ++ [((k : Int).toNat, s)], armed := dec d.armed, wr := d.wr + 1 } := by
      unfold DS.writeD; rw [if_neg (by rw [hr]; simp), if_neg (by omega), if_neg ha]
    rw [hD]
    exact ⟨h.off, by show dec d.armed = -1; rw [h.armed]; rfl, h.len, by simp [h.ways], by show d.wr + 1 = _; rw [h.wr], h.fl, h.cr⟩
/-- Flushed: nothing is under way. -/
structure BackF (d : DS) : Prop where
  calm : d.Calm
  armed : d.armed = -1
  len : d.dur.length = 12
  wr : d.wr = 12
  fl : d.fl = 1
  cr : d.cr = 0
  ok : d.Ok
theorem BackI.flush {d : DS} (h : BackI 12 d) (ho : d.Ok) : d.flushE = 0 ∧ BackF d.flushD := by
  have ha : d.armed ≠ 0 := by rw [h.armed]; decide
  have hok := ho.flush
  have hD : d.flushD = { d with dur := flushTo d.dur d.ways d.ways.length, ways := [], armed := dec d.armed, fl := d.fl + 1 } := by
    unfold DS.flushD; rw [if_neg (by rw [h.off]; simp), if_neg ha]
  refine ⟨?_, ?_⟩
  · unfold DS.flushE; rw [if_neg (by rw [h.off]; simp), if_neg ha]
  · rw [hD] at hok ⊢
    exact ⟨⟨rfl, h.off⟩, by show dec d.armed = -1; rw [h.armed]; rfl, by show (flushTo _ _ _).length = 12; rw [flushTo_length]; exact h.len, h.wr, by show d.fl + 1 = 1; rw [h.fl], h.cr, hok⟩
theorem BackF.fewA {d : DS} (h : BackF d) : d.FewA := ⟨by rw [h.calm.ways]; decide, by rw [h.wr]; decide, by rw [h.fl]; decide, by rw [h.cr]; decide⟩

theorem flat_len9 {D : List (List UInt8)} (h : ∀ (i : Nat) (t : List UInt8), D[i]? = some t → t.length = 256) : D.flatten.length = D.length * 256 := by
  induction D with
  | nil => rfl
  | cons a r ih =>
    have ha : a.length = 256 := h 0 a rfl
    have hr := ih (fun i t ht => h (i + 1) t (by simpa using ht))
    rw [List.flatten_cons, List.length_append, ha, hr, List.length_cons, Nat.succ_mul]; omega
theorem take_flat {D : List (List UInt8)} (h : ∀ (i : Nat) (t : List UInt8), D[i]? = some t → t.length = 256) : ∀ k, k ≤ D.length → D.flatten.take (k * 256) = (D.take k).flatten := by
  induction D with
  | nil => intro k hk; simp
  | cons a r ih =>
    intro k hk
    have ha : a.length = 256 := h 0 a rfl
    cases k with
    | zero => simp
    | succ k =>
      have hr := ih (fun i t ht => h (i + 1) t (by simpa using ht)) k (by simpa using hk)
      rw [List.flatten_cons, List.take_append, ha, List.take_of_length_le (l := a) (by omega), show (k + 1) * 256 - 256 = k * 256 by omega, hr, List.take_succ_cons, List.flatten_cons]
theorem drop_flat {D : List (List UInt8)} (h : ∀ (i : Nat) (t : List UInt8), D[i]? = some t → t.length = 256) : ∀ k, k ≤ D.length → D.flatten.drop (k * 256) = (D.drop k).flatten := by
  induction D with
  | nil => intro k hk; simp
  | cons a r ih =>
    intro k hk
    have ha : a.length = 256 := h 0 a rfl
    cases k with
    | zero => simp
    | succ k =>
      have hr := ih (fun i t ht => h (i + 1) t (by simpa using ht)) k (by simpa using hk)
      rw [List.flatten_cons, List.drop_append, ha, List.drop_eq_nil_of_le («as» := a) (by omega), List.nil_append, show (k + 1) * 256 - 256 = k * 256 by omega, hr, List.drop_succ_cons]
theorem getD_ext {D E : List (List UInt8)} (hl : D.length = E.length) (h : ∀ q, q < D.length → D.getD q [] = E.getD q []) : D = E := by
  apply List.ext_getElem hl
  intro q h1 h2
  have := h q h1
  simpa [List.getD, h1, h2] using this

/-- A Write that may be, on it. -/
theorem BackF.write {d : DS} (h : BackF d) {i n st : Nat} {v : List UInt8} (hm : d.mayA i n st) (hv : v.length ≤ 234 * min n 65536) (hst : st < 18446744073709551616) :
    ∃ d2, d.areaW i n st v = (0, d2) ∧ d2.areaR i n st v.length = (v, 0) ∧ d2.image.length = 3072 ∧ d2.image.take (256 * i) = d.image.take (256 * i) ∧ d2.image.drop (256 * (i + V.nsec v.length)) = d.image.drop (256 * (i + V.nsec v.length)) ∧ i + V.nsec v.length ≤ 12 := by
  have hl := h.len
  have h0 := hm.2.2.2.2
  have h3 := hm.2.2.2.1
  have h2 := hm.2.2.1
  have hK : V.nsec v.length ≤ n := V.nsec_le.1 (by omega)
  have hin : i + V.nsec v.length ≤ 12 := by omega
  have hW : d.areaW i n st v = DS.areaGo i st v (V.nsec v.length) 0 d := by
    unfold DS.areaW
    rw [if_neg (fun q => q hm), if_neg (by rw [Int.toNat_natCast]; omega), Int.toNat_natCast]
  rcases area_go (i := i) (st := st) (v := v) (V.nsec v.length) 0 d h.calm.off h.calm.ways (by omega) (by rw [hl]; omega) (by rw [h.armed]; decide) with ⟨⟨q, _⟩, _⟩ | ⟨_, d2, e1, e2, e3, e4, _⟩
  · rw [h.armed] at q; exact absurd q (by decide)
  · rw [Nat.zero_add] at e3
    have hlen : d2.dur.length = 12 := by rw [e3, flushTo_length]; exact hl
    have hC : d2.Calm := ⟨e4, e2⟩
    have hfi := V.flush_in d.dur i st v (V.nsec v.length) (V.nsec v.length) (Nat.le_refl _) (by omega)
    have hfo := V.flush_out d.dur i st v (V.nsec v.length) (V.nsec v.length) (Nat.le_refl _)
    rw [← e3] at hfi hfo
    have heach : ∀ (q : Nat) (t : List UInt8), d2.dur[q]? = some t → t.length = 256 := by
      rw [e3]
      refine flushTo_each h.ok.each (fun k w hw => ?_) _
      have hk := (List.getElem?_eq_some_iff.1 hw).1
      rw [V.waysA_length] at hk
      rw [V.waysA_get i st v hk] at hw
      obtain rfl := (Option.some.inj hw).symm
      exact ⟨by show i + k < d.dur.length; omega, E.sct_length st (V.piece_le v k)⟩
    have hm2 : d2.mayA i n st := ⟨hm.1, hm.2.1, by rw [hlen]; omega, by rw [hlen]; omega, h0⟩
    refine ⟨d2, hW.trans e1, ?_, ?_, ?_, ?_, hin⟩
    · have hr := area_tells hC hm2 (b := v.length) hv
      rw [V.readA_all h0 v hfi] at hr
      exact hr
    · show d2.dur.flatten.length = 3072
      rw [flat_len9 heach, hlen]
    · show d2.dur.flatten.take _ = d.dur.flatten.take _
      rw [Nat.mul_comm, take_flat heach i (by omega), take_flat h.ok.each i (by omega)]
      congr 1
      refine getD_ext (by simp [hlen, hl]) (fun q hq => ?_)
      have hq2 : q < i := by simp at hq; omega
      have := hfo q (.inl hq2)
      simpa [List.getD, List.getElem?_take_of_lt hq2] using this
    · show d2.dur.flatten.drop _ = d.dur.flatten.drop _
      rw [Nat.mul_comm, drop_flat heach _ (by omega), drop_flat h.ok.each _ (by omega)]
      congr 1
      refine getD_ext (by simp [hlen, hl]) (fun q hq => ?_)
      have := hfo (i + V.nsec v.length + q) (.inr (by omega))
      simpa [List.getD, List.getElem?_drop] using this
theorem BackF.image {d : DS} (h : BackF d) : d.image.length = 3072 := by
  show d.dur.flatten.length = 3072
  rw [flat_len9 h.ok.each, h.len]
end Go.Proofs.YtcapifhmmkmboaaDoor
