/-
  The contract of remitlaw09.AreaCrashes, over area's calls: it answers true.
-/
import Derived.Test.YtcapifhmmkmboaaDoorP24
import Derived.Test.YtcapifhmmkmboaaDoorP30
import Derived.Test.YtcapifhmmkmboaaDoorP31
import Derived.WalkLawsBesides
import Derived.Deep.DeepCutAuto
import Derived.Deep.RegionHeld3
import Derived.Outline
import Derived.BigQuiet
namespace Go.Proofs.YtcapifhmmkmboaaDoor
open Go.RowKit Go.WideShapes
set_option maxRecDepth 100000

/-- A Try that came in. -/
structure TryD where
  bytes : Int
  seed : Int
  arm : Int
  kv : Value
  f : FT
def TryD.list (o : TryD) : List Value := [.int .i64 o.bytes, .int .u64 o.seed, .int .i64 o.arm, o.kv, .int .i64 o.f.torn, .int .i64 o.f.bytes]
structure TryD.Ok (W : World) (o : TryD) : Prop where
  a1 : o.arm ≤ 9223372036854775807
  kept : Bools W o.kv o.f.kept
  few : o.f.kept.length ≤ 140737488355328
theorem infoBool9 : (Tryd.prog.info? 4).map (fun i => (i.zero, i.size, i.bytes)) = some (some (.bool false), 1, 1) := by kernel_rfl
def boolCells9 (l : List Bool) : List Value := l.map Value.bool
theorem boolCells9_one (l : List Bool) : ∀ u ∈ boolCells9 l, u.oneCell' = true := by
  intro u hu
  obtain ⟨b, _, rfl⟩ := List.mem_map.1 hu
  rfl
/-- The row that the append made, as a row of bools. -/
theorem bools_made {W W' : World} {v : Value} {l : List Bool} (h : W.ownsRow 0 4 1 v l.length (boolCells9 l)) (q : Qt W W') : Bools W' v l := by
  rcases h.2 with ⟨rfl, h0⟩ | ⟨g, cap, cur, rfl, _⟩
  · have : l = [] := List.eq_nil_of_length_eq_zero h0
    subst this
    exact ⟨none, 0, rfl, fun k x hx => by simp at hx⟩
  · refine ⟨_, cap, rfl, fun k x hx => ⟨g, 0, rfl, q.cellv ?_⟩⟩
    have h1 := h.cells (g := g) rfl k (.bool x) (by simp [boolCells9, hx])
    rw [add_plain] at h1
    exact h1
theorem bools_news {W W' : World} {a : Option Addr} {c : Nat} {l : List Bool} (h : Bools W (.slice a l.length c) l) (q : Qt W W') : boolCells9 l ≠ [] → ∃ p, a = some p ∧ ∀ (j : Nat) u, (boolCells9 l)[j]? = some u → W'.cell? (p.add j) = some u := by
  obtain ⟨a', c', e, hc⟩ := h
  injection e with e1 e2 e3
  subst e1 e3
  intro hne
  have h0 : 0 < l.length := by
    rcases Nat.eq_zero_or_pos l.length with h0 | h0
    · exact absurd (by rw [List.eq_nil_of_length_eq_zero h0]; rfl) hne
    · exact h0
  obtain ⟨g, o, rfl, _⟩ := hc 0 _ (List.getElem?_eq_getElem h0)
  refine ⟨_, rfl, fun j u hj => ?_⟩
  simp only [boolCells9, List.getElem?_map, Option.map_eq_some_iff] at hj
  obtain ⟨x, hx, rfl⟩ := hj
  obtain ⟨g', o', e, hk⟩ := hc j x hx
  injection e with e
  injection e with e1 e2
  subst e1 e2
  rw [add_plain]
  exact q.cellv hk

theorem row_kept {w w' : World} {o : Obj} (h : (w.alloc o).drew.grownBy w' (some w.heap.size)) : Qt w w' :=
  Keeps.grown (Keeps.drew (Keeps.alloc (Qt.refl w) o)) h (fun k hk e => by simp at e; omega)
theorem row_block {w : World} {o : Obj} {g : Nat} (h : g = w.heap.size ∨ (w.alloc o).drew.heap.size ≤ g) : w.heap.size ≤ g := by
  rcases h with h | h
  · omega
  · have : (w.alloc o).drew.heap.size = w.heap.size + 1 := World.size_alloc _ _
    omega

/-- A Try loaded into a block of its own. -/
theorem laid_try9 (w : World) (o : TryD) : ∃ W, w.alloc (.cells #[.int .i64 o.bytes, .int .u64 o.seed, .int .i64 o.arm, o.kv, .int .i64 o.f.torn, .int .i64 o.f.bytes] 53) = W ∧ Qt w W ∧ W.heap.size = w.heap.size + 1 ∧ (∀ (S : Nat → Prop) W', ¬ S w.heap.size → Keeps S W W' → W'.cell? ⟨w.heap.size, 0, none⟩ = some (.int .i64 o.bytes) ∧ W'.cell? ⟨w.heap.size, 1, none⟩ = some (.int .u64 o.seed) ∧ W'.cell? ⟨w.heap.size, 2, none⟩ = some (.int .i64 o.arm) ∧ W'.cell? ⟨w.heap.size, 3, none⟩ = some o.kv ∧ W'.cell? ⟨w.heap.size, 4, none⟩ = some (.int .i64 o.f.torn) ∧ W'.cell? ⟨w.heap.size, 5, none⟩ = some (.int .i64 o.f.bytes)) := by
  refine ⟨_, rfl, (Qt.refl w).alloc _, World.size_alloc _ _, fun S W' hS k => ?_⟩
  have hb := heap_alloc_new w (.cells #[.int .i64 o.bytes, .int .u64 o.seed, .int .i64 o.arm, o.kv, .int .i64 o.f.torn, .int .i64 o.f.bytes] 53)
  have hc : ∀ (i : Nat) (v : Value), (#[.int .i64 o.bytes, .int .u64 o.seed, .int .i64 o.arm, o.kv, .int .i64 o.f.torn, .int .i64 o.f.bytes] : Array Value)[i]? = some v → W'.cell? ⟨w.heap.size, i, none⟩ = some v := by
    intro i v hv
    refine k.cellv (p := ⟨w.heap.size, i, none⟩) ?_ hS
    rw [Lib.cell_of_heap hb]
    exact hv
  exact ⟨hc 0 _ rfl, hc 1 _ rfl, hc 2 _ rfl, hc 3 _ rfl, hc 4 _ rfl, hc 5 _ rfl⟩

/-- What may turn in a round: what is new, but not the Try's own block. -/
def RoundA (w0 : World) (B : Nat) (k : Nat) : Prop := w0.heap.size ≤ k ∧ k ≠ B
theorem RoundA.room {ad : Nat → Addr} {w0 wr W : World} (hE : Errs ad w0) (hT : Tab w0) (hS : Since w0.heap.size w0 wr) (q : Qt wr W) (hz : W.heap.size = wr.heap.size + 1) : Room ad (RoundA w0 wr.heap.size) W := by
  have R := Room.of hE hT
  have hS2 := since_qt hS q
  refine ⟨errs_since hE hS2, hT.qt hS2.qt, (off_since hE).mono (fun k h => h.1), fun h => R.offTab h.1, fun k hk => ⟨?_, ?_⟩⟩
  · have := hS2.size; omega
  · omega
theorem RoundA.disk {w0 wr W : World} {b : Nat} {d : DS} (h : Own w0.heap.size wr b d) (q : Qt wr W) : DiskAt W b d (RoundA w0 wr.heap.size) := by
  obtain ⟨gd, mb, uv, P, hS⟩ := h
  exact DiskAt.qt ⟨gd, mb, uv, P, fun k hk => ⟨hS k hk, by have := P.lt k hk; omega⟩⟩ q
theorem RoundA.back {w0 wr W W' : World} (hS : Since w0.heap.size w0 wr) (q : Qt wr W) (k : Keeps (RoundA w0 wr.heap.size) W W') : Since w0.heap.size w0 W' := Keeps.trans (since_qt hS q) k (fun _ _ e => e.1)

/-- A crash whose row of bools is new since w1. -/
theorem room_crash9 {ad : Nat → Addr} {S : Nat → Prop} {w0 w1 w : World} {b : Nat} {d : DS} (R : Room ad S w0) (hS : Keeps S w0 w1) (h : DiskAt w1 b d S) (q : Qt w1 w) (hf : d.Few) (v : Value) (f : FT) (hv : Bools w v f.kept) (hb : ∀ a n c, v = .slice (some a) n c → w1.heap.size ≤ a.block) :
    Calls Tryd.prog 23 #[.pointer (some ⟨b, 0, none⟩), fateV v f] w fun e w' => e = .returned (.tuple #[]) ∧ DiskAt w' b (d.crashD f) S ∧ Keeps S w0 w' := by
  have hd : DiskAt w b d (fun k => S k ∧ k < w1.heap.size) := by
    obtain ⟨gd, mb, uv, P, hS⟩ := h
    exact DiskAt.qt ⟨gd, mb, uv, P, fun k hk => ⟨hS k hk, P.lt k hk⟩⟩ q
  have hK := keeps_qt hS q
  refine (crash_any w b d _ hd hf v f hv (fun a n c e _ k => by have := hb a n c e; have := k.2; omega)).mono ?_
  rintro e w' ⟨he, hD, hK2⟩
  refine ⟨he, R.disk hK (hD.mono fun k hk => ?_), Room.keeps hK (hK2.mono fun _ _ e => e.1)⟩
  rcases hk with hk | hk
  · exact .inl hk.1
  · exact .inr hk

/-- What the loop keeps. -/
def TriesAt9 (w0 : World) (b N : Nat) (iv : Value) (wr : World) : Prop :=
  ∃ (k : Nat) (d : DS), k ≤ N ∧ iv = .int .i64 k ∧ CrashI k d ∧ Own w0.heap.size wr b d ∧ Since w0.heap.size w0 wr

set_option maxHeartbeats 3200000 in
theorem crashes9_any (ad : Nat → Addr) (H : AreaH ad) (v : Value) (g off : Nat) (os : List TryD) (w : World) (hok : ∀ (k : Nat) (o : TryD), os[k]? = some o → o.Ok w) (hs : Recs 6 TryD.list w v g off os) (hE : Errs ad w) (hT : Tab w) :
    Calls Tryd.prog 5 #[v] w fun e w' => e = .returned (.bool true) ∧ Qt w w' := by
  have HE := Lib.hid hE
  have HT := Lib.hid hT
  have HSC := Lib.hid hs
  have HOK := Lib.hid hok
  have hle := hs.le
  have LV := lives9_any ad H w hE hT
  obtain ⟨va, vc, rfl, _⟩ := hs.val
  have FEW0 := Lib.hid (fun (W : World) (q : Since w.heap.size w W) => own_new q 8 (by decide) (by decide))
  clear hok hs hE hT
  go_enter Tryd.func5, Tryd.ntmps5
  go_wp2_with fail
  refine LV.mono ?_
  rintro e w1 ⟨rfl, q1⟩
  have K1 := Lib.hid (Qt.since (B := w.heap.size) q1)
  clear q1 LV
  go_wp2_with fail
  refine (FEW0.out _ K1.out).mono ?_
  rintro e w2 ⟨b, rfl, h2, S2⟩
  have START := Lib.hid (show TriesAt9 w b os.length (.int .i64 0) w2 from ⟨0, DS.newD 8, Nat.zero_le _, rfl, CrashI.start, h2, S2⟩)
  clear h2 S2
  go_wp2
  go_loopw [27] (fun iv wr => TriesAt9 w b os.length iv wr) (fun iv _ => os.length - (intOf iv).toNat)
  case atStart => exact START.out
  case round =>
    obtain ⟨k, d, hk, rfl, hI, hO, hS⟩ := hrel
    by_cases hlt : k < os.length
    · obtain ⟨o, cap, ho, hval⟩ := HSC.out.elem hlt
      injection hval with hva _ hvc
      subst hva hvc
      have HO := HOK.out k o ho
      have hq := hS.qt
      have c0 : wr.cell? ⟨g, off + k * 6, none⟩ = some (.int .i64 o.bytes) := HSC.out.qt hq ho 0 _ rfl
      have c1 := HSC.out.qt hq ho 1 (.int .u64 o.seed) rfl
      have c2 := HSC.out.qt hq ho 2 (.int .i64 o.arm) rfl
      have c3 := HSC.out.qt hq ho 3 o.kv rfl
      have c4 := HSC.out.qt hq ho 4 (.int .i64 o.f.torn) rfl
      have c5 := HSC.out.qt hq ho 5 (.int .i64 o.f.bytes) rfl
      obtain ⟨WA, hWA, qA, hzA, hCA⟩ := laid_try9 wr o
      have HWA := Lib.hid hWA
      obtain ⟨ka, kc, hkv, _⟩ := id HO.kept
      have HCA := Lib.hid (hCA (RoundA w wr.heap.size))
      have HBN := Lib.hid (show ¬ RoundA w wr.heap.size wr.heap.size from fun h => h.2 rfl)
      have RM := Lib.hid (RoundA.room HE.out HT.out hS qA hzA)
      have DK := Lib.hid (RoundA.disk hO qA)
      have BK := Lib.hid (fun W' => RoundA.back (W' := W') hS qA)
      have HOA := Lib.hid HO
      obtain ⟨d0, d1, d2, d3, d4, d5⟩ := HCA.out WA HBN.out (Keeps.refl _ WA)
      have hmw : wrap64 ((IntKind.u64.wrap o.bytes).tmod 1405) = (modU o.bytes 1405 : Int) := modU_wrap o.bytes 1405 (by decide) (by decide)
      have hL : modU o.bytes 1405 ≤ 1404 := by have := Nat.mod_lt ((o.bytes % 18446744073709551616).toNat) (show 0 < 1405 by decide); unfold modU; omega
      have RND := Lib.hid (hI.round (by omega) o.arm)
      have HI := Lib.hid hI
      have ARM := Lib.hid (fun W (q : Keeps (RoundA w wr.heap.size) WA W) (h : DiskAt W b d (RoundA w wr.heap.size)) => room_arm RM.out q h o.arm HO.a1)
      have FW := Lib.hid (show (d.armD o.arm).FewA from ⟨by have := hI.calm.ways; show d.ways.length ≤ _; rw [this]; decide, by have := hI.wr; show d.wr ≤ _; omega, by have := hI.fl; show d.fl ≤ _; omega, by have := hI.cr; show d.cr ≤ _; omega⟩)
      have WRT := Lib.hid (fun W (q : Keeps (RoundA w wr.heap.size) WA W) (h : DiskAt W b (d.armD o.arm) (RoundA w wr.heap.size)) => H.write _ WA W b _ RM.out q h FW.out 2 6 (k + 1))
      have RED := Lib.hid (fun (dd : DS) W (q : Keeps (RoundA w wr.heap.size) WA W) (h : DiskAt W b dd (RoundA w wr.heap.size)) => H.read _ WA W b dd RM.out q h 2 6 (k + 1))
      have FN := Lib.hid (fun (dd : DS) (W : World) (q : Keeps (RoundA w wr.heap.size) WA W) (h : DiskAt W b dd (RoundA w wr.heap.size)) (I : CrashI (k + 1) dd) => (show TriesAt9 w b os.length (.int .i64 ((k : Int) + 1)) W from ⟨k + 1, dd, hlt, by push_cast; rfl, I, h.mono (fun _ hk => hk.1), BK.out W q⟩))
      have TX := fun (W : World) => text9_any o.seed (modU o.bytes 1405) (by omega) W
      have BO := Lib.hid (fun W (q : Keeps (RoundA w wr.heap.size) WA W) => (show Bools W o.kv o.f.kept from HO.kept.qt (BK.out W q).qt))
      clear hWA hCA hI hO hS hq HO ho
      obtain ⟨bytes, seed, arm, kv, f⟩ := o
      simp only at hkv
      subst hkv
      simp only at c0 c1 c2 c3 c4 c5 d0 d1 d2 d3 d4 d5 HWA HCA ARM WRT BO FW HOA TX hmw hL RND
      generalize modU bytes 1405 = Ln at *
      go_wp2_with fail
      rw [HWA.out]
      refine (TX _).mono ?_
      rintro e w3 ⟨T, hT, rfl, q3⟩
      have K3 := Lib.hid (keeps_qt (Keeps.refl (RoundA w wr.heap.size) WA) q3)
      have H3 := Lib.hid (DK.out.qt q3)
      subst hT
      obtain ⟨d0, d1, d2, d3, d4, d5⟩ := HCA.out w3 HBN.out K3.out
      obtain ⟨en, dk, e1, e2, e3, e4, e5, e6, e7⟩ := RND.out T.data.toList (by rw [dlen7]; exact hL)
      have WR3 := fun W q h => WRT.out W q h T (by omega) (by decide)
      rw [e1] at WR3
      have WR4 := Lib.hid WR3
      have FK := Lib.hid (show dk.Few from ⟨Nat.le_trans e3 (by decide), by omega, by omega, by omega⟩)
      have E7 := Lib.hid (e7 f)
      rw [dlen7] at E7
      clear q3 TX hmw RND c0 c1 c2 c3 c4 c5 WR3 e1 e3 e4 e5 e6 e7
      go_wp2_with fail
      refine (ARM.out _ K3.out H3.out).mono ?_
      rintro e w4 ⟨rfl, h4, k4⟩
      have H4 := Lib.hid h4
      have K4 := Lib.hid k4
      clear d0 d1 d2 d3 d4 d5
      obtain ⟨d0, d1, d2, d3, d4, d5⟩ := HCA.out w4 HBN.out k4
      clear h4 k4
      go_wp2_with fail
      refine (WR4.out _ K4.out H4.out).mono ?_
      rintro e w5 ⟨rfl, h5, k5⟩
      have H5 := Lib.hid h5
      have K5 := Lib.hid k5
      have NU := num_any ad en w5 (RM.out.errs' k5) (by omega)
      clear h5 k5
      go_wp2_with fail
      refine NU.mono ?_
      rintro e w6 ⟨rfl, q6⟩
      have H6 := Lib.hid (H5.out.qt q6)
      have K6 := Lib.hid (keeps_qt K5.out q6)
      clear d0 d1 d2 d3 d4 d5
      obtain ⟨d0, d1, d2, d3, d4, d5⟩ := HCA.out w6 HBN.out K6.out
      clear q6 NU
      have BO6 := BO.out w6 K6.out
      have OW := Lib.hid (World.ownsRow_made (base := 0) (e := 4) (size := 1) w6 #[] 0 (Nat.zero_le _) (Nat.zero_le _) rfl)
      have NEWS := Lib.hid (fun W' (q : Qt w6 W') => bools_news BO6 q)
      have KP := Lib.hid (fun W' (q : Qt w6 W') => (show W'.cell? ⟨wr.heap.size, 3, none⟩ = some (.slice ka f.kept.length kc) ∧ W'.cell? ⟨wr.heap.size, 4, none⟩ = some (.int .i64 f.torn) ∧ W'.cell? ⟨wr.heap.size, 5, none⟩ = some (.int .i64 f.bytes) from ⟨q.cellv d3, q.cellv d4, q.cellv d5⟩))
      have KP2 := Lib.hid (fun W' (q : Keeps (RoundA w wr.heap.size) WA W') => (show W'.cell? ⟨wr.heap.size, 3, none⟩ = some (.slice ka f.kept.length kc) ∧ W'.cell? ⟨wr.heap.size, 4, none⟩ = some (.int .i64 f.torn) ∧ W'.cell? ⟨wr.heap.size, 5, none⟩ = some (.int .i64 f.bytes) from ⟨(HCA.out W' HBN.out q).2.2.2.1, (HCA.out W' HBN.out q).2.2.2.2.1, (HCA.out W' HBN.out q).2.2.2.2.2⟩))
      have LEN := Lib.hid (show f.kept.length = (boolCells9 f.kept).length by simp [boolCells9])
      have h63 := Lib.hid (show f.kept.length ≤ maxLen by have := HOA.out.few; simp only at this; unfold maxLen; omega)
      have hby := Lib.hid (show f.kept.length * 1 ≤ 140737488355328 by have := HOA.out.few; simp only at this; omega)
      have CR := Lib.hid (fun W (q : Qt w6 W) (v : Value) (hv : Bools W v f.kept) (hb : ∀ a n c, v = .slice (some a) n c → w6.heap.size ≤ a.block) => room_crash9 RM.out K6.out H6.out q FK.out v f hv hb)
      obtain ⟨i0, hi, hz0, hz1, hz2⟩ := info_parts infoBool9
      clear BO6
      rcases e2 with rfl | rfl
      · rw [errV_zero] at *
        go_wp2_with fail
        go_region_held3 (fun W' => W'.cell? ⟨wr.heap.size, 3, none⟩ = some (.slice ka f.kept.length kc) ∧ W'.cell? ⟨wr.heap.size, 4, none⟩ = some (.int .i64 f.torn) ∧ W'.cell? ⟨wr.heap.size, 5, none⟩ = some (.int .i64 f.bytes))
          (first | go_keep | exact KP2.out _ k8 | exact KP2.out _ (Keeps.drew k8) | exact KP.out _ (Keeps.drew Q7.out) | exact KP.out _ Q7.out)
          (first
            | (refine step_append_list (by rfl) _ _ 36 (by rfl) 4 i0 (.bool false) 1 Tryd.underlying36 hi hz0 hz1 hz2 rfl w6.heap.size 0 0 f.kept.length [] (by rfl) OW.out.drew ka f.kept.length kc (boolCells9 f.kept) (by rfl) LEN.out (NEWS.out _ (Keeps.drew (Keeps.alloc (Qt.refl _) _))) (boolCells9_one _) (Nat.zero_add _) h63.out hby.out ?_; intro g7 cap7 w7 hown7 hg7 hl7; have Q7 := Lib.hid (row_kept hg7); have HB7 := Lib.hid (row_block hl7); rw [List.nil_append] at hown7; have HO7 := Lib.hid hown7; clear hown7 hg7 hl7)
            | (go_at_call 23; refine (CR.out _ Q7.out _ (bools_made HO7.out (Qt.refl _)) (fun _ _ _ e => by injection e with e1; injection e1 with e1; subst e1; exact HB7.out)).mono ?_; rintro e w8 ⟨rfl, h8, k8⟩))
        obtain ⟨I, r⟩ := E7.out
        have r0 : (dk.crashD f).areaR 2 6 (k + 1) T.size = (T.data.toList, 0) := r.resolve_right (fun h => absurd h.1 (by decide))
        have RD := fun W q h => RED.out (dk.crashD f) W q h (T.size : Int) (by omega) (by decide)
        rw [r0] at RD
        unfold readE9 at RD
        rw [errV_zero] at RD
        simp only at RD
        rw [show (⟨T.data.toList.toArray⟩ : ByteArray) = T from (of_list rfl).symm] at RD
        have K8 := Lib.hid k8
        have H8 := Lib.hid h8
        have I8 := Lib.hid I
        clear k8 h8 I r r0 d0 d1 d2 d3 d4 d5
        go_wp2_with fail
        refine (RD _ K8.out H8.out).mono ?_
        rintro e w9 ⟨rfl, h9, k9⟩
        have H9 := Lib.hid h9
        have K9 := Lib.hid k9
        have NU := num_any ad 0 w9 (RM.out.errs' k9) (by decide)
        rw [errV_zero] at NU
        clear h9 k9 RD
        go_wp2_with fail
        refine NU.mono ?_
        rintro e wa ⟨rfl, qa⟩
        have FI := Lib.hid (FN.out _ wa (keeps_qt K9.out qa) (H9.out.qt qa) I8.out)
        clear qa NU
        go_wp2
        exact ⟨FI.out, by have := hlt; simp [intOf]; omega⟩
      · rw [errV_pos ad (show 0 < 12 by decide)] at *
        go_wp2_with fail
        go_region_held3 (fun W' => W'.cell? ⟨wr.heap.size, 3, none⟩ = some (.slice ka f.kept.length kc) ∧ W'.cell? ⟨wr.heap.size, 4, none⟩ = some (.int .i64 f.torn) ∧ W'.cell? ⟨wr.heap.size, 5, none⟩ = some (.int .i64 f.bytes))
          (first | go_keep | exact KP2.out _ k8 | exact KP2.out _ (Keeps.drew k8) | exact KP.out _ (Keeps.drew Q7.out) | exact KP.out _ Q7.out)
          (first
            | (refine step_append_list (by rfl) _ _ 36 (by rfl) 4 i0 (.bool false) 1 Tryd.underlying36 hi hz0 hz1 hz2 rfl w6.heap.size 0 0 f.kept.length [] (by rfl) OW.out.drew ka f.kept.length kc (boolCells9 f.kept) (by rfl) LEN.out (NEWS.out _ (Keeps.drew (Keeps.alloc (Qt.refl _) _))) (boolCells9_one _) (Nat.zero_add _) h63.out hby.out ?_; intro g7 cap7 w7 hown7 hg7 hl7; have Q7 := Lib.hid (row_kept hg7); have HB7 := Lib.hid (row_block hl7); rw [List.nil_append] at hown7; have HO7 := Lib.hid hown7; clear hown7 hg7 hl7)
            | (go_at_call 23; refine (CR.out _ Q7.out _ (bools_made HO7.out (Qt.refl _)) (fun _ _ _ e => by injection e with e1; injection e1 with e1; subst e1; exact HB7.out)).mono ?_; rintro e w8 ⟨rfl, h8, k8⟩))
        obtain ⟨I, r⟩ := E7.out
        rcases r with r | ⟨_, r⟩
        · have RD := fun W q h => RED.out (dk.crashD f) W q h (T.size : Int) (by omega) (by decide)
          rw [r] at RD
          unfold readE9 at RD
          rw [errV_zero] at RD
          simp only at RD
          rw [show (⟨T.data.toList.toArray⟩ : ByteArray) = T from (of_list rfl).symm] at RD
          have K8 := Lib.hid k8
          have H8 := Lib.hid h8
          have I8 := Lib.hid I
          clear k8 h8 I r d0 d1 d2 d3 d4 d5
          go_wp2_with fail
          refine (RD _ K8.out H8.out).mono ?_
          rintro e w9 ⟨rfl, h9, k9⟩
          have H9 := Lib.hid h9
          have K9 := Lib.hid k9
          have NU := num_any ad 0 w9 (RM.out.errs' k9) (by decide)
          rw [errV_zero] at NU
          clear h9 k9 RD
          go_wp2_with fail
          refine NU.mono ?_
          rintro e wa ⟨rfl, qa⟩
          have FI := Lib.hid (FN.out _ wa (keeps_qt K9.out qa) (H9.out.qt qa) I8.out)
          clear qa NU
          go_wp2
          exact ⟨FI.out, by have := hlt; simp [intOf]; omega⟩
        · have RD := fun W q h => RED.out (dk.crashD f) W q h (T.size : Int) (by omega) (by decide)
          rw [r] at RD
          unfold readE9 at RD
          rw [errV_pos ad (by decide)] at RD
          simp only at RD
          have K8 := Lib.hid k8
          have H8 := Lib.hid h8
          have I8 := Lib.hid I
          clear k8 h8 I r d0 d1 d2 d3 d4 d5
          go_wp2_with fail
          refine (RD _ K8.out H8.out).mono ?_
          rintro e w9 ⟨rfl, h9, k9⟩
          have H9 := Lib.hid h9
          have K9 := Lib.hid k9
          have NU := num_any ad 15 w9 (RM.out.errs' k9) (by decide)
          rw [errV_pos ad (by decide)] at NU
          clear h9 k9 RD
          go_wp2_with fail
          refine NU.mono ?_
          rintro e wa ⟨rfl, qa⟩
          have FI := Lib.hid (FN.out _ wa (keeps_qt K9.out qa) (H9.out.qt qa) I8.out)
          clear qa NU
          go_wp2
          exact ⟨FI.out, by have := hlt; simp [intOf]; omega⟩
    · obtain rfl : k = os.length := by omega
      have FIN := Lib.hid hS.qt
      clear hI hO hS hlt
      go_wp2
      go_ret
      exact ⟨rfl, FIN.out⟩
end Go.Proofs.YtcapifhmmkmboaaDoor
