/-
  The contract of From.
  The contract of remitref06's From.
-/
import Derived.Test.YtggogaaooacooaaDoorP17
import Derived.Test.YtggogaaooacooaaDoorP13
namespace Go.Proofs.YtggogaaooacooaaDoor
open Go.RowKit Go.WideShapes
set_option maxRecDepth 100000

/-- The sectors of an image. -/
def cutAt (l : List UInt8) (k : Nat) : List UInt8 := (l.drop (k * 256)).take 256
def cuts (l : List UInt8) (n : Nat) : List (List UInt8) := (List.range n).map (cutAt l)
theorem cutAt_length {l : List UInt8} {n k : Nat} (h : l.length = n * 256) (hk : k < n) : (cutAt l k).length = 256 := by
  simp only [cutAt, List.length_take, List.length_drop, h]
  have : k * 256 + 256 ≤ n * 256 := by omega
  omega

/-- The first k sectors of an image laid. -/
def fromTo (l : List UInt8) (n k : Nat) : List (List UInt8) := cuts l k ++ List.replicate (n - k) zeros
theorem fromTo_length {l : List UInt8} {n k : Nat} (hk : k ≤ n) : (fromTo l n k).length = n := by simp [fromTo, cuts]; omega
theorem fromTo_each {l : List UInt8} {n k : Nat} (h : l.length = n * 256) (hk : k ≤ n) : ∀ (i : Nat) (t : List UInt8), (fromTo l n k)[i]? = some t → t.length = 256 := by
  intro i t ht
  unfold fromTo at ht
  have hc : (cuts l k).length = k := by simp [cuts]
  by_cases hi : i < k
  · rw [List.getElem?_append_left (by omega)] at ht
    simp only [cuts, List.getElem?_map, List.getElem?_range hi, Option.map_some, Option.some.injEq] at ht
    rw [← ht]
    exact cutAt_length h (by omega)
  · rw [List.getElem?_append_right (by omega), List.getElem?_replicate] at ht
    split at ht
    · injection ht with ht; subst ht; simp [zeros]
    · cases ht
theorem fromTo_set {l : List UInt8} {n k : Nat} (hk : k < n) : (fromTo l n k).set k (cutAt l k) = fromTo l n (k + 1) := by
  unfold fromTo
  have hc : (cuts l k).length = k := by simp [cuts]
  rw [List.set_append_right _ _ (by omega), hc, Nat.sub_self]
  have e : List.replicate (n - k) zeros = zeros :: List.replicate (n - (k + 1)) zeros := by rw [show n - k = (n - (k + 1)) + 1 by omega, List.replicate_succ]
  rw [e, List.set_cons_zero]
  have e2 : cuts l (k + 1) = cuts l k ++ [cutAt l k] := by simp [cuts, List.range_succ]
  rw [e2, List.append_assoc]
  rfl
theorem fromTo_all (l : List UInt8) (n : Nat) : fromTo l n n = cuts l n := by simp [fromTo]
theorem fromTo_zero (l : List UInt8) (n : Nat) : fromTo l n 0 = List.replicate n zeros := by simp [fromTo, cuts]

def DS.fromD (l : List UInt8) (n : Nat) : DS := ⟨cuts l n, [], -1, false, 0, 0, 0⟩

section
variable {w : World} {b gd mb : Nat} {uv : Value}

/-- The state of From's loop. -/
def FromAt (l : List UInt8) (n : Nat) (w1 : World) (b gd mb : Nat) (uv : Value) (iv : Value) (wr : World) : Prop :=
  ∃ k : Nat, k ≤ n ∧ iv = .int .i64 k ∧ DiskP wr b gd mb uv ((DS.newD n).setDur (fromTo l n k)) ∧ Keeps (foot b gd mb uv) w1 wr

theorem FromAt.more {l : List UInt8} {n k : Nat} {w1 wr W' : World} (hl : l.length = n * 256) (hk : k < n) (P : DiskP wr b gd mb uv ((DS.newD n).setDur (fromTo l n k))) (K : Keeps (foot b gd mb uv) w1 wr) (q : Qt wr W') :
    FromAt l n w1 b gd mb uv (.int .i64 ((k : Int) + 1)) (W'.setCells gd (k * 256) (Lib.byteCells (cutAt l k))) := by
  have hlen := cutAt_length hl hk
  obtain ⟨P', K'⟩ := P.store q (p := k) (n := 256) (s := cutAt l k) (by simp only [DS.setDur]; rw [fromTo_length (by omega)]; exact hk) (Nat.le_refl _) hlen
  rw [List.take_of_length_le (by omega)] at P' K'
  refine ⟨k + 1, hk, by simp, ?_, Keeps.trans K K' (fun i _ e => by subst e; exact .inr (.inl rfl))⟩
  have hold : ((fromTo l n k).getD k []).length = 256 := getD_length (fromTo_each hl (by omega)) (by rw [fromTo_length (by omega)]; exact hk)
  have e : ((DS.newD n).setDur (fromTo l n k)).dur.set k (tornBy (((DS.newD n).setDur (fromTo l n k)).dur.getD k []) (cutAt l k) 256) = fromTo l n (k + 1) := by
    simp only [DS.setDur]
    rw [tornBy_all hold hlen, fromTo_set hk]
  rw [e] at P'
  exact P'
end
theorem run_copy_string_part {P : Program} (w : World) (dT sT ty elem : TypeId) (b o dLen dCap : Nat) (t : ByteArray)
    (hu : P.underlying dT = some (.slice elem)) (hz : ∀ w, (Go.sizeOf elem).run P w = .ok 1 w) (hle : dLen ≤ t.size)
    (hc : ∀ j, j < dLen → (w.cell? ⟨b, o + j, none⟩).isSome = true) (hf : ∀ j, j < dLen → w.frozen? ⟨b, o + j, none⟩ = false) :
    (Builtin.copy_ #[dT, sT] ty #[.slice (some ⟨b, o, none⟩) dLen dCap, .string t]).run P w = .ok (goInt dLen) (w.setCells b o (Lib.byteCells (t.data.toList.take dLen))) := by
  have hmin : Nat.min t.size dLen = dLen := Nat.min_eq_right hle
  have hl : (Lib.byteCells (t.data.toList.take dLen)).length = dLen := by rw [Lib.byteCells_length, List.length_take]; simp; omega
  have hst := run_storeCells_cells (P := P) b o (Lib.byteCells (t.data.toList.take dLen)) 0 w (by rw [hl]; simpa using hc) (by rw [hl]; simpa using hf) (byteCells_one1 _)
  have he : (t.data.toList.map fun x => Value.int .u8 (x.toNat : Int)).take dLen = Lib.byteCells (t.data.toList.take dLen) := by unfold Lib.byteCells; rw [List.map_take]
  simp [Builtin.copy_, run_underlying hu, Builtin.lenOf, Builtin.firstCells, hz, hmin]
  rw [he, hst]
  rfl

def FromP (ad : Nat → Addr) (s : ByteArray) (w : World) (e : Ending) (w' : World) : Prop :=
  (s.size % 256 ≠ 0 ∧ e = .returned (.tuple #[.pointer none, errV ad 7]) ∧ Qt w w') ∨
  (s.size % 256 = 0 ∧ ¬ (1 ≤ s.size / 256 ∧ s.size / 256 ≤ 65536) ∧ e = .returned (.tuple #[.pointer none, errV ad 6]) ∧ Qt w w') ∨
  (s.size % 256 = 0 ∧ 1 ≤ s.size / 256 ∧ s.size / 256 ≤ 65536 ∧ ∃ b, e = .returned (.tuple #[.pointer (some ⟨b, 0, none⟩), .nilIface]) ∧ DiskAt w' b (DS.fromD (strL s) (s.size / 256)) (Grow (fun _ => False) w w') ∧ Qt w w')

theorem from_form (ad : Nat → Addr) (s : ByteArray) (w : World) (hE : Errs ad w) (hs : s.size ≤ 4611686018427387904) (h : s.size % 256 ≠ 0) : Calls Tryd.prog 15 #[.string s] w (FromP ad s w) := by
  have e7 : w.cell? ⟨1, 0, none⟩ = some (.iface 168 (.pointer (some (ad 7)))) := hE.cells 6 _ rfl
  have g1 : (s.size : Int).tmod 256 = ((s.size % 256 : Nat) : Int) := by rw [Int.tmod_eq_emod_of_nonneg (by omega)]; omega
  have g2 : (((s.size % 256 : Nat) : Int) != 0) = true := by rw [bne_iff_ne]; omega
  go_enter Tryd.func15, Tryd.ntmps15
  clear hE
  go_wp2
  go_quiet (fail)
  go_wp2
  go_ret2
  exact .inl ⟨h, rfl, (Qt.refl _).drewN _⟩
theorem from_range (ad : Nat → Addr) (s : ByteArray) (w : World) (hE : Errs ad w) (hs : s.size ≤ 4611686018427387904) (h : s.size % 256 = 0) (hn : ¬ (1 ≤ s.size / 256 ∧ s.size / 256 ≤ 65536)) : Calls Tryd.prog 15 #[.string s] w (FromP ad s w) := by
  have g1 : (s.size : Int).tmod 256 = 0 := by rw [Int.tmod_eq_emod_of_nonneg (by omega)]; omega
  have g2 : (s.size : Int).tdiv 256 = ((s.size / 256 : Nat) : Int) := by rw [Int.tdiv_eq_ediv_of_nonneg (by omega)]; omega
  have HN := Lib.hid (fun w' (hE' : Errs ad w') => new_err ad ((s.size / 256 : Nat) : Int) w' hE' (by omega))
  have HE := Lib.hid hE
  go_enter Tryd.func15, Tryd.ntmps15
  clear hE
  go_wp2_with fail
  refine (HN.out w HE.out).mono ?_
  rintro e w' ⟨rfl, q⟩
  have HQ := Lib.hid q
  clear q
  rw [errV_ne (by decide)]
  go_wp2
  go_ret2
  exact .inr (.inl ⟨h, hn, rfl, HQ.out⟩)

theorem copied_str (W : World) (gd n k : Nat) (s : ByteArray) (hs : s.size = n * 256) (hk : k < n) (ht : W.there gd (k * 256) 256) :
    (Builtin.copy_ #[75, 9] 3 #[.slice (some ⟨gd, k * 256, none⟩) 256 256, .string (s.extract (k * 256) s.size)]).run Tryd.prog W = .ok (goInt 256) (W.setCells gd (k * 256) (Lib.byteCells (cutAt (strL s) k))) := by
  have hx : (s.extract (k * 256) s.size).size = s.size - k * 256 := by simp
  have hle : 256 ≤ (s.extract (k * 256) s.size).size := by
    rw [hx, hs]
    have : k * 256 + 256 ≤ n * 256 := by omega
    omega
  have h := run_copy_string_part (P := Tryd.prog) W 75 9 3 5 gd (k * 256) 256 256 (s.extract (k * 256) s.size) Tryd.underlying75 byteSize hle (fun j hj => (ht j hj).1) (fun j hj => (ht j hj).2)
  have e : (s.extract (k * 256) s.size).data.toList.take 256 = cutAt (strL s) k := by
    unfold cutAt strL
    rw [ByteArray.data_extract, Array.toList_extract, List.extract_eq_take_drop, List.take_take, Nat.min_eq_left (by rw [hx] at hle; exact hle)]
  rw [e] at h
  exact h

theorem FromP.fin {ad : Nat → Addr} {s : ByteArray} {w w1 wr : World} {b gd mb n : Nat} {uv : Value} {e : Ending} (h : s.size % 256 = 0) (hn : s.size / 256 = n) (h1 : 1 ≤ n) (h2 : n ≤ 65536)
    (he : e = .returned (.tuple #[.pointer (some ⟨b, 0, none⟩), .nilIface])) (q : Qt w w1) (hS : ∀ k, foot b gd mb uv k → Grow (fun _ => False) w w1 k) (K : Keeps (foot b gd mb uv) w1 wr) (P : DiskP wr b gd mb uv ((DS.newD n).setDur (fromTo (strL s) n n))) : FromP ad s w e wr := by
  subst hn
  refine .inr (.inr ⟨h, h1, h2, b, he, ⟨gd, mb, uv, ?_, fun k hk => ?_⟩, ?_⟩)
  · rw [fromTo_all] at P; exact P
  · rcases hS k hk with q | q
    · exact q.elim
    · exact .inr ⟨q.1, P.lt k hk⟩
  · refine Keeps.trans q K (fun k hk hf => ?_)
    rcases hS k hf with q | q
    · exact q
    · omega

theorem from_ok (ad : Nat → Addr) (s : ByteArray) (w : World) (hs : s.size ≤ 4611686018427387904) (h : s.size % 256 = 0) (h1 : 1 ≤ s.size / 256) (h2 : s.size / 256 ≤ 65536) : Calls Tryd.prog 15 #[.string s] w (FromP ad s w) := by
  have g1 : (s.size : Int).tmod 256 = 0 := by rw [Int.tmod_eq_emod_of_nonneg (by omega)]; omega
  have g2 : (s.size : Int).tdiv 256 = ((s.size / 256 : Nat) : Int) := by rw [Int.tdiv_eq_ediv_of_nonneg (by omega)]; omega
  obtain ⟨n, hn⟩ : ∃ n, s.size / 256 = n := ⟨_, rfl⟩
  rw [hn] at h1 h2 g2
  have hsz : s.size = n * 256 := by omega
  have hl : (strL s).length = n * 256 := by unfold strL; simp; exact hsz
  have HN := Lib.hid (fun w' => new_ok n w' h1 h2)
  go_enter Tryd.func15, Tryd.ntmps15
  go_wp2_with fail
  refine (HN.out _).mono ?_
  rintro e w1 ⟨rfl, ⟨gd, mb, uv, P1, hS⟩, q⟩
  have P1' : DiskP w1 (w.heap.size + 2) gd mb uv ((DS.newD n).setDur (fromTo (strL s) n 0)) := by rw [fromTo_zero]; exact P1
  obtain ⟨b, hb⟩ : ∃ b, w.heap.size + 2 = b := ⟨_, rfl⟩
  rw [hb] at P1' hS
  rw [hb]
  obtain ⟨ua, uc, huv, _⟩ := own_slice P1'.ways
  subst huv
  have FIN := Lib.hid (fun wr (K : Keeps (foot b gd mb (.slice ua 0 uc)) w1 wr) (P : DiskP wr b gd mb (.slice ua 0 uc) ((DS.newD n).setDur (fromTo (strL s) n n))) => FromP.fin (ad := ad) (s := s) (e := .returned (.tuple #[.pointer (some ⟨b, 0, none⟩), .nilIface])) h hn h1 h2 rfl q hS K P)
  have H1 := Lib.hid P1'
  have HL := Lib.hid hl
  have HZ := Lib.hid hsz
  have c0 : w1.cell? ⟨b, 0, none⟩ = some (.slice (some ⟨gd, 0, none⟩) n n) := P1'.cell 0 _ (by simp [diskCells, DS.setDur, fromTo_length])
  clear P1' P1 q hS hl hsz
  go_wp2_with fail
  clear c0
  go_loopw [27] (fun x wr => FromAt (strL s) n w1 b gd mb (.slice ua 0 uc) x wr) (fun x _ => n - (intOf x).toNat)
  case atStart => exact ⟨0, Nat.zero_le _, rfl, H1.out, Keeps.refl _ _⟩
  case round =>
    obtain ⟨k, hk, rfl, P, K⟩ := hrel
    by_cases hlt : k < n
    · have C0 : wr.cell? ⟨b, 0, none⟩ = some (.slice (some ⟨gd, 0, none⟩) n n) := P.cell 0 _ (by simp [diskCells, DS.setDur, fromTo_length hk])
      have HF := Lib.hid (fun (W : World) (q : Qt wr W) => FromAt.more HL.out hlt P K q)
      have HC := Lib.hid (copied_str wr.drew gd n k s HZ.out hlt ((P.kept (Qt.refl wr).drew (fun _ _ e => e)).there (p := k) (by simp only [DS.setDur]; rw [fromTo_length hk]; exact hlt)))
      have zs := HZ.out
      have hwr : IntKind.i64.wrap ((k : Int) * 256) = (k : Int) * 256 := IntWalk.i64_in _ (by omega)
      have k0 : (0 : Int) ≤ (k : Int) * 256 := by omega
      have k1 : (k : Int) * 256 ≤ (s.size : Int) := by rw [zs]; omega
      have k2 : ((k : Int) * 256).toNat = k * 256 := by omega
      clear zs
      clear P K
      go_wp2_with fail
      refine wp_region_still_tail 11 (by kernel_rfl) (by kernel_rfl) ?_
      simp only [List.take_succ_cons, List.take_zero, List.drop_succ_cons, List.drop_zero]
      repeat still_step
      try rw [hwr]
      try still_step
      try refine wpStill_nil ?_
      change wpList _ _ _ _ _ (World.drew wr)
      have HF2 := Lib.hid (HF.out _ (Qt.refl wr).drew)
      go_wp2_with (refine Lib.wpList_copy_run _ rfl _ _ 75 9 rfl _ _ rfl rfl HC.out ?_)
      go_roundw
      case rel => exact HF2.out
      case measure => simp [intOf]; omega
    · obtain rfl : k = n := by omega
      have FIN2 := Lib.hid (FIN.out wr K P)
      clear P K hlt
      go_wp2_with fail
      go_ret2
      exact FIN2.out

theorem from_any (ad : Nat → Addr) (s : ByteArray) (w : World) (hE : Errs ad w) (hs : s.size ≤ 4611686018427387904) : Calls Tryd.prog 15 #[.string s] w (FromP ad s w) := by
  by_cases h : s.size % 256 = 0
  · by_cases hn : 1 ≤ s.size / 256 ∧ s.size / 256 ≤ 65536
    · exact from_ok ad s w hs h hn.1 hn.2
    · exact from_range ad s w hE hs h hn
  · exact from_form ad s w hE hs h
end Go.Proofs.YtggogaaooacooaaDoor
namespace Go.Proofs.YtggogaaooacooaaDoor
open Go.RowKit Go.WideShapes
set_option maxRecDepth 100000

theorem cut_text (s : ByteArray) (k : Nat) : s.extract (256 * k) (256 * k + 256) = ⟨(cutAt (strL s) k).toArray⟩ := by
  apply ByteArray.ext
  rw [ByteArray.data_extract]
  apply Array.toList_inj.1
  rw [Array.toList_extract, List.extract_eq_take_drop]
  unfold cutAt strL
  simp only
  rw [show 256 * k + 256 - 256 * k = 256 by omega, show 256 * k = k * 256 by omega]

theorem fromD_ok {l : List UInt8} {n : Nat} (h1 : 1 ≤ n) (h2 : n ≤ 65536) (hl : l.length = n * 256) : (DS.fromD l n).Ok := by
  have hc : (cuts l n).length = n := by simp [cuts]
  refine ⟨by simp only [DS.fromD]; omega, by simp only [DS.fromD]; omega, ?_, fun k x hx => by simp [DS.fromD] at hx, by simp [DS.fromD], by simp [DS.fromD]⟩
  intro i t ht
  simp only [DS.fromD] at ht
  exact fromTo_each hl (Nat.le_refl n) i t (by rw [fromTo_all]; exact ht)

/-- The state of From's loop. -/
def SFromAt (w : World) (b n : Nat) (l : List UInt8) (iv : Value) (wr : World) : Prop := ∃ (k : Nat) (sv : Value), k ≤ n ∧ iv = .int .i64 k ∧ NewI w wr b sv (cuts l k)

def SFromP (s : ByteArray) (w : World) (e : Ending) (w' : World) : Prop :=
  (s.size % 256 ≠ 0 ∧ e = .returned (.tuple #[.pointer none, .int .i64 7]) ∧ Qt w w') ∨
  (s.size % 256 = 0 ∧ ¬ (1 ≤ s.size / 256 ∧ s.size / 256 ≤ 65536) ∧ e = .returned (.tuple #[.pointer none, .int .i64 6]) ∧ Qt w w') ∨
  (s.size % 256 = 0 ∧ 1 ≤ s.size / 256 ∧ s.size / 256 ≤ 65536 ∧ ∃ b, e = .returned (.tuple #[.pointer (some ⟨b, 0, none⟩), .int .i64 0]) ∧ RefAt w' b (DS.fromD (strL s) (s.size / 256)) (Grow (fun _ => False) w w') ∧ Qt w w')

theorem ref_from_form (s : ByteArray) (w : World) (hs : s.size ≤ 4611686018427387904) (h : s.size % 256 ≠ 0) : Calls Tryd.prog 16 #[.string s] w (SFromP s w) := by
  have g1 : (s.size : Int).tmod 256 = ((s.size % 256 : Nat) : Int) := by rw [Int.tmod_eq_emod_of_nonneg (by omega)]; omega
  have g2 : (((s.size % 256 : Nat) : Int) != 0) = true := by rw [bne_iff_ne]; omega
  have FIN := Lib.hid (show SFromP s w (.returned (.tuple #[.pointer none, .int .i64 7])) w from .inl ⟨h, rfl, Qt.refl _⟩)
  go_enter Tryd.func16, Tryd.ntmps16
  go_wp2
  go_ret2
  exact FIN.out

theorem ref_from_range (s : ByteArray) (w : World) (hs : s.size ≤ 4611686018427387904) (h : s.size % 256 = 0) (hn : ¬ (1 ≤ s.size / 256 ∧ s.size / 256 ≤ 65536)) : Calls Tryd.prog 16 #[.string s] w (SFromP s w) := by
  have g1 : (s.size : Int).tmod 256 = 0 := by rw [Int.tmod_eq_emod_of_nonneg (by omega)]; omega
  obtain ⟨n, hnn⟩ : ∃ n, s.size / 256 = n := ⟨_, rfl⟩
  have FIN := Lib.hid (show SFromP s w (.returned (.tuple #[.pointer none, .int .i64 6])) w from .inr (.inl ⟨h, hn, rfl, Qt.refl _⟩))
  have g2 : (s.size : Int).tdiv 256 = (n : Int) := by rw [Int.tdiv_eq_ediv_of_nonneg (by omega)]; omega
  rw [hnn] at hn
  have hb : n ≤ 4611686018427387904 := by omega
  by_cases h1 : n < 1
  · have g3 : decide ((n : Int) < 1) = true := decide_eq_true (by omega)
    clear hn h hnn
    go_enter Tryd.func16, Tryd.ntmps16
    go_wp2
    go_ret2
    exact FIN.out
  · have g3 : decide ((n : Int) < 1) = false := decide_eq_false (by omega)
    have g4 : decide ((65536 : Int) < (n : Int)) = true := decide_eq_true (by omega)
    have g5 : 65536 < n := by omega
    clear hn h hnn
    go_enter Tryd.func16, Tryd.ntmps16
    go_wp2
    go_ret2
    exact FIN.out

set_option maxHeartbeats 3200000 in
theorem ref_from_ok (s : ByteArray) (w : World) (hs : s.size ≤ 4611686018427387904) (h : s.size % 256 = 0) (h1 : 1 ≤ s.size / 256) (h2 : s.size / 256 ≤ 65536) : Calls Tryd.prog 16 #[.string s] w (SFromP s w) := by
  have g1 : (s.size : Int).tmod 256 = 0 := by rw [Int.tmod_eq_emod_of_nonneg (by omega)]; omega
  have g2 : (s.size : Int).tdiv 256 = ((s.size / 256 : Nat) : Int) := by rw [Int.tdiv_eq_ediv_of_nonneg (by omega)]; omega
  have FIN := Lib.hid (fun b w' (h3 : RefAt w' b (DS.fromD (strL s) (s.size / 256)) (Grow (fun _ => False) w w')) (q : Qt w w') => (show SFromP s w (.returned (.tuple #[.pointer (some ⟨b, 0, none⟩), .int .i64 0])) w' from .inr (.inr ⟨h, h1, h2, b, rfl, h3, q⟩)))
  obtain ⟨n, hn⟩ : ∃ n, s.size / 256 = n := ⟨_, rfl⟩
  rw [hn] at h1 h2 g2 FIN
  have hsz : s.size = n * 256 := by omega
  have HSZ := Lib.hid hsz
  have g3 : ¬ n < 1 := by omega
  have g4 : ¬ 65536 < n := by omega
  have HST := Lib.hid (NewI.start w)
  obtain ⟨w1, hw1⟩ : ∃ W, w.alloc (.cells #[.slice none 0 0, .slice none 0 0, .bool false, .bool false, .int .i64 0, .int .i64 0, .int .i64 0, .int .i64 0] 84) = W := ⟨_, rfl⟩
  rw [hw1] at HST
  have HW1 := Lib.hid hw1
  obtain ⟨b, hb⟩ : ∃ b, w.heap.size = b := ⟨_, rfl⟩
  rw [hb] at HST
  have HBB := Lib.hid hb
  clear hw1 hb hn h hsz
  go_enter Tryd.func16, Tryd.ntmps16
  go_wp2_with fail
  rw [HW1.out, HBB.out]
  go_loopw [6] (fun iv wr => SFromAt w b n (strL s) iv wr) (fun iv _ => n - (intOf iv).toNat)
  case atStart => exact ⟨0, _, Nat.zero_le _, rfl, HST.out⟩
  case round =>
    obtain ⟨k, sv, hk, rfl, hI⟩ := hrel
    have hcl : (cuts (strL s) k).length = k := by simp [cuts]
    by_cases hlt : k < n
    · obtain ⟨sa, sc, hsv, _⟩ := own_slice hI.secs
      subst hsv
      rw [hcl] at hI
      have c0 : wr.cell? ⟨b, 0, none⟩ = some (.slice sa k sc) := by rw [cell_of_row _ _ _ _ _ _ hI.cells]; rfl
      have HI := Lib.hid hI
      have sA : ∀ wx : World, (Instr.slice 9 (.string s) (some (.int .i64 (256 * (k : Int)))) (some (.int .i64 (256 * (k : Int) + 256))) none).run Tryd.prog wx = .ok (.string ⟨(cutAt (strL s) k).toArray⟩) wx := fun wx => by
        rw [← cut_text s k]
        have hz := HSZ.out
        have := run_slice_string (P := Tryd.prog) wx 9 s .i64 .i64 (256 * (k : Int)) (256 * (k : Int) + 256) Tryd.underlying9 (by omega) (by omega) (by omega)
        rw [this, show (256 * (k : Int)).toNat = 256 * k by omega, show (256 * (k : Int) + 256).toNat = 256 * k + 256 by omega]
      have hw1 : IntKind.i64.wrap (256 * (k : Int)) = 256 * (k : Int) := IntWalk.i64_in _ (by omega)
      have hw2 : IntKind.i64.wrap (256 * (k : Int) + 256) = 256 * (k : Int) + 256 := IntWalk.i64_in _ (by omega)
      obtain ⟨Z, hZ⟩ : ∃ Z : ByteArray, ⟨(cutAt (strL s) k).toArray⟩ = Z := ⟨_, rfl⟩
      rw [hZ] at sA
      have hzv : Value.string Z = strV (cutAt (strL s) k) := by rw [← hZ]; rfl
      have qB : Qt wr (wr.alloc (.cells #[.string Z] 9)).drew := Keeps.drew ((Qt.refl wr).alloc (.cells #[.string Z] 9))
      have cB : (wr.alloc (.cells #[.string Z] 9)).cell? ⟨b, 0, none⟩ = some (.slice sa k sc) := Qt.cellv ((Qt.refl wr).alloc (.cells #[.string Z] 9)) c0
      have OW := Lib.hid (show ((wr.alloc (.cells #[.string Z] 9)).drew).ownsRow 0 9 1 (.slice sa k sc) k ((cuts (strL s) k).map strV) from by have := (HI.out.qt' qB).secs; rw [hcl] at this; exact this)
      have nw := World.news_of_block (cs := #[.string Z]) (heap_alloc_new wr (.cells #[.string Z] 9))
      have NW := Lib.hid (show ∀ (j : Nat) (y : Value), [Value.string Z][j]? = some y → ((wr.alloc (.cells #[.string Z] 9)).drew).cell? ((⟨wr.heap.size, 0, none⟩ : Addr).add j) = some y from nw)
      have F := Lib.hid (fun (g' cap' : Nat) (w4 : World) (ho : w4.ownsRow 0 9 1 (.slice (some ⟨g', 0, none⟩) (k + 1) cap') (k + 1) ((cuts (strL s) k).map strV ++ [.string Z]))
        (hc : (some g' = (Value.slice sa k sc).ownBlock ∧ ((wr.alloc (.cells #[.string Z] 9)).drew).grownBy w4 (Value.slice sa k sc).ownBlock) ∨ (((wr.alloc (.cells #[.string Z] 9)).drew).heap.size ≤ g' ∧ ((wr.alloc (.cells #[.string Z] 9)).drew).grownBy w4 none)) => NewI.push2 (s := cutAt (strL s) k) (HI.out.qt' qB) hcl hzv ho hc)
      obtain ⟨j0, hi, hz0, hz1, hz2⟩ := info_parts infoStr7
      have HCL := Lib.hid hcl
      clear qB hZ nw hzv hcl hI
      go_wp2_with fail
      go_region_law ((refine step_append_one _ (by rfl) _ _ _ (by rfl) 9 j0 (.string ⟨#[]⟩) 16 Tryd.underlying66 hi hz0 hz1 hz2 rfl _ k _ (by rfl) OW.out ⟨wr.heap.size, 0, none⟩ 1 (.string Z) (by rfl) NW.out rfl (by unfold maxLen; omega) (by omega) ?_; intro g' cap' w4 hown4 hcase4; obtain ⟨q1, q2, q3⟩ := F.out g' cap' w4 hown4 hcase4; have HQ1 := Lib.hid q1; clear hown4 hcase4 q1))
      all_goals
        have FF := Lib.hid (show SFromAt w b n (strL s) (.int .i64 ((k : Int) + 1)) (w4.setCell ⟨b, 0, none⟩ (.slice (some ⟨g', 0, none⟩) (k + 1) cap')) from ⟨k + 1, _, hlt, by simp, by rw [show cuts (strL s) (k + 1) = cuts (strL s) k ++ [cutAt (strL s) k] by simp [cuts, List.range_succ]]; exact HQ1.out⟩)
        clear cB sA q2 q3 c0
        go_wp2_with fail
        go_roundw
        case rel => exact FF.out
        case measure => simp [intOf]; omega
    · obtain rfl : k = n := by omega
      have FIN2 := Lib.hid (FIN.out b wr (hI.done (fromD_ok h1 h2 (show (strL s).length = k * 256 from HSZ.out))) hI.qt)
      clear hI hlt hcl
      go_wp2_with fail
      go_ret2
      exact FIN2.out

theorem ref_from (s : ByteArray) (w : World) (hs : s.size ≤ 4611686018427387904) : Calls Tryd.prog 16 #[.string s] w (SFromP s w) := by
  by_cases h : s.size % 256 = 0
  · by_cases hn : 1 ≤ s.size / 256 ∧ s.size / 256 ≤ 65536
    · exact ref_from_ok s w hs h hn.1 hn.2
    · exact ref_from_range s w hs h hn
  · exact ref_from_form s w hs h
end Go.Proofs.YtggogaaooacooaaDoor
