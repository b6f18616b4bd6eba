/-
  The contracts of remitmem.SpareTexts, KeptTexts.
-/
import Derived.Test.YtilhkbohemghlaaDoorMem
import Derived.Test.YtilhkbohemghlaaDoorLift
import Derived.Deep.AppendLies
namespace Go.Proofs.YtilhkbohemghlaaDoor
open Go.ChangeShapes Go.WideShapes Go.ChangeAt Go.RowKit
set_option maxRecDepth 100000

/-- A mark as a text. -/
noncomputable def wordL (i j : Int) : List UInt8 := Classical.choose (word_any i j)
theorem word_spec (i j : Int) : ∀ w, Calls Tryd.prog 62 #[.int .i64 i, .int .i64 j] w fun e w' => e = .returned (.string ⟨(wordL i j).toArray⟩) ∧ Keeps (fun _ => False) w w' := Classical.choose_spec (word_any i j)
noncomputable def marksL (k : Nat) : List (List UInt8) := (List.range k).map fun j => wordL 7 (j : Nat)
theorem marksL_length (k : Nat) : (marksL k).length = k := by simp [marksL]
theorem marksL_succ (k : Nat) : marksL (k + 1) = marksL k ++ [wordL 7 (k : Nat)] := by simp [marksL, List.range_succ]
theorem marksL_get {k j : Nat} (h : j < k) : (marksL k)[j]? = some (wordL 7 (j : Nat)) := by simp [marksL, h]

section
variable {P : Program} (w : World)
/-- Nothing is appended from nil. -/
theorem run_append_none (t ty e : TypeId) (i : TypeInfo) (ht : P.underlying t = some (.slice e)) (hi : P.info? e = some i) (v : Value) (n : Nat) (xs : List Value) (size : Nat) (hown : w.ownsRow 0 e size v n xs) (c : Nat) :
    (Builtin.append_ #[t, t] ty #[v, .slice none 0 c]).run P w = .ok v w := by
  rcases hown.2 with ⟨rfl, rfl⟩ | ⟨g, cap, cur, rfl, _, _, hnc, _⟩
  · simp [Builtin.append_, run_underlying ht, sizeOf, typeInfo, hi, Builtin.lenOf, Builtin.firstCells, loadCells, loadCellsFrom]
  · simp [Builtin.append_, run_underlying ht, sizeOf, typeInfo, hi, Builtin.lenOf, Builtin.firstCells, loadCells, loadCellsFrom, hnc, storeCells]

/-- APPEND OF A LIST THAT CAME IN (nil or not), one cell an element. -/
theorem run_append_list (t ty e : TypeId) (i : TypeInfo) (z : Value) (bytes : Nat) (ht : P.underlying t = some (.slice e)) (hi : P.info? e = some i) (hz : i.zero = some z) (hsize : i.size = 1) (hby : i.bytes = bytes) (hzs : z.cells.size = 1)
    (v : Value) (n : Nat) (xs : List Value) (hown : w.ownsRow 0 e 1 v n xs) (a : Option Addr) (c : Nat) (news : List Value) (ha : news ≠ [] → ∃ ad, a = some ad ∧ ∀ (j : Nat) u, news[j]? = some u → w.cell? (ad.add j) = some u) (h1 : ∀ u ∈ news, u.oneCell' = true)
    (h63 : n + news.length ≤ maxLen) (hbytes : (n + news.length) * bytes ≤ 140737488355328) :
    ∃ v' w', (Builtin.append_ #[t, t] ty #[v, .slice a news.length c]).run P w = .ok v' w' ∧ w'.ownsRow 0 e 1 v' (n + news.length) (xs ++ news) ∧ w.grownBy w' v.ownBlock ∧ Later w v.ownBlock v'.ownBlock := by
  by_cases hn : news = []
  · subst hn
    cases a with
    | none => exact ⟨v, w, run_append_none w t ty e i ht hi v n xs 1 hown c, by simpa using hown, ⟨rfl, rfl, rfl, Nat.le_refl _, fun _ _ _ => rfl⟩, .inl rfl⟩
    | some ad =>
      obtain ⟨v', w', h2, h3, h4, h5, _⟩ := run_append_cells0 (P := P) w t ty e i z 1 bytes ht hi hz hsize hby hzs (by decide) v n xs hown ad 0 c [] rfl (fun j u h => by simp at h) (fun u h => by cases h) h63 hbytes
      exact ⟨v', w', h2, h3, h4, h5⟩
  · obtain ⟨ad, rfl, hc⟩ := ha hn
    obtain ⟨v', w', h2, h3, h4, h5, _⟩ := run_append_cells0 (P := P) w t ty e i z 1 bytes ht hi hz hsize hby hzs (by decide) v n xs hown ad news.length c news (by simp) hc h1 h63 hbytes
    exact ⟨v', w', h2, h3, h4, h5⟩

theorem wpList_append_list {ops : Array Oper} {rest : List Oper} {o : Oper} {a : Act} {Q : Exit → Act → World → Prop} (hgd : o.guard = none) (s x : Operand) (t : TypeId)
    (ho : o.op = .call { callee := .builtin .append, args := #[s, x], argTypes := #[t, t] })
    (e : TypeId) (i : TypeInfo) (z : Value) (bytes : Nat) (ht : P.underlying t = some (.slice e)) (hi : P.info? e = some i) (hz : i.zero = some z)
    (hsize : i.size = 1) (hby : i.bytes = bytes) (hzs : z.cells.size = 1)
    (v : Value) (n : Nat) (xs : List Value) (hs : a.eval s = v) (hown : w.ownsRow 0 e 1 v n xs)
    (ad : Option Addr) (m c : Nat) (news : List Value) (hx : a.eval x = .slice ad m c) (hm : m = news.length) (ha : news ≠ [] → ∃ p, ad = some p ∧ ∀ (j : Nat) u, news[j]? = some u → w.cell? (p.add j) = some u) (h1 : ∀ u ∈ news, u.oneCell' = true)
    (h63 : n + news.length ≤ maxLen) (hbytes : (n + news.length) * bytes ≤ 140737488355328)
    (h : ∀ v' w', w'.ownsRow 0 e 1 v' (n + news.length) (xs ++ news) → w.grownBy w' v.ownBlock → Later w v.ownBlock v'.ownBlock → wpList P ops Q rest (a.put o.dst v') w') : wpList P ops Q (o :: rest) a w := by
  refine wpList_plain hgd fun K hK => ?_
  subst hm
  obtain ⟨v', w', hr, h2, h3, h4⟩ := run_append_list (P := P) w t o.type e i z bytes ht hi hz hsize hby hzs v n xs hown ad c news ha h1 h63 hbytes
  unfold Oper.wp execOp
  simp only [ho, resolve, invoke, builtin, Sem.run_bind, Sem.run_pure, Result.andThen_ok, List.map_toArray, List.map_cons, List.map_nil, hs, hx, hr]
  exact hK _ _ (h v' w' h2 h3 h4)
end

/-- SpareTexts' loop: k marks behind the list. -/
def SpareAt (ss : List (List UInt8)) (w : World) (v i : Value) (wr : World) : Prop :=
  ∃ k : Nat, k ≤ 80 ∧ i = .int .i64 k ∧ NewStrs w.heap.size wr v (ss ++ marksL k) ∧ Since w.heap.size w wr

theorem SpareAt.more {ss : List (List UInt8)} {k : Nat} {v v' : Value} {w wr w1 w2 w3 : World} (hlt : k < 80) (hn : NewStrs w.heap.size wr v (ss ++ marksL k)) (hS : Since w.heap.size w wr)
    (k1 : Keeps (fun _ => False) wr w1) (k2 : Keeps (fun _ => False) w1 w2) (hg : w2.grownBy w3 v.ownBlock) (hl : Later w2 v.ownBlock v'.ownBlock)
    (hown : w3.ownsRow 0 9 1 v' ((ss ++ marksL k).length + 1) ((ss ++ marksL k).map strV ++ [strV (wordL 7 (k : Nat))])) : SpareAt ss w v' (.int .i64 ((k + 1 : Nat) : Int)) w3 := by
  have h0 := hS.size
  have h1 := k1.size
  have h2 := k2.size
  refine ⟨k + 1, hlt, rfl, ⟨?_, fun g hg' => ?_⟩, ?_⟩
  · rw [marksL_succ, ← List.append_assoc, List.map_append, List.length_append]
    exact hown
  · rcases hl with e | ⟨g', e, hge⟩
    · exact hn.new g (e ▸ hg')
    · rw [e] at hg'; injection hg' with hg'; omega
  · exact Keeps.grown ((hS.step k1 (fun _ h => h.elim)).step k2 (fun _ h => h.elim)) hg (fun j hj e => hn.new j e.symm)

theorem NewStrs.form {B : Nat} {w : World} {v : Value} {ss : List (List UInt8)} (h : NewStrs B w v ss) (hn : 0 < ss.length) : ∃ g cap, v = .slice (some ⟨g, 0, none⟩) ss.length cap ∧ ss.length ≤ cap := by
  rcases h.own.2 with ⟨_, h0⟩ | ⟨g, cap, cur, rfl, _, hg, hnc, _⟩
  · omega
  · exact ⟨g, cap, rfl, hnc⟩

theorem ownsRow_zero {w : World} {base : Nat} {e : TypeId} {size : Nat} {v : Value} {n : Nat} {xs : List Value} (h : w.ownsRow base e size v n xs) : w.ownsRow 0 e size v n xs := by
  refine ⟨h.1, ?_⟩
  rcases h.2 with h2 | ⟨g, cap, cur, q, _, r⟩
  · exact .inl h2
  · exact .inr ⟨g, cap, cur, q, Nat.zero_le _, r⟩

theorem Strs.news {w : World} {v : Value} {g o : Nat} {ss : List (List UInt8)} (h : Strs w v g o ss) {a : Option Addr} (ha : ss ≠ [] → a = some ⟨g, o, none⟩) : ss.map strV ≠ [] → ∃ ad, a = some ad ∧ ∀ (j : Nat) u, (ss.map strV)[j]? = some u → w.cell? (ad.add j) = some u := by
  intro hne
  have hne' : ss ≠ [] := fun e => hne (by simp [e])
  refine ⟨_, ha hne', fun j u hj => ?_⟩
  rw [List.getElem?_map] at hj
  obtain ⟨s, hs, rfl⟩ := Option.map_eq_some_iff.1 hj
  rw [add_plain]
  exact h.cells j s hs

theorem strV_one (ss : List (List UInt8)) : ∀ u ∈ ss.map strV, u.oneCell' = true := by
  intro u hu
  obtain ⟨s, _, rfl⟩ := List.mem_map.1 hu
  rfl

set_option maxHeartbeats 1600000 in
theorem spare_any (v : Value) (g o : Nat) (ss : List (List UInt8)) (w : World) (hs : Strs w v g o ss) (hl : ss.length ≤ 1099511627776) :
    Calls Tryd.prog 25 #[v] w fun e w' => ∃ gf cap, e = .returned (.tuple #[.slice (some ⟨gf, 0, none⟩) ss.length cap, .slice (some ⟨gf, 0, none⟩) (ss.length + 80) cap]) ∧
      NewStrs w.heap.size w' (.slice (some ⟨gf, 0, none⟩) (ss.length + 80) cap) (ss ++ marksL 80) ∧ Keeps (fun _ => False) w w' := by
  obtain ⟨i0, hi, hz0, hz1, hz2⟩ := info_parts infoString
  obtain ⟨a, cap, rfl, ha⟩ := hs.val
  have HS := Lib.hid hs
  have Ha := Lib.hid ha
  clear hs ha
  go_enter Tryd.func25, Tryd.ntmps25
  go_wp2_with (at_make; refine wpList_make_own _ rfl _ _ 28 rfl 0 9 i0 (.string ⟨#[]⟩) 1 Tryd.underlying28 hi hz0 hz1 .i64 .i64 _ (ss.length + 80) rfl rfl (by first | omega | simp) (by rw [hz2]; omega) (by unfold maxLen; omega) (Nat.zero_le _) ?_)
  intro W1 hown1 hgrow1
  have k1 := (Keeps.refl (fun _ => False) w).grown hgrow1 (fun k _ e => by cases e)
  have hnew := HS.out.kept k1 (fun _ h => h)
  have Hnews := Lib.hid (hnew.news Ha.out)
  have K1 := Lib.hid k1
  have hh : w.heap.size ≤ W1.heap.size := k1.size
  clear hnew k1 hgrow1
  go_wp2_with (at_builtin; refine wpList_append_list _ rfl _ _ 28 rfl 9 i0 (.string ⟨#[]⟩) 16 Tryd.underlying28 hi hz0 hz1 hz2 rfl _ 0 [] rfl hown1 a ss.length cap (ss.map strV) rfl (by simp) Hnews.out (strV_one ss) (by simp; unfold maxLen; omega) (by simp; omega) ?_)
  intro v1 W2 hown2 hgrow2 hlat2
  have K2 := Lib.hid (K1.out.grown hgrow2 (fun k hk e => by simp [Value.ownBlock] at e; omega))
  have hs2 : W1.heap.size ≤ W2.heap.size := hgrow2.size
  have N2 : SpareAt ss w v1 (.int .i64 0) W2 := ⟨0, by omega, rfl, ⟨by simpa [marksL] using hown2, fun k hk => by
    rcases hlat2 with e | ⟨k', e, he⟩
    · rw [e] at hk; simp [Value.ownBlock] at hk; omega
    · rw [e] at hk; injection hk with hk; omega⟩, K2.out.mono (fun _ _ h => h.elim)⟩
  clear hown1 hown2 hgrow2 hlat2 K1 K2 Hnews hs2 hh
  go_wp2
  go_loopw [4, 5] (fun v i wr => SpareAt ss w v i wr) (fun _ i _ => 80 - (intOf i).toNat)
  case atStart => exact N2
  case round =>
    obtain ⟨k, hk, rfl, hn, hS⟩ := hrel
    clear N2
    have Hn := Lib.hid hn
    have HSr := Lib.hid hS
    by_cases hlt : k < 80
    · clear hn hS
      go_wp2_with fail
      refine (word_spec 7 _ wr).mono ?_
      rintro e W3 ⟨rfl, k3⟩
      have K3 := Lib.hid k3
      have hn3 := Hn.out.kept k3 (fun _ _ h => h)
      have own3 := hn3.own
      rw [show (ss ++ marksL k).length = ss.length + k by rw [List.length_append, marksL_length]] at own3
      clear k3 hn3
      go_wp2_with (at_builtin; refine wpList_append_cells0 _ rfl _ _ 28 rfl 9 i0 (.string ⟨#[]⟩) 1 16 Tryd.underlying28 hi hz0 hz1 hz2 rfl (by decide) _ (ss.length + k) _ rfl (own3.alloc _) ⟨W3.heap.size, 0, none⟩ 1 1 [strV (wordL 7 (k : Nat))] rfl rfl ?c1 (strV_one [_]) (by unfold maxLen; omega) (by omega) ?_)
      case c1 => exact World.news_of_block (cs := #[strV (wordL 7 (k : Nat))]) (heap_alloc_new W3 _)
      intro v' W4 hown4 hgrow4 hlat4 _
      have fin := Lib.hid (SpareAt.more hlt Hn.out HSr.out K3.out ((Keeps.refl _ _).alloc _) hgrow4 hlat4 (by rw [show (ss ++ marksL k).length = ss.length + k by rw [List.length_append, marksL_length], List.map_append, List.append_assoc]; exact hown4))
      clear own3 hown4 hgrow4 hlat4
      go_wp2
      go_roundw
      case rel => exact fin.out
      case measure => simp [intOf]; omega
    · obtain rfl : k = 80 := by omega
      obtain ⟨gf, capf, rfl, hcap⟩ := hn.form (by simp [marksL_length])
      have hbl : w.heap.size ≤ gf := hn.new gf rfl
      have hle : (ss ++ marksL 80).length = ss.length + 80 := by rw [List.length_append, marksL_length]
      rw [hle] at hcap
      rw [hle] at Hn ⊢
      have h1 : (ss.length : Int) ≤ (capf : Int) := by omega
      have fin := Lib.hid (show ∃ gf' cap', Ending.returned (.tuple #[.slice (some ⟨gf, 0, none⟩) ss.length capf, .slice (some ⟨gf, 0, none⟩) (ss.length + 80) capf]) = .returned (.tuple #[.slice (some ⟨gf', 0, none⟩) ss.length cap', .slice (some ⟨gf', 0, none⟩) (ss.length + 80) cap']) ∧
        NewStrs w.heap.size wr (.slice (some ⟨gf', 0, none⟩) (ss.length + 80) cap') (ss ++ marksL 80) ∧ Keeps (fun _ => False) w wr from ⟨gf, capf, rfl, Hn.out, Keeps.fresh HSr.out⟩)
      clear hn hS hlt
      go_wp2
      go_ret2
      exact fin.out
end Go.Proofs.YtilhkbohemghlaaDoor
