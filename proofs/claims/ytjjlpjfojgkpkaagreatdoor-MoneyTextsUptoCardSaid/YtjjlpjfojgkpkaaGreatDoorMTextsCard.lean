/-
  MoneyTexts (P4.2): an amount's text is read as the amount; two amounts have one text just if they are one; what is read is the text of what was read. Proved here: the second form's card: for every two amounts, every number and every text of bulk at most 1048576 the law answers true and its arguments read as before.
-/
import Derived.Test.YtjjlpjfojgkpkaaGreatDoorMTexts
import Derived.Test.YtjjlpjfojgkpkaaGreatDoorMDoorT
import Derived.Test.YtjjlpjfojgkpkaaGreatDoorMLift
import Derived.Test.YtjjlpjfojgkpkaaGreatDoorCards
import Derived.Test.YtjjlpjfojgkpkaaGreatDoorTie
import Derived.Carry
import Derived.ChangeMaps5
import Derived.SizedLaws
namespace Go.Proofs.YtjjlpjfojgkpkaaGreatDoor
open Go.ChangeShapes Go.WideShapes Go.ChangeAt Go.RowKit Go.WideMaps Go.WideElems Go.Joins
open Go.ChangeMaps (open_string)
set_option maxRecDepth 100000

theorem texts4_contract (H : Type) (enc : TypeId × Value → H) (F : Stop.Interp) (W : World) (base : Nat) (args : Array Value) (ds gs : List (DataW H)) (before : List MemPlace)
    (hval0 : ∀ (j : Nat) t v, Tryz.f4.params[j]? = some t → args[j]? = some v → Value.okWide Tryz.prog W .any base t v)
    (hW : DataW.Whole enc Tryz.prog Tryz.f4.params.toList (Rows.OpenSpec.upto Rows.moneyTextsSpec).vars false W args.toList ds gs before) (hk : Rows.uptoSmall H (ds ++ gs) = true)
    (hL : laidMetH Tryz.prog Rows.moneyTextsUptoRow.laid W) (hsh : W.ShapedOpen Tryz.prog) :
    Calls Tryz.prog 4 args W fun e W' => ∃ v, e = .returned v ∧ ((Rows.OpenSpec.upto Rows.moneyTextsSpec).at F).post enc Tryz.prog Tryz.f4 false true false false W args v W' := by
  have hW' := hW
  have hval : ∀ (j : Nat) t v, Tryz.f4.params[j]? = some t → args[j]? = some v → Value.okWide Tryz.prog W .any base t v := hval0
  obtain ⟨p, q, hA0, hV, rfl, hfz, hnd⟩ := hW
  have hA : DataW.TrodAll enc Tryz.prog W 0 (fun _ => true) true Tryz.f4.params.toList args.toList ds p := hA0
  rw [Tryz.params4] at hA hval
  obtain ⟨v0, v1, v2, v3, d0, d1, d2, d3, p0, p1, p2, p3, rfl, rfl, rfl, h0, h1, h2, h3⟩ := trodAll_four hA
  obtain ⟨rfl, rfl⟩ := trodVars_none hV
  have h0k := h0
  have h1k := h1
  have h2k := h2
  have h3k := h3
  have hb : Rows.uptoBulk d0 + (Rows.uptoBulk d1 + (Rows.uptoBulk d2 + (Rows.uptoBulk d3 + 0))) ≤ 1048576 := by
    have h := of_decide_eq_true hk
    simpa only [List.append_nil, Rows.uptoBulkAll] using h
  obtain ⟨s0, rfl, rfl, rfl, wf0⟩ := open_int Tryz.underlying2 (hval 0 2 v0 rfl rfl) h0
  obtain ⟨lo0, hi0⟩ := bounds_i64 wf0
  obtain ⟨s1, rfl, rfl, rfl, wf1⟩ := open_int Tryz.underlying2 (hval 1 2 v1 rfl rfl) h1
  obtain ⟨lo1, hi1⟩ := bounds_i64 wf1
  obtain ⟨s2, rfl, rfl, rfl, wf2⟩ := open_int Tryz.underlying3 (hval 2 3 v2 rfl rfl) h2
  obtain ⟨lo2, hi2⟩ := bounds_i64 wf2
  have bS3 : Rows.uptoBulk d3 ≤ 1048576 := by omega
  obtain ⟨s3, rfl, rfl, rfl, _⟩ := open_string Tryz.underlying9 (hval 3 9 v3 rfl rfl) h3
  have hz3 : s3.size ≤ 1048576 := by
    simp only [Rows.uptoBulk] at bS3
    have e : s3.size = s3.data.toList.length := rfl
    omega
  obtain ⟨⟨ad, hE⟩, hT, hR⟩ := door_texts hL
  obtain ⟨m, hm⟩ := maxL4_of hsh
  clear hA0 hval0 hk
  simp only [List.append_nil] at hW'
  refine (texts_any ad s0 s1 s2 s3 m W hE hT hm hR (by omega) (by omega) (by omega) (by omega) (by omega) (by omega) (by omega)).mono ?_
  rintro e W' ⟨rfl, k⟩
  have bel : Below W.heap.size W W' := k.below
  have hlt := fun x hx => hW'.lt x hx
  refine ⟨_, rfl, _, _, _, [], [], [], hW', ?_, ?_, ?_, bel.frame _, fun h => by cases h⟩
  · exact trodAll_mk1 (shut_bool Tryz.underlying4 _)
  · have tm := trodAll_mk4 (Below.trod laidOut (by kernel_rfl) (of_decide_eq_true (by kernel_rfl)) h0k bel (fun x hx => by simp at hx)) (Below.trod laidOut (by kernel_rfl) (of_decide_eq_true (by kernel_rfl)) h1k bel (fun x hx => by simp at hx)) (Below.trod laidOut (by kernel_rfl) (of_decide_eq_true (by kernel_rfl)) h2k bel (fun x hx => by simp at hx)) (Below.trod laidOut (by kernel_rfl) (of_decide_eq_true (by kernel_rfl)) h3k bel (fun x hx => by simp at hx))
    first | exact tm | (simp only [List.nil_append, List.append_nil, List.append_assoc] at tm ⊢; exact tm)
  · rfl

/-- The witness: nothing, in a start into which the listed variables are laid. -/
noncomputable def texts4Args : Array Value := #[.int .i64 0, .int .i64 0, .int .i64 0, .string ⟨#[]⟩]

theorem texts4_reads (os : Os) {H : Type} (enc : TypeId × Value → H) : (DataW.whole enc Tryz.prog ((doorT os).forCall (fun _ _ => 0) ⟨#[], texts4Args, []⟩).memory Tryz.f4.params.toList (Rows.OpenSpec.upto Rows.moneyTextsSpec).vars false texts4Args.toList 8).map (fun x => (x.1, x.2.1)) =
    some ([.lit (.int .i64 0), .lit (.int .i64 0), .lit (.int .i64 0), .lit (.string [])], []) := by kernel_rfl

theorem texts4_lifted (os : Os) (started : os.Started) (H : Type) (enc : TypeId × Value → H) (F : Stop.Interp) :
    ReturnsInHanded {} Tryz.checked os 4 .any ((Rows.OpenSpec.upto Rows.moneyTextsSpec).preRow enc Tryz.prog Tryz.f4 Rows.moneyTextsUptoRow.domain false Rows.moneyTextsUptoRow.laid) (((Rows.OpenSpec.upto Rows.moneyTextsSpec).at F).post enc Tryz.prog Tryz.f4 false true false false) := by
  obtain ⟨⟨x1, x2, x3⟩, hx, hx1⟩ := Option.map_eq_some_iff.1 (texts4_reads os enc)
  simp only [Prod.mk.injEq] at hx1
  obtain ⟨rfl, rfl⟩ := hx1
  refine returnsInHanded_of_row (C := Tryz.checked) (s := (Rows.OpenSpec.upto Rows.moneyTextsSpec)) own' started (by kernel_rfl) Tryz.func4
    (witness_laid (enc := enc) (C := Tryz.checked) false (doorT os) texts4Args (World.laidAll_os _ _ _) (World.shaped_of_ZipB (by kernel_rfl) (by kernel_rfl)) (by kernel_rfl)
      (OpenSpec.preRow_of_cond 8 hx (by kernel_rfl) (fun k hk => by cases hk; kernel_rfl) (by kernel_rfl) (doorT_met os texts4Args))) ?_
  intro W base args ds gs before hval hW _ hcond _ hL hsh _
  exact texts4_contract H enc F W base args ds gs before hval hW (hcond _ rfl) hL hsh

theorem texts4_said : Rows.MoneyTextsUptoSaid :=
  OpenClaim.holds_of_cond 4 Tryz.f4 rfl rfl rfl rfl rfl rfl rfl ⟨rfl, rfl, rfl, rfl, rfl⟩ rfl rfl rfl rfl rfl (by kernel_rfl) Tryz.func4 (by kernel_rfl)
    (of_decide_eq_true (by kernel_rfl)) (by unfold Func.isWrapper; rw [if_neg (of_decide_eq_false (by kernel_rfl))]; exact ⟨rfl, rfl⟩)
    (fun os started H enc _ F => by rw [OpenClaim.pre_eq_preRow]; exact texts4_lifted os started H enc F)

theorem texts4_plain (f : FuncId) (fn : Func) (hf : Tryz.pinned.checked.prog.funcNamed "remit/remitlaw04.MoneyTexts" = some f) (hfn : Tryz.pinned.checked.prog.funcs[f]? = some fn) :
    true = Tryz.pinned.checked.prog.looks [] ∧ ∀ (j : Nat) t, fn.params[j]? = some t → Tryz.pinned.checked.prog.wantsStandIn t = false := by
  obtain rfl : f = 4 := Option.some.inj ((show Tryz.prog.funcNamed "remit/remitlaw04.MoneyTexts" = some 4 by kernel_rfl).symm.trans hf) |>.symm
  obtain rfl : fn = Tryz.f4 := (Option.some.inj (Tryz.func4.symm.trans hfn)).symm
  refine ⟨by kernel_rfl, fun j t ht => ?_⟩
  rw [Tryz.params4] at ht
  have hm : t ∈ [2, 2, 3, 9] := by simpa using Array.mem_of_getElem? ht
  have hall : ([2, 2, 3, 9].all fun u => !Tryz.prog.wantsStandIn u) = true := by kernel_rfl
  exact (show Tryz.prog.wantsStandIn t = false by simpa using List.all_eq_true.1 hall t hm)

/-- THE SECOND FORM's CARD OF MoneyTexts. -/
theorem moneyTexts_card : Rows.MoneyTextsUptoCardSaid :=
  Claim7.holds_tied_plain_at .later [] _ _ _ _ texts4_said (fun _ h => by cases h) (by kernel_rfl) (fun _ h => by cases h) moneyTextsUpto_row_tie rfl ⟨rfl, rfl⟩ (by kernel_rfl) rfl texts4_plain (by kernel_rfl)
end Go.Proofs.YtjjlpjfojgkpkaaGreatDoor
