/-
  WireTexts (rule 5): a list of texts that is handed in stays as it is and isn't kept; lists that are handed out are new memory each time. Proved here: the second form's card: for every list of bulk at most 1048576 the law answers true and its argument reads as before.
-/
import Derived.Test.YtilhkbohemghlaaDoorTexts
import Derived.Test.YtilhkbohemghlaaDoorScript
import Derived.Test.YtilhkbohemghlaaDoorCards
import Derived.Test.YtilhkbohemghlaaDoorTie
namespace Go.Proofs.YtilhkbohemghlaaDoor
open Go.ChangeShapes Go.WideShapes Go.ChangeAt Go.RowKit Go.WideMaps Go.WideElems
set_option maxRecDepth 100000

theorem laidOut : laidOutB Tryd.prog = true := by kernel_rfl

theorem textsC_contract (H : Type) (enc : TypeId × Value → H) (F : Stop.Interp) (W : World) (base : Nat) (args : Array Value) (ds gs : List (DataW H)) (before : List MemPlace)
    (hval0 : ∀ (j : Nat) t v, Tryd.f8.params[j]? = some t → args[j]? = some v → Value.okWide Tryd.prog W .any base t v)
    (hW : DataW.Whole enc Tryd.prog Tryd.f8.params.toList (Rows.OpenSpec.upto Rows.wireTextsSpec).vars false W args.toList ds gs before) (hk : Rows.uptoSmall H (ds ++ gs) = true)
    (hL : laidMetH Tryd.prog Rows.wireTextsUptoRow.laid W) :
    Calls Tryd.prog 8 args W fun e W' => ∃ v, e = .returned v ∧ ((Rows.OpenSpec.upto Rows.wireTextsSpec).at F).post enc Tryd.prog Tryd.f8 false true false false W args v W' := by
  have hW' := hW
  have hval : ∀ (j : Nat) t v, Tryd.f8.params[j]? = some t → args[j]? = some v → Value.okWide Tryd.prog W .any base t v := hval0
  obtain ⟨p, q, hA0, hV, rfl, hfz, hnd⟩ := hW
  have hA : DataW.TrodAll enc Tryd.prog W 0 (fun _ => true) true Tryd.f8.params.toList args.toList ds p := hA0
  rw [Tryd.params8] at hA hval
  obtain ⟨v0, d0, rfl, rfl, h0⟩ := trodAll_one hA
  obtain ⟨rfl, rfl⟩ := trodVars_none hV
  have h0k := h0
  have hb : Rows.uptoBulk d0 + 0 ≤ 1048576 := by
    have h := of_decide_eq_true hk
    simpa only [List.append_nil, Rows.uptoBulkAll] using h
  obtain ⟨sa, sl, sc, rfl⟩ := okWide_slice Tryd.underlying28 (hval 0 28 v0 rfl rfl)
  obtain ⟨n0, h0⟩ := h0
  obtain ⟨g, off, Xs, hst, hd⟩ := open_texts (c := .slice sa sl sc) h0
  have hbt : Rows.uptoBulkAll (strs (H := H) Xs) ≤ Rows.uptoBulk d0 := by
    rcases hd with ⟨_, rfl⟩ | ⟨spare, hd⟩
    · simp [strs, Rows.uptoBulkAll]
    · simp only at hd
      rw [hd]
      simp only [Rows.uptoBulk]
      omega
  obtain ⟨b1, b2, b3⟩ := bulk_strs (H := H) (M := 1048576) (by omega) Xs (by omega)
  obtain ⟨ad, hE⟩ := errs_of_laid hL
  clear hA0 hval0
  simp only [List.append_nil] at hW'
  have hlt : ∀ x ∈ p, x.block < W.heap.size := fun x hx => hW'.lt x hx
  refine (texts_any ad _ g off _ W hE (hst (by omega)) (by rw [List.length_map]; omega) b2 (by omega)).mono ?_
  rintro e W' ⟨rfl, k⟩
  have bel : Below W.heap.size W W' := k.below (Nat.le_refl _) (fun _ _ h => h)
  refine ⟨_, rfl, _, _, _, [], p, [], hW', ?_, ?_, ?_, bel.frame _, fun h => by cases h⟩
  · exact trodAll_mk1 (shut_bool Tryd.underlying4 _)
  · exact trodAll_mk1 (Below.trod laidOut (by kernel_rfl) (of_decide_eq_true (by kernel_rfl)) h0k bel hlt)
  · rfl

/-- The witness: no script, in the heap that the door's own run leaves. -/
noncomputable def textsArgs : Array Value := #[.slice none 0 0]

theorem textsC_reads (os : Os) {H : Type} (enc : TypeId × Value → H) : (DataW.whole enc Tryd.prog ((World.doorLaid Tryd.prog 712 os).forCall (fun _ _ => 0) ⟨#[], textsArgs, []⟩).memory Tryd.f8.params.toList (Rows.OpenSpec.upto Rows.wireTextsSpec).vars false textsArgs.toList 8).map (fun x => (x.1, x.2.1)) =
    some ([.nil], []) := by kernel_rfl

theorem textsC_lifted (os : Os) (started : os.Started) (H : Type) (enc : TypeId × Value → H) (F : Stop.Interp) :
    ReturnsInHanded {} Tryd.checked os 8 .any ((Rows.OpenSpec.upto Rows.wireTextsSpec).preRow enc Tryd.prog Tryd.f8 Rows.wireTextsUptoRow.domain false Rows.wireTextsUptoRow.laid) (((Rows.OpenSpec.upto Rows.wireTextsSpec).at F).post enc Tryd.prog Tryd.f8 false true false false) := by
  obtain ⟨⟨x1, x2, x3⟩, hx, hx1⟩ := Option.map_eq_some_iff.1 (textsC_reads os enc)
  simp only [Prod.mk.injEq] at hx1
  obtain ⟨rfl, rfl⟩ := hx1
  refine returnsInHanded_of_row (C := Tryd.checked) (s := Rows.OpenSpec.upto Rows.wireTextsSpec) own started (by kernel_rfl) Tryd.func8
    (witness_row_atRef (enc := enc) (C := Tryd.checked) false (World.doorLaid Tryd.prog 712 os) textsArgs rfl (by kernel_rfl) (by kernel_rfl) (by kernel_rfl)
      (OpenSpec.preRow_of_cond 8 hx (by kernel_rfl) (fun k hk => by cases hk; kernel_rfl) (by kernel_rfl) (door_met os textsArgs))) ?_
  intro W base args ds gs before hval hW _ hcond _ hL _ _
  exact textsC_contract H enc F W base args ds gs before hval hW (hcond _ rfl) hL

theorem textsC_said : Rows.WireTextsUptoSaid :=
  OpenClaim.holds_of_cond 8 Tryd.f8 rfl rfl rfl rfl rfl rfl rfl ⟨rfl, rfl, rfl, rfl, rfl⟩ rfl rfl rfl rfl rfl (by kernel_rfl) Tryd.func8 (by kernel_rfl)
    (of_decide_eq_true (by kernel_rfl)) (by unfold Func.isWrapper; rw [if_neg (of_decide_eq_false (by kernel_rfl))]; exact ⟨rfl, rfl⟩)
    (fun os started H enc _ F => by rw [OpenClaim.pre_eq_preRow]; exact textsC_lifted os started H enc F)

theorem textsC_plain (f : FuncId) (fn : Func) (hf : Tryd.pinned.checked.prog.funcNamed "remit/remitlaw01.WireTexts" = some f) (hfn : Tryd.pinned.checked.prog.funcs[f]? = some fn) :
    true = Tryd.pinned.checked.prog.looks [] ∧ ∀ (j : Nat) t, fn.params[j]? = some t → Tryd.pinned.checked.prog.wantsStandIn t = false := by
  obtain rfl : f = 8 := Option.some.inj ((show Tryd.prog.funcNamed "remit/remitlaw01.WireTexts" = some 8 by kernel_rfl).symm.trans hf) |>.symm
  obtain rfl : fn = Tryd.f8 := (Option.some.inj (Tryd.func8.symm.trans hfn)).symm
  refine ⟨by kernel_rfl, fun j t ht => ?_⟩
  rw [Tryd.params8] at ht
  have hm : t ∈ [28] := by simpa using Array.mem_of_getElem? ht
  have hall : ([28].all fun u => !Tryd.prog.wantsStandIn u) = true := by kernel_rfl
  exact (show Tryd.prog.wantsStandIn t = false by simpa using List.all_eq_true.1 hall t hm)

/-- THE SECOND FORM's CARD OF WireTexts. -/
theorem wireTexts_card : Rows.WireTextsUptoCardSaid :=
  Claim7.holds_tied_plain_at .later [] _ _ _ _ textsC_said (fun _ h => by cases h) (by kernel_rfl) (fun _ h => by cases h) wireTextsUpto_row_tie rfl ⟨rfl, rfl⟩ (by kernel_rfl) rfl textsC_plain (by kernel_rfl)
end Go.Proofs.YtilhkbohemghlaaDoor
