/-
  MoneyFinds (P4.1): the first currency of a code is found, and the list stays. Proved here: the first form's card: for every list of currencies and every text the law answers true and its arguments read as before.
-/
import Derived.Test.YtdoemhlekncjdaaDoorMFinds
import Derived.Test.YtdoemhlekncjdaaDoorMDoor
import Derived.Test.YtdoemhlekncjdaaDoorMLiftC
import Derived.Test.YtdoemhlekncjdaaDoorCards
import Derived.Test.YtdoemhlekncjdaaDoorTie
import Derived.Carry
import Derived.ChangeMaps5
import Derived.SizedLaws
namespace Go.Proofs.YtdoemhlekncjdaaDoor
open Go.ChangeShapes Go.WideShapes Go.ChangeAt Go.RowKit Go.WideMaps Go.WideElems
open Go.ChangeMaps (open_string)
set_option maxRecDepth 100000

theorem finds4_contract (H : Type) (enc : TypeId × Value → H) (F : Stop.Interp) (W : World) (base : Nat) (args : Array Value) (ds gs : List (DataW H)) (before : List MemPlace)
    (hval0 : ∀ (j : Nat) t v, Tryd.f3.params[j]? = some t → args[j]? = some v → Value.okWide Tryd.prog W .any base t v)
    (hW : DataW.Whole enc Tryd.prog Tryd.f3.params.toList (OpenSpec.ofChange Rows.moneyFindsSpec).vars false W args.toList ds gs before)
    (hR : (DataW.weightsEach Tryd.prog (Tryd.f3.params.toList ++ (OpenSpec.ofChange Rows.moneyFindsSpec).bare.plain.varTypes Tryd.prog) (ds ++ gs)).all (· ≤ reachBytes) = true)
    (hL : laidMetH Tryd.prog Rows.moneyFindsRow.laid W) :
    Calls Tryd.prog 3 args W fun e W' => ∃ v, e = .returned v ∧ ((OpenSpec.ofChange Rows.moneyFindsSpec).at F).post enc Tryd.prog Tryd.f3 false true false false W args v W' := by
  have hW' := hW
  have hval : ∀ (j : Nat) t v, Tryd.f3.params[j]? = some t → args[j]? = some v → Value.okWide Tryd.prog W .any base t v := hval0
  obtain ⟨p, q, hA0, hV, rfl, hfz, hnd⟩ := hW
  have hA : DataW.TrodAll enc Tryd.prog W 0 (fun _ => true) true Tryd.f3.params.toList args.toList ds p := hA0
  rw [Tryd.params3] at hA hval hR
  obtain ⟨v0, v1, d0, d1, p0, p1, rfl, rfl, rfl, h0, h1⟩ := trodAll_two hA
  obtain ⟨rfl, rfl⟩ := trodVars_none hV
  have h0k := h0
  have h1k := h1
  obtain ⟨sa0, sl0, sc0, rfl⟩ := okWide_slice Tryd.underlying22 (hval 0 22 v0 rfl rfl)
  obtain ⟨n0, h0⟩ := h0
  obtain ⟨g0, o0, s0, hst0, hd0⟩ := open_curs (c := .slice sa0 sl0 sc0) h0
  have hlen0 := curs_len hR (j := 0) (xs := s0) (d := d0) rfl rfl hd0
  obtain ⟨s1, rfl, rfl, rfl, _⟩ := open_string Tryd.underlying9 (hval 1 9 v1 rfl rfl) h1
  have hz1 : s1.size ≤ 140737488351232 := by
    have h := sized_string hR (j := 1) (t := 9) rfl rfl
    simpa [reachBytes] using h
  obtain ⟨⟨ad, hE⟩, hT⟩ := errs_tab10 hL
  clear hA0 hval0 hR
  simp only [List.append_nil] at hW'
  refine (finds_any ad _ g0 o0 s0 s1 W (hst0 (by omega)) (by omega) hE hT).mono ?_
  rintro e W' ⟨rfl, k⟩
  have bel : Below W.heap.size W W' := k.below
  have hlt := fun x hx => hW'.lt x hx
  refine ⟨_, rfl, _, _, _, [], p0, [], hW', ?_, ?_, ?_, bel.frame _, fun h => by cases h⟩
  · exact trodAll_mk1 (shut_bool Tryd.underlying4 _)
  · have tm := trodAll_mk2 (Below.trod laidOut (by kernel_rfl) (of_decide_eq_true (by kernel_rfl)) h0k bel (fun x hx => hlt x (by first | exact hx | simp [hx]))) (Below.trod laidOut (by kernel_rfl) (of_decide_eq_true (by kernel_rfl)) h1k bel (fun x hx => by simp at hx))
    simp only [List.append_nil] at tm
    exact tm
  · rfl

/-- The witness: nothing, in a start into which the listed variables are laid. -/
noncomputable def finds4Args : Array Value := #[.slice none 0 0, .string ⟨#[]⟩]

theorem finds4_reads (os : Os) {H : Type} (enc : TypeId × Value → H) : (DataW.whole enc Tryd.prog ((door4 os).forCall (fun _ _ => 0) ⟨#[], finds4Args, []⟩).memory Tryd.f3.params.toList (OpenSpec.ofChange Rows.moneyFindsSpec).vars false finds4Args.toList 8).map (fun x => (x.1, x.2.1)) =
    some ([.nil, .lit (.string [])], []) := by kernel_rfl

theorem finds4_lifted (os : Os) (started : os.Started) (H : Type) (enc : TypeId × Value → H) (F : Stop.Interp) :
    ReturnsInHanded {} Tryd.checked os 3 .any ((OpenSpec.ofChange Rows.moneyFindsSpec).preRow enc Tryd.prog Tryd.f3 Rows.moneyFindsRow.domain false Rows.moneyFindsRow.laid) (((OpenSpec.ofChange Rows.moneyFindsSpec).at F).post enc Tryd.prog Tryd.f3 false true false false) := by
  obtain ⟨⟨x1, x2, x3⟩, hx, hx1⟩ := Option.map_eq_some_iff.1 (finds4_reads os enc)
  simp only [Prod.mk.injEq] at hx1
  obtain ⟨rfl, rfl⟩ := hx1
  refine returnsInHanded_of_row (C := Tryd.checked) (s := (OpenSpec.ofChange Rows.moneyFindsSpec)) own' started (by kernel_rfl) Tryd.func3
    (witness_laid (enc := enc) (C := Tryd.checked) false (door4 os) finds4Args (World.laidAll_os _ _ _) (World.shaped_of_ZipB (by kernel_rfl) (by kernel_rfl)) (by kernel_rfl)
      (OpenSpec.preRow_of_cond 8 hx (by kernel_rfl) (fun k hk => by cases hk) (by kernel_rfl) (door4_met os finds4Args))) ?_
  intro W base args ds gs before hval hW _ _ hR hL _ _
  exact finds4_contract H enc F W base args ds gs before hval hW hR hL

theorem finds4_said : Rows.MoneyFindsSaid :=
  OpenClaim.holds_of_cond 3 Tryd.f3 rfl rfl rfl rfl rfl rfl rfl ⟨rfl, rfl, rfl, rfl, rfl⟩ rfl rfl rfl rfl rfl (by kernel_rfl) Tryd.func3 (by kernel_rfl)
    (of_decide_eq_true (by kernel_rfl)) (by unfold Func.isWrapper; rw [if_neg (of_decide_eq_false (by kernel_rfl))]; exact ⟨rfl, rfl⟩)
    (fun os started H enc _ F => by rw [OpenClaim.pre_eq_preRow]; exact finds4_lifted os started H enc F)

theorem finds4_plain (f : FuncId) (fn : Func) (hf : Tryd.pinned.checked.prog.funcNamed "remit/remitlaw04.MoneyFinds" = some f) (hfn : Tryd.pinned.checked.prog.funcs[f]? = some fn) :
    true = Tryd.pinned.checked.prog.looks [] ∧ ∀ (j : Nat) t, fn.params[j]? = some t → Tryd.pinned.checked.prog.wantsStandIn t = false := by
  obtain rfl : f = 3 := Option.some.inj ((show Tryd.prog.funcNamed "remit/remitlaw04.MoneyFinds" = some 3 by kernel_rfl).symm.trans hf) |>.symm
  obtain rfl : fn = Tryd.f3 := (Option.some.inj (Tryd.func3.symm.trans hfn)).symm
  refine ⟨by kernel_rfl, fun j t ht => ?_⟩
  rw [Tryd.params3] at ht
  have hm : t ∈ [22, 9] := by simpa using Array.mem_of_getElem? ht
  have hall : ([22, 9].all fun u => !Tryd.prog.wantsStandIn u) = true := by kernel_rfl
  exact (show Tryd.prog.wantsStandIn t = false by simpa using List.all_eq_true.1 hall t hm)

/-- THE FIRST FORM's CARD OF MoneyFinds. -/
theorem moneyFinds_card : Rows.MoneyFindsCardSaid :=
  Claim7.holds_tied_plain_at .later [] _ _ _ _ finds4_said (fun _ h => by cases h) (by kernel_rfl) (fun _ h => by cases h) moneyFinds_row_tie rfl ⟨rfl, rfl⟩ (by kernel_rfl) rfl finds4_plain (by kernel_rfl)
end Go.Proofs.YtdoemhlekncjdaaDoor
