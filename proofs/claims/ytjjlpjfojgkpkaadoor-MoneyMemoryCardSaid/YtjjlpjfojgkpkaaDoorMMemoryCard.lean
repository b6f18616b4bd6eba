/-
  MoneyMemory (rule 5): weights and amounts that are handed in stay and aren't kept; shares are new memory. Proved here: the first form's card: for every amount, every list of weights and every list of amounts the law answers true and its arguments read as before.
-/
import Derived.Test.YtjjlpjfojgkpkaaDoorMMemory
import Derived.Test.YtjjlpjfojgkpkaaDoorMDoor2
import Derived.Test.YtjjlpjfojgkpkaaDoorMLift
import Derived.Test.YtjjlpjfojgkpkaaDoorCards
import Derived.Test.YtjjlpjfojgkpkaaDoorTie
import Derived.Carry
import Derived.ChangeMaps5
import Derived.SizedLaws
namespace Go.Proofs.YtjjlpjfojgkpkaaDoor
open Go.ChangeShapes Go.WideShapes Go.ChangeAt Go.RowKit Go.WideMaps Go.WideElems
open Go.ChangeMaps (open_string)
set_option maxRecDepth 100000

theorem memory4_contract (H : Type) (enc : TypeId × Value → H) (F : Stop.Interp) (W : World) (base : Nat) (args : Array Value) (ds gs : List (DataW H)) (before : List MemPlace)
    (hval0 : ∀ (j : Nat) t v, Tryd.f3.params[j]? = some t → args[j]? = some v → Value.okWide Tryd.prog W .any base t v)
    (hW : DataW.Whole enc Tryd.prog Tryd.f3.params.toList (OpenSpec.ofChange Rows.moneyMemorySpec).vars false W args.toList ds gs before)
    (hR : (DataW.weightsEach Tryd.prog (Tryd.f3.params.toList ++ (OpenSpec.ofChange Rows.moneyMemorySpec).bare.plain.varTypes Tryd.prog) (ds ++ gs)).all (· ≤ reachBytes) = true)
    (hL : laidMetH Tryd.prog Rows.moneyMemoryRow.laid W) :
    Calls Tryd.prog 3 args W fun e W' => ∃ v, e = .returned v ∧ ((OpenSpec.ofChange Rows.moneyMemorySpec).at F).post enc Tryd.prog Tryd.f3 false true false false W args v W' := by
  have hW' := hW
  have hval : ∀ (j : Nat) t v, Tryd.f3.params[j]? = some t → args[j]? = some v → Value.okWide Tryd.prog W .any base t v := hval0
  obtain ⟨p, q, hA0, hV, rfl, hfz, hnd⟩ := hW
  have hA : DataW.TrodAll enc Tryd.prog W 0 (fun _ => true) true Tryd.f3.params.toList args.toList ds p := hA0
  rw [Tryd.params3] at hA hval hR
  obtain ⟨v0, v1, v2, d0, d1, d2, p0, p1, p2, rfl, rfl, rfl, h0, h1, h2⟩ := trodAll_three hA
  obtain ⟨rfl, rfl⟩ := trodVars_none hV
  have h0k := h0
  have h1k := h1
  have h2k := h2
  obtain ⟨s0, rfl, rfl, rfl, wf0⟩ := open_int Tryd.underlying2 (hval 0 2 v0 rfl rfl) h0
  obtain ⟨lo0, hi0⟩ := bounds_i64 wf0
  obtain ⟨sa1, sl1, sc1, rfl⟩ := okWide_slice Tryd.underlying22 (hval 1 22 v1 rfl rfl)
  obtain ⟨n1, h1⟩ := h1
  obtain ⟨g1, o1, s1, hst1, hxb1, hd1⟩ := open_list Tryd.underlying22 Tryd.underlying3 cellsInt (c := .slice sa1 sl1 sc1) h1
  have hlen1 := list_len hR (j := 1) (T := 22) (E := 3) (xs := s1) (d := d1) rfl Tryd.underlying22 bytesInt rfl hd1
  obtain ⟨sa2, sl2, sc2, rfl⟩ := okWide_slice Tryd.underlying23 (hval 2 23 v2 rfl rfl)
  obtain ⟨n2, h2⟩ := h2
  obtain ⟨g2, o2, s2, hst2, hxb2, hd2⟩ := open_list Tryd.underlying23 Tryd.underlying2 cellsI64 (c := .slice sa2 sl2 sc2) h2
  have hlen2 := list_len hR (j := 2) (T := 23) (E := 2) (xs := s2) (d := d2) rfl Tryd.underlying23 bytesI64 rfl hd2
  obtain ⟨⟨ad, hE⟩, hT⟩ := errs_tab10 hL
  clear hA0 hval0 hR
  simp only [List.append_nil, List.nil_append] at hW'
  refine (memory_any ad s0 _ g1 o1 s1 _ g2 o2 s2 W (by omega) (by omega) (by omega) (by omega) hE hT (hst1 (by omega)) (hst2 (by omega)) hxb2).mono ?_
  rintro e W' ⟨rfl, k⟩
  have bel : Below W.heap.size W W' := k.below
  have hlt := fun x hx => hW'.lt x hx
  refine ⟨_, rfl, _, _, _, [], p1 ++ p2, [], hW', ?_, ?_, ?_, bel.frame _, fun h => by cases h⟩
  · exact trodAll_mk1 (shut_bool Tryd.underlying4 _)
  · have tm := trodAll_mk3 (Below.trod laidOut (by kernel_rfl) (of_decide_eq_true (by kernel_rfl)) h0k bel (fun x hx => by simp at hx)) (Below.trod laidOut (by kernel_rfl) (of_decide_eq_true (by kernel_rfl)) h1k bel (fun x hx => hlt x (by first | exact hx | simp [hx]))) (Below.trod laidOut (by kernel_rfl) (of_decide_eq_true (by kernel_rfl)) h2k bel (fun x hx => hlt x (by first | exact hx | simp [hx])))
    simp only [List.nil_append] at tm
    exact tm
  · rfl

/-- The witness: nothing, in a start into which the listed variables are laid. -/
noncomputable def memory4Args : Array Value := #[.int .i64 0, .slice none 0 0, .slice none 0 0]

theorem memory4_reads (os : Os) {H : Type} (enc : TypeId × Value → H) : (DataW.whole enc Tryd.prog ((door4 os).forCall (fun _ _ => 0) ⟨#[], memory4Args, []⟩).memory Tryd.f3.params.toList (OpenSpec.ofChange Rows.moneyMemorySpec).vars false memory4Args.toList 8).map (fun x => (x.1, x.2.1)) =
    some ([.lit (.int .i64 0), .nil, .nil], []) := by kernel_rfl

theorem memory4_lifted (os : Os) (started : os.Started) (H : Type) (enc : TypeId × Value → H) (F : Stop.Interp) :
    ReturnsInHanded {} Tryd.checked os 3 .any ((OpenSpec.ofChange Rows.moneyMemorySpec).preRow enc Tryd.prog Tryd.f3 Rows.moneyMemoryRow.domain false Rows.moneyMemoryRow.laid) (((OpenSpec.ofChange Rows.moneyMemorySpec).at F).post enc Tryd.prog Tryd.f3 false true false false) := by
  obtain ⟨⟨x1, x2, x3⟩, hx, hx1⟩ := Option.map_eq_some_iff.1 (memory4_reads os enc)
  simp only [Prod.mk.injEq] at hx1
  obtain ⟨rfl, rfl⟩ := hx1
  refine returnsInHanded_of_row (C := Tryd.checked) (s := (OpenSpec.ofChange Rows.moneyMemorySpec)) own' started (by kernel_rfl) Tryd.func3
    (witness_laid (enc := enc) (C := Tryd.checked) false (door4 os) memory4Args (World.laidAll_os _ _ _) (World.shaped_of_ZipB (by kernel_rfl) (by kernel_rfl)) (by kernel_rfl)
      (OpenSpec.preRow_of_cond 8 hx (by kernel_rfl) (fun k hk => by cases hk) (by kernel_rfl) (door4_met os memory4Args))) ?_
  intro W base args ds gs before hval hW _ _ hR hL _ _
  exact memory4_contract H enc F W base args ds gs before hval hW hR hL

theorem memory4_said : Rows.MoneyMemorySaid :=
  OpenClaim.holds_of_cond 3 Tryd.f3 rfl rfl rfl rfl rfl rfl rfl ⟨rfl, rfl, rfl, rfl, rfl⟩ rfl rfl rfl rfl rfl (by kernel_rfl) Tryd.func3 (by kernel_rfl)
    (of_decide_eq_true (by kernel_rfl)) (by unfold Func.isWrapper; rw [if_neg (of_decide_eq_false (by kernel_rfl))]; exact ⟨rfl, rfl⟩)
    (fun os started H enc _ F => by rw [OpenClaim.pre_eq_preRow]; exact memory4_lifted os started H enc F)

theorem memory4_plain (f : FuncId) (fn : Func) (hf : Tryd.pinned.checked.prog.funcNamed "remit/remitlaw04.MoneyMemory" = some f) (hfn : Tryd.pinned.checked.prog.funcs[f]? = some fn) :
    true = Tryd.pinned.checked.prog.looks [] ∧ ∀ (j : Nat) t, fn.params[j]? = some t → Tryd.pinned.checked.prog.wantsStandIn t = false := by
  obtain rfl : f = 3 := Option.some.inj ((show Tryd.prog.funcNamed "remit/remitlaw04.MoneyMemory" = some 3 by kernel_rfl).symm.trans hf) |>.symm
  obtain rfl : fn = Tryd.f3 := (Option.some.inj (Tryd.func3.symm.trans hfn)).symm
  refine ⟨by kernel_rfl, fun j t ht => ?_⟩
  rw [Tryd.params3] at ht
  have hm : t ∈ [2, 22, 23] := by simpa using Array.mem_of_getElem? ht
  have hall : ([2, 22, 23].all fun u => !Tryd.prog.wantsStandIn u) = true := by kernel_rfl
  exact (show Tryd.prog.wantsStandIn t = false by simpa using List.all_eq_true.1 hall t hm)

/-- THE FIRST FORM's CARD OF MoneyMemory. -/
theorem moneyMemory_card : Rows.MoneyMemoryCardSaid :=
  Claim7.holds_tied_plain_at .later [] _ _ _ _ memory4_said (fun _ h => by cases h) (by kernel_rfl) (fun _ h => by cases h) moneyMemory_row_tie rfl ⟨rfl, rfl⟩ (by kernel_rfl) rfl memory4_plain (by kernel_rfl)
end Go.Proofs.YtjjlpjfojgkpkaaDoor
