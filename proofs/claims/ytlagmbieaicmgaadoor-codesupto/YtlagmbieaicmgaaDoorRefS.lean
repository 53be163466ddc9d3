/-
  For every message and every list of texts that together hold at most 1048576 values and letters: Codes returns true (Encode answers as the document says, each Decode too, one behind the other, and the lists that come out are the caller's own), and its arguments read as they did.
  Conditions: the arguments' bulk at most 1048576 (the second form); the table halfSums of package wire as the program's text lays it (tied by the card).
-/
import Derived.Test.YtlagmbieaicmgaaDoorCards
import Derived.Test.YtlagmbieaicmgaaDoorTie
import Derived.Test.YtlagmbieaicmgaaDoorRefR
import Derived.WalkKit
import Derived.ProofKit
import Derived.OpenShut
import Derived.SizedLaws
import Derived.Deep.DeepHandedRow
import Derived.Lib.LaidTab
import Derived.LaidMore
namespace Go.Proofs.YtlagmbieaicmgaaDoor
open Go.ChangeShapes Go.WideShapes Go.ChangeAt Go.RowKit Pact

theorem own2 : ownKnob Tryd.prog.godebug = none := by kernel_rfl
theorem laidOut2 : laidOutB Tryd.prog = true := by kernel_rfl
theorem gTab2 : Tryd.prog.globalNamed "pact/wire.halfSums" = some 0 := by kernel_rfl
theorem gTabType2 : (Tryd.prog.globals[0]?).map (·.type) = some 85 := by kernel_rfl
theorem cellsT2 : Tryd.prog.cellsOf 85 = 16 := by kernel_rfl
theorem cellsU2 : Tryd.prog.cellsOf 83 = 1 := by kernel_rfl

def tabI2 : List Int := [0, 498536548, 997073096, 651767980, 1994146192, 1802195444, 1303535960, 1342533948, 3988292384, 4027552580, 3604390888, 3412177804, 2607071920, 2262029012, 2685067896, 3183342108]

theorem table2 {W : World} (h : laidMetH Tryd.prog Rows.codesUptoRow.laid W) : Lib.TabIs Tryd.prog W "pact/wire.halfSums" .u32 tabI2 :=
  Lib.tabIs_of_head (rest := []) gTab2 gTabType2 Tryd.underlying85 Tryd.underlying83 cellsU2 cellsT2 h

theorem tabAt2 {W : World} (h : Lib.TabIs Tryd.prog W "pact/wire.halfSums" .u32 tabI2) : TabAt W := by
  intro i hi
  have h1 := h.cell gTab2 i (by simpa [tabI2] using hi)
  have all : ∀ x : Fin 16, tabI2.getD x.val 0 = ((tabF x.val : Nat) : Int) := by decide +kernel
  rw [h1, all ⟨i, hi⟩]

theorem contract2 (H : Type) (enc : TypeId × Value → H) (W : World) (base : Nat) (args : Array Value) (ds gs : List (DataW H)) (before : List MemPlace)
    (hval : ∀ (j : Nat) t v, Tryd.f3.params[j]? = some t → args[j]? = some v → Value.okWide Tryd.prog W .any base t v)
    (hW : DataW.Whole enc Tryd.prog Tryd.f3.params.toList Rows.codesSpec.vars false W args.toList ds gs before)
    (hcond : Rows.uptoSmall H (ds ++ gs) = true)
    (hL : laidMetH Tryd.prog Rows.codesUptoRow.laid W) :
    Calls Tryd.prog 3 args W fun e W' => ∃ v, e = .returned v ∧ Rows.codesSpec.post enc Tryd.prog Tryd.f3 false true false false W args v W' := by
  have hW' := hW
  obtain ⟨p, q, hA0, hV, rfl, hfz, hnd⟩ := hW
  have hA : DataW.TrodAll enc Tryd.prog W 0 (fun _ => true) true Tryd.f3.params.toList args.toList ds p := hA0
  rw [Tryd.params3] at hA hval
  obtain ⟨v0, vs0, d0, ds0, p0, q0, hargs, rfl, rfl, h0, r0⟩ := trodAll_cons hA
  obtain ⟨v1, vs1, d1, ds1, p1, q1, rfl, rfl, rfl, h1, r1⟩ := trodAll_cons r0
  obtain ⟨rfl, rfl, rfl⟩ := trodAll_nil r1
  obtain rfl : args = #[v0, v1] := by cases args; simp_all
  obtain ⟨rfl, rfl⟩ := trodVars_none hV
  have hbulk : Rows.uptoBulk d0 + Rows.uptoBulk d1 ≤ 1048576 := by
    have h9 := of_decide_eq_true hcond
    simp only [List.append_nil, Rows.uptoBulkAll] at h9
    omega
  have k0 := h0
  have k1 := h1
  have lt0 : ∀ x ∈ p0, x.block < W.heap.size := by obtain ⟨m, hm⟩ := k0; exact DataW.trod_lt m _ _ _ hm
  have lt1 : ∀ x ∈ p1, x.block < W.heap.size := by obtain ⟨m, hm⟩ := k1; exact DataW.trod_lt m _ _ _ hm
  obtain ⟨m, ao, cap, rfl, _, hin⟩ := open_msg (hval 0 24 v0 rfl rfl) h0
  have hmb := msg_bulk h0
  obtain ⟨ss, lo, cap2, rfl, hst, hsl, hss⟩ := open_strs (hval 1 25 v1 rfl rfl) h1
  clear hA0
  refine (codes_any m ao cap ss lo cap2 W (by omega) hin (tabAt2 (table2 hL)) (by omega) (fun s hs => by have := hss s hs; omega) hst).mono fun e W' ⟨he, bel⟩ => ?_
  subst he
  exact ⟨_, rfl, _, _, _, [], _, [], hW', trodAll_mk1 (shut_bool Tryd.underlying4 _), (trodAll_cons_mk (Below.trod laidOut2 (by kernel_rfl) (of_decide_eq_true (by kernel_rfl)) k0 bel lt0) (trodAll_cons_mk (Below.trod laidOut2 (by kernel_rfl) (of_decide_eq_true (by kernel_rfl)) k1 bel lt1) trodAll_mk0)), rfl, bel.frame _, fun h => by cases h⟩

/-- The witness's arguments: the empty message, no text. -/
def wArgs2 : Array Value := #[.agg #[.int .i64 0, .int .i64 0, .int .i64 0, .string .empty, .int .i64 0, .int .i64 0, .string .empty, .slice none 0 0], .slice none 0 0]

theorem laid_met2 (os : Os) : laidMet Tryd.prog Rows.codesUptoRow.laid ((World.doorLaid Tryd.prog 14 os).forCall (fun _ _ => 0) ⟨#[], wArgs2, []⟩).memory :=
  laidMet_of_run' 8 (by kernel_rfl) (by kernel_rfl)
theorem reads2 (os : Os) {H : Type} (enc : TypeId × Value → H) : ∃ places, DataW.whole enc Tryd.prog ((World.doorLaid Tryd.prog 14 os).forCall (fun _ _ => 0) ⟨#[], wArgs2, []⟩).memory Tryd.f3.params.toList Rows.codesSpec.vars false wArgs2.toList 8 =
    some ([.agg [.lit (.int .i64 0), .lit (.int .i64 0), .lit (.int .i64 0), .lit (.string []), .lit (.int .i64 0), .lit (.int .i64 0), .lit (.string []), .nil], .nil], [], places) :=
  ⟨[], by kernel_rfl⟩

set_option maxRecDepth 100000 in
theorem lifted2 (os : Os) (started : os.Started) (H : Type) (enc : TypeId × Value → H) (F : Stop.Interp) :
    ReturnsInHanded {} Tryd.checked os 3 .any ((Rows.OpenSpec.upto Rows.codesSpec).preRow enc Tryd.prog Tryd.f3 Rows.codesUptoRow.domain false Rows.codesUptoRow.laid) (((Rows.OpenSpec.upto Rows.codesSpec).at F).post enc Tryd.prog Tryd.f3 false true false false) := by
  obtain ⟨places, hx⟩ := reads2 os enc
  refine returnsInHanded_of_row (C := Tryd.checked) (s := Rows.OpenSpec.upto Rows.codesSpec) own2 started (by kernel_rfl) Tryd.func3
    (witness_row_at (enc := enc) (C := Tryd.checked) false (World.doorLaid Tryd.prog 14 os) wArgs2 rfl (by kernel_rfl) (by kernel_rfl) (by kernel_rfl)
      (OpenSpec.preRow_of_cond 8 hx (by kernel_rfl) (fun k hk => by cases hk; kernel_rfl) (by kernel_rfl) (laid_met2 os))) ?_
  intro W base args ds gs before hval hW _ hcond _ hL _ _
  exact contract2 H enc W base args ds gs before hval hW (hcond _ rfl) hL

theorem said2 : Rows.CodesUptoSaid :=
  OpenClaim.holds_of_cond 3 Tryd.f3 rfl rfl rfl rfl rfl rfl rfl ⟨rfl, rfl, rfl, rfl, rfl⟩ rfl rfl rfl rfl rfl (by kernel_rfl) Tryd.func3 (by kernel_rfl)
    (of_decide_eq_true (by kernel_rfl)) (by unfold Func.isWrapper; first | (rw [if_pos (by decide +kernel)]; kernel_rfl) | (rw [if_neg (by decide +kernel)]; exact ⟨rfl, rfl⟩))
    (fun os started H enc _ F => by rw [OpenClaim.pre_eq_preRow]; exact lifted2 os started H enc F)

theorem plain2 (f : FuncId) (fn : Func) (hf : Tryd.pinned.checked.prog.funcNamed "pact/pactlaw.Codes" = some f) (hfn : Tryd.pinned.checked.prog.funcs[f]? = some fn) :
    true = Tryd.pinned.checked.prog.looks [] ∧ ∀ (j : Nat) t, fn.params[j]? = some t → Tryd.pinned.checked.prog.wantsStandIn t = false := by
  obtain rfl : f = 3 := Option.some.inj ((show Tryd.prog.funcNamed "pact/pactlaw.Codes" = some 3 by kernel_rfl).symm.trans hf) |>.symm
  obtain rfl : fn = Tryd.f3 := (Option.some.inj (Tryd.func3.symm.trans hfn)).symm
  refine ⟨by kernel_rfl, fun j t ht => ?_⟩
  rw [Tryd.params3] at ht
  have hm : t ∈ [24, 25] := by simpa using Array.mem_of_getElem? ht
  have hall : ([24, 25].all fun u => !Tryd.prog.wantsStandIn u) = true := by kernel_rfl
  exact (show Tryd.prog.wantsStandIn t = false by simpa using List.all_eq_true.1 hall t hm)

/-- The card. -/
theorem codes_upto_card : Rows.CodesUptoCardSaid :=
  Claim7.holds_tied_plain_at .later [] _ _ _ _ said2 (fun _ h => by cases h) (by kernel_rfl) (fun _ h => by cases h) codesUpto_row_tie rfl ⟨rfl, rfl⟩ (by kernel_rfl) rfl plain2 (by kernel_rfl)
#print axioms codes_upto_card
end Go.Proofs.YtlagmbieaicmgaaDoor
