import PyProof.Rows.All
import Wide.All
import OpenK.AllK
import Wide.FinOn
import HandS.ForMost
import KE.KStateDown
import KE.KNestM
import KE.KLam
import HandS.Head0
import HandS.Head1
import HandS.Head2
import HandS.Head3
import HandS.Ends
import HandS.Lambda
import HandS.Exc
import HandS.ExcOwn
import HandS.ExcField
import HandS.ExcIs
import HandS.ExcInit
import HandS.WordsExc
import HandS.TryMany
import KE.KExcIs
import KE.KIsAll
import KE.RegKIsAll
import HandS.Codes
import HandS.Conv
import HandS.IsInst
import HandS.Style
import HandS.Walk
import HandS.Wide
import KE.GoesEnum
import KE.GoesMore
import HandS.More
import HandS.StrMore
import KE.GoesEnumKw
import PyProof.Rows.CallKwBuiltin
import HandS.Deep
import HandS.Star
import HandS.Text
import HandS.SortInts
import KE.KSortedM
import HandS.Lambda
import HandS.EndTab
import KE.KNestM
import KE.KLam
import HandS.ClsMeth
import HandS.FStr
import KE.KDictSum
import HandS.ForMost
import HandS.Defaults
import HandS.Gcd
import HandS.SetFor
import HandS.OwnEq
import OpenK.AllK
import PyProof.ReprRoads
import KE.KxText
import KE.KxAffix
import PyProof.StrLawsAffix
import PySem.Challenge.RW_everyorder_k12_whole_programs_that_are_c
set_option Elab.async false
set_option linter.all false
set_option maxRecDepth 100000
set_option maxHeartbeats 4000000
set_option maxHeartbeats 0
namespace Hd
open PySem PySem.W PySem.Calls PyProof.Rows
abbrev R : OpenRow := OpenLaw.row PySem.Challenge.rw_everyorder_k12_whole_programs_that_are_c
abbrev qv : Program := view R.prog [78]
def names0 : List PySem.Str := ["_wall", "is_integer", "is_from", "is_between", "EveryError", "BadWord", "BadText", "BadSize", "BadNumber", "NoLevel", "MOST_PLACES", "Tower", "MOST_MOVES", "FIGURES", "PLACE_FRONTS", "AMOUNT_FRONTS", "SHAPES", "NO_PART", "is_figure_behind", "is_place_word"]
def names1 : List PySem.Str := ["is_amount", "place_of", "amount_of", "is_part", "read_move", "read_moves", "exchanged", "rolled", "moved", "Word", "LEAST_SINGLE", "MOST_SINGLE", "MOST_PERIOD", "ENDING", "read_along", "read_list", "read_body", "read_level", "Level", "read_line"]
def names2 : List PySem.Str := ["read_period", "read_rests", "read_size", "read_singles", "text_of_program", "Program", "_law_pen", "_law_draw", "_law_pick", "_law_place_word", "_law_amount", "_law_move", "_law_moves", "_law_word_text", "_law_level", "_law_level_text", "_law_program", "_law_program_lines", "_law_level_at", "_law_numbers"]
def names3 : List PySem.Str := ["_law_places", "_law_move_end", "_law_moves_end", "_law_ending_wrong", "_law_list_wrong", "_law_level_wrong", "_law_spoiled", "_law_met", "_law_text", "_law_with", "_law_change", "_law_odd_right"]
def names : List PySem.Str := names0 ++ names1 ++ names2 ++ names3
end Hd
section
open PySem PySem.W PySem.Calls PyProof.Rows
local macro_rules
  | `(tactic| o_head (kHook $K $A $e)) => `(tactic| (exact (by assumption : ∀ p : Prop, p) _; exact $K; exact $A; exact ([] : List Addr); exact $e))
  | `(tactic| o_head (kmHook $K $A $e $ts)) => `(tactic| (exact (by assumption : ∀ p : Prop, p) _; exact $K; exact $A; exact $ts; exact $e))
/-- the written part, made once: the run is held against it in declarations of their own -/
noncomputable def Hd.kt : (K : Params → Frag) ×' (A : List Addr) ×' (ts : List Addr) ×' ((∀ P, A = (K P).map (·.1)) ∧ ((∀ p : Prop, p) → PySem.Challenge.rw_everyorder_k12_whole_programs_that_are_c.Holds)) := by
  refine ⟨?K, ?A, ?ts, ?e, fun h => ?main⟩
  rotate_left 4
  w_on; o_law; k_head
theorem Hd.run_false : ∀ w : World, HandSHeadRun.RunEq Hd.R Hd.qv (kmHook Hd.kt.1 Hd.kt.2.1 Hd.kt.2.2.2.1 Hd.kt.2.2.1) (fun s => (Hd.kt.2.1.map (HandSHeadRun.getT s), Hd.kt.2.2.1.map (HandSHeadRun.getT s))) 40000 Hd.names (w.withFollow "special-get-raises" false) := by
  intro w os
  kernel_rfl
theorem Hd.run_true : ∀ w : World, HandSHeadRun.RunEq Hd.R Hd.qv (kmHook Hd.kt.1 Hd.kt.2.1 Hd.kt.2.2.2.1 Hd.kt.2.2.1) (fun s => (Hd.kt.2.1.map (HandSHeadRun.getT s), Hd.kt.2.2.1.map (HandSHeadRun.getT s))) 40000 Hd.names (w.withFollow "special-get-raises" true) := by
  intro w os
  kernel_rfl
theorem Hd.run : ∀ w : World, HandSHeadRun.RunEq Hd.R Hd.qv (kmHook Hd.kt.1 Hd.kt.2.1 Hd.kt.2.2.2.1 Hd.kt.2.2.1) (fun s => (Hd.kt.2.1.map (HandSHeadRun.getT s), Hd.kt.2.2.1.map (HandSHeadRun.getT s))) 40000 Hd.names w := fun w => byRow2 "special-get-raises" (P := fun w => HandSHeadRun.RunEq Hd.R Hd.qv (kmHook Hd.kt.1 Hd.kt.2.1 Hd.kt.2.2.2.1 Hd.kt.2.2.1) (fun s => (Hd.kt.2.1.map (HandSHeadRun.getT s), Hd.kt.2.2.1.map (HandSHeadRun.getT s))) 40000 Hd.names w) Hd.run_false Hd.run_true w
end
set_option maxHeartbeats 4000000
namespace Pf12
open PySem PySem.Spec PyProof.Rows L2
/-! ### tuples of texts that the top has written -/
def strB : List V → List Value → Bool
  | [], [] => true
  | .str x :: r, .str y _ :: u => decide (x = y) && strB r u
  | _, _ => false
theorem strB_ok : ∀ {xs : List V} {us : List Value}, strB xs us = true → Vals xs us
  | [], [], _ => .nil
  | .str x :: r, .str y t :: u, h => by
    rw [strB, Bool.and_eq_true, decide_eq_true_eq] at h
    obtain ⟨rfl, h2⟩ := h
    exact .cons ⟨t, rfl⟩ (strB_ok h2)
def tupB (o : Obj) (xs : List V) : Bool := match o.cls, o.data with
  | .type c, .seq its _ => decide (c = "tuple") && (decide (its.size ≤ 1000) && strB xs its.toList)
  | _, _ => false
theorem tupB_ok {K : PySem.W.Frag} {H : Hp} {p : Addr} {o : Obj} {xs : List V} (l : K.lookup p = some o) (h : tupB o xs = true) : SqT K H p xs := by
  unfold tupB at h
  split at h
  · rename_i c its n hc hd
    simp only [Bool.and_eq_true, decide_eq_true_eq] at h
    obtain ⟨rfl, h1, h2⟩ := h
    exact .inr ⟨o, its, n, l, hc, hd, Nat.le_trans h1 (by decide), strB_ok h2⟩
  · cases h
/-! ### dicts of texts that the top has written: no other keys -/
def keyB (ks : List Str) (l : List PySem.DictEntry) : Bool := l.all fun e => match e.key with
  | .str x _ => decide (x ∈ ks)
  | _ => false
/-! ### the text by places -/
def topS (i : Nat) : Stmt := PySem.Challenge.pw_everyorder_k12_whole_programs_that_are_c.main.body.getD i (.Pass ⟨0, 0, 0, 0⟩)
abbrev s__wall : Stmt := topS 0
abbrev s_is_integer : Stmt := topS 2
abbrev s_is_from : Stmt := topS 3
abbrev s_is_between : Stmt := topS 4
abbrev s_BadWord_init : Stmt := inClass (topS 7) 0
abbrev s_BadText_init : Stmt := inClass (topS 8) 0
abbrev s_BadSize_init : Stmt := inClass (topS 9) 0
abbrev s_BadNumber_init : Stmt := inClass (topS 10) 0
abbrev s_NoLevel_init : Stmt := inClass (topS 11) 0
abbrev s_Tower_init : Stmt := inClass (topS 14) 0
abbrev s_Tower_grow : Stmt := inClass (topS 14) 1
abbrev s_Tower_add_level : Stmt := inClass (topS 14) 2
abbrev s_Tower_ahead : Stmt := inClass (topS 14) 3
abbrev s_Tower_least_not_whole : Stmt := inClass (topS 14) 4
abbrev s_is_figure_behind : Stmt := topS 22
abbrev s_is_place_word : Stmt := topS 23
abbrev s_is_amount : Stmt := topS 24
abbrev s_place_of : Stmt := topS 25
abbrev s_amount_of : Stmt := topS 26
abbrev s_is_part : Stmt := topS 27
abbrev s_read_move : Stmt := topS 28
abbrev s_read_moves : Stmt := topS 29
abbrev s_exchanged : Stmt := topS 30
abbrev s_rolled : Stmt := topS 31
abbrev s_moved : Stmt := topS 32
abbrev s_Word_init : Stmt := inClass (topS 33) 0
abbrev s_Word_eq : Stmt := inClass (topS 33) 1
abbrev s_Word_at : Stmt := inClass (topS 33) 2
abbrev s_read_along : Stmt := topS 39
abbrev s_read_list : Stmt := topS 40
abbrev s_read_body : Stmt := topS 41
abbrev s_read_level : Stmt := topS 42
abbrev s_Level_init : Stmt := inClass (topS 43) 0
abbrev s_Level_eq : Stmt := inClass (topS 43) 1
abbrev s_Level_many_steps : Stmt := inClass (topS 43) 2
abbrev s_Level_partner : Stmt := inClass (topS 43) 3
abbrev s_Level_partners : Stmt := inClass (topS 43) 4
abbrev s_Level_step : Stmt := inClass (topS 43) 5
abbrev s_read_line : Stmt := topS 44
abbrev s_read_period : Stmt := topS 45
abbrev s_read_rests : Stmt := topS 46
abbrev s_read_size : Stmt := topS 47
abbrev s_read_singles : Stmt := topS 48
abbrev s_text_of_program : Stmt := topS 49
abbrev s_Program_init : Stmt := inClass (topS 50) 0
abbrev s_Program_eq : Stmt := inClass (topS 50) 1
abbrev s_Program_level : Stmt := inClass (topS 50) 2
abbrev s_Program_step : Stmt := inClass (topS 50) 3
abbrev s_Program_with_level : Stmt := inClass (topS 50) 4
abbrev s_Program_without_level : Stmt := inClass (topS 50) 5
abbrev s_Program_with_rest : Stmt := inClass (topS 50) 6
abbrev s__law_pen : Stmt := topS 52
abbrev s__law_draw : Stmt := topS 53
abbrev s__law_pick : Stmt := topS 54
abbrev s__law_place_word : Stmt := topS 55
abbrev s__law_amount : Stmt := topS 56
abbrev s__law_move : Stmt := topS 57
abbrev s__law_moves : Stmt := topS 58
abbrev s__law_word_text : Stmt := topS 59
abbrev s__law_level : Stmt := topS 60
abbrev s__law_level_text : Stmt := topS 61
abbrev s__law_program : Stmt := topS 62
abbrev s__law_program_lines : Stmt := topS 63
abbrev s__law_level_at : Stmt := topS 64
abbrev s__law_numbers : Stmt := topS 65
abbrev s__law_places : Stmt := topS 66
abbrev s__law_move_end : Stmt := topS 67
abbrev s__law_moves_end : Stmt := topS 68
abbrev s__law_ending_wrong : Stmt := topS 69
abbrev s__law_list_wrong : Stmt := topS 70
abbrev s__law_level_wrong : Stmt := topS 71
abbrev s__law_spoiled : Stmt := topS 72
abbrev s__law_met : Stmt := topS 73
abbrev s__law_text : Stmt := topS 74
abbrev s__law_with : Stmt := topS 75
abbrev s__law_change : Stmt := topS 76
abbrev s__law_odd_right : Stmt := topS 77
abbrev s_law : Stmt := topS 78
theorem sc__wall : FnScope ["k"] ["k"] (defScope s__wall) := ⟨rfl, rfl, rfl, by decide +kernel, rfl, by decide +kernel, by decide +kernel⟩
theorem sc_is_integer : FnScope ["value"] ["value"] (defScope s_is_integer) := ⟨rfl, rfl, rfl, by decide +kernel, rfl, by decide +kernel, by decide +kernel⟩
theorem sc_is_from : FnScope ["value", "low"] ["value", "low"] (defScope s_is_from) := ⟨rfl, rfl, rfl, by decide +kernel, rfl, by decide +kernel, by decide +kernel⟩
theorem sc_is_between : FnScope ["value", "low", "high"] ["value", "low", "high"] (defScope s_is_between) := ⟨rfl, rfl, rfl, by decide +kernel, rfl, by decide +kernel, by decide +kernel⟩
theorem sc_BadWord_init : FnScope ["self", "index"] ["self", "index"] (defScope s_BadWord_init) := ⟨rfl, rfl, rfl, by decide +kernel, rfl, by decide +kernel, by decide +kernel⟩
theorem sc_BadText_init : FnScope ["self", "line"] ["self", "line"] (defScope s_BadText_init) := ⟨rfl, rfl, rfl, by decide +kernel, rfl, by decide +kernel, by decide +kernel⟩
theorem sc_BadSize_init : FnScope ["self", "size"] ["self", "size"] (defScope s_BadSize_init) := ⟨rfl, rfl, rfl, by decide +kernel, rfl, by decide +kernel, by decide +kernel⟩
theorem sc_BadNumber_init : FnScope ["self", "number"] ["self", "number"] (defScope s_BadNumber_init) := ⟨rfl, rfl, rfl, by decide +kernel, rfl, by decide +kernel, by decide +kernel⟩
theorem sc_NoLevel_init : FnScope ["self", "size"] ["self", "size"] (defScope s_NoLevel_init) := ⟨rfl, rfl, rfl, by decide +kernel, rfl, by decide +kernel, by decide +kernel⟩
theorem sc_Tower_init : FnScope ["self", "stop"] ["self", "stop"] (defScope s_Tower_init) := ⟨rfl, rfl, rfl, by decide +kernel, rfl, by decide +kernel, by decide +kernel⟩
theorem sc_Tower_grow : FnScope ["self", "program", "size"] ["self", "program", "size"] (defScope s_Tower_grow) := ⟨rfl, rfl, rfl, by decide +kernel, rfl, by decide +kernel, by decide +kernel⟩
theorem sc_Tower_add_level : FnScope ["self", "program"] ["self", "program"] (defScope s_Tower_add_level) := ⟨rfl, rfl, rfl, by decide +kernel, rfl, by decide +kernel, by decide +kernel⟩
theorem sc_Tower_ahead : FnScope ["self", "k", "call"] ["self", "k", "call"] (defScope s_Tower_ahead) := ⟨rfl, rfl, rfl, by decide +kernel, rfl, by decide +kernel, by decide +kernel⟩
theorem sc_Tower_least_not_whole : FnScope ["self", "program", "high"] ["self", "program", "high"] (defScope s_Tower_least_not_whole) := ⟨rfl, rfl, rfl, by decide +kernel, rfl, by decide +kernel, by decide +kernel⟩
theorem sc_is_figure_behind : FnScope ["fronts", "text"] ["fronts", "text"] (defScope s_is_figure_behind) := ⟨rfl, rfl, rfl, by decide +kernel, rfl, by decide +kernel, by decide +kernel⟩
theorem sc_is_place_word : FnScope ["text"] ["text"] (defScope s_is_place_word) := ⟨rfl, rfl, rfl, by decide +kernel, rfl, by decide +kernel, by decide +kernel⟩
theorem sc_is_amount : FnScope ["text"] ["text"] (defScope s_is_amount) := ⟨rfl, rfl, rfl, by decide +kernel, rfl, by decide +kernel, by decide +kernel⟩
theorem sc_place_of : FnScope ["word", "size"] ["word", "size"] (defScope s_place_of) := ⟨rfl, rfl, rfl, by decide +kernel, rfl, by decide +kernel, by decide +kernel⟩
theorem sc_amount_of : FnScope ["text", "length"] ["text", "length"] (defScope s_amount_of) := ⟨rfl, rfl, rfl, by decide +kernel, rfl, by decide +kernel, by decide +kernel⟩
theorem sc_is_part : FnScope ["text", "kind"] ["text", "kind"] (defScope s_is_part) := ⟨rfl, rfl, rfl, by decide +kernel, rfl, by decide +kernel, by decide +kernel⟩
theorem sc_read_move : FnScope ["parts", "start", "may_turn", "head", "shape", "index", "kind"] ["parts", "start", "may_turn"] (defScope s_read_move) := ⟨rfl, rfl, rfl, by decide +kernel, rfl, by decide +kernel, by decide +kernel⟩
theorem sc_read_moves : FnScope ["parts", "start", "moves", "end", "move"] ["parts", "start"] (defScope s_read_moves) := ⟨rfl, rfl, rfl, by decide +kernel, rfl, by decide +kernel, by decide +kernel⟩
theorem sc_exchanged : FnScope ["old", "x", "y", "new"] ["old", "x", "y"] (defScope s_exchanged) := ⟨rfl, rfl, rfl, by decide +kernel, rfl, by decide +kernel, by decide +kernel⟩
theorem sc_rolled : FnScope ["old", "x", "y", "amount", "block", "cut"] ["old", "x", "y", "amount"] (defScope s_rolled) := ⟨rfl, rfl, rfl, by decide +kernel, rfl, by decide +kernel, by decide +kernel⟩
theorem sc_moved : FnScope ["old", "move", "x", "y"] ["old", "move"] (defScope s_moved) := ⟨rfl, rfl, rfl, by decide +kernel, rfl, by decide +kernel, by decide +kernel⟩
theorem sc_Word_init : FnScope ["self", "text", "parts", "moves", "end"] ["self", "text"] (defScope s_Word_init) := ⟨rfl, rfl, rfl, by decide +kernel, rfl, by decide +kernel, by decide +kernel⟩
theorem sc_Word_eq : FnScope ["self", "other"] ["self", "other"] (defScope s_Word_eq) := ⟨rfl, rfl, rfl, by decide +kernel, rfl, by decide +kernel, by decide +kernel⟩
theorem sc_Word_at : FnScope ["self", "k", "row", "move"] ["self", "k"] (defScope s_Word_at) := ⟨rfl, rfl, rfl, by decide +kernel, rfl, by decide +kernel, by decide +kernel⟩
theorem sc_read_along : FnScope ["parts"] ["parts"] (defScope s_read_along) := ⟨rfl, rfl, rfl, by decide +kernel, rfl, by decide +kernel, by decide +kernel⟩
theorem sc_read_list : FnScope ["parts", "size", "places", "behind", "place"] ["parts", "size"] (defScope s_read_list) := ⟨rfl, rfl, rfl, by decide +kernel, rfl, by decide +kernel, by decide +kernel⟩
theorem sc_read_body : FnScope ["parts", "size"] ["parts", "size"] (defScope s_read_body) := ⟨rfl, rfl, rfl, by decide +kernel, rfl, by decide +kernel, by decide +kernel⟩
theorem sc_read_level : FnScope ["parts", "size", "behind", "stop", "goes_on", "index", "told", "end"] ["parts", "size"] (defScope s_read_level) := ⟨rfl, rfl, rfl, by decide +kernel, rfl, by decide +kernel, by decide +kernel⟩
theorem sc_Level_init : FnScope ["self", "text", "size", "parts", "behind", "goes_on", "part"] ["self", "text", "size"] (defScope s_Level_init) := ⟨rfl, rfl, rfl, by decide +kernel, rfl, by decide +kernel, by decide +kernel⟩
theorem sc_Level_eq : FnScope ["self", "other"] ["self", "other"] (defScope s_Level_eq) := ⟨rfl, rfl, rfl, by decide +kernel, rfl, by decide +kernel, by decide +kernel⟩
theorem sc_Level_many_steps : FnScope ["self", "k"] ["self", "k"] (defScope s_Level_many_steps) := ⟨rfl, rfl, rfl, by decide +kernel, rfl, by decide +kernel, by decide +kernel⟩
theorem sc_Level_partner : FnScope ["self", "k", "i"] ["self", "k", "i"] (defScope s_Level_partner) := ⟨rfl, rfl, rfl, by decide +kernel, rfl, by decide +kernel, by decide +kernel⟩
theorem sc_Level_partners : FnScope ["self", "k", "many"] ["self", "k", "many"] (defScope s_Level_partners) := ⟨rfl, rfl, rfl, by decide +kernel, rfl, by decide +kernel, by decide +kernel⟩
theorem sc_Level_step : FnScope ["self", "k", "i"] ["self", "k", "i"] (defScope s_Level_step) := ⟨rfl, rfl, rfl, by decide +kernel, rfl, by decide +kernel, by decide +kernel⟩
theorem sc_read_line : FnScope ["line", "number", "head", "size"] ["line", "number", "head", "size"] (defScope s_read_line) := ⟨rfl, rfl, rfl, by decide +kernel, rfl, by decide +kernel, by decide +kernel⟩
theorem sc_read_period : FnScope ["line", "period"] ["line"] (defScope s_read_period) := ⟨rfl, rfl, rfl, by decide +kernel, rfl, by decide +kernel, by decide +kernel⟩
theorem sc_read_rests : FnScope ["lines", "period", "rests", "rest"] ["lines", "period"] (defScope s_read_rests) := ⟨rfl, rfl, rfl, by decide +kernel, rfl, by decide +kernel, by decide +kernel⟩
theorem sc_read_size : FnScope ["line", "number", "low", "size"] ["line", "number", "low"] (defScope s_read_size) := ⟨rfl, rfl, rfl, by decide +kernel, rfl, by decide +kernel, by decide +kernel⟩
theorem sc_read_singles : FnScope ["lines", "first", "singles", "low", "index", "size"] ["lines", "first"] (defScope s_read_singles) := ⟨rfl, rfl, rfl, by decide +kernel, rfl, by decide +kernel, by decide +kernel⟩
theorem sc_text_of_program : FnScope ["rests", "singles", "lines", "rest", "told", "size"] ["rests", "singles"] (defScope s_text_of_program) := ⟨rfl, rfl, rfl, by decide +kernel, rfl, by decide +kernel, by decide +kernel⟩
theorem sc_Program_init : FnScope ["self", "text", "lines"] ["self", "text"] (defScope s_Program_init) := ⟨rfl, rfl, rfl, by decide +kernel, rfl, by decide +kernel, by decide +kernel⟩
theorem sc_Program_eq : FnScope ["self", "other"] ["self", "other"] (defScope s_Program_eq) := ⟨rfl, rfl, rfl, by decide +kernel, rfl, by decide +kernel, by decide +kernel⟩
theorem sc_Program_level : FnScope ["self", "k"] ["self", "k"] (defScope s_Program_level) := ⟨rfl, rfl, rfl, by decide +kernel, rfl, by decide +kernel, by decide +kernel⟩
theorem sc_Program_step : FnScope ["self", "k", "i"] ["self", "k", "i"] (defScope s_Program_step) := ⟨rfl, rfl, rfl, by decide +kernel, rfl, by decide +kernel, by decide +kernel⟩
theorem sc_Program_with_level : FnScope ["self", "k", "text", "singles"] ["self", "k", "text"] (defScope s_Program_with_level) := ⟨rfl, rfl, rfl, by decide +kernel, rfl, by decide +kernel, by decide +kernel⟩
theorem sc_Program_without_level : FnScope ["self", "k", "singles"] ["self", "k"] (defScope s_Program_without_level) := ⟨rfl, rfl, rfl, by decide +kernel, rfl, by decide +kernel, by decide +kernel⟩
theorem sc_Program_with_rest : FnScope ["self", "r", "text", "rests"] ["self", "r", "text"] (defScope s_Program_with_rest) := ⟨rfl, rfl, rfl, by decide +kernel, rfl, by decide +kernel, by decide +kernel⟩
theorem sc__law_pen : FnScope ["script"] ["script"] (defScope s__law_pen) := ⟨rfl, rfl, rfl, by decide +kernel, rfl, by decide +kernel, by decide +kernel⟩
theorem sc__law_draw : FnScope ["pen", "many", "digit", "at", "cell", "mixed"] ["pen", "many"] (defScope s__law_draw) := ⟨rfl, rfl, rfl, by decide +kernel, rfl, by decide +kernel, by decide +kernel⟩
theorem sc__law_pick : FnScope ["pen", "some"] ["pen", "some"] (defScope s__law_pick) := ⟨rfl, rfl, rfl, by decide +kernel, rfl, by decide +kernel, by decide +kernel⟩
theorem sc__law_place_word : FnScope ["pen", "k"] ["pen"] (defScope s__law_place_word) := ⟨rfl, rfl, rfl, by decide +kernel, rfl, by decide +kernel, by decide +kernel⟩
theorem sc__law_amount : FnScope ["pen", "k"] ["pen"] (defScope s__law_amount) := ⟨rfl, rfl, rfl, by decide +kernel, rfl, by decide +kernel, by decide +kernel⟩
theorem sc__law_move : FnScope ["pen", "has_turn", "way", "x", "y"] ["pen", "has_turn"] (defScope s__law_move) := ⟨rfl, rfl, rfl, by decide +kernel, rfl, by decide +kernel, by decide +kernel⟩
theorem sc__law_moves : FnScope ["pen", "found", "k"] ["pen"] (defScope s__law_moves) := ⟨rfl, rfl, rfl, by decide +kernel, rfl, by decide +kernel, by decide +kernel⟩
theorem sc__law_word_text : FnScope ["moves", "move"] ["moves"] (defScope s__law_word_text) := ⟨rfl, rfl, rfl, by decide +kernel, rfl, by decide +kernel, by decide +kernel⟩
theorem sc__law_level : FnScope ["pen", "size", "end", "way", "k"] ["pen", "size"] (defScope s__law_level) := ⟨rfl, rfl, rfl, by decide +kernel, rfl, by decide +kernel, by decide +kernel⟩
theorem sc__law_level_text : FnScope ["level", "kind", "one", "other", "end", "text", "place"] ["level"] (defScope s__law_level_text) := ⟨rfl, rfl, rfl, by decide +kernel, rfl, by decide +kernel, by decide +kernel⟩
theorem sc__law_program : FnScope ["pen", "rests", "sizes", "rest", "size"] ["pen"] (defScope s__law_program) := ⟨rfl, rfl, rfl, by decide +kernel, rfl, by decide +kernel, by decide +kernel⟩
theorem sc__law_program_lines : FnScope ["program", "rests", "early", "lines", "k", "size", "level"] ["program"] (defScope s__law_program_lines) := ⟨rfl, rfl, rfl, by decide +kernel, rfl, by decide +kernel, by decide +kernel⟩
theorem sc__law_level_at : FnScope ["program", "k", "rests", "early", "own", "size", "level"] ["program", "k"] (defScope s__law_level_at) := ⟨rfl, rfl, rfl, by decide +kernel, rfl, by decide +kernel, by decide +kernel⟩
theorem sc__law_numbers : FnScope ["k"] [] (defScope s__law_numbers) := ⟨rfl, rfl, rfl, by decide +kernel, rfl, by decide +kernel, by decide +kernel⟩
theorem sc__law_places : FnScope ["found", "k"] [] (defScope s__law_places) := ⟨rfl, rfl, rfl, by decide +kernel, rfl, by decide +kernel, by decide +kernel⟩
theorem sc__law_move_end : FnScope ["parts", "at", "turned", "wants", "k"] ["parts", "at", "turned"] (defScope s__law_move_end) := ⟨rfl, rfl, rfl, by decide +kernel, rfl, by decide +kernel, by decide +kernel⟩
theorem sc__law_moves_end : FnScope ["parts", "at", "turned", "many", "end"] ["parts", "at"] (defScope s__law_moves_end) := ⟨rfl, rfl, rfl, by decide +kernel, rfl, by decide +kernel, by decide +kernel⟩
theorem sc__law_ending_wrong : FnScope ["parts", "at", "want"] ["parts", "at"] (defScope s__law_ending_wrong) := ⟨rfl, rfl, rfl, by decide +kernel, rfl, by decide +kernel, by decide +kernel⟩
theorem sc__law_list_wrong : FnScope ["parts", "size", "allowed", "at", "k"] ["parts", "size"] (defScope s__law_list_wrong) := ⟨rfl, rfl, rfl, by decide +kernel, rfl, by decide +kernel, by decide +kernel⟩
theorem sc__law_level_wrong : FnScope ["parts", "size", "end"] ["parts", "size"] (defScope s__law_level_wrong) := ⟨rfl, rfl, rfl, by decide +kernel, rfl, by decide +kernel, by decide +kernel⟩
theorem sc__law_spoiled : FnScope ["pen", "parts", "menu", "found", "at", "way"] ["pen", "parts"] (defScope s__law_spoiled) := ⟨rfl, rfl, rfl, by decide +kernel, rfl, by decide +kernel, by decide +kernel⟩
theorem sc__law_met : FnScope ["call", "e"] ["call"] (defScope s__law_met) := ⟨rfl, rfl, rfl, by decide +kernel, rfl, by decide +kernel, by decide +kernel⟩
theorem sc__law_text : FnScope ["program"] ["program"] (defScope s__law_text) := ⟨rfl, rfl, rfl, by decide +kernel, rfl, by decide +kernel, by decide +kernel⟩
theorem sc__law_with : FnScope ["program", "size", "level", "rests", "early", "rows", "row"] ["program", "size", "level"] (defScope s__law_with) := ⟨rfl, rfl, rfl, by decide +kernel, rfl, by decide +kernel, by decide +kernel⟩
theorem sc__law_change : FnScope ["pen", "program", "made", "rests", "early", "way", "due", "index", "level", "parts", "rest", "size", "row"] ["pen", "program", "made"] (defScope s__law_change) := ⟨rfl, rfl, rfl, by decide +kernel, rfl, by decide +kernel, by decide +kernel⟩
theorem sc__law_odd_right : FnScope ["pen", "made", "many", "calls", "due", "gone", "odd", "call"] ["pen", "made", "many"] (defScope s__law_odd_right) := ⟨rfl, rfl, rfl, by decide +kernel, rfl, by decide +kernel, by decide +kernel⟩
theorem sc_law : FnScope ["script", "pen", "program", "made", "lap", "call", "due", "kept", "told", "k", "row"] ["script"] (defScope s_law) := ⟨rfl, rfl, rfl, by decide +kernel, rfl, by decide +kernel, by decide +kernel⟩
/-- where the defs and classes stand -/
structure Ad where
  f__wall : Addr
  d__wall : FuncData
  f_is_integer : Addr
  d_is_integer : FuncData
  f_is_from : Addr
  d_is_from : FuncData
  f_is_between : Addr
  d_is_between : FuncData
  f_BadWord_init : Addr
  d_BadWord_init : FuncData
  f_BadText_init : Addr
  d_BadText_init : FuncData
  f_BadSize_init : Addr
  d_BadSize_init : FuncData
  f_BadNumber_init : Addr
  d_BadNumber_init : FuncData
  f_NoLevel_init : Addr
  d_NoLevel_init : FuncData
  f_Tower_init : Addr
  d_Tower_init : FuncData
  f_Tower_grow : Addr
  d_Tower_grow : FuncData
  f_Tower_add_level : Addr
  d_Tower_add_level : FuncData
  f_Tower_ahead : Addr
  d_Tower_ahead : FuncData
  f_Tower_least_not_whole : Addr
  d_Tower_least_not_whole : FuncData
  f_is_figure_behind : Addr
  d_is_figure_behind : FuncData
  f_is_place_word : Addr
  d_is_place_word : FuncData
  f_is_amount : Addr
  d_is_amount : FuncData
  f_place_of : Addr
  d_place_of : FuncData
  f_amount_of : Addr
  d_amount_of : FuncData
  f_is_part : Addr
  d_is_part : FuncData
  f_read_move : Addr
  d_read_move : FuncData
  f_read_moves : Addr
  d_read_moves : FuncData
  f_exchanged : Addr
  d_exchanged : FuncData
  f_rolled : Addr
  d_rolled : FuncData
  f_moved : Addr
  d_moved : FuncData
  f_Word_init : Addr
  d_Word_init : FuncData
  f_Word_eq : Addr
  d_Word_eq : FuncData
  f_Word_at : Addr
  d_Word_at : FuncData
  f_read_along : Addr
  d_read_along : FuncData
  f_read_list : Addr
  d_read_list : FuncData
  f_read_body : Addr
  d_read_body : FuncData
  f_read_level : Addr
  d_read_level : FuncData
  f_Level_init : Addr
  d_Level_init : FuncData
  f_Level_eq : Addr
  d_Level_eq : FuncData
  f_Level_many_steps : Addr
  d_Level_many_steps : FuncData
  f_Level_partner : Addr
  d_Level_partner : FuncData
  f_Level_partners : Addr
  d_Level_partners : FuncData
  f_Level_step : Addr
  d_Level_step : FuncData
  f_read_line : Addr
  d_read_line : FuncData
  f_read_period : Addr
  d_read_period : FuncData
  f_read_rests : Addr
  d_read_rests : FuncData
  f_read_size : Addr
  d_read_size : FuncData
  f_read_singles : Addr
  d_read_singles : FuncData
  f_text_of_program : Addr
  d_text_of_program : FuncData
  f_Program_init : Addr
  d_Program_init : FuncData
  f_Program_eq : Addr
  d_Program_eq : FuncData
  f_Program_level : Addr
  d_Program_level : FuncData
  f_Program_step : Addr
  d_Program_step : FuncData
  f_Program_with_level : Addr
  d_Program_with_level : FuncData
  f_Program_without_level : Addr
  d_Program_without_level : FuncData
  f_Program_with_rest : Addr
  d_Program_with_rest : FuncData
  f__law_pen : Addr
  d__law_pen : FuncData
  f__law_draw : Addr
  d__law_draw : FuncData
  f__law_pick : Addr
  d__law_pick : FuncData
  f__law_place_word : Addr
  d__law_place_word : FuncData
  f__law_amount : Addr
  d__law_amount : FuncData
  f__law_move : Addr
  d__law_move : FuncData
  f__law_moves : Addr
  d__law_moves : FuncData
  f__law_word_text : Addr
  d__law_word_text : FuncData
  f__law_level : Addr
  d__law_level : FuncData
  f__law_level_text : Addr
  d__law_level_text : FuncData
  f__law_program : Addr
  d__law_program : FuncData
  f__law_program_lines : Addr
  d__law_program_lines : FuncData
  f__law_level_at : Addr
  d__law_level_at : FuncData
  f__law_numbers : Addr
  d__law_numbers : FuncData
  f__law_places : Addr
  d__law_places : FuncData
  f__law_move_end : Addr
  d__law_move_end : FuncData
  f__law_moves_end : Addr
  d__law_moves_end : FuncData
  f__law_ending_wrong : Addr
  d__law_ending_wrong : FuncData
  f__law_list_wrong : Addr
  d__law_list_wrong : FuncData
  f__law_level_wrong : Addr
  d__law_level_wrong : FuncData
  f__law_spoiled : Addr
  d__law_spoiled : FuncData
  f__law_met : Addr
  d__law_met : FuncData
  f__law_text : Addr
  d__law_text : FuncData
  f__law_with : Addr
  d__law_with : FuncData
  f__law_change : Addr
  d__law_change : FuncData
  f__law_odd_right : Addr
  d__law_odd_right : FuncData
  f_law : Addr
  d_law : FuncData
  C_EveryError : Addr
  C_BadWord : Addr
  C_BadText : Addr
  C_BadSize : Addr
  C_BadNumber : Addr
  C_NoLevel : Addr
  C_Tower : Addr
  C_Word : Addr
  C_Level : Addr
  C_Program : Addr
  a_FIGURES : Addr
  a_PLACE_FRONTS : Addr
  a_AMOUNT_FRONTS : Addr
  a_SHAPES : Addr
  a_ENDING : Addr
  c__law_change : Addr
  p__law_change : Addr
  c__law_odd_right : Addr
  p__law_odd_right : Addr
/-- a def that makes lambdas: its code object stands at c -/
structure FunL (K : PySem.W.Frag) (x qual : Str) (st : Stmt) (f : Addr) (fd : FuncData) (c : Addr) : Prop where
  ex : ∃ (oc : Value) (od : Option Addr) (kV doc pm : Value) (an : Option Addr) (ct : Value) (osl : Array (Option Value)), fd = PySem.W.fnOf x qual (defArgs st) (defBody st) (defScope st) .none kV doc pm an (.ref c) ct ∧ K.lookup f = some ⟨oc, od, .func fd, osl⟩ ∧ PySem.W.codeIn K (.ref c) qual = true
theorem FunL.ok {P : Program} {w : World} {K : PySem.W.Frag} {mg : Str → Option Value} {base : Heap} {x qual : Str} {st : Stmt} {f c : Addr} {fd : FuncData} {N ps : List Str} {k : Nat} {sp : Sp} (F : FunL K x qual st f fd c) (hb : Binds K fd ps []) (S : FnScope N ps (defScope st)) (len : ∀ vs H Q E, sp vs H Q E → vs.length = ps.length)
    (hbody : ∀ (A : Around) (outer : List Env) (s : Shared) (H : Hp) (vs : List V) (Q : VK) (E : XK), Room k (A.deeper (envOfC qual (defScope st) s.heap.objs.size f (.ref c))) → sp vs H Q E → ∃ t, PSs (cxOf C8.CX0 P w K mg base N qual (defScope st) f (.ref c) A outer s H E).nox (defBody st) t ∧ t { nx := fun _ H' => Q .non H', rt := Q } (L2.start N vs) H) :
    FnOk P w K mg base CX0 (k + 1) f fd ps sp := by
  obtain ⟨oc, od, kV, doc, pm, an, ct, osl, e, lk, hcd⟩ := F.ex
  refine ⟨len, fun A outer s H args us vs Q E hr e0 hbt r h => ?_⟩
  rw [e] at lk hbt
  refine LamX.run_ofS lk hcd S hr e0 hbt r (len _ _ _ _ h) fun hr' => ?_
  obtain ⟨t, ht, q⟩ := hbody A outer s H vs Q E hr' h
  exact ⟨t, ht.nox, q⟩
/-- the table of a code object -/
def tabAddr (K : PySem.W.Frag) (c : Addr) : Addr := match K.lookup c with
  | some ⟨_, _, .fields vs, _⟩ => (match (vs[11]? : Option Value) with | some (.ref P) => P | _ => 0)
  | _ => 0
theorem tabs_at {h : Heap} {ts : List Addr} {p : Addr} (hts : ∀ P ∈ ts, h.get? P = some (PySem.W.tabObj #[])) (e : ts.contains p = true) : h.get? p = some { cls := .none, data := .fields #[] } := hts p (List.contains_iff_mem.mp e)
theorem tabs_nil {T : List (Addr × Str)} {cs : List (Addr × Addr)} {H : Hp} (e : T.map (·.1) = cs.map (·.2)) (hT : ∀ p ∈ cs, H p.2 = some (.tbl #[])) : LamX.Tabs T H := fun p hp => by
  have m : p.1 ∈ cs.map (·.2) := by
    rw [← e]
    exact List.mem_map.mpr ⟨p, hp, rfl⟩
  obtain ⟨q, hq, eq⟩ := List.mem_map.mp m
  refine LamX.TabS.nil ?_
  rw [← eq]
  exact hT q hq
/-- a class with its own ==: what its instances answer -/
structure OwnC (K : PySem.W.Frag) (C f : Addr) : Prop where
  eq : PySem.W.findIn K (.ref C) "__eq__" = some (some (.ref f))
  fn : PySem.W.isFn K (.ref f) = true
  cls : PySem.W.findIn K (.ref C) "__class__" = some (some (.builtin "object.__class__"))
  get : PySem.W.specialIn K (.builtin "object.__class__") "__get__" = some (some (.builtin "getset_descriptor.__get__"))
  tak : PySem.W.takesIn K (.builtin "object.__class__") = some true
  mro : PySem.W.mroIn K C (.type "object") = some true
  fst : PySem.W.notFirst K C (.type "str") = true
  kit : PySem.W.kitOne K (.type "str") (.ref C) = some false
/-- the same class beside numbers and tuples, and its != -/
structure OwnC2 (K : PySem.W.Frag) (C : Addr) : Prop where
  ne : PySem.W.findIn K (.ref C) "__ne__" = some (some (.builtin "object.__ne__"))
  fsi : PySem.W.notFirst K C (.type "int") = true
  fst : PySem.W.notFirst K C (.type "tuple") = true
  kti : PySem.W.kitOne K (.type "int") (.ref C) = some false
  ktt : PySem.W.kitOne K (.type "tuple") (.ref C) = some false
/-- isinstance of a caught error that has its own dict -/
structure ExcD (K : PySem.W.Frag) (D : Addr) : Prop where
  hg : PySem.W.findIn K (.ref D) "__getattribute__" = some (some (.builtin "BaseException.__getattribute__"))
  hk : PySem.W.findIn K (.ref D) "__getattr__" = some none
  hs : PySem.W.subIn K (.ref D) (.type "BaseException") = some true
  hd : PySem.W.hasDictIn K D = true
  ha : PySem.W.findIn K (.ref D) "__class__" = some (some (.builtin "object.__class__"))
  hn : PySem.W.specialIn K (.builtin "object.__class__") "__get__" = some (some (.builtin "getset_descriptor.__get__"))
  ht : PySem.W.takesIn K (.builtin "object.__class__") = some true
  hm : PySem.W.mroIn K D (.type "object") = some true
/-- an own error class: made, its field read, asked by isinstance -/
structure ErrC (K : PySem.W.Frag) (C fI : Addr) (f : Str) : Prop where
  o : OexC K C
  ini : PySem.W.findIn K (.ref C) "__init__" = some (some (.ref fI))
  tin : PySem.W.typeIn K (.ref fI) = some (.type "function")
  no : PySem.W.findIn K (.ref C) f = some none
  x : XfC K C
  i : ExcD K C
/-- an own error class without own __init__ -/
structure ErrZ (K : PySem.W.Frag) (C : Addr) : Prop where
  x : PySem.W.excIn K C [.type "ValueError", .type "Exception", .type "BaseException", .type "object"] "ValueError.__new__" = true
  k : PySem.W.keepIn K (.ref C) = true
  i : ExcD K C
/-! ### defaults -/
def dvB : V → Value → Bool
  | .non, .none => true
  | .bl a, .bool b => decide (a = b)
  | .int i, .int j _ => decide (i = j)
  | .str x, .str y _ => decide (x = y)
  | _, _ => false
def dvsB : List V → List Value → Bool
  | [], [] => true
  | x :: r, y :: u => dvB x y && dvsB r u
  | _, _ => false
theorem dvB_ok : ∀ {x : V} {u : Value}, dvB x u = true → RelV x u
  | .non, .none, _ => rfl
  | .bl a, .bool b, h => by
    have := of_decide_eq_true h
    subst this
    rfl
  | .int i, .int j t, h => by
    have := of_decide_eq_true h
    subst this
    exact ⟨t, rfl⟩
  | .str x, .str y t, h => by
    have := of_decide_eq_true h
    subst this
    exact ⟨t, rfl⟩
theorem dvsB_ok : ∀ {xs : List V} {us : List Value}, dvsB xs us = true → Vals xs us
  | [], [], _ => .nil
  | x :: r, y :: u, h => by
    rw [dvsB, Bool.and_eq_true] at h
    exact .cons (dvB_ok h.1) (dvsB_ok h.2)
def dfB (o : Obj) (xs : List V) : Bool := match o.data with
  | .seq its _ => !xs.isEmpty && dvsB xs its.toList
  | _ => false
theorem dfB_ok {K : PySem.W.Frag} {T : Addr} {o : Obj} {xs : List V} (l : K.lookup T = some o) (h : dfB o xs = true) : DflV K (.ref T) xs := by
  unfold dfB at h
  split at h
  · rename_i its n hd
    rw [Bool.and_eq_true] at h
    refine .inr ⟨fun e => ?_, T, o, its.toList, n, rfl, l, by simpa using hd, dvsB_ok h.2⟩
    rw [e] at h
    simp at h
  · cases h
theorem binds_full {K : PySem.W.Frag} {fd : FuncData} {ps : List Str} (h : ∃ ds, Vals [] ds ∧ Binds K fd ps ds) : Binds K fd ps [] := by
  obtain ⟨ds, h1, h2⟩ := h
  cases h1
  exact h2
/-- what the top has written -/
structure Tx (w : World) (K : PySem.W.Frag) (mg : Str → Option Value) (a : Ad) : Prop where
  F__wall : Fun K "_wall" "_wall" s__wall a.f__wall a.d__wall
  b__wall : Binds K a.d__wall ["k"] []
  m__wall : mg "_wall" = some (.ref a.f__wall)
  F_is_integer : Fun K "is_integer" "is_integer" s_is_integer a.f_is_integer a.d_is_integer
  b_is_integer : Binds K a.d_is_integer ["value"] []
  m_is_integer : mg "is_integer" = some (.ref a.f_is_integer)
  F_is_from : Fun K "is_from" "is_from" s_is_from a.f_is_from a.d_is_from
  b_is_from : Binds K a.d_is_from ["value", "low"] []
  m_is_from : mg "is_from" = some (.ref a.f_is_from)
  F_is_between : Fun K "is_between" "is_between" s_is_between a.f_is_between a.d_is_between
  b_is_between : Binds K a.d_is_between ["value", "low", "high"] []
  m_is_between : mg "is_between" = some (.ref a.f_is_between)
  F_BadWord_init : Fun K "__init__" "BadWord.__init__" s_BadWord_init a.f_BadWord_init a.d_BadWord_init
  b_BadWord_init : Binds K a.d_BadWord_init ["self", "index"] []
  F_BadText_init : Fun K "__init__" "BadText.__init__" s_BadText_init a.f_BadText_init a.d_BadText_init
  b_BadText_init : Binds K a.d_BadText_init ["self", "line"] []
  F_BadSize_init : Fun K "__init__" "BadSize.__init__" s_BadSize_init a.f_BadSize_init a.d_BadSize_init
  b_BadSize_init : Binds K a.d_BadSize_init ["self", "size"] []
  F_BadNumber_init : Fun K "__init__" "BadNumber.__init__" s_BadNumber_init a.f_BadNumber_init a.d_BadNumber_init
  b_BadNumber_init : Binds K a.d_BadNumber_init ["self", "number"] []
  F_NoLevel_init : Fun K "__init__" "NoLevel.__init__" s_NoLevel_init a.f_NoLevel_init a.d_NoLevel_init
  b_NoLevel_init : Binds K a.d_NoLevel_init ["self", "size"] []
  F_Tower_init : FunD K "__init__" "Tower.__init__" (defArgs s_Tower_init) (defBody s_Tower_init) (defScope s_Tower_init) [V.int 1] [] a.f_Tower_init a.d_Tower_init
  b_Tower_init : Binds K a.d_Tower_init ["self", "stop"] []
  bd_Tower_init : ∃ ds, Vals [V.int 1] ds ∧ Binds K a.d_Tower_init ["self", "stop"] ds
  F_Tower_grow : Fun K "grow" "Tower.grow" s_Tower_grow a.f_Tower_grow a.d_Tower_grow
  b_Tower_grow : Binds K a.d_Tower_grow ["self", "program", "size"] []
  F_Tower_add_level : Fun K "add_level" "Tower.add_level" s_Tower_add_level a.f_Tower_add_level a.d_Tower_add_level
  b_Tower_add_level : Binds K a.d_Tower_add_level ["self", "program"] []
  F_Tower_ahead : Fun K "ahead" "Tower.ahead" s_Tower_ahead a.f_Tower_ahead a.d_Tower_ahead
  b_Tower_ahead : Binds K a.d_Tower_ahead ["self", "k", "call"] []
  F_Tower_least_not_whole : Fun K "least_not_whole" "Tower.least_not_whole" s_Tower_least_not_whole a.f_Tower_least_not_whole a.d_Tower_least_not_whole
  b_Tower_least_not_whole : Binds K a.d_Tower_least_not_whole ["self", "program", "high"] []
  F_is_figure_behind : Fun K "is_figure_behind" "is_figure_behind" s_is_figure_behind a.f_is_figure_behind a.d_is_figure_behind
  b_is_figure_behind : Binds K a.d_is_figure_behind ["fronts", "text"] []
  m_is_figure_behind : mg "is_figure_behind" = some (.ref a.f_is_figure_behind)
  F_is_place_word : Fun K "is_place_word" "is_place_word" s_is_place_word a.f_is_place_word a.d_is_place_word
  b_is_place_word : Binds K a.d_is_place_word ["text"] []
  m_is_place_word : mg "is_place_word" = some (.ref a.f_is_place_word)
  F_is_amount : Fun K "is_amount" "is_amount" s_is_amount a.f_is_amount a.d_is_amount
  b_is_amount : Binds K a.d_is_amount ["text"] []
  m_is_amount : mg "is_amount" = some (.ref a.f_is_amount)
  F_place_of : Fun K "place_of" "place_of" s_place_of a.f_place_of a.d_place_of
  b_place_of : Binds K a.d_place_of ["word", "size"] []
  m_place_of : mg "place_of" = some (.ref a.f_place_of)
  F_amount_of : Fun K "amount_of" "amount_of" s_amount_of a.f_amount_of a.d_amount_of
  b_amount_of : Binds K a.d_amount_of ["text", "length"] []
  m_amount_of : mg "amount_of" = some (.ref a.f_amount_of)
  F_is_part : Fun K "is_part" "is_part" s_is_part a.f_is_part a.d_is_part
  b_is_part : Binds K a.d_is_part ["text", "kind"] []
  m_is_part : mg "is_part" = some (.ref a.f_is_part)
  F_read_move : Fun K "read_move" "read_move" s_read_move a.f_read_move a.d_read_move
  b_read_move : Binds K a.d_read_move ["parts", "start", "may_turn"] []
  m_read_move : mg "read_move" = some (.ref a.f_read_move)
  F_read_moves : Fun K "read_moves" "read_moves" s_read_moves a.f_read_moves a.d_read_moves
  b_read_moves : Binds K a.d_read_moves ["parts", "start"] []
  m_read_moves : mg "read_moves" = some (.ref a.f_read_moves)
  F_exchanged : Fun K "exchanged" "exchanged" s_exchanged a.f_exchanged a.d_exchanged
  b_exchanged : Binds K a.d_exchanged ["old", "x", "y"] []
  m_exchanged : mg "exchanged" = some (.ref a.f_exchanged)
  F_rolled : Fun K "rolled" "rolled" s_rolled a.f_rolled a.d_rolled
  b_rolled : Binds K a.d_rolled ["old", "x", "y", "amount"] []
  m_rolled : mg "rolled" = some (.ref a.f_rolled)
  F_moved : Fun K "moved" "moved" s_moved a.f_moved a.d_moved
  b_moved : Binds K a.d_moved ["old", "move"] []
  m_moved : mg "moved" = some (.ref a.f_moved)
  F_Word_init : Fun K "__init__" "Word.__init__" s_Word_init a.f_Word_init a.d_Word_init
  b_Word_init : Binds K a.d_Word_init ["self", "text"] []
  F_Word_eq : Fun K "__eq__" "Word.__eq__" s_Word_eq a.f_Word_eq a.d_Word_eq
  b_Word_eq : Binds K a.d_Word_eq ["self", "other"] []
  F_Word_at : Fun K "at" "Word.at" s_Word_at a.f_Word_at a.d_Word_at
  b_Word_at : Binds K a.d_Word_at ["self", "k"] []
  F_read_along : Fun K "read_along" "read_along" s_read_along a.f_read_along a.d_read_along
  b_read_along : Binds K a.d_read_along ["parts"] []
  m_read_along : mg "read_along" = some (.ref a.f_read_along)
  F_read_list : Fun K "read_list" "read_list" s_read_list a.f_read_list a.d_read_list
  b_read_list : Binds K a.d_read_list ["parts", "size"] []
  m_read_list : mg "read_list" = some (.ref a.f_read_list)
  F_read_body : Fun K "read_body" "read_body" s_read_body a.f_read_body a.d_read_body
  b_read_body : Binds K a.d_read_body ["parts", "size"] []
  m_read_body : mg "read_body" = some (.ref a.f_read_body)
  F_read_level : Fun K "read_level" "read_level" s_read_level a.f_read_level a.d_read_level
  b_read_level : Binds K a.d_read_level ["parts", "size"] []
  m_read_level : mg "read_level" = some (.ref a.f_read_level)
  F_Level_init : FunD K "__init__" "Level.__init__" (defArgs s_Level_init) (defBody s_Level_init) (defScope s_Level_init) [V.non] [] a.f_Level_init a.d_Level_init
  b_Level_init : Binds K a.d_Level_init ["self", "text", "size"] []
  bd_Level_init : ∃ ds, Vals [V.non] ds ∧ Binds K a.d_Level_init ["self", "text", "size"] ds
  F_Level_eq : Fun K "__eq__" "Level.__eq__" s_Level_eq a.f_Level_eq a.d_Level_eq
  b_Level_eq : Binds K a.d_Level_eq ["self", "other"] []
  F_Level_many_steps : Fun K "many_steps" "Level.many_steps" s_Level_many_steps a.f_Level_many_steps a.d_Level_many_steps
  b_Level_many_steps : Binds K a.d_Level_many_steps ["self", "k"] []
  F_Level_partner : Fun K "partner" "Level.partner" s_Level_partner a.f_Level_partner a.d_Level_partner
  b_Level_partner : Binds K a.d_Level_partner ["self", "k", "i"] []
  F_Level_partners : Fun K "partners" "Level.partners" s_Level_partners a.f_Level_partners a.d_Level_partners
  b_Level_partners : Binds K a.d_Level_partners ["self", "k", "many"] []
  F_Level_step : Fun K "step" "Level.step" s_Level_step a.f_Level_step a.d_Level_step
  b_Level_step : Binds K a.d_Level_step ["self", "k", "i"] []
  F_read_line : FunD K "read_line" "read_line" (defArgs s_read_line) (defBody s_read_line) (defScope s_read_line) [V.non] [] a.f_read_line a.d_read_line
  b_read_line : Binds K a.d_read_line ["line", "number", "head", "size"] []
  bd_read_line : ∃ ds, Vals [V.non] ds ∧ Binds K a.d_read_line ["line", "number", "head", "size"] ds
  m_read_line : mg "read_line" = some (.ref a.f_read_line)
  F_read_period : Fun K "read_period" "read_period" s_read_period a.f_read_period a.d_read_period
  b_read_period : Binds K a.d_read_period ["line"] []
  m_read_period : mg "read_period" = some (.ref a.f_read_period)
  F_read_rests : Fun K "read_rests" "read_rests" s_read_rests a.f_read_rests a.d_read_rests
  b_read_rests : Binds K a.d_read_rests ["lines", "period"] []
  m_read_rests : mg "read_rests" = some (.ref a.f_read_rests)
  F_read_size : Fun K "read_size" "read_size" s_read_size a.f_read_size a.d_read_size
  b_read_size : Binds K a.d_read_size ["line", "number", "low"] []
  m_read_size : mg "read_size" = some (.ref a.f_read_size)
  F_read_singles : Fun K "read_singles" "read_singles" s_read_singles a.f_read_singles a.d_read_singles
  b_read_singles : Binds K a.d_read_singles ["lines", "first"] []
  m_read_singles : mg "read_singles" = some (.ref a.f_read_singles)
  F_text_of_program : Fun K "text_of_program" "text_of_program" s_text_of_program a.f_text_of_program a.d_text_of_program
  b_text_of_program : Binds K a.d_text_of_program ["rests", "singles"] []
  m_text_of_program : mg "text_of_program" = some (.ref a.f_text_of_program)
  F_Program_init : Fun K "__init__" "Program.__init__" s_Program_init a.f_Program_init a.d_Program_init
  b_Program_init : Binds K a.d_Program_init ["self", "text"] []
  F_Program_eq : Fun K "__eq__" "Program.__eq__" s_Program_eq a.f_Program_eq a.d_Program_eq
  b_Program_eq : Binds K a.d_Program_eq ["self", "other"] []
  F_Program_level : Fun K "level" "Program.level" s_Program_level a.f_Program_level a.d_Program_level
  b_Program_level : Binds K a.d_Program_level ["self", "k"] []
  F_Program_step : Fun K "step" "Program.step" s_Program_step a.f_Program_step a.d_Program_step
  b_Program_step : Binds K a.d_Program_step ["self", "k", "i"] []
  F_Program_with_level : Fun K "with_level" "Program.with_level" s_Program_with_level a.f_Program_with_level a.d_Program_with_level
  b_Program_with_level : Binds K a.d_Program_with_level ["self", "k", "text"] []
  F_Program_without_level : Fun K "without_level" "Program.without_level" s_Program_without_level a.f_Program_without_level a.d_Program_without_level
  b_Program_without_level : Binds K a.d_Program_without_level ["self", "k"] []
  F_Program_with_rest : Fun K "with_rest" "Program.with_rest" s_Program_with_rest a.f_Program_with_rest a.d_Program_with_rest
  b_Program_with_rest : Binds K a.d_Program_with_rest ["self", "r", "text"] []
  F__law_pen : Fun K "_law_pen" "_law_pen" s__law_pen a.f__law_pen a.d__law_pen
  b__law_pen : Binds K a.d__law_pen ["script"] []
  m__law_pen : mg "_law_pen" = some (.ref a.f__law_pen)
  F__law_draw : Fun K "_law_draw" "_law_draw" s__law_draw a.f__law_draw a.d__law_draw
  b__law_draw : Binds K a.d__law_draw ["pen", "many"] []
  m__law_draw : mg "_law_draw" = some (.ref a.f__law_draw)
  F__law_pick : Fun K "_law_pick" "_law_pick" s__law_pick a.f__law_pick a.d__law_pick
  b__law_pick : Binds K a.d__law_pick ["pen", "some"] []
  m__law_pick : mg "_law_pick" = some (.ref a.f__law_pick)
  F__law_place_word : Fun K "_law_place_word" "_law_place_word" s__law_place_word a.f__law_place_word a.d__law_place_word
  b__law_place_word : Binds K a.d__law_place_word ["pen"] []
  m__law_place_word : mg "_law_place_word" = some (.ref a.f__law_place_word)
  F__law_amount : Fun K "_law_amount" "_law_amount" s__law_amount a.f__law_amount a.d__law_amount
  b__law_amount : Binds K a.d__law_amount ["pen"] []
  m__law_amount : mg "_law_amount" = some (.ref a.f__law_amount)
  F__law_move : Fun K "_law_move" "_law_move" s__law_move a.f__law_move a.d__law_move
  b__law_move : Binds K a.d__law_move ["pen", "has_turn"] []
  m__law_move : mg "_law_move" = some (.ref a.f__law_move)
  F__law_moves : Fun K "_law_moves" "_law_moves" s__law_moves a.f__law_moves a.d__law_moves
  b__law_moves : Binds K a.d__law_moves ["pen"] []
  m__law_moves : mg "_law_moves" = some (.ref a.f__law_moves)
  F__law_word_text : Fun K "_law_word_text" "_law_word_text" s__law_word_text a.f__law_word_text a.d__law_word_text
  b__law_word_text : Binds K a.d__law_word_text ["moves"] []
  m__law_word_text : mg "_law_word_text" = some (.ref a.f__law_word_text)
  F__law_level : Fun K "_law_level" "_law_level" s__law_level a.f__law_level a.d__law_level
  b__law_level : Binds K a.d__law_level ["pen", "size"] []
  m__law_level : mg "_law_level" = some (.ref a.f__law_level)
  F__law_level_text : Fun K "_law_level_text" "_law_level_text" s__law_level_text a.f__law_level_text a.d__law_level_text
  b__law_level_text : Binds K a.d__law_level_text ["level"] []
  m__law_level_text : mg "_law_level_text" = some (.ref a.f__law_level_text)
  F__law_program : Fun K "_law_program" "_law_program" s__law_program a.f__law_program a.d__law_program
  b__law_program : Binds K a.d__law_program ["pen"] []
  m__law_program : mg "_law_program" = some (.ref a.f__law_program)
  F__law_program_lines : Fun K "_law_program_lines" "_law_program_lines" s__law_program_lines a.f__law_program_lines a.d__law_program_lines
  b__law_program_lines : Binds K a.d__law_program_lines ["program"] []
  m__law_program_lines : mg "_law_program_lines" = some (.ref a.f__law_program_lines)
  F__law_level_at : Fun K "_law_level_at" "_law_level_at" s__law_level_at a.f__law_level_at a.d__law_level_at
  b__law_level_at : Binds K a.d__law_level_at ["program", "k"] []
  m__law_level_at : mg "_law_level_at" = some (.ref a.f__law_level_at)
  F__law_numbers : Fun K "_law_numbers" "_law_numbers" s__law_numbers a.f__law_numbers a.d__law_numbers
  b__law_numbers : Binds K a.d__law_numbers [] []
  m__law_numbers : mg "_law_numbers" = some (.ref a.f__law_numbers)
  F__law_places : Fun K "_law_places" "_law_places" s__law_places a.f__law_places a.d__law_places
  b__law_places : Binds K a.d__law_places [] []
  m__law_places : mg "_law_places" = some (.ref a.f__law_places)
  F__law_move_end : Fun K "_law_move_end" "_law_move_end" s__law_move_end a.f__law_move_end a.d__law_move_end
  b__law_move_end : Binds K a.d__law_move_end ["parts", "at", "turned"] []
  m__law_move_end : mg "_law_move_end" = some (.ref a.f__law_move_end)
  F__law_moves_end : Fun K "_law_moves_end" "_law_moves_end" s__law_moves_end a.f__law_moves_end a.d__law_moves_end
  b__law_moves_end : Binds K a.d__law_moves_end ["parts", "at"] []
  m__law_moves_end : mg "_law_moves_end" = some (.ref a.f__law_moves_end)
  F__law_ending_wrong : Fun K "_law_ending_wrong" "_law_ending_wrong" s__law_ending_wrong a.f__law_ending_wrong a.d__law_ending_wrong
  b__law_ending_wrong : Binds K a.d__law_ending_wrong ["parts", "at"] []
  m__law_ending_wrong : mg "_law_ending_wrong" = some (.ref a.f__law_ending_wrong)
  F__law_list_wrong : Fun K "_law_list_wrong" "_law_list_wrong" s__law_list_wrong a.f__law_list_wrong a.d__law_list_wrong
  b__law_list_wrong : Binds K a.d__law_list_wrong ["parts", "size"] []
  m__law_list_wrong : mg "_law_list_wrong" = some (.ref a.f__law_list_wrong)
  F__law_level_wrong : Fun K "_law_level_wrong" "_law_level_wrong" s__law_level_wrong a.f__law_level_wrong a.d__law_level_wrong
  b__law_level_wrong : Binds K a.d__law_level_wrong ["parts", "size"] []
  m__law_level_wrong : mg "_law_level_wrong" = some (.ref a.f__law_level_wrong)
  F__law_spoiled : Fun K "_law_spoiled" "_law_spoiled" s__law_spoiled a.f__law_spoiled a.d__law_spoiled
  b__law_spoiled : Binds K a.d__law_spoiled ["pen", "parts"] []
  m__law_spoiled : mg "_law_spoiled" = some (.ref a.f__law_spoiled)
  F__law_met : Fun K "_law_met" "_law_met" s__law_met a.f__law_met a.d__law_met
  b__law_met : Binds K a.d__law_met ["call"] []
  m__law_met : mg "_law_met" = some (.ref a.f__law_met)
  F__law_text : Fun K "_law_text" "_law_text" s__law_text a.f__law_text a.d__law_text
  b__law_text : Binds K a.d__law_text ["program"] []
  m__law_text : mg "_law_text" = some (.ref a.f__law_text)
  F__law_with : Fun K "_law_with" "_law_with" s__law_with a.f__law_with a.d__law_with
  b__law_with : Binds K a.d__law_with ["program", "size", "level"] []
  m__law_with : mg "_law_with" = some (.ref a.f__law_with)
  F__law_change : Fun K "_law_change" "_law_change" s__law_change a.f__law_change a.d__law_change
  L__law_change : FunL K "_law_change" "_law_change" s__law_change a.f__law_change a.d__law_change a.c__law_change
  b__law_change : Binds K a.d__law_change ["pen", "program", "made"] []
  m__law_change : mg "_law_change" = some (.ref a.f__law_change)
  F__law_odd_right : Fun K "_law_odd_right" "_law_odd_right" s__law_odd_right a.f__law_odd_right a.d__law_odd_right
  L__law_odd_right : FunL K "_law_odd_right" "_law_odd_right" s__law_odd_right a.f__law_odd_right a.d__law_odd_right a.c__law_odd_right
  b__law_odd_right : Binds K a.d__law_odd_right ["pen", "made", "many"] []
  m__law_odd_right : mg "_law_odd_right" = some (.ref a.f__law_odd_right)
  F_law : Fun K "law" "law" s_law a.f_law a.d_law
  b_law : Binds K a.d_law ["script"] []
  m_law : mg "law" = some (.ref a.f_law)
  c_EveryError : mg "EveryError" = some (.ref a.C_EveryError)
  c_BadWord : mg "BadWord" = some (.ref a.C_BadWord)
  c_BadText : mg "BadText" = some (.ref a.C_BadText)
  c_BadSize : mg "BadSize" = some (.ref a.C_BadSize)
  c_BadNumber : mg "BadNumber" = some (.ref a.C_BadNumber)
  c_NoLevel : mg "NoLevel" = some (.ref a.C_NoLevel)
  c_Tower : mg "Tower" = some (.ref a.C_Tower)
  c_Word : mg "Word" = some (.ref a.C_Word)
  c_Level : mg "Level" = some (.ref a.C_Level)
  c_Program : mg "Program" = some (.ref a.C_Program)
  cl_Tower : Cls K a.C_Tower
  mk_Tower : Mk K a.C_Tower a.f_Tower_init
  n_Tower_stages : NoAttr K a.C_Tower "stages"
  n_Tower_doings : NoAttr K a.C_Tower "doings"
  n_Tower_lasts : NoAttr K a.C_Tower "lasts"
  n_Tower_wrong : NoAttr K a.C_Tower "wrong"
  me_Tower_grow : Meth K a.C_Tower "grow" a.f_Tower_grow
  me_Tower_add_level : Meth K a.C_Tower "add_level" a.f_Tower_add_level
  me_Tower_ahead : Meth K a.C_Tower "ahead" a.f_Tower_ahead
  me_Tower_least_not_whole : Meth K a.C_Tower "least_not_whole" a.f_Tower_least_not_whole
  cl_Word : Cls K a.C_Word
  mk_Word : Mk K a.C_Word a.f_Word_init
  n_Word_text : NoAttr K a.C_Word "text"
  n_Word_moves : NoAttr K a.C_Word "moves"
  n_Word_has_turn : NoAttr K a.C_Word "has_turn"
  me_Word_at : Meth K a.C_Word "at" a.f_Word_at
  ow_Word : OwnC K a.C_Word a.f_Word_eq
  cl_Level : Cls K a.C_Level
  mk_Level : Mk K a.C_Level a.f_Level_init
  n_Level_text : NoAttr K a.C_Level "text"
  n_Level_kind : NoAttr K a.C_Level "kind"
  n_Level_to_end : NoAttr K a.C_Level "to_end"
  n_Level_word : NoAttr K a.C_Level "word"
  n_Level_factor : NoAttr K a.C_Level "factor"
  n_Level_place : NoAttr K a.C_Level "place"
  n_Level_entries : NoAttr K a.C_Level "entries"
  me_Level_many_steps : Meth K a.C_Level "many_steps" a.f_Level_many_steps
  me_Level_partner : Meth K a.C_Level "partner" a.f_Level_partner
  me_Level_partners : Meth K a.C_Level "partners" a.f_Level_partners
  me_Level_step : Meth K a.C_Level "step" a.f_Level_step
  ow_Level : OwnC K a.C_Level a.f_Level_eq
  ow2_Level : OwnC2 K a.C_Level
  cl_Program : Cls K a.C_Program
  mk_Program : Mk K a.C_Program a.f_Program_init
  n_Program_text : NoAttr K a.C_Program "text"
  n_Program_period : NoAttr K a.C_Program "period"
  n_Program_rests : NoAttr K a.C_Program "rests"
  n_Program__singles : NoAttr K a.C_Program "_singles"
  n_Program_sizes : NoAttr K a.C_Program "sizes"
  n_Program_tower : NoAttr K a.C_Program "tower"
  me_Program_level : Meth K a.C_Program "level" a.f_Program_level
  me_Program_step : Meth K a.C_Program "step" a.f_Program_step
  me_Program_with_level : Meth K a.C_Program "with_level" a.f_Program_with_level
  me_Program_without_level : Meth K a.C_Program "without_level" a.f_Program_without_level
  me_Program_with_rest : Meth K a.C_Program "with_rest" a.f_Program_with_rest
  ow_Program : OwnC K a.C_Program a.f_Program_eq
  ow2_Program : OwnC2 K a.C_Program
  ox_BadWord : ErrC K a.C_BadWord a.f_BadWord_init "index"
  em_BadWord_BadNumber : PySem.W.exmOne K (.ref a.C_BadWord) (.ref a.C_BadNumber) = some false
  em_BadWord_BadSize : PySem.W.exmOne K (.ref a.C_BadWord) (.ref a.C_BadSize) = some false
  em_BadWord_BadWord : PySem.W.exmOne K (.ref a.C_BadWord) (.ref a.C_BadWord) = some true
  em_BadWord_NoLevel : PySem.W.exmOne K (.ref a.C_BadWord) (.ref a.C_NoLevel) = some false
  kt_BadWord_EveryError : PySem.W.kitOne K (.ref a.C_BadWord) (.ref a.C_EveryError) = some true
  ox_BadText : ErrC K a.C_BadText a.f_BadText_init "line"
  em_BadText_BadNumber : PySem.W.exmOne K (.ref a.C_BadText) (.ref a.C_BadNumber) = some false
  em_BadText_BadSize : PySem.W.exmOne K (.ref a.C_BadText) (.ref a.C_BadSize) = some false
  em_BadText_BadWord : PySem.W.exmOne K (.ref a.C_BadText) (.ref a.C_BadWord) = some false
  em_BadText_NoLevel : PySem.W.exmOne K (.ref a.C_BadText) (.ref a.C_NoLevel) = some false
  kt_BadText_EveryError : PySem.W.kitOne K (.ref a.C_BadText) (.ref a.C_EveryError) = some true
  ox_BadSize : ErrC K a.C_BadSize a.f_BadSize_init "size"
  em_BadSize_BadNumber : PySem.W.exmOne K (.ref a.C_BadSize) (.ref a.C_BadNumber) = some false
  em_BadSize_BadSize : PySem.W.exmOne K (.ref a.C_BadSize) (.ref a.C_BadSize) = some true
  em_BadSize_BadWord : PySem.W.exmOne K (.ref a.C_BadSize) (.ref a.C_BadWord) = some false
  em_BadSize_NoLevel : PySem.W.exmOne K (.ref a.C_BadSize) (.ref a.C_NoLevel) = some false
  kt_BadSize_EveryError : PySem.W.kitOne K (.ref a.C_BadSize) (.ref a.C_EveryError) = some true
  ox_BadNumber : ErrC K a.C_BadNumber a.f_BadNumber_init "number"
  em_BadNumber_BadNumber : PySem.W.exmOne K (.ref a.C_BadNumber) (.ref a.C_BadNumber) = some true
  em_BadNumber_BadSize : PySem.W.exmOne K (.ref a.C_BadNumber) (.ref a.C_BadSize) = some false
  em_BadNumber_BadWord : PySem.W.exmOne K (.ref a.C_BadNumber) (.ref a.C_BadWord) = some false
  em_BadNumber_NoLevel : PySem.W.exmOne K (.ref a.C_BadNumber) (.ref a.C_NoLevel) = some false
  kt_BadNumber_EveryError : PySem.W.kitOne K (.ref a.C_BadNumber) (.ref a.C_EveryError) = some true
  ox_NoLevel : ErrC K a.C_NoLevel a.f_NoLevel_init "size"
  em_NoLevel_BadNumber : PySem.W.exmOne K (.ref a.C_NoLevel) (.ref a.C_BadNumber) = some false
  em_NoLevel_BadSize : PySem.W.exmOne K (.ref a.C_NoLevel) (.ref a.C_BadSize) = some false
  em_NoLevel_BadWord : PySem.W.exmOne K (.ref a.C_NoLevel) (.ref a.C_BadWord) = some false
  em_NoLevel_NoLevel : PySem.W.exmOne K (.ref a.C_NoLevel) (.ref a.C_NoLevel) = some true
  kt_NoLevel_EveryError : PySem.W.kitOne K (.ref a.C_NoLevel) (.ref a.C_EveryError) = some true
  z_bool : mg "bool" = none
  z_dict : mg "dict" = none
  z_enumerate : mg "enumerate" = none
  z_int : mg "int" = none
  z_isinstance : mg "isinstance" = none
  z_len : mg "len" = none
  z_list : mg "list" = none
  z_range : mg "range" = none
  z_sorted : mg "sorted" = none
  z_str : mg "str" = none
  z_tuple : mg "tuple" = none
  m_MOST_PLACES : ∃ t, mg "MOST_PLACES" = some (.int 1000 t)
  m_MOST_MOVES : ∃ t, mg "MOST_MOVES" = some (.int 4 t)
  m_FIGURES : mg "FIGURES" = some (.ref a.a_FIGURES)
  q_FIGURES : ∀ H : Hp, SqT K H a.a_FIGURES [.str "1", .str "2", .str "3", .str "4", .str "5", .str "6", .str "7", .str "8", .str "9"]
  m_PLACE_FRONTS : mg "PLACE_FRONTS" = some (.ref a.a_PLACE_FRONTS)
  q_PLACE_FRONTS : ∀ H : Hp, SqT K H a.a_PLACE_FRONTS [.str "", .str "-", .str "half-", .str "half+"]
  m_AMOUNT_FRONTS : mg "AMOUNT_FRONTS" = some (.ref a.a_AMOUNT_FRONTS)
  q_AMOUNT_FRONTS : ∀ H : Hp, SqT K H a.a_AMOUNT_FRONTS [.str "", .str "-"]
  m_SHAPES : mg "SHAPES" = some (.ref a.a_SHAPES)
  D_SHAPES : ∃ es n, KDict K w a.a_SHAPES es n
  e_SHAPES : PySem.W.nsIn K a.a_SHAPES "" = some none
  K_SHAPES : ∃ es n, KDict K w a.a_SHAPES es n ∧ keyB ["exchange", "roll", "turn"] es.toList = true
  v_SHAPES_0 : ∃ p, PySem.W.nsIn K a.a_SHAPES "exchange" = some (some (.ref p)) ∧ ∀ H : Hp, SqT K H p [.str "place", .str "place"]
  v_SHAPES_1 : ∃ p, PySem.W.nsIn K a.a_SHAPES "roll" = some (some (.ref p)) ∧ ∀ H : Hp, SqT K H p [.str "place", .str "place", .str "amount"]
  v_SHAPES_2 : ∃ p, PySem.W.nsIn K a.a_SHAPES "turn" = some (some (.ref p)) ∧ ∀ H : Hp, SqT K H p []
  m_NO_PART : ∃ t, mg "NO_PART" = some (.str "" t)
  m_LEAST_SINGLE : ∃ t, mg "LEAST_SINGLE" = some (.int 2 t)
  m_MOST_SINGLE : ∃ t, mg "MOST_SINGLE" = some (.int 12 t)
  m_MOST_PERIOD : ∃ t, mg "MOST_PERIOD" = some (.int 6 t)
  m_ENDING : mg "ENDING" = some (.ref a.a_ENDING)
  q_ENDING : ∀ H : Hp, SqT K H a.a_ENDING [.str "to", .str "the", .str "end"]
def tabsOf (a : Ad) : List (Addr × Str) := [(a.p__law_change, (("_law_change" : Str) ++ ".<locals>." ++ "<lambda>")), (a.p__law_odd_right, (("_law_odd_right" : Str) ++ ".<locals>." ++ "<lambda>"))]
/-- the tables of the code objects of lambdas -/
structure Tb (base : Heap) (mg : Str → Option Value) (a : Ad) : Prop where
  tb__law_change : LamX.TabB base mg a.c__law_change a.p__law_change
  hu__law_change : ∀ p ∈ tabsOf a, p.1 = a.p__law_change → p.2 = (("_law_change" : Str) ++ ".<locals>." ++ "<lambda>")
  tb__law_odd_right : LamX.TabB base mg a.c__law_odd_right a.p__law_odd_right
  hu__law_odd_right : ∀ p ∈ tabsOf a, p.1 = a.p__law_odd_right → p.2 = (("_law_odd_right" : Str) ++ ".<locals>." ++ "<lambda>")







/-! ### several clauses `except X as n` -/
/-- what such clauses wish of an exception of the body, one after the other: class, slot of the name, suite -/
def wManyAs (K : PySem.W.Frag) (Wout : WX) (D : Ends) : List (Value × Nat × (Addr → Value → Option Addr → TS)) → WX
  | [] => Wout
  | (c, i, ts) :: r => fun cls d σ H => ∃ b, PySem.W.exmOne K cls c = some b ∧
      (b = true → ∀ a, H a = none → ts a cls d { nx := fun σ' H' => D.nx (σ'.set i none) H', rt := D.rt, bk := fun σ' H' => D.bk (σ'.set i none) H', ct := fun σ' H' => D.ct (σ'.set i none) H' } (σ.set i (some (.ref a))) H) ∧
      (b = false → wManyAs K Wout D r cls d σ H)
inductive HdsAs (X : Cx) : List ExceptHandler → List (Value × Nat × (Addr → Value → Option Addr → TS)) → Prop
  | nil : HdsAs X [] []
  | cons {x n : Str} {c : Value} {i : Nat} {ts : Addr → Value → Option Addr → TS} {b₀ : Stmt} {suite : List Stmt} {np pos' : Pos} {hds : List ExceptHandler} {l : List (Value × Nat × (Addr → Value → Option Addr → TS))}
      (hi : X.N[i]? = some n) (hln : X.env.kindOf n = some .local) (hc : Names X x c)
      (hsu : ∀ (a : Addr) (oe : Obj) (cls : Value) (d : Option Addr) (pn : List (Addr × Obj)), Zc cls d oe → (∃ vs, oe.data = .fields vs) → PSs (X.suite a ((a, oe) :: pn)) (b₀ :: suite) (ts a cls d)) (r : HdsAs X hds l) :
      HdsAs X (.ExceptHandler (some (.Name x np)) (some n) (b₀ :: suite) pos' :: hds) ((c, i, ts) :: l)
section
variable {X : Cx} {body : List Stmt} {h₀ : ExceptHandler} {hds : List ExceptHandler} {l : List (Value × Nat × (Addr → Value → Option Addr → TS))} {pos : Pos} {tb : WX → TS} {Wout : WX}
theorem ps_try_manyAs (hs : X.stack = X.env :: X.outer) (hf : X.env.frame = some X.env.locals) (hN : X.N.Nodup) (tk : Takes X Wout)
    (hb : ∀ (W : WX) (pn : List (Addr × Obj)) (xe : Value → Shared → Prop), Takes (X.tr pn xe) W → PassesOwn (model X.prog X.w) X.A X.env xe → PSs (X.tr pn xe) body (tb W))
    (hh : HdsAs X (h₀ :: hds) l) : PS X (.Try body (h₀ :: hds) [] [] pos) (fun D σ H => tb (wManyAs X.K Wout D l) D σ H) := by
  refine ⟨fun pins s σ H D I h => ?_⟩
  have ok := I.ok
  have hfr : X.A.frames = some (X.env :: X.outer) := by rw [ok.frames, hs]
  refine wpAny_Try_except ?_
  refine wpAny_mono ((hb (wManyAs X.K Wout D l) (X.pn ++ pins) (fun e s₁ => wpAny (model X.prog X.w) X.A (noteFrame e X.env) (fun _ s₂ => wpAny (model X.prog X.w) X.A (setFlight e none) (fun _ s₃ =>
    wpAny (model X.prog X.w) X.A (handleBy e X.env (h₀ :: hds)) (SP X pins D) X.xe s₃) X.xe s₂) X.xe s₁) (fun u s' xx => ?_) PassesOwn.looking).run [] s σ H D (I.toTry _) h) (fun f s1 hsp => ?_) (fun e s1 he => he)
  · -- an exception arrives
    obtain ⟨a, B, sI, pins', σ', H', cls, d, rfl, J', nb, up, sky, na, os, ag, want⟩ := xx
    have J : Inv X pins σ' H' sI := J'.ofTry ok
    show wpAny (model X.prog X.w) X.A (noteFrame (.ref a) X.env) _ _ _
    refine Sky.land Zc.steady hfr hf (show Sky B (X.env :: X.outer) a (Zc cls d) X.env.locals s'.heap by rw [← hs]; exact sky) fun h3 fl3 up3 => ?_
    have J3 : Inv X pins σ' H' { s' with heap := h3 } := J.landed nb fl3.1 (up.trans up3) os ag
    obtain ⟨oe3, vs3, he3, hz3, hd3⟩ := fl3.there
    have nfr : a ∉ frs (X.env :: X.outer) := fun hm => by
      obtain ⟨_, o', e', hnf⟩ := fl3.2.2.1.mem hm
      rw [he3] at e'
      cases e'
      exact hnf _ hd3
    have nL : a ≠ X.env.locals := fun z => nfr (List.mem_filterMap.mpr ⟨X.env, List.mem_cons_self, by rw [hf, z]⟩)
    have nF : a ∉ X.fs := fun hm => by
      obtain ⟨e, he, q⟩ := List.mem_filterMap.mp hm
      exact nfr (List.mem_filterMap.mpr ⟨e, List.mem_cons_of_mem _ he, q⟩)
    have S3 := J3.suite he3 hd3 na nL nF
    have LT : PySem.W.Looks (model X.prog X.w) h3 (typeOf (.ref a)) cls := fun A Q E s k q => wpAny_typeOf_ref (k _ _ he3) (by rw [hz3.1]; exact q)
    have each : ∀ {hds' : List ExceptHandler} {l' : List (Value × Nat × (Addr → Value → Option Addr → TS))}, HdsAs X hds' l' → wManyAs X.K Wout D l' cls d σ' H' →
        wpAny (model X.prog X.w) X.A (handleBy (.ref a) X.env hds') (SP X pins D) X.xe { s' with heap := h3 } := by
      intro hds' l' hk
      induction hk with
      | nil =>
        intro w
        refine wpAny_handleBy_nil ?_
        obtain ⟨_, _, _, oe, vs, T, oT, ts', he, hz, hd, h1, hr⟩ := id fl3
        unfold PySem.passOn
        refine wpAny_bind (wpAny_field he hd h1 ?_)
        rw [if_neg (show ¬ ((Value.ref T == Value.none) = true) from by simp)]
        have fin : wpAny (model X.prog X.w) X.A (setFlight (.ref a) X.env.frame) (fun _ s4 => wpAny (model X.prog X.w) X.A (throw (.ref a) : Sem Flow) (SP X pins D) X.xe s4) X.xe { s' with heap := h3 } := by
          rw [hf]
          exact HandSPX.setFlight_upZ fl3 fun h4 hh4 up4 => wpAny_throw (tk _ _ ⟨a, B, sI, pins, σ', H', cls, d, rfl, J, nb, (up.trans up3).trans up4, .inr (.inr (by rw [hs]; exact hh4)), na, os, ag, w⟩)
        first
          | exact wpAny_bind (wpAny_pure (wpAny_bind fin))
          | exact wpAny_bind fin
      | @cons x n c i ts b₀ suite np pos' hds2 l2 hi hln hc hsu r ih =>
        rintro ⟨b, hb1, hyes, hno⟩
        refine wpAny_handleBy_cons (codeAny_handlers_test ?_) (by intro q; cases q)
        have named : ∀ {Q : Value → Shared → Prop} {E : Value → Shared → Prop}, Q c { s' with heap := h3 } → wpAny (model X.prog X.w) (X.A.mark (some (.ref a))) (eval (.Name x np) X.env) Q E { s' with heap := h3 } := fun {Q E} q => by
          obtain ⟨hg, hdbg, hm | ⟨hm, hv, hnn⟩⟩ := hc
          · exact ld_glob (X := X.suite a ((a, oe3) :: (X.pn ++ pins))) S3 hg hm q hdbg
          · exact ld_blt (X := X.suite a ((a, oe3) :: (X.pn ++ pins))) S3 hg hm hv q hnn hdbg
        refine named ((PySem.W.exm_one (M := model X.prog X.w) (J3.kIn) LT hb1).here ?_)
        cases b with
        | false =>
          show wpAny _ X.A (handleBy (.ref a) X.env hds2) _ _ _
          exact ih (hno rfl)
        | true =>
          refine codeAny_handlers_suite_as ?_
          refine HandSPX.lands_againZ fl3 fun h4 fl4 up4 => ?_
          have J4 : Inv X pins σ' H' { s' with heap := h4 } := J.landed nb fl4.1 ((up.trans up3).trans up4) os ag
          obtain ⟨oe4, vs4, he4, hz4, hd4⟩ := fl4.there
          refine store_ok (X := X.suite a ((a, oe4) :: (X.pn ++ pins))) (v := .ref a) (J4.suite he4 hd4 na nL nF) hN hi (.inl hln) rfl (fun s5 S5 => ?_) (.inr hln)
          refine wpAny_mono ((hsu a oe4 cls d (X.pn ++ pins) hz4 ⟨_, hd4⟩).run [] s5 _ H' _ S5 (hyes rfl a na)) (fun f s6 hsp => ?_) (fun _ _ z => False.elim z)
          have gone : ∀ {σ6 : L2.St} {H6 : Hp} {Q : Shared → Prop}, Inv (X.suite a ((a, oe4) :: (X.pn ++ pins))) [] σ6 H6 s6 → (∀ s7, Inv X pins (σ6.set i none) H6 s7 → Q s7) →
              wpAny (model X.prog X.w) X.A (do bindName X.env n .none; unbindBehindTheSuite X.env n pos') (fun _ s7 => Q s7) X.xe s6 := fun {σ6 H6 Q} S6 hq => gone_ok (S6.unsuite ok) hN hi hln hq
          cases f with
          | next =>
            obtain ⟨σ6, H6, S6, q6⟩ := hsp
            exact gone S6 fun s7 J7 => ⟨_, _, J7, q6⟩
          | brk =>
            obtain ⟨σ6, H6, S6, q6⟩ := hsp
            exact gone S6 fun s7 J7 => ⟨_, _, J7, q6⟩
          | cont =>
            obtain ⟨σ6, H6, S6, q6⟩ := hsp
            exact gone S6 fun s7 J7 => ⟨_, _, J7, q6⟩
          | ret u =>
            obtain ⟨v6, σ6, H6, S6, r6, q6⟩ := hsp
            exact gone S6 fun s7 J7 => ⟨_, _, _, J7, r6, q6⟩
    exact each hh want
  · cases f with
    | next =>
      obtain ⟨σ', H', J', q⟩ := hsp
      exact wpAny_execs_nil ⟨σ', H', J'.ofTry ok, q⟩
    | brk =>
      obtain ⟨σ', H', J', q⟩ := hsp
      exact ⟨σ', H', J'.ofTry ok, q⟩
    | cont =>
      obtain ⟨σ', H', J', q⟩ := hsp
      exact ⟨σ', H', J'.ofTry ok, q⟩
    | ret u =>
      obtain ⟨v, σ', H', J', r, q⟩ := hsp
      exact ⟨v, σ', H', J'.ofTry ok, r, q⟩
end
/-! ### isinstance of a caught error with fields -/
theorem clsIn_of {K : PySem.W.Frag} {D : Addr} (h : PySem.W.hasDictIn K D = true) : (PySem.W.clsIn K D).isSome = true := by
  obtain ⟨cd, hc, _⟩ := PySem.W.any_some h
  rw [hc]
  rfl
theorem exm_ofHd {K : PySem.W.Frag} {C : Addr} {cls : Value} {b : Bool} (h1 : PySem.W.subIn K (.ref C) (.type "BaseException") = some true) (hd : PySem.W.hasDictIn K C = true) (ht : PySem.W.typeIn K (.ref C) = some (.type "type")) (h4 : PySem.W.subIn K cls (.ref C) = some b) :
    PySem.W.exmOne K cls (.ref C) = some b := PySem.W.exm_ref h1 hd ht h4
def rIsD (K : PySem.W.Frag) (D a : Addr) (cls : Value) (d : Option Addr) : List V → Hp → VK → Prop := fun xs H Q => ∃ (dd : Addr) (fs : List (Str × V)) (c : V) (cv : Value) (b : Bool), cls = .ref D ∧ d = some dd ∧ H dd = some (.xd fs) ∧ xs = [.ref a, c] ∧ (∀ u, RelV c u → u = cv) ∧ PySem.W.kitOne K (.ref D) cv = some b ∧ Q (.bl b) H
theorem call_isD {X : Cx} {a D : Addr} {oe : Obj} {cls : Value} {d : Option Addr} {pn : List (Addr × Obj)} (C : ExcD X.K D) (hz : Zc cls d oe) (hf : ∃ vs, oe.data = .fields vs) : CallR (X.suite a ((a, oe) :: pn)) (.builtin "isinstance") (rIsD X.K D a cls d) := by
  intro pins s σ H xs us Q I r h
  obtain ⟨dd, fs, c, cv, b, rfl, rfl, ea, rfl, hcv, e, q⟩ := h
  obtain ⟨u1, u2, rfl, r1, r2⟩ := vals2 r
  cases (show u1 = Value.ref a from r1)
  obtain rfl := hcv _ r2
  obtain ⟨hget, _⟩ := I.pin (a, oe) (List.mem_append.mpr (.inl List.mem_cons_self))
  obtain ⟨vs, hv⟩ := hf
  obtain ⟨mA, hns, hr⟩ := (show ObjOk X.prog X.w H s.heap dd (.xd fs) from I.hok dd _ ea)
  obtain ⟨od, ho, hl⟩ := lookIn_ns hns
  have J : PySem.W.InstAt s.heap a oe D (some od) := ⟨hget, hz.1, by unfold PySem.W.notCls; rw [hv] <;> rfl, by rw [hz.2]; exact ho⟩
  exact PySem.W.kia_one (PySem.W.kitx_exc (clsIn_of C.hd) C.hg C.hk C.hs C.ha C.hn C.ht C.hm) I.kIn J e (fun z => nomatch z) fun tk => ⟨.bl b, H, I.tok tk, rfl, q⟩

/-! ### an instance made, a method called, where what is raised is wished for at the caller's slots -/
def tMakeS (C : Addr) (sp : Sp) (dvs : List V) (E : L2.St → XK) (t : TA) : TE := fun σ H Q => t σ H fun vs H1 => ∀ x dx, H1 x = none → H1 dx = none → dx ≠ x →
  sp (.ref x :: (vs ++ dvs)) (upd (upd H1 dx (.own x)) x (.ins C dx [])) (fun v H2 => v = .non ∧ Q (.ref x) H2) (E σ)
section
variable {X : Cx} {k : Nat} {f C : Addr} {fd : FuncData} {ps : List Str} {sp : Sp} {W : WX} {x m : Str} {p pos apos : Pos} {e o : Expr} {es : List Expr} {ta : TE} {t : TA} {ds : List Value} {dvs : List V}
theorem run_makeS {pins : List (Addr × Obj)} {σ : L2.St} {H : Hp} {s : Shared} {Q : VK} {us : List Value} {vs : List V} (M : Mk X.K C f) (F : FnOk X.prog X.w X.K X.mg X.base (L2.CX X.prog X.w) k f fd ps sp) (hr : Room (k + 1) X.A) (hb : Binds X.K fd ps ds) (hd : Vals dvs ds)
    (tk : Takes X W) (I : Inv X pins σ H s) (r : Vals vs us)
    (h : ∀ x dx, H x = none → H dx = none → dx ≠ x → sp (.ref x :: (vs ++ dvs)) (upd (upd H dx (.own x)) x (.ins C dx [])) (fun v H2 => v = .non ∧ Q (.ref x) H2) (WE W σ)) :
    wpAny (model X.prog X.w) X.A (call (.ref C) us) (EP X pins σ Q) X.xe s := by
  have hq := h (s.heap.objs.size + 1) s.heap.objs.size (I.hok.fresh (Nat.le_succ _)) (I.hok.fresh (Nat.le_refl _)) (Nat.ne_of_lt (Nat.lt_succ_self _))
  have I2 := Inv.made (C := C) I
  have r2 : Vals (V.ref (s.heap.objs.size + 1) :: (vs ++ dvs)) (Value.ref (s.heap.objs.size + 1) :: (us ++ ds)) := .cons rfl (r.append hd)
  have hl : (Value.ref (s.heap.objs.size + 1) :: us ++ ds).length = ps.length := by
    have e := r2.length
    rw [F.len _ _ _ _ hq] at e
    exact e.symm
  refine wpAny_call (make_map (f := f) I.kIn M.makes M.init (beq_iff_eq.mp M.fn) (codeAny_mono (F.run _ X.stack _ _ ⟨Value.ref (s.heap.objs.size + 1) :: us, []⟩ (Value.ref (s.heap.objs.size + 1) :: (us ++ ds)) _ _ (WE W σ) (hr.make C us [])
    (I2.env0.make C us []) (hb _ (Value.ref (s.heap.objs.size + 1) :: us) I2.kIn hl) r2 hq) fun r s' hq' => ?_))
  cases r with
  | error e => exact passAt tk σ pins _ _ e s' I2 hq'
  | ok fl =>
    cases fl with
    | ret u =>
      obtain ⟨v, H', I3, rv, ev, q3⟩ := I2.after hq'
      subst ev
      exact ⟨rv, ⟨V.ref (s.heap.objs.size + 1), H', I3, rfl, q3⟩⟩
    | next => exact False.elim hq'
    | brk => exact False.elim hq'
    | cont => exact False.elim hq'
theorem pe_makeS (M : Mk X.K C f) (F : FnOk X.prog X.w X.K X.mg X.base (L2.CX X.prog X.w) k f fd ps sp) (hr : Room (k + 1) X.A) (hg : Gl X x) (hm : X.mg x = some (.ref C)) (hb : Binds X.K fd ps ds) (hd : Vals dvs ds) (tk : Takes X W)
    (ha : PA X (e :: es) t) (hdb : (x == ("__debug__" : Str)) = false := by decide) (he : starEach (e :: es) X.env = (false, eval e X.env) :: starEach es X.env := by rfl) (hpl : (backTo pos (starEach es X.env)).any (·.1) = false := by rfl) :
    PE X (.Call (.Name x p) (e :: es) [] pos) (tMakeS C sp dvs (WE W) t) := by
  refine ⟨fun pins s σ H Q I h => ?_⟩
  refine wpAny_Call_Name_kw (ld_glob I hg hm ?_ hdb)
  refine PySem.W.callWith_K (h₀ := X.base) I.ok.mod.kin M.kp (thn (ha.run pos pins s σ H _ I h) fun us s1 ⟨vs, H1, I1, r, q⟩ => ⟨I1.kIn, ?_⟩) he hpl
  exact run_makeS M F hr hb hd tk I1 r q
def tMethS (C : Addr) (m : Str) (sp : Sp) (E : L2.St → XK) (ta : TE) (t : TA) : TE := fun σ H Q => ta σ H fun x H1 => ∃ a dx fs, x = .ref a ∧ H1 a = some (.ins C dx fs) ∧ fs.lookup m = none ∧
  t σ H1 fun vs H2 => sp (x :: vs) H2 Q (E σ)
/-- o.m(e, ..) -/
theorem pe_methS {pl : Sem Bool} (he : PE X o ta) (c : Cls X.K C) (hm : Meth X.K C m f) (F : FnOk X.prog X.w X.K X.mg X.base (L2.CX X.prog X.w) k f fd ps sp) (hr : Room k X.A) (hb : Binds X.K fd ps []) (tk : Takes X W) (ha : PA X (e :: es) t)
    (hst : starEach (e :: es) X.env = (false, eval e X.env) :: starEach es X.env := by rfl) (hpl : (backTo pos (starEach es X.env)).any (·.1) = false := by rfl)
    (ht : eval (.Call (.Attribute o m apos) (e :: es) [] pos) X.env = (do
      let ov ← eval o X.env
      standAt apos.atName
      let (f, first) ← holding [ov] (getMethod ov m pl)
      callWith pos f first (backTo pos (starEach (e :: es) X.env)) (backToKw pos (keywordEach [] X.env))) := by rfl) :
    PE X (.Call (.Attribute o m apos) (e :: es) [] pos) (tMethS C m sp (WE W) ta t) := by
  refine ⟨fun pins s σ H Q I h => ?_⟩
  refine PySem.W.methodCall_KW (pl := pl) (thn (he.run pins s σ H _ I h) fun u s1 ⟨x, H1, I1, rx, a, dx, fs, ex, ea, l, q⟩ => ?_) ht
  subst ex
  obtain rfl : u = Value.ref a := rx
  refine getmeth_ok I1 ea c hm l ?_
  refine PySem.W.callWith_K (first := [.ref a]) (h₀ := X.base) I.ok.mod.kin hm.kp (thn (ha.run pos pins s1 σ H1 _ I1 q) fun us s2 ⟨vs, H2, I2, r, q2⟩ => ⟨I2.kIn, ?_⟩) hst hpl
  exact run_fnS (us := .ref a :: us) (vs := .ref a :: vs) F hr hb (passAt tk σ) I2 (.cons rfl r) q2
end

/-! ### heaps -/
/-- all but what stands at d is as it was -/
def But (d : Addr) (H H' : Hp) : Prop := ∀ b o, H b = some o → b ≠ d → H' b = some o
theorem But.refl {d : Addr} {H : Hp} : But d H H := fun _ _ h _ => h
theorem But.trans {d : Addr} {H H1 H2 : Hp} (x : But d H H1) (y : But d H1 H2) : But d H H2 := fun b o h n => y b o (x b o h n) n
theorem but_same {d : Addr} {H H' : Hp} (h : Same H H') : But d H H' := fun b o e _ => h b o e
theorem same_upd {H : Hp} {p : Addr} {o : HO} (h : H p = none) : Same H (upd H p o) := fun b x e => by
  rw [upd_ne (ne_of_none e h)]
  exact e
theorem but_upd {d : Addr} {H : Hp} {o : HO} : But d H (upd H d o) := fun b x e n => by
  rw [upd_ne n]
  exact e
theorem But.list {d : Addr} {H H' : Hp} {kvs : List (Key × V)} {l : Addr} {xs : List V} (x : But d H H') (hd : H d = some (.dK kvs)) (h : H l = some (.lst xs)) : H' l = some (.lst xs) :=
  x l _ h (ne_of h hd (by intro z; cases z))
theorem But.tup {d : Addr} {H H' : Hp} {kvs : List (Key × V)} {l : Addr} {xs : List V} (x : But d H H') (hd : H d = some (.dK kvs)) (h : H l = some (.tup xs)) : H' l = some (.tup xs) :=
  x l _ h (ne_of h hd (by intro z; cases z))
theorem But.seq {K : PySem.W.Frag} {d : Addr} {H H' : Hp} {kvs : List (Key × V)} {l : Addr} {xs : List V} (x : But d H H') (hd : H d = some (.dK kvs)) (h : SqL K H l xs) : SqL K H' l xs := by
  rcases h with (h | ⟨o, h⟩) | h
  · exact .inl (.inl (x l _ h (ne_of h hd (by intro z; cases z))))
  · exact .inl (.inr ⟨o, x l _ h (ne_of h hd (by intro z; cases z))⟩)
  · exact .inr h
/-- a list changes where none of what is known stood -/
theorem keep_upd {H H' : Hp} {l : Addr} {o : HO} (h : Same H H') (n : H l = none) : Same H (upd H' l o) := fun b u e => by
  rw [upd_ne (ne_of_none e n)]
  exact h b u e
theorem free_of {H H' : Hp} {p : Addr} (e : Same H H') (h : H' p = none) : H p = none := e.free h
theorem SqL.at {K : PySem.W.Frag} {H : Hp} {a : Addr} {xs : List V} (h : H a = some (.lst xs)) : SqL K H a xs := .inl (.inl h)
theorem SqT.at {K : PySem.W.Frag} {H : Hp} {a : Addr} {xs : List V} (h : H a = some (.tup xs)) : SqT K H a xs := .inl (.inl h)
theorem sz {n : Nat} (h : n ≤ 100000) : n ≤ sizeLine := Nat.le_trans h (by decide)
theorem szlt {n : Nat} (h : n ≤ 100000) : n < sizeLine := Nat.lt_of_le_of_lt h (by decide)
/-! ### data: lists of ints -/
def iD (ns : List Int) : PyData := .list (ns.map PyData.int)
theorem dp_all {K : PySem.W.Frag} {H : Hp} : ∀ ns : List Int, DpAll K H (ns.map V.int) (ns.map PyData.int)
  | [] => .nil
  | _ :: r => .cons (.int _) (dp_all r)
theorem dp_ints {K : PySem.W.Frag} {H : Hp} {p : Addr} {ns : List Int} (h : SqL K H p (ns.map V.int)) : Dp K H (.ref p) (iD ns) := .lst h (dp_all ns)
theorem dp_tints {K : PySem.W.Frag} {H : Hp} {p : Addr} {ns : List Int} (h : SqT K H p (ns.map V.int)) : Dp K H (.ref p) (.tuple (ns.map PyData.int)) := .tup h (dp_all ns)
theorem lay_ints : ∀ ns : List Int, PyData.canLayAll0 (ns.map PyData.int) = true
  | [] => by simp [PyData.canLayAll0]
  | _ :: r => by simp [PyData.canLayAll0, PyData.canLay0, lay_ints r]
theorem eqv_all_ints : ∀ ns ms : List Int, PyData.eqvAll (ns.map PyData.int) (ms.map PyData.int) = decide (ns = ms)
  | [], [] => by simp [PyData.eqvAll]
  | [], _ :: _ => by simp [PyData.eqvAll]
  | _ :: _, [] => by simp [PyData.eqvAll]
  | x :: r, y :: u => by
    simp only [List.map_cons, PyData.eqvAll, PyData.eqv, eqv_all_ints r u, List.cons.injEq]
    by_cases h1 : x = y <;> by_cases h2 : r = u <;> simp [h1, h2]
theorem eqv_ints (ns ms : List Int) : PyData.eqv (iD ns) (iD ms) = decide (ns = ms) := by
  unfold iD
  rw [PyData.eqv]
  exact eqv_all_ints ns ms
theorem deep_ints : ∀ ns : List Int, PyData.depthAll (ns.map PyData.int) ≤ 1
  | [] => by simp [PyData.depthAll]
  | _ :: r => by
    have := deep_ints r
    simp only [List.map_cons, PyData.depthAll, PyData.depth]
    omega
theorem shaped_ints {ns : List Int} : SeqAt.shaped (iD ns) = true := by
  unfold SeqAt.shaped iD
  rw [Bool.and_eq_true, decide_eq_true_eq]
  refine ⟨by rw [PyData.canLay0]; exact lay_ints ns, ?_⟩
  have := deep_ints ns
  rw [PyData.depth]
  omega
theorem atI_ints {ns : List Int} {i : Int} (h0 : 0 ≤ i) (h1 : i.toNat < ns.length) : atI (ns.map V.int) i = some (.int (ns[i.toNat]'h1)) := by
  have e : (i.toNat : Int) = i := by omega
  have z : atI (ns.map V.int) (i.toNat : Int) = some (.int (ns[i.toNat]'h1)) := by
    refine atI_nat ?_
    rw [List.getElem?_map, List.getElem?_eq_getElem h1]
    rfl
  rw [e] at z
  exact z
theorem ixN_nat {n : Nat} {i : Int} (h0 : 0 ≤ i) (h1 : i < (n : Int)) : ixN n i = some i.toNat := by
  unfold ixN
  rw [if_pos h0, if_pos h1]
theorem getD_get {ts : List Int} {i : Nat} (h : i < ts.length) : ts.getD i 0 = ts[i] := by
  rw [List.getD_eq_getElem?_getD, List.getElem?_eq_getElem h]
  rfl
theorem inV_ints {x : Int} : ∀ {xs : List Int}, inV (.int x) (xs.map V.int) = decide (x ∈ xs)
  | [] => rfl
  | y :: r => by
    have ih := inV_ints (x := x) (xs := r)
    unfold inV at ih ⊢
    rw [List.map_cons, List.any_cons, ih]
    have e : eqV (.int y) (.int x) = decide (y = x) := rfl
    rw [e]
    by_cases h : y = x
    · subst h
      simp
    · have h2 : ¬ x = y := fun z => h z.symm
      simp [h, h2]
theorem flat_ints (xs : List Int) : (xs.map V.int).all flatV = true := by
  rw [List.all_eq_true]
  intro x hx
  obtain ⟨i, _, rfl⟩ := List.mem_map.mp hx
  rfl

/-! ### the pen: a dict of the script's cells and two ints -/
def penD (c : Addr) (t l : Int) : HO := .dK [((.inr "cells" : Key), V.ref c), ((.inr "at" : Key), V.int t), ((.inr "left" : Key), V.int l)]
structure PenAt (H : Hp) (d c : Addr) (ns : List Int) (t l : Int) : Prop where
  dc : H d = some (penD c t l)
  cs : H c = some (.lst (ns.map V.int))
  len : ns.length ≤ 63
  t0 : 0 ≤ t
/-- a pen with which at most n draws were made -/
def Pen (H : Hp) (d c : Addr) (n : Nat) : Prop := ∃ ns t l, PenAt H d c ns t l ∧ t ≤ n
theorem k1 : ¬ (("cells" : Str) = "at") := by decide +kernel
theorem k2 : ¬ (("cells" : Str) = "left") := by decide +kernel
theorem k3 : ¬ (("at" : Str) = "left") := by decide +kernel
theorem kk {x y : Str} (h : ¬ x = y) : ¬ ((Sum.inr x : Key) = Sum.inr y) := fun z => h (Sum.inr.inj z)
theorem pen_valC {c : Addr} {t l : Int} : valV [((.inr "cells" : Key), V.ref c), ((.inr "at" : Key), V.int t), ((.inr "left" : Key), V.int l)] (.inr "cells") = some (.ref c) := by
  simp [valV, List.find?]
theorem pen_valA {c : Addr} {t l : Int} : valV [((.inr "cells" : Key), V.ref c), ((.inr "at" : Key), V.int t), ((.inr "left" : Key), V.int l)] (.inr "at") = some (.int t) := by
  simp [valV, List.find?, k1]
theorem pen_valL {c : Addr} {t l : Int} : valV [((.inr "cells" : Key), V.ref c), ((.inr "at" : Key), V.int t), ((.inr "left" : Key), V.int l)] (.inr "left") = some (.int l) := by
  simp [valV, List.find?, k2, k3]
theorem pen_C {H : Hp} {d c : Addr} {t l : Int} (h : H d = some (penD c t l)) : DGet H d (.str "cells") (some (.ref c)) := by
  have e := DGet.k (k := Sum.inr "cells") h
  rw [pen_valC] at e
  exact e
theorem pen_A {H : Hp} {d c : Addr} {t l : Int} (h : H d = some (penD c t l)) : DGet H d (.str "at") (some (.int t)) := by
  have e := DGet.k (k := Sum.inr "at") h
  rw [pen_valA] at e
  exact e
theorem pen_L {H : Hp} {d c : Addr} {t l : Int} (h : H d = some (penD c t l)) : DGet H d (.str "left") (some (.int l)) := by
  have e := DGet.k (k := Sum.inr "left") h
  rw [pen_valL] at e
  exact e
theorem pen_putA {c : Addr} {t l u : Int} : putK [((.inr "cells" : Key), V.ref c), ((.inr "at" : Key), V.int t), ((.inr "left" : Key), V.int l)] (.inr "at") (.int u) = [((.inr "cells" : Key), V.ref c), ((.inr "at" : Key), V.int u), ((.inr "left" : Key), V.int l)] := by
  simp [putK, k1, k3, show ¬ (("left" : Str) = "at") from fun h => k3 h.symm]
theorem pen_putL {c : Addr} {t l u : Int} : putK [((.inr "cells" : Key), V.ref c), ((.inr "at" : Key), V.int t), ((.inr "left" : Key), V.int l)] (.inr "left") (.int u) = [((.inr "cells" : Key), V.ref c), ((.inr "at" : Key), V.int t), ((.inr "left" : Key), V.int u)] := by
  simp [putK, k2, k3]
theorem pen_setA {H : Hp} {d c : Addr} {t l u : Int} (h : H d = some (penD c t l)) : DPut H d (.str "at") (.int u) (upd H d (penD c u l)) := by
  have e := DPut.k (k := Sum.inr "at") (v := .int u) h (by show 3 < sizeLine; exact szlt (by decide))
  rw [pen_putA] at e
  exact e
theorem pen_setL {H : Hp} {d c : Addr} {t l u : Int} (h : H d = some (penD c t l)) : DPut H d (.str "left") (.int u) (upd H d (penD c t u)) := by
  have e := DPut.k (k := Sum.inr "left") (v := .int u) h (by show 3 < sizeLine; exact szlt (by decide))
  rw [pen_putL] at e
  exact e
theorem pen_mk {l : Addr} : mergeK [] [((.inr "cells" : Key), V.ref l), ((.inr "at" : Key), V.int 0), ((.inr "left" : Key), V.int 0)] = [((.inr "cells" : Key), V.ref l), ((.inr "at" : Key), V.int 0), ((.inr "left" : Key), V.int 0)] := by
  simp [mergeK, putK, k1, k2, k3]
theorem Pen.same {H H' : Hp} {d c : Addr} {n : Nat} (p : Pen H d c n) (h : Same H H') : Pen H' d c n := by
  obtain ⟨ns, t, l, q, e⟩ := p
  exact ⟨ns, t, l, ⟨h _ _ q.dc, h _ _ q.cs, q.len, q.t0⟩, e⟩
theorem Pen.up {H : Hp} {d c : Addr} {n m : Nat} (p : Pen H d c n) (h : n ≤ m) : Pen H d c m := by
  obtain ⟨ns, t, l, q, e⟩ := p
  exact ⟨ns, t, l, q, by omega⟩
theorem Pen.dict {H : Hp} {d c : Addr} {n : Nat} (p : Pen H d c n) : ∃ kvs, H d = some (.dK kvs) := by
  obtain ⟨ns, t, l, q, e⟩ := p
  exact ⟨_, q.dc⟩
theorem Pen.cells {H : Hp} {d c : Addr} {n : Nat} (p : Pen H d c n) : ∃ o, H c = some o := by
  obtain ⟨ns, t, l, q, e⟩ := p
  exact ⟨_, q.cs⟩
/-- a list that is not the pen's changes -/
theorem Pen.mut {H : Hp} {d c l : Addr} {n : Nat} {o : HO} (p : Pen H d c n) (hd : d ≠ l) (hc : c ≠ l) : Pen (upd H l o) d c n := by
  obtain ⟨ns, t, u, q, e⟩ := p
  exact ⟨ns, t, u, ⟨by rw [upd_ne hd]; exact q.dc, by rw [upd_ne hc]; exact q.cs, q.len, q.t0⟩, e⟩
/-- what stands where nothing stood may change -/
theorem But.mut {d l : Addr} {H H' : Hp} {o : HO} (b : But d H H') (h : H l = none) : But d H (upd H' l o) := fun x u e n => by
  rw [upd_ne (ne_of_none e h)]
  exact b x u e n
theorem cut63 (ns : List Int) : cutV (ns.map V.int) none (some 63) = (ns.take 63).map V.int := by
  unfold cutV
  rw [show HT.sIx (ns.map V.int).length (ns.map V.int).length (some 63) = min 63 (ns.map V.int).length from HT.sIx_nat _ _ 63, HT.sIx_none, List.drop_zero, Nat.sub_zero, List.map_take, List.take_eq_take_iff]
  omega
section
variable {P : Program} {w : World} {K : PySem.W.Frag} {mg : Str → Option Value} {base : Heap} {a : Ad}
def spPen (K : PySem.W.Frag) : Sp := fun vs H Q _ => ∃ (s : Addr) (ns : List Int), vs = [.ref s] ∧ SqL K H s (ns.map V.int) ∧ ns.length ≤ 63 ∧
  ∀ d c H', H d = none → H c = none → Pen H' d c 0 → Same H H' → Q (.ref d) H'
theorem ok__law_pen (T : Tx w K mg a) : FnOk P w K mg base CX0 1 a.f__law_pen a.d__law_pen ["script"] (spPen K) := by
  refine T.F__law_pen.ok sc__law_pen (fun vs H Q E h => ?_) (fun cdv A outer s H vs Q E hr h => ?_)
  · obtain ⟨s, ns, rfl, _⟩ := h
    rfl
  · obtain ⟨x, ns, rfl, hS, hlen, q⟩ := h
    have hu := hu_of hr
    refine ⟨_, 
(pss_one (ps_ret (pe_disp (pps_cons pe_str (pe_callTy call_list_of (by rfl) T.z_list (by decide +kernel) (pa_cons (pe_slice sl_list (pv 0) po_none (po_some pe_int)) pa_nil)) (pps_cons pe_str pe_int (pps_cons pe_str pe_int pps_nil))) (by rfl) (by rfl) (fun z => by cases z) (by decide)))), ?_⟩
    intro d hd
    have s1 : Same H (upd H d (.dK [])) := same_upd hd
    refine ⟨.ref x, rfl, 63, rfl, x, ns.map V.int, rfl, s1.seq hS, fun p hp => ?_⟩
    have s2 : Same (upd H d (.dK [])) (upd (upd H d (.dK [])) p (.lst (cutV (ns.map V.int) none (some 63)))) := same_upd hp
    refine ⟨p, _, rfl, .inl (SqL.at upd_same), fun l hl => ?_⟩
    have s3 := same_upd (o := .lst (cutV (ns.map V.int) none (some 63))) hl
    have hd3 := s3 _ _ (s2 _ _ (upd_same (H := H) (a := d) (o := .dK [])))
    have hl3 : (upd (upd (upd H d (.dK [])) p (.lst (cutV (ns.map V.int) none (some 63)))) l (.lst (cutV (ns.map V.int) none (some 63)))) l = _ := upd_same
    have ndl : l ≠ d := ne_of hl3 hd3 (by intro z; cases z)
    refine ⟨hd3, [((.inr "cells" : Key), V.ref l), ((.inr "at" : Key), V.int 0), ((.inr "left" : Key), V.int 0)], rfl, (by show 3 ≤ 15; decide), ?_⟩
    rw [pen_mk]
    refine q d l _ hd (s1.free (s2.free hl)) ⟨ns.take 63, 0, 0, ⟨upd_same, ?_, ?_, by decide⟩, by decide⟩ ?_
    · rw [upd_ne ndl, hl3, cut63]
    · rw [List.length_take]
      omega
    · intro b o e
      rw [upd_ne (ne_of_none e hd)]
      exact s3 _ _ (s2 _ _ (s1 _ _ e))
/-- a draw: any int from 0 on that is less than the second argument; the pen alone changes -/
def spDraw : Sp := fun vs H Q _ => ∃ (d c : Addr) (n : Nat) (m : Int), vs = [.ref d, .int m] ∧ Pen H d c n ∧ n < 2 ^ 40 ∧ 0 < m ∧ m < 2 ^ 200 ∧
  ∀ v H', 0 ≤ v → v < m → Pen H' d c (n + 1) → But d H H' → Q (.int v) H'
theorem ok__law_draw (T : Tx w K mg a) : FnOk P w K mg base CX0 1 a.f__law_draw a.d__law_draw ["pen", "many"] spDraw := by
  refine T.F__law_draw.ok sc__law_draw (fun vs H Q E h => ?_) (fun cdv A outer s H vs Q E hr h => ?_)
  · obtain ⟨d, c, n, m, rfl, _⟩ := h
    rfl
  · obtain ⟨d, c, n, m, rfl, ⟨ns, t, l, ⟨hd, hc, hlen, t0⟩, htn⟩, hn, m0, mb, q⟩ := h
    have hu := hu_of hr
    have hmne : m ≠ 0 := by omega
    have hdiv : ∀ x : Int, CDivW x m := fun x => wide_div m0 (b := 200) (by omega) (by decide) (by decide)
    have f0 : ∀ x : Int, 0 ≤ Int.fmod x m := fun x => Int.fmod_nonneg_of_pos x m0
    have f1 : ∀ x : Int, Int.fmod x m < m := fun x => Int.fmod_lt_of_pos x m0
    refine ⟨_, 
(pss_cons (ps_if (pt_cmpR op_ge (pe_dget hu (pv 0) pe_str (fun _ _ => rfl)) (pv 1) (nomark _))
  (pss_cons (ps_set (i := 2) sc__law_draw.nd rfl (.inl rfl) (pe_op op_modN (pe_callTy call_int1 (by rfl) T.z_int (by decide +kernel) (pa_cons (pe_dget hu (pv 0) pe_str (fun _ _ => rfl)) pa_nil)) (pv 1)))
  (pss_cons (ps_dput hu (pv 0) pe_str (pe_op op_fdivW (pe_dget hu (pv 0) pe_str (fun _ _ => rfl)) (pv 1)) rfl)
  (pss_one (ps_ret (pv 2)))))
  pss_nil)
  (pss_cons (ps_set (i := 3) sc__law_draw.nd rfl (.inl rfl) (pe_dget hu (pv 0) pe_str (fun _ _ => rfl)))
  (pss_cons (ps_dput hu (pv 0) pe_str (pe_op op_add (pv 3) pe_int) rfl)
  (pss_cons (ps_set (i := 4) sc__law_draw.nd rfl (.inl rfl) (pe_op op_add (pe_op op_mul pe_int (pv 3)) pe_int))
  (C8.pss_cut (ps_if (pt_cmpR (op_neD hr.units) (pe_dget hu (pv 0) pe_str (fun _ _ => rfl)) (pe_lst pa_nil) (nomark _))
  (pss_one (ps_set (i := 4) sc__law_draw.nd rfl (.inl rfl) (pe_ix ix_list (pe_dget hu (pv 0) pe_str (fun _ _ => rfl)) (pe_op op_modN (pe_callTy call_int1 (by rfl) T.z_int (by decide +kernel) (pa_cons (pv 3) pa_nil)) (pe_callB call_len_seq (by rfl) T.z_len PySem.boot_len (pa_cons (pe_dget hu (pv 0) pe_str (fun _ _ => rfl)) pa_nil))) (fun _ _ => rfl))))
  pss_nil)
  (C8.pss_cut (ps_if (PW.pt (pw_and (pt_cmpR op_lt (pv 3) (pe_callB call_len_seq (by rfl) T.z_len PySem.boot_len (pa_cons (pe_dget hu (pv 0) pe_str (fun _ _ => rfl)) pa_nil)) (nomark _)) (pw_and1 (pt_cmpR op_ge (pv 4) (pe_op op_pow pe_int pe_int) (nomark _)))))
  (pss_cons (ps_dput hu (pv 0) pe_str (pe_op op_fdivW (pe_op op_sub (pv 4) (pe_op op_pow pe_int pe_int)) (pv 1)) rfl)
  (pss_one (ps_ret (pe_op op_modN (pe_callTy call_int1 (by rfl) T.z_int (by decide +kernel) (pa_cons (pe_op op_sub (pv 4) (pe_op op_pow pe_int pe_int)) pa_nil)) (pv 1)))))
  pss_nil)
  (pss_cons (ps_set (i := 5) sc__law_draw.nd rfl (.inl rfl) (pe_op op_add (pe_op op_add (pe_op op_add (pe_op op_mul (pe_op op_modN (pe_callTy call_int1 (by rfl) T.z_int (by decide +kernel) (pa_cons (pv 4) pa_nil)) pe_int) pe_int) (pe_op op_mul (pe_op op_mul pe_int (pv 3)) (pv 3))) (pe_op op_mul pe_int (pv 3))) pe_int))
  (pss_cons (ps_set (i := 5) sc__law_draw.nd rfl (.inl rfl) (pe_op op_modN (pe_callTy call_int1 (by rfl) T.z_int (by decide +kernel) (pa_cons (pv 5) pa_nil)) pe_int))
  (pss_cons (ps_set (i := 5) sc__law_draw.nd rfl (.inl rfl) (pe_op op_modN (pe_callTy call_int1 (by rfl) T.z_int (by decide +kernel) (pa_cons (pe_op op_mul (pv 5) (pe_op op_add (pv 5) pe_int)) pa_nil)) pe_int))
  (pss_one (ps_ret (pe_op op_modN (pe_callTy call_int1 (by rfl) T.z_int (by decide +kernel) (pa_cons (pe_op op_fdivN (pe_op op_modN (pe_callTy call_int1 (by rfl) T.z_int (by decide +kernel) (pa_cons (pe_op op_mul (pv 5) (pv 5)) pa_nil)) pe_int) pe_int) pa_nil)) (pv 1))))))))))))), ?_⟩
    -- if pen['left'] >= many
    refine ⟨.ref d, rfl, d, .int l, rfl, pen_L hd, .int m, rfl, l, m, rfl, rfl, _, rfl, ite2 (fun e => ?_) (fun e => ?_)⟩
    · -- digit = int(pen['left']) % many; pen['left'] = pen['left'] // many; return digit
      refine ⟨.ref d, rfl, d, .int l, rfl, pen_L hd, .inl ⟨l, rfl, .int m, rfl, l, m, rfl, rfl, hmne, ?_⟩⟩
      refine ⟨.ref d, rfl, d, .int l, rfl, pen_L hd, .int m, rfl, l, m, rfl, rfl, hdiv l, .ref d, rfl, d, _, rfl, pen_setL hd, ?_⟩
      exact ⟨_, rfl, q _ _ (f0 l) (f1 l) ⟨ns, t, _, ⟨upd_same, by rw [upd_ne (ne_of hc hd (by intro z; cases z))]; exact hc, hlen, t0⟩, by omega⟩ but_upd⟩
    · -- at = pen['at']; pen['at'] = at + 1; cell = 41 * at + 13
      refine ⟨.ref d, rfl, d, .int t, rfl, pen_A hd, ?_⟩
      refine ⟨.int t, rfl, t, 1, rfl, rfl, .ref d, rfl, d, _, rfl, pen_setA hd, ?_⟩
      refine ⟨.int t, rfl, 41, t, rfl, rfl, .inl ⟨by decide, by decide⟩, 41 * t, 13, rfl, rfl, ?_⟩
      have hd1 : (upd H d (penD c (t + 1) l)) d = some (penD c (t + 1) l) := upd_same
      have hc1 : (upd H d (penD c (t + 1) l)) c = some (.lst (ns.map V.int)) := by
        rw [upd_ne (ne_of hc hd (by intro z; cases z))]
        exact hc
      have b1 : But d H (upd H d (penD c (t + 1) l)) := but_upd
      generalize upd H d (penD c (t + 1) l) = H1 at hd1 hc1 b1 ⊢
      -- if pen['cells'] != []: cell = pen['cells'][int(at) % len(pen['cells'])]
      refine ⟨fun σ' H' => ∃ cell : Int, σ' = [some (.ref d), some (.int m), none, some (.int t), some (.int cell), none] ∧ H' d = some (penD c (t + 1) l) ∧ H' c = some (.lst (ns.map V.int)) ∧ But d H H', ?_, fun σ'' H'' hM => ?_⟩
      · refine ⟨.ref d, rfl, d, .ref c, rfl, pen_C hd1, Nat.zero_le _, fun p hp => ?_⟩
        have s2 : Same H1 (upd H1 p (.lst [])) := same_upd hp
        have hp2 : (upd H1 p (.lst [])) p = some (.lst []) := upd_same
        have hd2 := s2 _ _ hd1
        have hc2 := s2 _ _ hc1
        have b2 : But d H (upd H1 p (.lst [])) := b1.trans (but_same s2)
        generalize upd H1 p (.lst []) = H2 at hd2 hc2 hp2 b2 ⊢
        refine ⟨_, _, dp_ints (SqL.at hc2), dp_ints (ns := []) (SqL.at hp2), shaped_ints, shaped_ints, _, rfl, ?_⟩
        rw [eqv_ints]
        refine ite2 (fun e => ?_) (fun e => ?_)
        · have hns : ns ≠ [] := by
            intro z
            subst z
            simp at e
          have hpos : 0 < ns.length := List.length_pos_iff.mpr hns
          have g0 : (0 : Int) ≤ Int.fmod t (ns.length : Int) := Int.fmod_nonneg_of_pos _ (by omega)
          have g1 : Int.fmod t (ns.length : Int) < (ns.length : Int) := Int.fmod_lt_of_pos _ (by omega)
          refine ⟨.ref d, rfl, d, .ref c, rfl, pen_C hd2, .int t, rfl, .inl ⟨t, rfl, .ref d, rfl, d, .ref c, rfl, pen_C hd2, c, _, rfl, .inl (SqL.at hc2), t, _, rfl, rfl, ?_, c, _, _, .int (ns[(Int.fmod t (ns.length : Int)).toNat]'(by omega)), rfl, rfl, SqL.at hc2, ?_, ?_⟩⟩
          · rw [List.length_map]
            omega
          · rw [List.length_map]
            exact atI_ints g0 (by omega)
          · exact ⟨_, rfl, hd2, hc2, b2⟩
        · exact ⟨_, rfl, hd2, hc2, b2⟩
      · obtain ⟨cell, rfl, hd3, hc3, b3⟩ := hM
        have hlen' : (ns.map V.int).length ≤ 63 := by
          rw [List.length_map]
          exact hlen
        -- if at < len(pen['cells']) and cell >= 10 ** 18
        refine ⟨fun σ' H' => σ' = [some (.ref d), some (.int m), none, some (.int t), some (.int cell), none] ∧ H' = H'', ?_, fun σ' H' hM => ?_⟩
        · refine ⟨.int t, rfl, .ref d, rfl, d, .ref c, rfl, pen_C hd3, c, _, rfl, .inl (SqL.at hc3), t, _, rfl, rfl, _, rfl, ite2 (fun e1 => ?_) (fun e1 => iteF ⟨rfl, rfl⟩)⟩
          refine ⟨.int cell, rfl, 10, 18, rfl, rfl, ⟨by decide, by decide, by decide⟩, cell, _, rfl, rfl, _, rfl, ite2 (fun e2 => ?_) (fun e2 => ⟨rfl, rfl⟩)⟩
          refine ⟨.int cell, rfl, 10, 18, rfl, rfl, ⟨by decide, by decide, by decide⟩, cell, _, rfl, rfl, .int m, rfl, _, m, rfl, rfl, hdiv _, .ref d, rfl, d, _, rfl, pen_setL hd3, ?_⟩
          refine ⟨.int cell, rfl, 10, 18, rfl, rfl, ⟨by decide, by decide, by decide⟩, cell, _, rfl, rfl, .inl ⟨_, rfl, .int m, rfl, _, m, rfl, rfl, hmne, ?_⟩⟩
          exact q _ _ (f0 _) (f1 _) ⟨ns, t + 1, _, ⟨upd_same, by rw [upd_ne (ne_of hc3 hd3 (by intro z; cases z))]; exact hc3, hlen, by omega⟩, by omega⟩ (b3.trans but_upd)
        · obtain ⟨rfl, rfl⟩ := hM
          have g : ∀ x y : Int, 0 < y → 0 ≤ Int.fmod x y ∧ Int.fmod x y < y := fun x y hy => ⟨Int.fmod_nonneg_of_pos x hy, Int.fmod_lt_of_pos x hy⟩
          have g1 := g cell 2147483629 (by decide)
          have z1 : (2147483629 : Int) ≠ 0 := by decide
          have z2 : (2147483647 : Int) ≠ 0 := by decide
          have z3 : (2147483587 : Int) ≠ 0 := by decide
          have z4 : (2147483563 : Int) ≠ 0 := by decide
          have y1 : -(2 ^ 64) < Int.fmod cell 2147483629 ∧ Int.fmod cell 2147483629 < 2 ^ 64 := by omega
          have y2 : -(2 ^ 64) < t ∧ t < 2 ^ 64 := by omega
          refine ⟨.int cell, rfl, .inl ⟨cell, rfl, cell, 2147483629, rfl, rfl, z1, _, 48271, rfl, rfl, .inl y1, .int t, rfl, 69621, t, rfl, rfl, .inr y2, .int t, rfl, _, t, rfl, rfl, .inr y2, _, _, rfl, rfl, .int t, rfl, 59, t, rfl, rfl, .inr y2, _, _, rfl, rfl, _, 11, rfl, rfl, ?_⟩⟩
          have g2 := g (Int.fmod cell 2147483629 * 48271 + 69621 * t * t + 59 * t + 11) 2147483647 (by decide)
          refine ⟨_, rfl, .inl ⟨_, rfl, _, 2147483647, rfl, rfl, z2, ?_⟩⟩
          have y3 : -(2 ^ 64) < Int.fmod (Int.fmod cell 2147483629 * 48271 + 69621 * t * t + 59 * t + 11) 2147483647 ∧ Int.fmod (Int.fmod cell 2147483629 * 48271 + 69621 * t * t + 59 * t + 11) 2147483647 < 2 ^ 64 := by omega
          refine ⟨_, rfl, _, rfl, _, 40014, rfl, rfl, _, _, rfl, rfl, .inl y3, .inl ⟨_, rfl, _, 2147483587, rfl, rfl, z3, ?_⟩⟩
          have g3 := fun x => g x 2147483587 (by decide)
          have y4 : ∀ x, -(2 ^ 64) < Int.fmod x 2147483587 ∧ Int.fmod x 2147483587 < 2 ^ 64 := fun x => by
            have := g3 x
            omega
          refine ⟨_, rfl, _, rfl, _, _, rfl, rfl, .inl (y4 _), .inl ⟨_, rfl, _, 2147483563, rfl, rfl, z4, _, 64, rfl, rfl, ⟨by decide, by decide⟩, .inl ⟨_, rfl, .int m, rfl, _, m, rfl, rfl, hmne, ?_⟩⟩⟩
          exact q _ _ (f0 _) (f1 _) ⟨ns, t + 1, l, ⟨hd3, hc3, hlen, by omega⟩, by omega⟩ b3
end

section
variable {P : Program} {w : World} {K : PySem.W.Frag} {mg : Str → Option Value} {base : Heap} {a : Ad}
/-- a pick: some item of the list -/
def spPick (K : PySem.W.Frag) : Sp := fun vs H Q _ => ∃ (d c s : Addr) (n : Nat) (xs : List V), vs = [.ref d, .ref s] ∧ Pen H d c n ∧ n < 2 ^ 40 ∧ SqL K H s xs ∧ 0 < xs.length ∧ xs.length ≤ 100000 ∧
  ∀ v H', v ∈ xs → Pen H' d c (n + 1) → But d H H' → Q v H'
theorem ok__law_pick (T : Tx w K mg a) : FnOk P w K mg base CX0 2 a.f__law_pick a.d__law_pick ["pen", "some"] (spPick K) := by
  refine T.F__law_pick.ok sc__law_pick (fun vs H Q E h => ?_) (fun cdv A outer s H vs Q E hr h => ?_)
  · obtain ⟨d, c, s, n, xs, rfl, _⟩ := h
    rfl
  · obtain ⟨d, c, s, n, xs, rfl, hp, hn, hs, h0, h1, q⟩ := h
    obtain ⟨kvs, hd⟩ := hp.dict
    refine ⟨_, 
(pss_one (ps_ret (pe_ix ix_list (pv 1) (pe_call (ok__law_draw T) hr (by rfl) T.m__law_draw T.F__law_draw.kp T.b__law_draw .nil pass0 (pa_cons (pv 0) (pa_cons (pe_callB call_len_seq (by rfl) T.z_len PySem.boot_len (pa_cons (pv 1) pa_nil)) pa_nil))) (fun _ _ => rfl)))), ?_⟩
    refine ⟨.ref s, rfl, .ref d, rfl, .ref s, rfl, s, _, rfl, .inl hs, d, c, n, _, rfl, hp, hn, by omega, ?_, fun v H' v0 v1 hp' hb => ?_⟩
    · have : ((100000 : Nat) : Int) < 2 ^ 200 := by decide
      omega
    · refine ⟨s, xs, v, xs[v.toNat]'(by omega), rfl, rfl, hb.seq hd hs, ?_, q _ _ (List.getElem_mem _) hp' hb⟩
      have e : (v.toNat : Int) = v := by omega
      have z : atI xs (v.toNat : Int) = some (xs[v.toNat]'(by omega)) := atI_nat (List.getElem?_eq_getElem (by omega))
      rw [e] at z
      exact z
end

/-! ### a list or a tuple: walked, enumerated -/
def SqA (K : PySem.W.Frag) (H : Hp) (p : Addr) (xs : List V) : Prop := SqL K H p xs ∨ SqT K H p xs
theorem SqA.len {K : PySem.W.Frag} {H : Hp} {p : Addr} {xs : List V} (h : SqA K H p xs) : SqL K H p xs ∨ SqT K H p xs := h
theorem Same.seqT {K : PySem.W.Frag} {H H' : Hp} {p : Addr} {xs : List V} (e : Same H H') (h : SqT K H p xs) : SqT K H' p xs := by
  rcases h with (h | ⟨o, h⟩) | h
  · exact .inl (.inl (e _ _ h))
  · exact .inl (.inr ⟨o, e _ _ h⟩)
  · exact .inr h
theorem SqA.same {K : PySem.W.Frag} {H H' : Hp} {p : Addr} {xs : List V} (h : SqA K H p xs) (e : Same H H') : SqA K H' p xs := h.elim (fun q => .inl (e.seq q)) fun q => .inr (Same.seqT e q)
def iSeq (K : PySem.W.Frag) (tl : TE) : TI := fun σ H R => tl σ H fun x H1 => ∃ p xs, x = .ref p ∧ ((SqL K H1 p xs ∧ R (Itl K p) H1) ∨ (SqT K H1 p xs ∧ R (Itt K p) H1))
theorem pi_seq {X : Cx} {tg l : Expr} {tl : TE} (hl : PE X l tl) : PI X tg l (iSeq X.K tl) := by
  constructor
  intro pins s σ H R I h
  apply thn (hl.run pins s σ H _ I h)
  rintro v s1 ⟨x, H1, I1, r1, p, xs, rfl, hq⟩
  cases r1
  rcases hq with ⟨hq, q⟩ | ⟨hq, q⟩
  · obtain ⟨its, _, z, _⟩ := I1.list hq
    exact wpAny_pyIter_list z.isList (pi_one (tk := s1.toks) I1 _ (turn_list p _) ⟨_, Heap.get?_push_size _ rfl, rfl, rfl⟩ q)
  · obtain ⟨its, _, z, _⟩ := I1.tuple hq
    exact wpAny_pyIter_tuple (show s1.heap.IsTuple p its.toArray from z) (pi_one (tk := s1.toks) I1 _ (turn_tuple p _) ⟨_, Heap.get?_push_size _ rfl, rfl, rfl⟩ q)
/-- enumerate over a tuple -/
def IteT (K : PySem.W.Frag) (p : Addr) : It where
  go := fun i H => ∃ (xs : List V) (x : V), SqT K H p xs ∧ xs[i]? = some x
  yld := fun i H v H' => ∃ q x, v = .ref q ∧ H q = none ∧ H' = upd H q (.tup [.int (i : Nat), x]) ∧ ∀ xs, SqT K H p xs → xs[i]? = some x
  stop := fun i H => ∃ xs : List V, SqT K H p xs ∧ xs.length = i
theorem turn_enumT {P : Program} {w : World} {K : PySem.W.Frag} {elts : List Expr} {kk : Nat} {tpos : Pos} (p e it : Addr) :
    Turn P w K (.Tuple elts kk tpos) (IteT K p) [e, it] e (fun i h => (∃ old, IsEnum h e it ((i : Nat) : Int) old) ∧ h.IsTupleIter it p i ∧ e ≠ it) where
  mem := List.mem_cons_self ..
  obj := by
    rintro i h ⟨⟨old, he⟩, ⟨o, ho, hc, hd⟩, _⟩ b hb
    simp only [List.mem_cons, List.not_mem_nil, or_false] at hb
    rcases hb with rfl | rfl
    · exact ⟨_, he, fun v q => nomatch q⟩
    · exact ⟨o, ho, fun v q => by rw [hd] at q; cases q⟩
  keep := by
    rintro i h h' ⟨⟨old, he⟩, hi, hne⟩ k
    exact ⟨⟨old, k e (by simp) _ he⟩, hi.at fun o q => k it (by simp) o q, hne⟩
  item := by
    rintro X rfl rfl rfl hc i pins s σ H E I hf ⟨⟨old, he⟩, hit, hne⟩ ⟨xs, x, hq, hx⟩
    obtain ⟨its, rv, z, hz⟩ := I.tuple hq
    obtain ⟨u, hu, ru⟩ := rv.get hx
    have hel : e < s.heap.objs.size := Heap.lt_size he
    have hil : it < s.heap.objs.size := by
      obtain ⟨_, q, _⟩ := hit
      exact Heap.lt_size q
    have hpe : e ≠ p := fun q => by
      obtain ⟨o, ho, hc1, _⟩ := (show s.heap.IsTuple p its.toArray from z)
      rw [← q] at ho
      rw [Option.some.inj (ho.symm.trans he)] at hc1
      injection hc1 with hc1
      exact absurd hc1 (by decide)
    have hpi : p ≠ it := fun q => by
      obtain ⟨o, ho, hc1, _⟩ := (show s.heap.IsTuple p its.toArray from z)
      obtain ⟨o2, ho2, hc2, _⟩ := hit
      rw [q] at ho
      rw [Option.some.inj (ho.symm.trans ho2), hc2] at hc1
      injection hc1 with hc1
      exact absurd hc1 (by decide)
    have D := Draws.tuple (prog := X.prog) (w := X.w) (A := X.A.in1) (I.ok.hd hc) it p hpi its.toArray
    have hlt : i < its.toArray.size := by
      have := (List.getElem?_eq_some_iff.mp hu).1
      simpa using this
    refine wpAny_pyNext_enum_itemD (i := i) D he ⟨hit, z⟩ hlt hne (by simp [hne, hpe]) ?_
    intro v h' tk hv ho hst' hT hsz hk
    have ev : v = u := by
      have h1 : its[i]? = some v := by simpa using hv
      exact Option.some.inj (h1.symm.trans hu)
    subst ev
    refine ⟨_, rfl, wpAny_letOwnedTupleGo_enum (s := { s with heap := h', toks := tk + 1 }) ho ?_⟩
    intro h'' he' sb
    have hT2 : h''.get? s.heap.objs.size = some { cls := .type "tuple", data := .seq #[.int i tk, v] } := (sb.2 _ (Nat.ne_of_gt hel)).trans hT
    have new : ObjOk X.prog X.w (upd H s.heap.objs.size (.tup [.int (i : Nat), x])) h'' s.heap.objs.size (.tup [.int (i : Nat), x]) :=
      ⟨(by decide : 2 ≤ sizeLine), [.int i tk, v], .cons ⟨_, rfl⟩ (.cons ru .nil), _, hT2, rfl, _, rfl⟩
    have I1 : Inv X pins σ (upd H s.heap.objs.size (.tup [.int (i : Nat), x])) { s with heap := h'', toks := tk + 1 } := by
      refine I.turnedNew (ch := [e, it]) (fun b ob hb q => ?_) hf (Nat.le_refl _) new
      have n1 : b ≠ e := fun y => hb (by simp [y])
      have n2 : b ≠ it := fun y => hb (by simp [y])
      exact (sb.2 b n1).trans (hk b ob n1 n2 q)
    refine ⟨.ref s.heap.objs.size, _, I1, rfl, ⟨_, x, rfl, I.hok.fresh (Nat.le_refl _), rfl, fun ys hy => ?_⟩, ⟨⟨v, ?_⟩, hst'.1.at fun o q => (sb.2 it hne.symm).trans q, hne⟩, fun b hb => ?_⟩
    · rw [I.tuple_inj hy hq]
      exact hx
    · rw [show ((i + 1 : Nat) : Int) = (i : Int) + 1 by omega]
      exact he'
    · have hb' : b < s.heap.objs.size := by
        simp only [List.mem_cons, List.not_mem_nil, or_false] at hb
        rcases hb with rfl | rfl
        · exact hel
        · exact hil
      rw [upd_ne (Nat.ne_of_lt hb')]
      exact (hf b hb).1
  done := by
    rintro X rfl rfl rfl hc i pins s σ H E I hf ⟨⟨old, he⟩, hit, hne⟩ ⟨xs, hq, hx⟩
    obtain ⟨its, rv, z, hz⟩ := I.tuple hq
    obtain ⟨f0, f1, f2, f3, f4, f5⟩ := hf it (by simp)
    have hl := rv.length
    have hpi : p ≠ it := fun q => by
      obtain ⟨o, ho, hc1, _⟩ := (show s.heap.IsTuple p its.toArray from z)
      obtain ⟨o2, ho2, hc2, _⟩ := hit
      rw [q] at ho
      rw [Option.some.inj (ho.symm.trans ho2), hc2] at hc1
      injection hc1 with hc1
      exact absurd hc1 (by decide)
    have D := Draws.tuple (prog := X.prog) (w := X.w) (A := X.A.in1) (I.ok.hd hc) it p hpi its.toArray
    have ei : i = its.toArray.size := by
      simp only [List.size_toArray]
      omega
    subst ei
    exact wpAny_pyNext_enum_endD D he ⟨hit, z⟩ fun h' eb => ⟨rfl, I.turned (t' := s.toks) (fun b o hb e => eb b o hb e) f0 f1 f3 f4 f5⟩
  self := by
    rintro A i s Q E ⟨⟨_, he⟩, _⟩ h
    exact wpAny_pyIter_enum he h
theorem meets_enum0 {v : Value} {o : Obj} {Hh : Heap → Prop} (B : Begins v o Hh) :
    Meets (Builtin.«enumerate.__new__» ⟨[.type "enumerate", v], []⟩) (fun _ R s => Hh s.heap ∧
      R (.ok (.ret (.ref (s.heap.push o).objs.size))) { s with heap := (s.heap.push o).push { cls := .type "enumerate", data := .fields #[.none, .bool false, .ref s.heap.objs.size, rawInt 0, .none, .none] } }) := by
  refine .of_wp ?_
  rintro prog w A R ⟨hp, g, d, tk, os⟩ ⟨h1, h⟩
  have hsb := sub_enumerate
  have q1 : ∀ {A' : Around} {E : Value → Shared → Prop} {Q : Value → Shared → Prop}, Q (.ref hp.objs.size) ⟨hp.push o, g, d, tk, os⟩ → wpAny (model prog w) A' (pyIter v) Q E ⟨hp, g, d, tk, os⟩ := by
    intro A' E Q q
    exact B.iter prog w _ _ ⟨hp, g, d, tk, os⟩ _ h1 q
  wp_walk using q1
  refine wpAny_stack_any fun st => wpAny_pure ?_
  split
  · rename_i c _ _ _ _ _
    cases (c == Value.type "enumerate") <;> (wp_walk using q1; exact ⟨_, rfl, h⟩)
  · wp_walk using q1
    exact ⟨_, rfl, h⟩
theorem call_enum0 {prog : Program} {w : World} {A : Around} {E : Value → Shared → Prop} {s : Shared} {v : Value} {o : Obj} {Hh : Heap → Prop} {Q : Value → Shared → Prop} (B : Begins v o Hh) (h1 : Hh s.heap)
    (h : ∀ h', IsEnum h' (s.heap.objs.size + 1) s.heap.objs.size 0 .none → h'.get? s.heap.objs.size = some o → h'.objs.size = s.heap.objs.size + 2 → (∀ b u, s.heap.get? b = some u → h'.get? b = some u) → Q (.ref (s.heap.objs.size + 1)) { s with heap := h' }) :
    wpAny (model prog w) A (call (.type "enumerate") [v]) Q E s := by
  have hz : (s.heap.push o).objs.size = s.heap.objs.size + 1 := by rw [Heap.size_push]
  refine callType_new F.called_enumerate (by decide) (F.typeCall_enumerate_1 _) (F.newCall_enumerate_1 _) (fun obj => F.args_object_init_2 obj _) F.entry_enumerate_new (meets_enum0 B) ⟨h1, ?_⟩
  have key : IsEnum ((s.heap.push o).push { cls := .type "enumerate", data := .fields #[.none, .bool false, .ref s.heap.objs.size, rawInt 0, .none, .none] }) (s.heap.push o).objs.size s.heap.objs.size 0 .none := Heap.get?_push_size _ rfl
  show _ ∧ _
  rw [hz] at key ⊢
  exact ⟨⟨_, key, rfl⟩, h _ key (Heap.get?_push_of_some _ (Heap.get?_push_size _ B.free)) (by rw [Heap.size_push, hz]) fun b u x => Heap.get?_push_of_some _ (Heap.get?_push_of_some _ x)⟩
def iEnS (K : PySem.W.Frag) (ta : TA) : TI := fun σ H R => ta σ H fun vs H1 => ∃ p xs, vs = [.ref p] ∧ ((SqL K H1 p xs ∧ R (Ite K p) H1) ∨ (SqT K H1 p xs ∧ R (IteT K p) H1))
theorem pi_enumS {X : Cx} {e : Expr} {ta : TA} {p pos tpos : Pos} {elts : List Expr} {kk : Nat} (hg : Gl X "enumerate") (hm : X.mg "enumerate" = none) (ha : PA X [e] ta) (hs : starEach [e] X.env = [(false, eval e X.env)] := by rfl) :
    PI X (.Tuple elts kk tpos) (.Call (.Name "enumerate" p) [e] [] pos) (iEnS X.K ta) := by
  constructor
  intro pins s σ H R I h
  refine Call_ (ld_blt I hg hm boot_enumerate (PyProof.Rows.callWith_type1 (thn (ha.run pos pins s σ H _ I h) ?_) hs rfl))
  rintro us s1 ⟨vs, H1, I1, r1, q0, xs, rfl, hq⟩
  cases r1 with
  | cons r rr =>
    cases rr
    cases r
    have fp : ∀ b ∈ [s1.heap.objs.size + 1, s1.heap.objs.size], FpOk X pins H1 b := by
      intro b hb
      simp only [List.mem_cons, List.not_mem_nil, or_false] at hb
      have hle : s1.heap.objs.size ≤ b := by
        rcases hb with rfl | rfl
        · exact Nat.le_add_right _ _
        · exact Nat.le_refl _
      exact I1.fpOk hle (I1.hok.fresh hle)
    rcases hq with ⟨hq, q⟩ | ⟨hq, q⟩
    · obtain ⟨its, _, z, _⟩ := I1.list hq
      refine call_enumerate_list z.isList ?_
      intro h' he hit hsz hk
      exact wpAny_pyIter_enum he ⟨s1.heap.objs.size + 1, [s1.heap.objs.size + 1, s1.heap.objs.size], _, _, H1, rfl, I1.kept (t' := s1.toks) hk, turn_enum q0 (s1.heap.objs.size + 1) s1.heap.objs.size, ⟨⟨.none, he⟩, hit, Nat.succ_ne_self _⟩, fp, q⟩
    · obtain ⟨its, _, z, _⟩ := I1.tuple hq
      refine call_enum0 (begins_tuple q0 its.toArray) z ?_
      intro h' he hit hsz hk
      exact wpAny_pyIter_enum he ⟨s1.heap.objs.size + 1, [s1.heap.objs.size + 1, s1.heap.objs.size], _, _, H1, rfl, I1.kept (t' := s1.toks) hk, turn_enumT q0 (s1.heap.objs.size + 1) s1.heap.objs.size, ⟨⟨.none, he⟩, ⟨_, hit, rfl, rfl⟩, Nat.succ_ne_self _⟩, fp, q⟩
theorem walk_enumT {K : PySem.W.Frag} {p : Addr} {xs : List V} : Walk (IteT K p) xs.length (fun H => SqT K H p xs) (YPair (fun i => some (.int (i : Nat))) (fun i => xs[i]?)) where
  goes := fun i H hi h => ⟨xs, xs[i], h, List.getElem?_eq_getElem hi⟩
  stops := fun H h => ⟨xs, h, rfl⟩
  yields := by
    rintro i H v H' hi h ⟨q, x, rfl, hn, rfl, hx⟩
    exact ⟨q, _, x, rfl, hn, rfl, rfl, hx xs h⟩

/-! ### questions about values -/
/-- whether a value is an int that is no bool, as isinstance tells it -/
inductive IsI (H : Hp) : V → Bool → Prop where
  | int (i : Int) : IsI H (.int i) true
  | non : IsI H .non false
  | bl (b : Bool) : IsI H (.bl b) false
  | str (z : Str) : IsI H (.str z) false
  | tup {p : Addr} {xs : List V} (e : H p = some (.tup xs)) : IsI H (.ref p) false
  | lst {p : Addr} {xs : List V} (e : H p = some (.lst xs)) : IsI H (.ref p) false
theorem IsI.same {H H' : Hp} {x : V} {b : Bool} (h : IsI H x b) (e : Same H H') : IsI H' x b := by
  cases h with
  | int i => exact .int i
  | non => exact .non
  | bl b => exact .bl b
  | str z => exact .str z
  | tup q => exact .tup (e _ _ q)
  | lst q => exact .lst (e _ _ q)
section
variable {P : Program} {w : World} {K : PySem.W.Frag} {mg : Str → Option Value} {base : Heap} {a : Ad}
def spIsInteger : Sp := fun vs H Q _ => ∃ x b, vs = [x] ∧ IsI H x b ∧ Q (.bl b) H
theorem ok_is_integer (T : Tx w K mg a) : FnOk P w K mg base CX0 1 a.f_is_integer a.d_is_integer ["value"] spIsInteger := by
  refine T.F_is_integer.ok sc_is_integer (fun vs H Q E h => ?_) (fun cdv A outer s H vs Q E hr h => ?_)
  · obtain ⟨x, b, rfl, _⟩ := h
    rfl
  · obtain ⟨x, b, rfl, hb, q⟩ := h
    refine ⟨_, 
(pss_one (ps_ret (pe_and (pe_callB call_isi (by rfl) T.z_isinstance (by decide +kernel) (pa_cons (pv 0) (pa_cons (pe_bltn (v := .ty "int") (by rfl) T.z_int (by decide +kernel) rfl) pa_nil))) (pe_one (pe_not (pe_callB call_isi (by rfl) T.z_isinstance (by decide +kernel) (pa_cons (pv 0) (pa_cons (pe_bltn (v := .ty "bool") (by rfl) T.z_bool (by decide +kernel) rfl) pa_nil)))))))), ?_⟩
    refine ⟨x, rfl, ?_⟩
    cases hb with
    | int i => exact ⟨_, _, _, _, true, rfl, .ty "int", .base (.int i), kit_ty (by decide +kernel), true, rfl, iteT ⟨_, rfl, _, _, _, _, false, rfl, .ty "bool", .base (.int i), kit_ty (by decide +kernel), _, rfl, q⟩⟩
    | non => exact ⟨_, _, _, _, false, rfl, .ty "int", .base .non, kit_ty (by decide +kernel), false, rfl, iteF q⟩
    | str z => exact ⟨_, _, _, _, false, rfl, .ty "int", .base (.str z), kit_ty (by decide +kernel), false, rfl, iteF q⟩
    | tup e => exact ⟨_, _, _, _, false, rfl, .ty "int", .base (.tup e), kit_ty (by decide +kernel), false, rfl, iteF q⟩
    | lst e => exact ⟨_, _, _, _, false, rfl, .ty "int", .base (.lst e), kit_ty (by decide +kernel), false, rfl, iteF q⟩
    | bl b => exact ⟨_, _, _, _, true, rfl, .ty "int", .base (.bl b), kit_ty (by decide +kernel), true, rfl, iteT ⟨_, rfl, _, _, _, _, true, rfl, .ty "bool", .base (.bl b), kit_ty (by decide +kernel), _, rfl, q⟩⟩
def frM (lo : Int) : V → Bool
  | .int i => decide (lo ≤ i)
  | _ => false
def spIsFrom : Sp := fun vs H Q _ => ∃ x b lo, vs = [x, .int lo] ∧ IsI H x b ∧ Q (.bl (frM lo x)) H
theorem ok_is_from (T : Tx w K mg a) : FnOk P w K mg base CX0 2 a.f_is_from a.d_is_from ["value", "low"] spIsFrom := by
  refine T.F_is_from.ok sc_is_from (fun vs H Q E h => ?_) (fun cdv A outer s H vs Q E hr h => ?_)
  · obtain ⟨x, b, lo, rfl, _⟩ := h
    rfl
  · obtain ⟨x, b, lo, rfl, hb, q⟩ := h
    refine ⟨_, 
(pss_one (ps_ret (pe_and (pe_call (ok_is_integer T) hr (by rfl) T.m_is_integer T.F_is_integer.kp T.b_is_integer .nil pass0 (pa_cons (pv 0) pa_nil)) (pe_one (pe_cmpR op_le (pv 1) (pv 0) (nomark _)))))), ?_⟩
    refine ⟨x, rfl, x, b, rfl, hb, b, rfl, ?_⟩
    cases hb with
    | int i => exact iteT ⟨_, rfl, _, rfl, lo, i, rfl, rfl, q⟩
    | non => exact iteF q
    | str z => exact iteF q
    | tup e => exact iteF q
    | lst e => exact iteF q
    | bl b => exact iteF q
def btM (lo hi : Int) : V → Bool
  | .int i => decide (lo ≤ i) && decide (i ≤ hi)
  | _ => false
def spIsBetween : Sp := fun vs H Q _ => ∃ x b lo hi, vs = [x, .int lo, .int hi] ∧ IsI H x b ∧ Q (.bl (btM lo hi x)) H
theorem ok_is_between (T : Tx w K mg a) : FnOk P w K mg base CX0 2 a.f_is_between a.d_is_between ["value", "low", "high"] spIsBetween := by
  refine T.F_is_between.ok sc_is_between (fun vs H Q E h => ?_) (fun cdv A outer s H vs Q E hr h => ?_)
  · obtain ⟨x, b, lo, hi, rfl, _⟩ := h
    rfl
  · obtain ⟨x, b, lo, hi, rfl, hb, q⟩ := h
    refine ⟨_, 
(pss_one (ps_ret (pe_and (pe_call (ok_is_integer T) hr (by rfl) T.m_is_integer T.F_is_integer.kp T.b_is_integer .nil pass0 (pa_cons (pv 0) pa_nil)) (pe_one (pe_chain op_le op_le (pv 1) (pv 0) (pv 2)))))), ?_⟩
    refine ⟨x, rfl, x, b, rfl, hb, b, rfl, ?_⟩
    cases hb with
    | int i =>
      refine iteT ⟨_, rfl, _, rfl, lo, i, rfl, rfl, _, rfl, ?_⟩
      by_cases h1 : lo ≤ i
      · rw [decide_eq_true h1]
        refine iteT ⟨_, rfl, i, hi, rfl, rfl, ?_⟩
        have e : btM lo hi (.int i) = decide (i ≤ hi) := by simp [btM, h1]
        rw [e] at q
        exact q
      · rw [decide_eq_false h1]
        have e : btM lo hi (.int i) = false := by simp [btM, h1]
        rw [e] at q
        exact iteF q
    | non => exact iteF q
    | str z => exact iteF q
    | tup e => exact iteF q
    | lst e => exact iteF q
    | bl b => exact iteF q
end

/-! ### place words -/
def figs : List V := [.str "1", .str "2", .str "3", .str "4", .str "5", .str "6", .str "7", .str "8", .str "9"]
def fronts4 : List V := [.str "", .str "-", .str "half-", .str "half+"]
def figM (fr : List V) (z : Str) : Bool := inV (.str (cutS z none (some (-1)))) fr && inV (.str (cutS z (some (-1)) none)) figs
def ipM (z : Str) : Bool := inV (.str z) [.str "0", .str "half"] || figM fronts4 z
/-- the 38 place words, by their numbers -/
def wt : List Str := (["0", "1", "2", "3", "4", "5", "6", "7", "8", "9", "-1", "-2", "-3", "-4", "-5", "-6", "-7", "-8", "-9", "half", "half+1", "half+2", "half+3", "half+4", "half+5", "half+6", "half+7", "half+8", "half+9", "half-1", "half-2", "half-3", "half-4", "half-5", "half-6", "half-7", "half-8", "half-9"] : List String).map Str.ofString
/-- from where a place word counts (0: the front, 1: the end, 2: the middle), and how far -/
def poM (z : Str) : Option (Nat × Int) :=
  if z = "half" then some (2, 0)
  else if Txt.startswith z "half" then (PySem.intText? (Txt.removeprefix z "half")).map fun n => (2, n)
  else if Txt.startswith z "-" then (PySem.intText? z).map fun n => (1, n)
  else (PySem.intText? z).map fun n => (0, n)
def plB (b : Nat) (k : Int) : Int := if b = 2 then k.fdiv 2 else if b = 1 then k else 0
def plV (z : Str) (k : Int) : Int := match poM z with
  | some (b, n) => plB b k + n
  | none => 0
/-- what a law reckons of a place word -/
def loM (z : Str) : Option (Nat × Int) :=
  if cutS z none (some 4) = "half" then (if z = "half" then some (2, 0) else (PySem.intText? (cutS z (some 4) none)).map fun n => (2, n))
  else if cutS z none (some 1) = "-" then (PySem.intText? z).map fun n => (1, n)
  else (PySem.intText? z).map fun n => (0, n)
def chkW (z : Str) : Bool := (poM z).isSome && decide (z.length ≤ 100) && decide ((Txt.removeprefix z "half").length ≤ 100) && ipM z && decide (loM z = poM z) && decide ((cutS z (some 4) none).length ≤ 100) && decide (32 ∉ z.cps.toList) && PyData.strOk z
theorem wt_all : wt.all chkW = true := by decide +kernel
theorem wt_chk {z : Str} (h : z ∈ wt) : (poM z).isSome = true ∧ z.length ≤ 100 ∧ (Txt.removeprefix z "half").length ≤ 100 ∧ ipM z = true ∧ loM z = poM z ∧ (cutS z (some 4) none).length ≤ 100 ∧ 32 ∉ z.cps.toList ∧ PyData.strOk z = true := by
  have e := List.all_eq_true.mp wt_all z h
  simp only [chkW, Bool.and_eq_true, decide_eq_true_eq] at e
  obtain ⟨⟨⟨⟨⟨⟨⟨h1, h2⟩, h3⟩, h4⟩, h5⟩, h6⟩, h7⟩, h8⟩ := e
  exact ⟨h1, h2, h3, h4, h5, h6, h7, h8⟩
section
variable {P : Program} {w : World} {K : PySem.W.Frag} {mg : Str → Option Value} {base : Heap} {a : Ad}
def spFig (K : PySem.W.Frag) : Sp := fun vs H Q _ => ∃ p fr z, vs = [.ref p, .str z] ∧ SqT K H p fr ∧ fr.all flatV = true ∧ z.length ≤ sizeLine ∧ Q (.bl (figM fr z)) H
theorem ok_is_figure_behind (T : Tx w K mg a) : FnOk P w K mg base CX0 1 a.f_is_figure_behind a.d_is_figure_behind ["fronts", "text"] (spFig K) := by
  refine T.F_is_figure_behind.ok sc_is_figure_behind (fun vs H Q E h => ?_) (fun cdv A outer s H vs Q E hr h => ?_)
  · obtain ⟨p, fr, z, rfl, _⟩ := h
    rfl
  · obtain ⟨p, fr, z, rfl, hp, hf, hz, q⟩ := h
    refine ⟨_, 
(pss_one (ps_ret (pe_and (pe_cmpR op_in_seq (pe_slice sl_str (pv 1) po_none (po_some (pe_un un_neg pe_int))) (pv 0) (by rfl)) (pe_one (pe_cmpR op_in_seq (pe_slice sl_str (pv 1) (po_some (pe_un un_neg pe_int)) po_none) (pe_glob (v := .ref a.a_FIGURES) (by rfl) T.m_FIGURES rfl) (by rfl)))))), ?_⟩
    refine ⟨.str z, rfl, 1, rfl, -1, rfl, z, rfl, hz, .ref p, rfl, p, fr, rfl, .inr hp, rfl, hf, _, rfl, ?_⟩
    show if (inV (.str (cutS z none (some (-1)))) fr) = true then _ else _
    unfold figM at q
    by_cases h1 : inV (.str (cutS z none (some (-1)))) fr = true
    · rw [h1] at q ⊢
      exact ⟨.str z, rfl, 1, rfl, -1, rfl, z, rfl, hz, a.a_FIGURES, figs, rfl, .inr (T.q_FIGURES H), rfl, rfl, q⟩
    · rw [Bool.not_eq_true] at h1
      rw [h1] at q ⊢
      exact q
def spIsPlaceWord : Sp := fun vs H Q _ => ∃ z : Str, vs = [.str z] ∧ z.length ≤ sizeLine ∧ ∀ H', Same H H' → Q (.bl (ipM z)) H'
theorem ok_is_place_word (T : Tx w K mg a) : FnOk P w K mg base CX0 2 a.f_is_place_word a.d_is_place_word ["text"] spIsPlaceWord := by
  refine T.F_is_place_word.ok sc_is_place_word (fun vs H Q E h => ?_) (fun cdv A outer s H vs Q E hr h => ?_)
  · obtain ⟨z, rfl, _⟩ := h
    rfl
  · obtain ⟨z, rfl, hz, q⟩ := h
    refine ⟨_, 
(pss_one (ps_ret (pe_or (pe_cmpR op_in_seq (pv 0) (pe_tup (pa_cons pe_str (pa_cons pe_str pa_nil))) (by rfl)) (pe_one (pe_call (ok_is_figure_behind T) hr (by rfl) T.m_is_figure_behind T.F_is_figure_behind.kp T.b_is_figure_behind .nil pass0 (pa_cons (pe_glob (v := .ref a.a_PLACE_FRONTS) (by rfl) T.m_PLACE_FRONTS rfl) (pa_cons (pv 0) pa_nil))))))), ?_⟩
    refine ⟨.str z, rfl, (show 2 ≤ sizeLine by decide), fun p hp => ?_⟩
    have s1 : Same H (upd H p (.tup [.str "0", .str "half"])) := same_upd hp
    refine ⟨p, [.str "0", .str "half"], rfl, .inr (SqT.at upd_same), rfl, rfl, _, rfl, ?_⟩
    show if (inV (.str z) [.str "0", .str "half"]) = true then _ else _
    unfold ipM at q
    by_cases h1 : inV (.str z) [.str "0", .str "half"] = true
    · rw [h1] at q ⊢
      exact q _ s1
    · rw [Bool.not_eq_true] at h1
      rw [h1] at q ⊢
      exact ⟨.str z, rfl, a.a_PLACE_FRONTS, fronts4, z, rfl, T.q_PLACE_FRONTS _, rfl, hz, q _ s1⟩
def spPlaceOf : Sp := fun vs H Q _ => ∃ (z : Str) (k : Int), vs = [.str z, .int k] ∧ z ∈ wt ∧ Q (.int (plV z k)) H
theorem ok_place_of (T : Tx w K mg a) : FnOk P w K mg base CX0 1 a.f_place_of a.d_place_of ["word", "size"] spPlaceOf := by
  refine T.F_place_of.ok sc_place_of (fun vs H Q E h => ?_) (fun cdv A outer s H vs Q E hr h => ?_)
  · obtain ⟨z, k, rfl, _⟩ := h
    rfl
  · obtain ⟨z, k, rfl, hw, q⟩ := h
    obtain ⟨hp, hz, hrp, _⟩ := wt_chk hw
    refine ⟨_, 
(pss_cons (ps_if (pt_cmpR op_eq (pv 0) pe_str (nomark _))
  (pss_one (ps_ret (pe_op op_fdivN (pv 1) pe_int)))
  pss_nil)
  (pss_cons (ps_if (pt_val (pe_bm PySem.F.plainAttrs_str PySem.F.slot_str_startswith PySem.F.type_str_startswith mt_startswith (pv 0) (pa_cons pe_str pa_nil)))
  (pss_one (ps_ret (pe_op op_add (pe_op op_fdivN (pv 1) pe_int) (pe_callTy call_int_str (by rfl) T.z_int (by decide +kernel) (pa_cons (pe_bm PySem.F.plainAttrs_str PySem.F.slot_str_removeprefix PySem.F.type_str_removeprefix mt_removeprefix (pv 0) (pa_cons pe_str pa_nil)) pa_nil)))))
  pss_nil)
  (pss_cons (ps_if (pt_val (pe_bm PySem.F.plainAttrs_str PySem.F.slot_str_startswith PySem.F.type_str_startswith mt_startswith (pv 0) (pa_cons pe_str pa_nil)))
  (pss_one (ps_ret (pe_op op_add (pv 1) (pe_callTy call_int_str (by rfl) T.z_int (by decide +kernel) (pa_cons (pv 0) pa_nil)))))
  pss_nil)
  (pss_one (ps_ret (pe_callTy call_int_str (by rfl) T.z_int (by decide +kernel) (pa_cons (pv 0) pa_nil))))))), ?_⟩
    unfold plV at q
    unfold poM at q hp
    refine ⟨.str z, rfl, rfl, _, rfl, ?_⟩
    by_cases h1 : z = "half"
    · rw [if_pos h1] at q
      rw [decide_eq_true (show V.str z = V.str "half" by rw [h1])]
      refine ⟨.int k, rfl, k, 2, rfl, rfl, ⟨by decide, by decide⟩, ?_⟩
      simpa [plB] using q
    · rw [if_neg h1] at q hp
      rw [decide_eq_false (show ¬ V.str z = V.str "half" from fun e => h1 (V.str.inj e))]
      refine ⟨.str z, rfl, rfl, z, "half", rfl, rfl, _, rfl, ?_⟩
      by_cases h2 : Txt.startswith z "half" = true
      · rw [if_pos h2] at q hp
        rw [h2]
        cases hn : PySem.intText? (Txt.removeprefix z "half") with
        | none =>
          rw [hn] at hp
          cases hp
        | some n =>
          rw [hn] at q
          refine ⟨.int k, rfl, k, 2, rfl, rfl, ⟨by decide, by decide⟩, .str z, rfl, rfl, z, "half", rfl, rfl, sz (by omega), _, n, rfl, hn, by omega, _, n, rfl, rfl, q⟩
      · rw [if_neg h2] at q hp
        rw [Bool.not_eq_true] at h2
        rw [h2]
        refine ⟨.str z, rfl, rfl, z, "-", rfl, rfl, _, rfl, ?_⟩
        cases hn : PySem.intText? z with
        | none =>
          rw [hn] at hp
          simp at hp
        | some n =>
          rw [hn] at q
          by_cases h3 : Txt.startswith z "-" = true
          · rw [if_pos h3] at q
            rw [h3]
            exact ⟨.int k, rfl, .str z, rfl, z, n, rfl, hn, by omega, k, n, rfl, rfl, q⟩
          · rw [if_neg h3] at q
            rw [Bool.not_eq_true] at h3
            rw [h3]
            refine ⟨.str z, rfl, z, n, rfl, hn, by omega, ?_⟩
            simpa [plB] using q
theorem num_len : ∀ i : Fin 40, (Str.ofString (toString ((i.val : Nat) : Int))).length ≤ 20 := by decide +kernel
theorem lg (i : Int) (h0 : 0 ≤ i) (h1 : i < 40) : i.natAbs.log2 < 1920 := by
  have : i.natAbs < 2 ^ 6 := by omega
  exact Nat.lt_of_lt_of_le (PySem.Flt.log2_lt_of (by decide) this) (by decide)
theorem ln (x : Str) (i : Int) (hx : x.length ≤ 20) (h0 : 0 ≤ i) (h1 : i < 40) : x.length + (Str.ofString (toString i)).length ≤ 100000 := by
  have e := num_len ⟨i.toNat, by omega⟩
  have e2 : ((i.toNat : Nat) : Int) = i := by omega
  rw [show (((⟨i.toNat, by omega⟩ : Fin 40).val : Nat) : Int) = i from e2] at e
  omega
def spLawPlaceWord : Sp := fun vs H Q _ => ∃ (d c : Addr) (n : Nat), vs = [.ref d] ∧ Pen H d c n ∧ n < 2 ^ 40 ∧ ∀ z H', z ∈ wt → Pen H' d c (n + 1) → But d H H' → Q (.str z) H'
def lwM (k : Int) : Str := if k < 10 then toString k else if k < 19 then Str.append "-" (toString (k - 9)) else if k = 19 then "half" else if k < 29 then Str.append "half+" (toString (k - 19)) else Str.append "half-" (toString (k - 28))
theorem lw_wt : ∀ k : Fin 38, lwM ((k.val : Nat) : Int) ∈ wt := by decide +kernel
theorem ok__law_place_word (T : Tx w K mg a) : FnOk P w K mg base CX0 2 a.f__law_place_word a.d__law_place_word ["pen"] spLawPlaceWord := by
  refine T.F__law_place_word.ok sc__law_place_word (fun vs H Q E h => ?_) (fun cdv A outer s H vs Q E hr h => ?_)
  · obtain ⟨d, c, n, rfl, _⟩ := h
    rfl
  · obtain ⟨d, c, n, rfl, hp, hn, q⟩ := h
    refine ⟨_, 
(pss_cons (ps_set (i := 1) sc__law_place_word.nd rfl (.inl rfl) (pe_call (ok__law_draw T) hr (by rfl) T.m__law_draw T.F__law_draw.kp T.b__law_draw .nil pass0 (pa_cons (pv 0) (pa_cons pe_int pa_nil))))
  (pss_cons (ps_if (pt_cmpR op_lt (pv 1) pe_int (nomark _))
  (pss_one (ps_ret (pe_callTy call_str_int (by rfl) T.z_str (by decide +kernel) (pa_cons (pv 1) pa_nil))))
  pss_nil)
  (pss_cons (ps_if (pt_cmpR op_lt (pv 1) pe_int (nomark _))
  (pss_one (ps_ret (pe_op op_add_str pe_str (pe_callTy call_str_int (by rfl) T.z_str (by decide +kernel) (pa_cons (pe_op op_sub (pv 1) pe_int) pa_nil)))))
  pss_nil)
  (pss_cons (ps_if (pt_cmpR op_eq (pv 1) pe_int (nomark _))
  (pss_one (ps_ret pe_str))
  pss_nil)
  (pss_one (ps_ret (pe_ifExp (pt_cmpR op_lt (pv 1) pe_int (nomark _)) (pe_op op_add_str pe_str (pe_callTy call_str_int (by rfl) T.z_str (by decide +kernel) (pa_cons (pe_op op_sub (pv 1) pe_int) pa_nil))) (pe_op op_add_str pe_str (pe_callTy call_str_int (by rfl) T.z_str (by decide +kernel) (pa_cons (pe_op op_sub (pv 1) pe_int) pa_nil)))))))))), ?_⟩
    refine ⟨.ref d, rfl, d, c, n, 38, rfl, hp, hn, by decide, by decide, fun k H1 k0 k1 hp1 hb => ?_⟩
    have q1 := fun z hz => q z H1 hz hp1 hb
    have hw : lwM k ∈ wt := by
      have e := lw_wt ⟨k.toNat, by omega⟩
      have e2 : ((k.toNat : Nat) : Int) = k := by omega
      rw [show (((⟨k.toNat, by omega⟩ : Fin 38).val : Nat) : Int) = k from e2] at e
      exact e
    have hq := q1 _ hw
    unfold lwM at hq
    refine ⟨.int k, rfl, k, 10, rfl, rfl, _, rfl, ite2 (fun e1 => ?_) (fun e1 => ?_)⟩
    · rw [if_pos (of_decide_eq_true e1)] at hq
      exact ⟨.int k, rfl, k, rfl, lg k k0 (by omega), hq⟩
    have e1' : ¬ k < 10 := fun z => e1 (decide_eq_true z)
    rw [if_neg e1'] at hq
    refine ⟨.int k, rfl, k, 19, rfl, rfl, _, rfl, ite2 (fun e2 => ?_) (fun e2 => ?_)⟩
    · rw [if_pos (of_decide_eq_true e2)] at hq
      have := of_decide_eq_true e2
      exact ⟨.int k, rfl, k, 9, rfl, rfl, k - 9, rfl, lg _ (by omega) (by omega), _, _, rfl, rfl, sz (ln _ _ (by decide) (by omega) (by omega)), hq⟩
    have e2' : ¬ k < 19 := fun z => e2 (decide_eq_true z)
    rw [if_neg e2'] at hq
    refine ⟨.int k, rfl, rfl, _, rfl, ite2 (fun e3 => ?_) (fun e3 => ?_)⟩
    · rw [if_pos (V.int.inj (of_decide_eq_true e3))] at hq
      exact hq
    have e3' : ¬ k = 19 := fun z => e3 (decide_eq_true (by rw [z]))
    rw [if_neg e3'] at hq
    refine ⟨.int k, rfl, k, 29, rfl, rfl, _, rfl, ite2 (fun e4 => ?_) (fun e4 => ?_)⟩
    · rw [if_pos (of_decide_eq_true e4)] at hq
      have := of_decide_eq_true e4
      exact ⟨.int k, rfl, k, 19, rfl, rfl, k - 19, rfl, lg _ (by omega) (by omega), _, _, rfl, rfl, sz (ln _ _ (by decide) (by omega) (by omega)), hq⟩
    have e4' : ¬ k < 29 := fun z => e4 (decide_eq_true z)
    rw [if_neg e4'] at hq
    exact ⟨.int k, rfl, k, 28, rfl, rfl, k - 28, rfl, lg _ (by omega) (by omega), _, _, rfl, rfl, sz (ln _ _ (by decide) (by omega) (by omega)), hq⟩
end

/-! ### enumerate(tuple, start=k) -/
theorem callWith_typeKw {M : Model} {A : Around} {E : Value → Shared → Prop} {s : Shared} {env : Env} {pos : Pos} {T : String} {e : Expr} {rest : List Expr} {kws : List Keyword} {Q : Value → Shared → Prop}
    (h : wpAny M A (spliced (backTo pos (starEach (e :: rest) env))) (fun vs s₁ => wpAny M A (evalAll ((backToKw pos (keywordEach kws env)).map (·.2))) (fun us s₂ => wpAny M A (call (.type T) vs (((backToKw pos (keywordEach kws env)).filterMap (·.1)).zip us)) Q E s₂) E s₁) E s)
    (he : backTo pos (starEach (e :: rest) env) = (false, eval e env) :: backTo pos (starEach rest env) := by rfl)
    (hpl : (backTo pos (starEach (e :: rest) env)).any (·.1) = false := by rfl) (hall : (backToKw pos (keywordEach kws env)).all (·.1.isSome) = true := by rfl) (hkw : (backToKw pos (keywordEach kws env)).any (·.1.isNone) = false := by rfl) :
    wpAny M A (callWith pos (.type T) [] (backTo pos (starEach (e :: rest) env)) (backToKw pos (keywordEach kws env))) Q E s := by
  have key : wpAny M A (evalArgs (.type T) true (backTo pos (starEach (e :: rest) env)) (backToKw pos (keywordEach kws env))) (fun x s₁ => wpAny M A (call (.type T) ([] ++ x.pos) x.kw) Q E s₁) E s := by
    rw [he] at h ⊢
    exact evalArgs_kwB hall h
  unfold callWith
  refine wpAny_bind (wpAny_holding (thn key fun x s₁ h₁ => wpAny_bind (wpAny_standAt ?_)))
  simp only [hpl, hkw, Bool.or_false]
  exact wpAny_bind (wpAny_pure (wpAny_bind (thn h₁ fun r s₂ hr => wpAny_bind (wpAny_holding (wpAny_point (wpAny_pure hr))))))
def IteF (K : PySem.W.Frag) (p : Addr) (k : Int) : It where
  go := fun i H => ∃ (xs : List V) (x : V), SqT K H p xs ∧ xs[i]? = some x
  yld := fun i H v H' => ∃ q x, v = .ref q ∧ H q = none ∧ H' = upd H q (.tup [.int (k + (i : Nat)), x]) ∧ ∀ xs, SqT K H p xs → xs[i]? = some x
  stop := fun i H => ∃ xs : List V, SqT K H p xs ∧ xs.length = i
theorem turn_enumF {P : Program} {w : World} {K : PySem.W.Frag} {elts : List Expr} {kk : Nat} {tpos : Pos} (p e it : Addr) (k : Int) :
    Turn P w K (.Tuple elts kk tpos) (IteF K p k) [e, it] e (fun i h => (∃ old, IsEnum h e it (k + ((i : Nat) : Int)) old) ∧ h.IsTupleIter it p i ∧ e ≠ it) where
  mem := List.mem_cons_self ..
  obj := by
    rintro i h ⟨⟨old, he⟩, ⟨o, ho, hc, hd⟩, _⟩ b hb
    simp only [List.mem_cons, List.not_mem_nil, or_false] at hb
    rcases hb with rfl | rfl
    · exact ⟨_, he, fun v q => nomatch q⟩
    · exact ⟨o, ho, fun v q => by rw [hd] at q; cases q⟩
  keep := by
    rintro i h h' ⟨⟨old, he⟩, hi, hne⟩ kp
    exact ⟨⟨old, kp e (by simp) _ he⟩, hi.at fun o q => kp it (by simp) o q, hne⟩
  item := by
    rintro X rfl rfl rfl hc i pins s σ H E I hf ⟨⟨old, he⟩, hit, hne⟩ ⟨xs, x, hq, hx⟩
    obtain ⟨its, rv, z, hz⟩ := I.tuple hq
    obtain ⟨u, hu, ru⟩ := rv.get hx
    have hel : e < s.heap.objs.size := Heap.lt_size he
    have hil : it < s.heap.objs.size := by
      obtain ⟨_, q, _⟩ := hit
      exact Heap.lt_size q
    have hpe : e ≠ p := fun q => by
      obtain ⟨o, ho, hc1, _⟩ := (show s.heap.IsTuple p its.toArray from z)
      rw [← q] at ho
      rw [Option.some.inj (ho.symm.trans he)] at hc1
      injection hc1 with hc1
      exact absurd hc1 (by decide)
    have hpi : p ≠ it := fun q => by
      obtain ⟨o, ho, hc1, _⟩ := (show s.heap.IsTuple p its.toArray from z)
      obtain ⟨o2, ho2, hc2, _⟩ := hit
      rw [q] at ho
      rw [Option.some.inj (ho.symm.trans ho2), hc2] at hc1
      injection hc1 with hc1
      exact absurd hc1 (by decide)
    have D := Draws.tuple (prog := X.prog) (w := X.w) (A := X.A.in1) (I.ok.hd hc) it p hpi its.toArray
    have hlt : i < its.toArray.size := by
      have := (List.getElem?_eq_some_iff.mp hu).1
      simpa using this
    refine wpAny_pyNext_enum_itemC (i := i) (c := k + (i : Int)) D he ⟨hit, z⟩ hlt hne (by simp [hne, hpe]) ?_
    intro v h' tk hv ho hst' hT hsz hk
    have ev : v = u := by
      have h1 : its[i]? = some v := by simpa using hv
      exact Option.some.inj (h1.symm.trans hu)
    subst ev
    refine ⟨_, rfl, wpAny_letOwnedTupleGo_enum (s := { s with heap := h', toks := tk + 1 }) ho ?_⟩
    intro h'' he' sb
    have hT2 : h''.get? s.heap.objs.size = some { cls := .type "tuple", data := .seq #[.int (k + (i : Int)) tk, v] } := (sb.2 _ (Nat.ne_of_gt hel)).trans hT
    have new : ObjOk X.prog X.w (upd H s.heap.objs.size (.tup [.int (k + (i : Nat)), x])) h'' s.heap.objs.size (.tup [.int (k + (i : Nat)), x]) :=
      ⟨(by decide : 2 ≤ sizeLine), [.int (k + (i : Int)) tk, v], .cons ⟨_, rfl⟩ (.cons ru .nil), _, hT2, rfl, _, rfl⟩
    have I1 : Inv X pins σ (upd H s.heap.objs.size (.tup [.int (k + (i : Nat)), x])) { s with heap := h'', toks := tk + 1 } := by
      refine I.turnedNew (ch := [e, it]) (fun b ob hb q => ?_) hf (Nat.le_refl _) new
      have n1 : b ≠ e := fun y => hb (by simp [y])
      have n2 : b ≠ it := fun y => hb (by simp [y])
      exact (sb.2 b n1).trans (hk b ob n1 n2 q)
    refine ⟨.ref s.heap.objs.size, _, I1, rfl, ⟨_, x, rfl, I.hok.fresh (Nat.le_refl _), rfl, fun ys hy => ?_⟩, ⟨⟨v, ?_⟩, hst'.1.at fun o q => (sb.2 it hne.symm).trans q, hne⟩, fun b hb => ?_⟩
    · rw [I.tuple_inj hy hq]
      exact hx
    · rw [show k + ((i + 1 : Nat) : Int) = k + (i : Int) + 1 by omega]
      exact he'
    · have hb' : b < s.heap.objs.size := by
        simp only [List.mem_cons, List.not_mem_nil, or_false] at hb
        rcases hb with rfl | rfl
        · exact hel
        · exact hil
      rw [upd_ne (Nat.ne_of_lt hb')]
      exact (hf b hb).1
  done := by
    rintro X rfl rfl rfl hc i pins s σ H E I hf ⟨⟨old, he⟩, hit, hne⟩ ⟨xs, hq, hx⟩
    obtain ⟨its, rv, z, hz⟩ := I.tuple hq
    obtain ⟨f0, f1, f2, f3, f4, f5⟩ := hf it (by simp)
    have hl := rv.length
    have hpi : p ≠ it := fun q => by
      obtain ⟨o, ho, hc1, _⟩ := (show s.heap.IsTuple p its.toArray from z)
      obtain ⟨o2, ho2, hc2, _⟩ := hit
      rw [q] at ho
      rw [Option.some.inj (ho.symm.trans ho2), hc2] at hc1
      injection hc1 with hc1
      exact absurd hc1 (by decide)
    have D := Draws.tuple (prog := X.prog) (w := X.w) (A := X.A.in1) (I.ok.hd hc) it p hpi its.toArray
    have ei : i = its.toArray.size := by
      simp only [List.size_toArray]
      omega
    subst ei
    exact wpAny_pyNext_enum_endD D he ⟨hit, z⟩ fun h' eb => ⟨rfl, I.turned (t' := s.toks) (fun b o hb e => eb b o hb e) f0 f1 f3 f4 f5⟩
  self := by
    rintro A i s Q E ⟨⟨_, he⟩, _⟩ h
    exact wpAny_pyIter_enum he h
def iEnF (K : PySem.W.Frag) (ta : TA) (tk : TE) : TI := fun σ H R => ta σ H fun vs H1 => tk σ H1 fun y H2 => ∃ p xs k, vs = [.ref p] ∧ y = .int k ∧ -(2 ^ 63) ≤ k ∧ k < 2 ^ 63 ∧ SqT K H2 p xs ∧ R (IteF K p k) H2
theorem pi_enumF {X : Cx} {e e2 : Expr} {ta : TA} {tk : TE} {p pos tpos kp : Pos} {elts : List Expr} {kk : Nat} (hg : Gl X "enumerate") (hm : X.mg "enumerate" = none) (ha : PA X [e] ta) (hk : PE X e2 tk) (hs : starEach [e] X.env = [(false, eval e X.env)] := by rfl) :
    PI X (.Tuple elts kk tpos) (.Call (.Name "enumerate" p) [e] [⟨some "start", e2, kp⟩] pos) (iEnF X.K ta tk) := by
  constructor
  intro pins s σ H R I h
  refine wpAny_Call_Name_kw (ld_blt I hg hm boot_enumerate (callWith_typeKw (thn (ha.run pos pins s σ H _ I h) ?_) (by rw [hs]; rfl) (by rw [hs]; rfl)))
  rintro us s1 ⟨vs, H1, I1, r1, q1⟩
  refine kws_cons (thn (hk.run pins s1 σ H1 _ I1 q1) ?_)
  rintro u2 s2 ⟨y, H2, I2, r2, q0, xs, k, rfl, rfl, hk0, hk1, hq, q⟩
  refine kws_nil ?_
  obtain ⟨t2, rfl⟩ := r2
  cases r1 with
  | cons r rr =>
    cases rr
    cases r
    obtain ⟨its, _, z, _⟩ := I2.tuple hq
    refine enum_begins_start (begins_tuple q0 its.toArray) z hk0 hk1 ?_
    intro h' he hit hsz hkp
    have fp : ∀ b ∈ [s2.heap.objs.size + 1, s2.heap.objs.size], FpOk X pins H2 b := by
      intro b hb
      simp only [List.mem_cons, List.not_mem_nil, or_false] at hb
      have hle : s2.heap.objs.size ≤ b := by
        rcases hb with rfl | rfl
        · exact Nat.le_add_right _ _
        · exact Nat.le_refl _
      exact I2.fpOk hle (I2.hok.fresh hle)
    have he' : IsEnum h' (s2.heap.objs.size + 1) s2.heap.objs.size (k + ((0 : Nat) : Int)) .none := by
      rw [show k + ((0 : Nat) : Int) = k by omega]
      exact he
    exact wpAny_pyIter_enum he ⟨s2.heap.objs.size + 1, [s2.heap.objs.size + 1, s2.heap.objs.size], _, _, H2, rfl, I2.kept (t' := s2.toks) hkp, turn_enumF q0 (s2.heap.objs.size + 1) s2.heap.objs.size k, ⟨⟨.none, he'⟩, ⟨_, hit, rfl, rfl⟩, Nat.succ_ne_self _⟩, fp, q⟩
theorem walk_enumF {K : PySem.W.Frag} {p : Addr} {xs : List V} {k : Int} : Walk (IteF K p k) xs.length (fun H => SqT K H p xs) (YPair (fun i => some (.int (k + (i : Nat)))) (fun i => xs[i]?)) where
  goes := fun i H hi h => ⟨xs, xs[i], h, List.getElem?_eq_getElem hi⟩
  stops := fun H h => ⟨xs, h, rfl⟩
  yields := by
    rintro i H v H' hi h ⟨q, x, rfl, hn, rfl, hx⟩
    exact ⟨q, _, x, rfl, hn, rfl, rfl, hx xs h⟩

/-! ### rearrangements as lists of ints -/
def ri (n : Nat) : List Int := (List.range n).map fun i : Nat => (i : Int)
theorem ri_len (n : Nat) : (ri n).length = n := by
  unfold ri
  rw [List.length_map, List.length_range]
theorem ri_mem {n : Nat} {x : Int} : x ∈ ri n ↔ 0 ≤ x ∧ x < (n : Int) := by
  unfold ri
  simp only [List.mem_map, List.mem_range]
  constructor
  · rintro ⟨k, hk, rfl⟩
    omega
  · rintro ⟨h0, h1⟩
    exact ⟨x.toNat, by omega, by omega⟩
theorem ri_get {n i : Nat} (h : i < n) : (ri n)[i]? = some (i : Int) := by
  unfold ri
  rw [List.getElem?_map, List.getElem?_range h]
  rfl
theorem ri_nodup (n : Nat) : (ri n).Nodup := by
  unfold ri
  refine List.Pairwise.map _ (fun i j (h : i ≠ j) => ?_) List.nodup_range
  omega
theorem rgV_ri (n : Nat) : rgV 0 (n : Int) = (ri n).map V.int := by
  unfold rgV ri
  rw [List.map_map]
  have e : ((n : Int) - 0).toNat = n := by omega
  rw [e]
  refine List.map_congr_left fun i _ => ?_
  show V.int (0 + (i : Nat)) = V.int (i : Int)
  rw [Int.zero_add]
/-- a rearrangement: the ints from 0 on, each once -/
def IsRow (xs : List Int) : Prop := xs.Perm (ri xs.length)
theorem IsRow.mem {xs : List Int} (h : IsRow xs) {x : Int} : x ∈ xs ↔ 0 ≤ x ∧ x < (xs.length : Int) := by
  rw [h.mem_iff, ri_mem]
theorem IsRow.nodup {xs : List Int} (h : IsRow xs) : xs.Nodup := h.nodup_iff.mpr (ri_nodup _)
theorem IsRow.at {xs : List Int} (h : IsRow xs) {i : Nat} (hi : i < xs.length) : 0 ≤ xs[i] ∧ xs[i].toNat < xs.length := by
  have := h.mem.mp (List.getElem_mem hi)
  omega
theorem isRow_ri (n : Nat) : IsRow (ri n) := by
  unfold IsRow
  rw [ri_len]
theorem isRow_of {xs : List Int} (n : Nat) (h : xs.Perm (ri n)) : IsRow xs := by
  unfold IsRow
  have := h.length_eq
  rw [ri_len] at this
  rw [this]
  exact h
/-- without doubles and within bounds: a rearrangement -/
theorem nodup_sub_len : ∀ {xs ys : List Int}, xs.Nodup → (∀ x ∈ xs, x ∈ ys) → xs.length ≤ ys.length
  | [], _, _, _ => Nat.zero_le _
  | x :: r, ys, hn, hs => by
    have hx := hs x (List.mem_cons_self ..)
    have hn' := List.nodup_cons.mp hn
    have h2 := nodup_sub_len (xs := r) (ys := ys.erase x) hn'.2 fun y hy => by
      have hne : y ≠ x := fun e => hn'.1 (e ▸ hy)
      exact (List.mem_erase_of_ne hne).mpr (hs y (List.mem_cons_of_mem _ hy))
    rw [List.length_erase_of_mem hx] at h2
    have : 0 < ys.length := List.length_pos_of_mem hx
    simp only [List.length_cons]
    omega
theorem perm_of_nodup : ∀ {xs ys : List Int}, xs.Nodup → ys.Nodup → (∀ x ∈ xs, x ∈ ys) → xs.length = ys.length → xs.Perm ys
  | [], ys, _, _, _, e => by
    have : ys = [] := List.eq_nil_of_length_eq_zero e.symm
    subst this
    exact List.Perm.refl _
  | x :: r, ys, hn, hy, hs, e => by
    have hx := hs x (List.mem_cons_self ..)
    have hn' := List.nodup_cons.mp hn
    have hl : r.length = (ys.erase x).length := by
      rw [List.length_erase_of_mem hx]
      simp only [List.length_cons] at e
      omega
    have p := perm_of_nodup (xs := r) (ys := ys.erase x) hn'.2 (hy.erase x) (fun y h => by
      have hne : y ≠ x := fun e => hn'.1 (e ▸ h)
      exact (List.mem_erase_of_ne hne).mpr (hs y (List.mem_cons_of_mem _ h))) hl
    exact (p.cons x).trans (List.perm_cons_erase hx).symm
theorem isRow_mk {xs : List Int} (hn : xs.Nodup) (hb : ∀ x ∈ xs, 0 ≤ x ∧ x < (xs.length : Int)) : IsRow xs :=
  perm_of_nodup hn (ri_nodup _) (fun x hx => ri_mem.mpr (hb x hx)) (ri_len _).symm
/-- all places are there -/
theorem IsRow.all {xs : List Int} (h : IsRow xs) {v : Nat} (hv : v < xs.length) : (v : Int) ∈ xs := h.mem.mpr (by omega)
/-! ### picking members -/
def pickI (ts rs : List Int) : List Int := rs.map fun r => ts.getD r.toNat 0
theorem pick_len (ts rs : List Int) : (pickI ts rs).length = rs.length := by
  unfold pickI
  rw [List.length_map]
theorem pick_get {ts rs : List Int} {i : Nat} (h : i < rs.length) : (pickI ts rs)[i]'(by rw [pick_len]; exact h) = ts.getD rs[i].toNat 0 := by
  simp [pickI]
/-- done one behind the other -/
theorem pick_pick {ts xs ys : List Int} (hx : ∀ y ∈ ys, 0 ≤ y ∧ y.toNat < xs.length) : pickI (pickI ts xs) ys = pickI ts (pickI xs ys) := by
  unfold pickI
  rw [List.map_map]
  refine List.map_congr_left fun y hy => ?_
  have h := (hx y hy).2
  show (List.map (fun r : Int => ts.getD r.toNat 0) xs).getD y.toNat 0 = ts.getD (xs.getD y.toNat 0).toNat 0
  rw [List.getD_eq_getElem?_getD, List.getElem?_map, List.getElem?_eq_getElem h, List.getD_eq_getElem?_getD (l := xs), List.getElem?_eq_getElem h]
  rfl
theorem pick_ri (xs : List Int) : pickI xs (ri xs.length) = xs := by
  refine List.ext_getElem (by rw [pick_len, ri_len]) fun i h1 h2 => ?_
  rw [pick_get (by rw [ri_len]; exact h2)]
  have e : (ri xs.length)[i]'(by rw [ri_len]; exact h2) = (i : Int) := by
    have := ri_get h2
    rw [List.getElem?_eq_getElem (by rw [ri_len]; exact h2)] at this
    exact Option.some.inj this
  rw [e, Int.toNat_natCast, getD_get h2]
theorem ri_pick {xs : List Int} {n : Nat} (h : ∀ x ∈ xs, 0 ≤ x ∧ x < (n : Int)) : pickI (ri n) xs = xs := by
  unfold pickI
  conv => rhs; rw [← List.map_id xs]
  refine List.map_congr_left fun x hx => ?_
  have := h x hx
  show (ri n).getD x.toNat 0 = x
  rw [List.getD_eq_getElem?_getD, ri_get (by omega)]
  show ((x.toNat : Nat) : Int) = x
  omega
/-- a rearrangement of a rearrangement's members -/
theorem pick_perm {ts rs : List Int} (hr : IsRow rs) (hl : rs.length = ts.length) : (pickI ts rs).Perm ts := by
  have p : (pickI ts rs).Perm (pickI ts (ri rs.length)) := List.Perm.map _ hr
  rw [hl, pick_ri] at p
  exact p
theorem isRow_pick {xs ys : List Int} (hx : IsRow xs) (hy : IsRow ys) (hl : ys.length = xs.length) : IsRow (pickI xs ys) := by
  refine isRow_of xs.length ((pick_perm hy hl).trans hx)
/-! ### taking back -/
/-- bs takes xs back -/
def InvOf (xs bs : List Int) : Prop := bs.length = xs.length ∧ ∀ (j : Nat) (h : j < xs.length), bs[xs[j].toNat]? = some (j : Int)
theorem InvOf.pick {xs bs : List Int} (h : InvOf xs bs) (hx : IsRow xs) : pickI bs xs = ri xs.length := by
  refine List.ext_getElem (by rw [pick_len, ri_len]) fun i h1 h2 => ?_
  rw [pick_len] at h1
  rw [pick_get h1, List.getD_eq_getElem?_getD, h.2 i h1]
  have := ri_get h1
  rw [List.getElem?_eq_getElem h2] at this
  exact (Option.some.inj this).symm
theorem InvOf.mem {xs bs : List Int} (h : InvOf xs bs) (hx : IsRow xs) {v : Nat} (hv : v < xs.length) : ∃ (j : Nat) (hj : j < xs.length), xs[j] = (v : Int) ∧ bs[v]? = some (j : Int) := by
  obtain ⟨j, hj, e⟩ := List.getElem_of_mem (hx.all hv)
  have := h.2 j hj
  rw [e, Int.toNat_natCast] at this
  exact ⟨j, hj, e, this⟩
theorem InvOf.pick2 {xs bs : List Int} (h : InvOf xs bs) (hx : IsRow xs) : pickI xs bs = ri xs.length := by
  refine List.ext_getElem (by rw [pick_len, ri_len, h.1]) fun i h1 h2 => ?_
  rw [pick_len, h.1] at h1
  obtain ⟨j, hj, e, eb⟩ := h.mem hx h1
  have hb : i < bs.length := by rw [h.1]; exact h1
  rw [pick_get hb]
  have e2 : bs[i] = (j : Int) := by
    rw [List.getElem?_eq_getElem hb] at eb
    exact Option.some.inj eb
  rw [e2, Int.toNat_natCast, getD_get hj, e]
  have := ri_get h1
  rw [List.getElem?_eq_getElem h2] at this
  exact (Option.some.inj this).symm
theorem InvOf.bound {xs bs : List Int} (h : InvOf xs bs) (hx : IsRow xs) : ∀ y ∈ bs, 0 ≤ y ∧ y.toNat < xs.length := by
  intro y hy
  obtain ⟨i, hi, e⟩ := List.getElem_of_mem hy
  obtain ⟨j, hj, _, eb⟩ := h.mem hx (v := i) (by rw [← h.1]; exact hi)
  rw [List.getElem?_eq_getElem hi] at eb
  have := Option.some.inj eb
  omega
theorem InvOf.row {xs bs : List Int} (h : InvOf xs bs) (hx : IsRow xs) : IsRow bs := by
  refine isRow_mk ?_ fun y hy => ?_
  · rw [List.nodup_iff_pairwise_ne, List.pairwise_iff_getElem]
    intro i j hi hj hij e
    obtain ⟨u, hu, e1, b1⟩ := h.mem hx (v := i) (by rw [← h.1]; exact hi)
    obtain ⟨v, hv, e2, b2⟩ := h.mem hx (v := j) (by rw [← h.1]; exact hj)
    rw [List.getElem?_eq_getElem hi] at b1
    rw [List.getElem?_eq_getElem hj] at b2
    have q1 := Option.some.inj b1
    have q2 := Option.some.inj b2
    have : u = v := by omega
    subst this
    rw [e1] at e2
    omega
  · have := h.bound hx y hy
    rw [h.1]
    omega
theorem InvOf.uniq {xs b1 b2 : List Int} (h1 : InvOf xs b1) (h2 : InvOf xs b2) (hx : IsRow xs) : b1 = b2 := by
  refine List.ext_getElem (by rw [h1.1, h2.1]) fun i q1 q2 => ?_
  obtain ⟨u, hu, e1, y1⟩ := h1.mem hx (v := i) (by rw [← h1.1]; exact q1)
  have y2 := h2.2 u hu
  rw [e1, Int.toNat_natCast] at y2
  rw [List.getElem?_eq_getElem q1] at y1
  rw [List.getElem?_eq_getElem q2] at y2
  exact (Option.some.inj y1).trans (Option.some.inj y2).symm

/-! ### amounts, moves -/
def am : List Str := ([ "1", "2", "3", "4", "5", "6", "7", "8", "9", "-1", "-2", "-3", "-4", "-5", "-6", "-7", "-8", "-9", "half"] : List String).map Str.ofString
def fronts2 : List V := [.str "", .str "-"]
def iaM (z : Str) : Bool := decide (z = "half") || figM fronts2 z
def amV (z : Str) (m : Int) : Int := if z = "half" then m.fdiv 2 else (PySem.intText? z).getD 0
def chkA (z : Str) : Bool := (decide (z = "half") || (PySem.intText? z).isSome) && decide (z.length ≤ 100) && iaM z && decide (32 ∉ z.cps.toList) && PyData.strOk z
theorem am_all : am.all chkA = true := by decide +kernel
theorem am_chk {z : Str} (h : z ∈ am) : (z = "half" ∨ (PySem.intText? z).isSome = true) ∧ z.length ≤ 100 ∧ iaM z = true ∧ 32 ∉ z.cps.toList ∧ PyData.strOk z = true := by
  have e := List.all_eq_true.mp am_all z h
  simp only [chkA, Bool.and_eq_true, Bool.or_eq_true, decide_eq_true_eq] at e
  obtain ⟨⟨⟨⟨h1, h2⟩, h3⟩, h4⟩, h5⟩ := e
  exact ⟨h1, h2, h3, h4, h5⟩
inductive Mv where
  | exch (x y : Str) | roll (x y c : Str) | turn
  deriving DecidableEq
def Mv.parts : Mv → List Str
  | .exch x y => ["exchange", x, y]
  | .roll x y c => ["roll", x, y, c]
  | .turn => ["turn"]
def Mv.ok : Mv → Prop
  | .exch x y => x ∈ wt ∧ y ∈ wt
  | .roll x y c => x ∈ wt ∧ y ∈ wt ∧ c ∈ am
  | .turn => True
def strsV (zs : List Str) : List V := zs.map V.str
theorem strs_flat (zs : List Str) : (strsV zs).all flatV = true := by
  unfold strsV
  rw [List.all_map]
  exact List.all_eq_true.mpr fun z _ => rfl
theorem strs_get {zs : List Str} {i : Nat} {z : Str} (h : zs[i]? = some z) : atI (strsV zs) (i : Int) = some (.str z) := by
  refine atI_nat ?_
  unfold strsV
  rw [List.getElem?_map, h]
  rfl
section
variable {P : Program} {w : World} {K : PySem.W.Frag} {mg : Str → Option Value} {base : Heap} {a : Ad}
def spIsAmount : Sp := fun vs H Q _ => ∃ z : Str, vs = [.str z] ∧ z.length ≤ sizeLine ∧ Q (.bl (iaM z)) H
theorem ok_is_amount (T : Tx w K mg a) : FnOk P w K mg base CX0 2 a.f_is_amount a.d_is_amount ["text"] spIsAmount := by
  refine T.F_is_amount.ok sc_is_amount (fun vs H Q E h => ?_) (fun cdv A outer s H vs Q E hr h => ?_)
  · obtain ⟨z, rfl, _⟩ := h
    rfl
  · obtain ⟨z, rfl, hz, q⟩ := h
    refine ⟨_, 
(pss_one (ps_ret (pe_or (pe_cmpR op_eq (pv 0) pe_str (nomark _)) (pe_one (pe_call (ok_is_figure_behind T) hr (by rfl) T.m_is_figure_behind T.F_is_figure_behind.kp T.b_is_figure_behind .nil pass0 (pa_cons (pe_glob (v := .ref a.a_AMOUNT_FRONTS) (by rfl) T.m_AMOUNT_FRONTS rfl) (pa_cons (pv 0) pa_nil))))))), ?_⟩
    refine ⟨.str z, rfl, rfl, _, rfl, ?_⟩
    unfold iaM at q
    by_cases h1 : z = "half"
    · rw [decide_eq_true h1] at q
      rw [decide_eq_true (show V.str z = V.str "half" by rw [h1])]
      exact q
    · rw [decide_eq_false h1] at q
      rw [decide_eq_false (show ¬ V.str z = V.str "half" from fun e => h1 (V.str.inj e))]
      exact ⟨.str z, rfl, a.a_AMOUNT_FRONTS, fronts2, z, rfl, T.q_AMOUNT_FRONTS _, rfl, hz, q⟩
def spAmountOf : Sp := fun vs H Q _ => ∃ (z : Str) (m : Int), vs = [.str z, .int m] ∧ z ∈ am ∧ Q (.int (amV z m)) H
theorem ok_amount_of (T : Tx w K mg a) : FnOk P w K mg base CX0 1 a.f_amount_of a.d_amount_of ["text", "length"] spAmountOf := by
  refine T.F_amount_of.ok sc_amount_of (fun vs H Q E h => ?_) (fun cdv A outer s H vs Q E hr h => ?_)
  · obtain ⟨z, m, rfl, _⟩ := h
    rfl
  · obtain ⟨z, m, rfl, hz, q⟩ := h
    obtain ⟨hi, hl, _⟩ := am_chk hz
    refine ⟨_, 
(pss_cons (ps_if (pt_cmpR op_eq (pv 0) pe_str (nomark _))
  (pss_one (ps_ret (pe_op op_fdivN (pv 1) pe_int)))
  pss_nil)
  (pss_one (ps_ret (pe_callTy call_int_str (by rfl) T.z_int (by decide +kernel) (pa_cons (pv 0) pa_nil))))), ?_⟩
    refine ⟨.str z, rfl, rfl, _, rfl, ?_⟩
    unfold amV at q
    by_cases h1 : z = "half"
    · rw [if_pos h1] at q
      rw [decide_eq_true (show V.str z = V.str "half" by rw [h1])]
      exact ⟨.int m, rfl, m, 2, rfl, rfl, ⟨by decide, by decide⟩, q⟩
    · rw [if_neg h1] at q
      rw [decide_eq_false (show ¬ V.str z = V.str "half" from fun e => h1 (V.str.inj e))]
      obtain ⟨n, hn⟩ := Option.isSome_iff_exists.mp (hi.resolve_left h1)
      rw [hn] at q
      exact ⟨.str z, rfl, z, n, rfl, hn, by omega, q⟩
def ptM (z : Str) (k : Str) : Bool := if k = "place" then ipM z else iaM z
def spIsPart : Sp := fun vs H Q _ => ∃ z k : Str, vs = [.str z, .str k] ∧ z.length ≤ sizeLine ∧ ∀ H', Same H H' → Q (.bl (ptM z k)) H'
theorem ok_is_part (T : Tx w K mg a) : FnOk P w K mg base CX0 3 a.f_is_part a.d_is_part ["text", "kind"] spIsPart := by
  refine T.F_is_part.ok sc_is_part (fun vs H Q E h => ?_) (fun cdv A outer s H vs Q E hr h => ?_)
  · obtain ⟨z, k, rfl, _⟩ := h
    rfl
  · obtain ⟨z, k, rfl, hz, q⟩ := h
    refine ⟨_, 
(pss_cons (ps_if (pt_cmpR op_eq (pv 1) pe_str (nomark _))
  (pss_one (ps_ret (pe_call (ok_is_place_word T) hr (by rfl) T.m_is_place_word T.F_is_place_word.kp T.b_is_place_word .nil pass0 (pa_cons (pv 0) pa_nil))))
  pss_nil)
  (pss_one (ps_ret (pe_call (ok_is_amount T) hr (by rfl) T.m_is_amount T.F_is_amount.kp T.b_is_amount .nil pass0 (pa_cons (pv 0) pa_nil))))), ?_⟩
    refine ⟨.str k, rfl, rfl, _, rfl, ?_⟩
    unfold ptM at q
    by_cases h1 : k = "place"
    · simp only [if_pos h1] at q
      rw [decide_eq_true (show V.str k = V.str "place" by rw [h1])]
      exact ⟨.str z, rfl, z, rfl, hz, q⟩
    · simp only [if_neg h1] at q
      rw [decide_eq_false (show ¬ V.str k = V.str "place" from fun e => h1 (V.str.inj e))]
      exact ⟨.str z, rfl, z, rfl, hz, q H (Same.refl H)⟩
/-- the kinds of the parts behind the first one -/
def Mv.kinds : Mv → List Str
  | .exch _ _ => ["place", "place"]
  | .roll _ _ _ => ["place", "place", "amount"]
  | .turn => []
def Mv.head : Mv → Str
  | .exch _ _ => "exchange"
  | .roll _ _ _ => "roll"
  | .turn => "turn"
def Mv.args : Mv → List Str
  | .exch x y => [x, y]
  | .roll x y c => [x, y, c]
  | .turn => []
theorem Mv.parts_eq (m : Mv) : m.parts = m.head :: m.args := by cases m <;> rfl
theorem Mv.len (m : Mv) : m.kinds.length = m.args.length := by cases m <;> rfl
theorem Mv.arg_ok {m : Mv} (h : m.ok) {j : Nat} {z k : Str} (hz : m.args[j]? = some z) (hk : m.kinds[j]? = some k) : ptM z k = true ∧ z.length ≤ 100 := by
  have pw : ∀ {z : Str}, z ∈ wt → ptM z "place" = true ∧ z.length ≤ 100 := fun hz => ⟨(wt_chk hz).2.2.2.1, (wt_chk hz).2.1⟩
  have aw : ∀ {z : Str}, z ∈ am → ptM z "amount" = true ∧ z.length ≤ 100 := fun hz => ⟨(am_chk hz).2.2.1, (am_chk hz).2.1⟩
  cases m with
  | turn => simp [Mv.args] at hz
  | exch x y =>
    match j, hz, hk with
    | 0, hz, hk => cases hz; cases hk; exact pw h.1
    | 1, hz, hk => cases hz; cases hk; exact pw h.2
    | j + 2, hz, hk => simp [Mv.args] at hz
  | roll x y c =>
    match j, hz, hk with
    | 0, hz, hk => cases hz; cases hk; exact pw h.1
    | 1, hz, hk => cases hz; cases hk; exact pw h.2.1
    | 2, hz, hk => cases hz; cases hk; exact aw h.2.2
    | j + 3, hz, hk => simp [Mv.args] at hz
theorem kd_of {m : Mv} (T : Tx w K mg a) : ∃ p, PySem.W.nsIn K a.a_SHAPES m.head = some (some (.ref p)) ∧ ∀ H : Hp, SqT K H p (strsV m.kinds) := by
  cases m with
  | exch x y => exact T.v_SHAPES_0
  | roll x y c => exact T.v_SHAPES_1
  | turn => exact T.v_SHAPES_2
/-- tuples of the parts stand at these places -/
def Held (H : Hp) : List Addr → List Mv → Prop
  | [], [] => True
  | r :: rs, m :: ms => H r = some (.tup (strsV m.parts)) ∧ Held H rs ms
  | _, _ => False
theorem Held.same {H H' : Hp} (e : Same H H') : ∀ {rs : List Addr} {ms : List Mv}, Held H rs ms → Held H' rs ms
  | [], [], _ => trivial
  | _ :: _, _ :: _, h => ⟨e _ _ h.1, Held.same e h.2⟩
theorem Held.snoc {H : Hp} {t : Addr} {m : Mv} (ht : H t = some (.tup (strsV m.parts))) : ∀ {rs : List Addr} {ms : List Mv}, Held H rs ms → Held H (rs ++ [t]) (ms ++ [m])
  | [], [], _ => ⟨ht, trivial⟩
  | _ :: _, _ :: _, h => ⟨h.1, Held.snoc ht h.2⟩
theorem Held.but {H : Hp} {l : Addr} {xs : List V} {o : HO} (hl : H l = some (.lst xs)) : ∀ {rs : List Addr} {ms : List Mv}, Held H rs ms → Held (upd H l o) rs ms
  | [], [], _ => trivial
  | _ :: _, _ :: _, h => ⟨by rw [upd_ne (ne_of h.1 hl (by intro z; cases z))]; exact h.1, Held.but hl h.2⟩
theorem Held.off {H : Hp} {p C dx : Addr} {fs : List (Str × V)} {o : HO} (hp : H p = some (.ins C dx fs)) : ∀ {rs : List Addr} {ms : List Mv}, Held H rs ms → Held (upd H p o) rs ms
  | [], [], _ => trivial
  | _ :: _, _ :: _, h => ⟨by rw [upd_ne (ne_of h.1 hp (by intro z; cases z))]; exact h.1, Held.off hp h.2⟩
theorem Held.butd {d : Addr} {H H' : Hp} {kvs : List (Key × V)} (x : But d H H') (hd : H d = some (.dK kvs)) : ∀ {rs : List Addr} {ms : List Mv}, Held H rs ms → Held H' rs ms
  | [], [], _ => trivial
  | _ :: _, _ :: _, h => ⟨x.tup hd h.1, Held.butd x hd h.2⟩
theorem Held.len {H : Hp} : ∀ {rs : List Addr} {ms : List Mv}, Held H rs ms → rs.length = ms.length
  | [], [], _ => rfl
  | _ :: rs, _ :: ms, h => by
    rw [List.length_cons, List.length_cons, Held.len h.2]
def mvD (m : Mv) : PyData := .tuple (m.parts.map PyData.str)
theorem dp_strs {K : PySem.W.Frag} {H : Hp} : ∀ zs : List Str, DpAll K H (strsV zs) (zs.map PyData.str)
  | [] => .nil
  | _ :: r => .cons (.str _) (dp_strs r)
theorem dp_mvs {K : PySem.W.Frag} {H : Hp} : ∀ {rs : List Addr} {ms : List Mv}, Held H rs ms → DpAll K H (rs.map V.ref) (ms.map mvD)
  | [], [], _ => .nil
  | _ :: _, _ :: _, h => .cons (.tup (SqT.at h.1) (dp_strs _)) (dp_mvs h.2)
theorem op_inDT {X : Cx} (hu : X.A.units + 65 < cLine) : OpR X (compareOp .In) (fun x y H Q => ∃ d ds, Dp X.K H x d ∧ Dp X.K H y (.tuple ds) ∧ SeqAt.shaped d = true ∧ SeqAt.shaped (.tuple ds) = true ∧ Q (.bl (ds.any fun z => PyData.eqv z d)) H) := by
  rintro pins s σ H x y v u Q I rx ry ⟨d, ds, hd, he, sd, se, q⟩
  obtain ⟨as, r1⟩ := Dp.reads I d x v hd rx
  obtain ⟨bs, r2⟩ := Dp.reads I (.tuple ds) y u he ry
  exact SeqAt.in_tuple_reads r2 r1 (SeqAt.canLay_of_shaped se) (SeqAt.canLay_of_shaped sd) (room_in_shaped sd hu) ⟨.bl _, H, I, rfl, q⟩
theorem room65 {k : Nat} {A : Around} (hr : Room k A) : A.units + 65 < cLine := by
  have := hr.un
  omega
theorem Mv.str_ok {m : Mv} (h : m.ok) : ∀ z ∈ m.parts, PyData.strOk z = true ∧ z.length ≤ 100 ∧ 32 ∉ z.cps.toList := by
  have pw : ∀ {z : Str}, z ∈ wt → PyData.strOk z = true ∧ z.length ≤ 100 ∧ 32 ∉ z.cps.toList := fun hz => ⟨(wt_chk hz).2.2.2.2.2.2.2, (wt_chk hz).2.1, (wt_chk hz).2.2.2.2.2.2.1⟩
  have aw : ∀ {z : Str}, z ∈ am → PyData.strOk z = true ∧ z.length ≤ 100 ∧ 32 ∉ z.cps.toList := fun hz => ⟨(am_chk hz).2.2.2.2, (am_chk hz).2.1, (am_chk hz).2.2.2.1⟩
  have lit : ∀ z ∈ (["exchange", "roll", "turn"] : List Str), PyData.strOk z = true ∧ z.length ≤ 100 ∧ 32 ∉ z.cps.toList := by decide +kernel
  intro z hz
  cases m with
  | turn =>
    rw [List.mem_singleton.mp hz]
    exact lit _ (by decide +kernel)
  | exch x y =>
    simp only [Mv.parts, List.mem_cons, List.not_mem_nil, or_false] at hz
    rcases hz with rfl | rfl | rfl
    · exact lit _ (by decide +kernel)
    · exact pw h.1
    · exact pw h.2
  | roll x y c =>
    simp only [Mv.parts, List.mem_cons, List.not_mem_nil, or_false] at hz
    rcases hz with rfl | rfl | rfl | rfl
    · exact lit _ (by decide +kernel)
    · exact pw h.1
    · exact pw h.2.1
    · exact aw h.2.2
theorem lay_strs : ∀ {zs : List Str}, (∀ z ∈ zs, PyData.strOk z = true) → PyData.canLayAll0 (zs.map PyData.str) = true
  | [], _ => by simp [PyData.canLayAll0]
  | z :: r, h => by
    simp only [List.map_cons, PyData.canLayAll0, PyData.canLay0, Bool.and_eq_true]
    exact ⟨h z (List.mem_cons_self ..), lay_strs fun y hy => h y (List.mem_cons_of_mem _ hy)⟩
theorem deep_strs : ∀ zs : List Str, PyData.depthAll (zs.map PyData.str) ≤ 1
  | [] => by simp [PyData.depthAll]
  | _ :: r => by
    have := deep_strs r
    simp only [List.map_cons, PyData.depthAll, PyData.depth]
    omega
theorem shaped_strs {zs : List Str} (h : ∀ z ∈ zs, PyData.strOk z = true) : SeqAt.shaped (.tuple (zs.map PyData.str)) = true := by
  unfold SeqAt.shaped
  rw [Bool.and_eq_true, decide_eq_true_eq]
  refine ⟨by rw [PyData.canLay0]; exact lay_strs h, ?_⟩
  have := deep_strs zs
  rw [PyData.depth]
  omega
theorem shaped_mvs {ms : List Mv} (h : ∀ m ∈ ms, m.ok) : SeqAt.shaped (.tuple (ms.map mvD)) = true ∧ SeqAt.shaped (.list (ms.map mvD)) = true := by
  have hl : PyData.canLayAll0 (ms.map mvD) = true := by
    induction ms with
    | nil => simp [PyData.canLayAll0]
    | cons m r ih =>
      simp only [List.map_cons, PyData.canLayAll0, Bool.and_eq_true]
      exact ⟨by unfold mvD; rw [PyData.canLay0]; exact lay_strs fun z hz => (Mv.str_ok (h m (List.mem_cons_self ..)) z hz).1, ih fun y hy => h y (List.mem_cons_of_mem _ hy)⟩
  have hd : PyData.depthAll (ms.map mvD) ≤ 2 := by
    clear h hl
    induction ms with
    | nil => simp [PyData.depthAll]
    | cons m r ih =>
      have := deep_strs m.parts
      simp only [List.map_cons, PyData.depthAll, mvD, PyData.depth]
      omega
  unfold SeqAt.shaped
  simp only [Bool.and_eq_true, decide_eq_true_eq]
  refine ⟨⟨by rw [PyData.canLay0]; exact hl, ?_⟩, by rw [PyData.canLay0]; exact hl, ?_⟩
  · rw [PyData.depth]
    omega
  · rw [PyData.depth]
    omega
theorem eqv_all_strs : ∀ xs ys : List Str, PyData.eqvAll (xs.map PyData.str) (ys.map PyData.str) = decide (xs = ys)
  | [], [] => by simp [PyData.eqvAll]
  | [], _ :: _ => by simp [PyData.eqvAll]
  | _ :: _, [] => by simp [PyData.eqvAll]
  | x :: r, y :: u => by
    simp only [List.map_cons, PyData.eqvAll, PyData.eqv, eqv_all_strs r u, List.cons.injEq]
    by_cases h1 : x = y <;> by_cases h2 : r = u <;> simp [h1, h2]
theorem Mv.inj {m n : Mv} : m.parts = n.parts ↔ m = n := by
  constructor
  · intro h
    cases m <;> cases n <;> simp [Mv.parts] at h ⊢ <;> first | exact h | exact absurd h.1 (by decide +kernel) | skip
  · intro h
    rw [h]
theorem eqv_mv (m n : Mv) : PyData.eqv (mvD m) (mvD n) = decide (m = n) := by
  unfold mvD
  rw [PyData.eqv, eqv_all_strs]
  by_cases h : m = n
  · simp [h]
  · have : ¬ m.parts = n.parts := fun e => h (Mv.inj.mp e)
    simp [h, this]
theorem any_mv (ms : List Mv) (n : Mv) : (ms.map mvD).any (fun z => PyData.eqv z (mvD n)) = decide (n ∈ ms) := by
  induction ms with
  | nil => simp
  | cons m r ih =>
    rw [List.map_cons, List.any_cons, ih, eqv_mv]
    by_cases h : m = n
    · simp [h]
    · have : ¬ n = m := fun e => h e.symm
      simp [h, this]
abbrev sThen : Str := "then"
abbrev sNo : Str := ""
/-- the parts of a word -/
def wp : List Mv → List Str
  | [] => []
  | [m] => m.parts
  | m :: n :: r => m.parts ++ sThen :: wp (n :: r)
def oneTurn (ms : List Mv) : Prop := ∀ pre m post, ms = pre ++ m :: post → m = .turn → Mv.turn ∉ pre
theorem wp_len : ∀ ms : List Mv, (wp ms).length ≤ 5 * ms.length
  | [] => by simp [wp]
  | [m] => by cases m <;> simp [wp, Mv.parts]
  | m :: n :: r => by
    have := wp_len (n :: r)
    simp only [wp, List.length_append, List.length_cons] at this ⊢
    have hm : m.parts.length ≤ 4 := by cases m <;> simp [Mv.parts]
    omega
/-! ### what a move makes of a row -/
def exF (xs : List Int) (x y : Nat) : List Int := (xs.set x (xs.getD y 0)).set y (xs.getD x 0)
def roF (xs : List Int) (x y : Nat) (c : Int) : List Int :=
  let b := (xs.drop x).take (y + 1 - x)
  let k := (b.length - Int.fmod c b.length).toNat
  xs.take x ++ b.drop k ++ b.take k ++ xs.drop (y + 1)
def inB (v : Int) (n : Nat) : Bool := decide (0 ≤ v) && decide (v < (n : Int))
def mvF (m : Mv) (xs : List Int) : List Int := match m with
  | .turn => xs.reverse
  | .exch x y => if inB (plV x xs.length) xs.length && inB (plV y xs.length) xs.length then exF xs (plV x xs.length).toNat (plV y xs.length).toNat else xs
  | .roll x y c => if inB (plV x xs.length) xs.length && inB (plV y xs.length) xs.length && decide (plV x xs.length ≤ plV y xs.length) then roF xs (plV x xs.length).toNat (plV y xs.length).toNat (amV c ((plV y xs.length).toNat + 1 - (plV x xs.length).toNat : Nat)) else xs
theorem ex_len (xs : List Int) (x y : Nat) : (exF xs x y).length = xs.length := by
  unfold exF
  rw [List.length_set, List.length_set]
theorem ro_len (xs : List Int) (x y : Nat) (c : Int) (hxy : x ≤ y) (hy : y < xs.length) : (roF xs x y c).length = xs.length := by
  unfold roF
  simp only [List.length_append, List.length_take, List.length_drop]
  omega
theorem mv_len (m : Mv) (xs : List Int) : (mvF m xs).length = xs.length := by
  cases m with
  | turn => exact List.length_reverse
  | exch x y =>
    simp only [mvF]
    split
    · exact ex_len _ _ _
    · rfl
  | roll x y c =>
    simp only [mvF]
    split
    · rename_i h
      simp only [inB, Bool.and_eq_true, decide_eq_true_eq] at h
      exact ro_len _ _ _ _ (by omega) (by omega)
    · rfl
def spExchanged (K : PySem.W.Frag) : Sp := fun vs H Q _ => ∃ (p : Addr) (xs : List Int) (x y : Nat), vs = [.ref p, .int (x : Int), .int (y : Int)] ∧ SqL K H p (xs.map V.int) ∧ xs.length ≤ 100000 ∧ x < xs.length ∧ y < xs.length ∧
  ∀ o H', H o = none → H' o = some (.lst ((exF xs x y).map V.int)) → Same H H' → Q (.ref o) H'
theorem ok_exchanged (T : Tx w K mg a) : FnOk P w K mg base CX0 1 a.f_exchanged a.d_exchanged ["old", "x", "y"] (spExchanged K) := by
  refine T.F_exchanged.ok sc_exchanged (fun vs H Q E h => ?_) (fun cdv A outer s H vs Q E hr h => ?_)
  · obtain ⟨p, xs, x, y, rfl, _⟩ := h
    rfl
  · obtain ⟨p, xs, x, y, rfl, hp, hl, hx, hy, q⟩ := h
    have at_ : ∀ {i : Nat}, i < xs.length → atI (xs.map V.int) (i : Int) = some (.int (xs.getD i 0)) := fun {i} hi => by
      refine atI_nat ?_
      rw [List.getElem?_map, List.getElem?_eq_getElem hi, getD_get hi]
      rfl
    refine ⟨_, 
(pss_cons (ps_set (i := 3) sc_exchanged.nd rfl (.inl rfl) (pe_callTy call_list_of (by rfl) T.z_list (by decide +kernel) (pa_cons (pv 0) pa_nil)))
  (pss_cons (ps_asg (pe_ix ix_list (pv 0) (pv 2) (fun _ _ => rfl)) (pg_sub (pv 3) (pv 1) set_list))
  (pss_cons (ps_asg (pe_ix ix_list (pv 0) (pv 1) (fun _ _ => rfl)) (pg_sub (pv 3) (pv 2) set_list))
  (pss_one (ps_ret (pv 3)))))), ?_⟩
    refine ⟨.ref p, rfl, p, _, rfl, .inl hp, fun o no => ?_⟩
    have s1 := same_upd (o := .lst (xs.map V.int)) no
    refine ⟨.ref p, rfl, _, rfl, p, _, _, _, rfl, rfl, s1.seq hp, at_ hy, .ref o, rfl, _, rfl, o, _, _, x, rfl, rfl, upd_same, by rw [List.length_map]; exact ixN_nat (by omega) (by omega), ?_⟩
    have s2 := keep_upd (o := .lst ((xs.map V.int).set x (.int (xs.getD y 0)))) s1 no
    refine ⟨.ref p, rfl, _, rfl, p, _, _, _, rfl, rfl, s2.seq hp, at_ hx, .ref o, rfl, _, rfl, o, _, _, y, rfl, rfl, upd_same, by rw [List.length_set, List.length_map]; exact ixN_nat (by omega) (by omega), ?_⟩
    refine ⟨_, rfl, q o _ no ?_ (keep_upd s2 no)⟩
    rw [upd_same]
    unfold exF
    rw [List.map_set, List.map_set]
/-- slices of lists of ints -/
theorem cut_to (xs : List Int) (n : Nat) : cutV (xs.map V.int) none (some (n : Int)) = (xs.take n).map V.int := by
  unfold cutV
  rw [HT.sIx_none, HT.sIx_nat, List.drop_zero, Nat.sub_zero, List.map_take, List.take_eq_take_iff, List.length_map]
  omega
theorem cut_from (xs : List Int) (n : Nat) (h : n ≤ xs.length) : cutV (xs.map V.int) (some (n : Int)) none = (xs.drop n).map V.int := by
  unfold cutV
  rw [HT.sIx_nat, HT.sIx_none, List.length_map, Nat.min_eq_left h, ← List.map_drop, List.take_of_length_le (by rw [List.length_map, List.length_drop]; exact Nat.le_refl _)]
theorem cut_mid (xs : List Int) (n m : Nat) (h : n ≤ xs.length) (hm : m ≤ xs.length) : cutV (xs.map V.int) (some (n : Int)) (some (m : Int)) = ((xs.drop n).take (m - n)).map V.int := by
  unfold cutV
  rw [HT.sIx_nat, HT.sIx_nat, List.length_map, Nat.min_eq_left h, Nat.min_eq_left hm, ← List.map_drop, ← List.map_take]
theorem blk_len (xs : List Int) (x y : Nat) (hxy : x ≤ y) (hy : y < xs.length) : ((xs.drop x).take (y + 1 - x)).length = y + 1 - x := by
  rw [List.length_take, List.length_drop]
  omega
def spRolled (K : PySem.W.Frag) : Sp := fun vs H Q _ => ∃ (p : Addr) (xs : List Int) (x y : Nat) (c : Str), vs = [.ref p, .int (x : Int), .int (y : Int), .str c] ∧ SqL K H p (xs.map V.int) ∧ xs.length ≤ 100000 ∧ x < xs.length ∧ y < xs.length ∧ c ∈ am ∧
  ∀ o H', H o = none → H' o = some (.lst ((if x ≤ y then roF xs x y (amV c (y + 1 - x : Nat)) else xs).map V.int)) → Same H H' → Q (.ref o) H'
theorem ok_rolled (T : Tx w K mg a) : FnOk P w K mg base CX0 2 a.f_rolled a.d_rolled ["old", "x", "y", "amount"] (spRolled K) := by
  refine T.F_rolled.ok sc_rolled (fun vs H Q E h => ?_) (fun cdv A outer s H vs Q E hr h => ?_)
  · obtain ⟨p, xs, x, y, c, rfl, _⟩ := h
    rfl
  · obtain ⟨p, xs, x, y, c, rfl, hp, hl, hx, hy, hc, q⟩ := h
    refine ⟨_, 
(pss_cons (ps_if (pt_cmpR op_gt (pv 1) (pv 2) (nomark _))
  (pss_one (ps_ret (pe_callTy call_list_of (by rfl) T.z_list (by decide +kernel) (pa_cons (pv 0) pa_nil))))
  pss_nil)
  (pss_cons (ps_set (i := 4) sc_rolled.nd rfl (.inl rfl) (pe_slice sl_list (pv 0) (po_some (pv 1)) (po_some (pe_op op_add (pv 2) pe_int))))
  (pss_cons (ps_set (i := 5) sc_rolled.nd rfl (.inl rfl) (pe_op op_sub (pe_callB call_len_seq (by rfl) T.z_len PySem.boot_len (pa_cons (pv 4) pa_nil)) (pe_op op_modN (pe_call (ok_amount_of T) hr (by rfl) T.m_amount_of T.F_amount_of.kp T.b_amount_of .nil pass0 (pa_cons (pv 3) (pa_cons (pe_callB call_len_seq (by rfl) T.z_len PySem.boot_len (pa_cons (pv 4) pa_nil)) pa_nil))) (pe_callB call_len_seq (by rfl) T.z_len PySem.boot_len (pa_cons (pv 4) pa_nil)))))
  (pss_one (ps_ret (pe_op op_cat (pe_op op_cat (pe_op op_cat (pe_slice sl_list (pv 0) po_none (po_some (pv 1))) (pe_slice sl_list (pv 4) (po_some (pv 5)) po_none)) (pe_slice sl_list (pv 4) po_none (po_some (pv 5)))) (pe_slice sl_list (pv 0) (po_some (pe_op op_add (pv 2) pe_int)) po_none))))))), ?_⟩
    refine ⟨_, rfl, _, rfl, x, y, rfl, rfl, _, rfl, ite2 (fun e => ?_) (fun e => ?_)⟩
    · have hxy : ¬ x ≤ y := by
        have := of_decide_eq_true e
        omega
      refine ⟨.ref p, rfl, p, _, rfl, .inl hp, fun o no => q o _ no ?_ (same_upd no)⟩
      rw [upd_same, if_neg hxy]
    have hxy : x ≤ y := by
      have : ¬ (y : Int) < x := fun z => e (decide_eq_true z)
      omega
    rw [if_pos hxy] at q
    have bl := blk_len xs x y hxy hy
    have em := cut_mid xs x (y + 1) (by omega) (by omega)
    have et := cut_to xs x
    have ef := cut_from xs (y + 1) (by omega)
    -- block = old[x:y + 1]
    refine ⟨.ref p, rfl, _, rfl, _, rfl, _, rfl, y, 1, rfl, rfl, _, rfl, p, _, rfl, hp, fun b nb => ?_⟩
    rw [show (y : Int) + 1 = ((y + 1 : Nat) : Int) by omega, em]
    generalize eb : (xs.drop x).take (y + 1 - x) = B at bl em
    have s1 := same_upd (o := .lst (B.map V.int)) nb
    have hb : (upd H b (.lst (B.map V.int))) b = some (.lst (B.map V.int)) := upd_same
    generalize upd H b (.lst (B.map V.int)) = H1 at s1 hb ⊢
    have bp : 0 < B.length := by omega
    -- cut = len(block) - amount_of(amount, len(block)) % len(block)
    refine ⟨.ref b, rfl, b, _, rfl, .inl (SqL.at hb), .str c, rfl, .ref b, rfl, b, _, rfl, .inl (SqL.at hb), c, _, rfl, hc, .ref b, rfl, b, _, rfl, .inl (SqL.at hb), _, _, rfl, rfl, ?_, _, _, rfl, rfl, ?_⟩
    · rw [List.length_map]
      show ((B.length : Nat) : Int) ≠ 0
      omega
    rw [List.length_map]
    have f0 := Int.fmod_nonneg_of_pos (amV c (B.length : Int)) (b := (B.length : Int)) (by omega)
    have f1 := Int.fmod_lt_of_pos (amV c (B.length : Int)) (b := (B.length : Int)) (by omega)
    obtain ⟨k, ek, hk⟩ : ∃ k : Nat, (B.length : Int) - Int.fmod (amV c (B.length : Int)) (B.length : Int) = (k : Int) ∧ k ≤ B.length := ⟨((B.length : Int) - Int.fmod (amV c (B.length : Int)) (B.length : Int)).toNat, by omega, by omega⟩
    have e2 := cut_from B k hk
    have e3 := cut_to B k
    -- old[:x] + block[cut:] + block[:cut] + old[y + 1:]
    refine ⟨.ref p, rfl, _, rfl, _, rfl, p, _, rfl, s1.seq hp, fun o1 no1 => ?_⟩
    rw [et]
    have u1 := same_upd (o := .lst ((xs.take x).map V.int)) no1
    have b1 := u1 _ _ hb
    have h1 : (upd H1 o1 (.lst ((xs.take x).map V.int))) o1 = _ := upd_same
    generalize upd H1 o1 (.lst ((xs.take x).map V.int)) = H2 at u1 b1 h1 ⊢
    refine ⟨.ref b, rfl, _, rfl, _, rfl, b, _, rfl, SqL.at b1, fun o2 no2 => ?_⟩
    rw [ek, e2]
    have u2 := same_upd (o := .lst ((B.drop k).map V.int)) no2
    have b2 := u2 _ _ b1
    have h12 := u2 _ _ h1
    have h2 : (upd H2 o2 (.lst ((B.drop k).map V.int))) o2 = _ := upd_same
    generalize upd H2 o2 (.lst ((B.drop k).map V.int)) = H3 at u2 b2 h12 h2 ⊢
    refine ⟨o1, o2, _, _, rfl, rfl, h12, h2, sz (by simp; omega), fun o3 no3 => ?_⟩
    rw [← List.map_append]
    have u3 := same_upd (o := .lst ((xs.take x ++ B.drop k).map V.int)) no3
    have b3 := u3 _ _ b2
    have h3 : (upd H3 o3 (.lst ((xs.take x ++ B.drop k).map V.int))) o3 = _ := upd_same
    generalize upd H3 o3 (.lst ((xs.take x ++ B.drop k).map V.int)) = H4 at u3 b3 h3 ⊢
    refine ⟨.ref b, rfl, _, rfl, _, rfl, b, _, rfl, SqL.at b3, fun o4 no4 => ?_⟩
    rw [ek, e3]
    have u4 := same_upd (o := .lst ((B.take k).map V.int)) no4
    have h34 := u4 _ _ h3
    have h4 : (upd H4 o4 (.lst ((B.take k).map V.int))) o4 = _ := upd_same
    generalize upd H4 o4 (.lst ((B.take k).map V.int)) = H5 at u4 h34 h4 ⊢
    refine ⟨o3, o4, _, _, rfl, rfl, h34, h4, sz (by simp; omega), fun o5 no5 => ?_⟩
    rw [← List.map_append]
    have u5 := same_upd (o := .lst ((xs.take x ++ B.drop k ++ B.take k).map V.int)) no5
    have h5 : (upd H5 o5 (.lst ((xs.take x ++ B.drop k ++ B.take k).map V.int))) o5 = _ := upd_same
    generalize upd H5 o5 (.lst ((xs.take x ++ B.drop k ++ B.take k).map V.int)) = H6 at u5 h5 ⊢
    have u06 := s1.trans (u1.trans (u2.trans (u3.trans (u4.trans u5))))
    refine ⟨.ref p, rfl, _, rfl, y, 1, rfl, rfl, _, rfl, p, _, rfl, u06.seq hp, fun o6 no6 => ?_⟩
    rw [show (y : Int) + 1 = ((y + 1 : Nat) : Int) by omega, ef]
    have u6 := same_upd (o := .lst ((xs.drop (y + 1)).map V.int)) no6
    have h56 := u6 _ _ h5
    have h6 : (upd H6 o6 (.lst ((xs.drop (y + 1)).map V.int))) o6 = _ := upd_same
    generalize upd H6 o6 (.lst ((xs.drop (y + 1)).map V.int)) = H7 at u6 h56 h6 ⊢
    refine ⟨o5, o6, _, _, rfl, rfl, h56, h6, sz (by simp; omega), fun o7 no7 => ?_⟩
    rw [← List.map_append]
    have u07 := u06.trans (u6.trans (same_upd (o := .lst ((xs.take x ++ B.drop k ++ B.take k ++ xs.drop (y + 1)).map V.int)) no7))
    refine q o7 _ (u06.free (u6.free no7)) ?_ u07
    rw [upd_same]
    unfold roF
    simp only [eb]
    rw [← bl, ek, Int.toNat_natCast]
end

section
variable {P : Program} {w : World} {K : PySem.W.Frag} {mg : Str → Option Value} {base : Heap} {a : Ad}
theorem btM_in {v : Int} {n : Nat} : btM 0 ((n : Int) - 1) (.int v) = inB v n := by
  simp only [btM, inB]
  congr 1
  exact decide_eq_decide.mpr (by omega)
theorem in_nat {v : Int} {n : Nat} (h : inB v n = true) : ∃ x : Nat, v = (x : Int) ∧ x < n := by
  simp only [inB, Bool.and_eq_true, decide_eq_true_eq] at h
  exact ⟨v.toNat, by omega, by omega⟩
def spMoved (K : PySem.W.Frag) : Sp := fun vs H Q _ => ∃ (p t : Addr) (xs : List Int) (m : Mv), vs = [.ref p, .ref t] ∧ SqL K H p (xs.map V.int) ∧ SqT K H t (strsV m.parts) ∧ m.ok ∧ xs.length ≤ 100000 ∧
  ∀ o H', H o = none → H' o = some (.lst ((mvF m xs).map V.int)) → Same H H' → Q (.ref o) H'
theorem head_at {m : Mv} : atI (strsV m.parts) 0 = some (.str m.head) := strs_get (i := 0) (by rw [Mv.parts_eq]; rfl)
theorem ok_moved (T : Tx w K mg a) : FnOk P w K mg base CX0 3 a.f_moved a.d_moved ["old", "move"] (spMoved K) := by
  refine T.F_moved.ok sc_moved (fun vs H Q E h => ?_) (fun cdv A outer s H vs Q E hr h => ?_)
  · obtain ⟨p, t, xs, m, rfl, _⟩ := h
    rfl
  · obtain ⟨p, t, xs, m, rfl, hp, ht, hm, hl, q⟩ := h
    refine ⟨_, 
(pss_cons (ps_if (pt_cmpR op_eq (pe_ix ix_tup (pv 1) pe_int (fun _ _ => rfl)) pe_str (nomark _))
  (pss_one (ps_ret (pe_revL (pv 0))))
  pss_nil)
  (pss_cons (ps_set (i := 2) sc_moved.nd rfl (.inl rfl) (pe_call (ok_place_of T) (hr.mono (by decide)) (by rfl) T.m_place_of T.F_place_of.kp T.b_place_of .nil pass0 (pa_cons (pe_ix ix_tup (pv 1) pe_int (fun _ _ => rfl)) (pa_cons (pe_callB call_len_seq (by rfl) T.z_len PySem.boot_len (pa_cons (pv 0) pa_nil)) pa_nil))))
  (pss_cons (ps_set (i := 3) sc_moved.nd rfl (.inl rfl) (pe_call (ok_place_of T) (hr.mono (by decide)) (by rfl) T.m_place_of T.F_place_of.kp T.b_place_of .nil pass0 (pa_cons (pe_ix ix_tup (pv 1) pe_int (fun _ _ => rfl)) (pa_cons (pe_callB call_len_seq (by rfl) T.z_len PySem.boot_len (pa_cons (pv 0) pa_nil)) pa_nil))))
  (pss_cons (ps_if (PW.pt (pw_or (pt_not (pt_val (pe_call (ok_is_between T) hr (by rfl) T.m_is_between T.F_is_between.kp T.b_is_between .nil pass0 (pa_cons (pv 2) (pa_cons pe_int (pa_cons (pe_op op_sub (pe_callB call_len_seq (by rfl) T.z_len PySem.boot_len (pa_cons (pv 0) pa_nil)) pe_int) pa_nil)))))) (pw_or1 (pt_not (pt_val (pe_call (ok_is_between T) hr (by rfl) T.m_is_between T.F_is_between.kp T.b_is_between .nil pass0 (pa_cons (pv 3) (pa_cons pe_int (pa_cons (pe_op op_sub (pe_callB call_len_seq (by rfl) T.z_len PySem.boot_len (pa_cons (pv 0) pa_nil)) pe_int) pa_nil)))))))))
  (pss_one (ps_ret (pe_callTy call_list_of (by rfl) T.z_list (by decide +kernel) (pa_cons (pv 0) pa_nil))))
  pss_nil)
  (pss_cons (ps_if (pt_cmpR op_eq (pe_ix ix_tup (pv 1) pe_int (fun _ _ => rfl)) pe_str (nomark _))
  (pss_one (ps_ret (pe_call (ok_exchanged T) (hr.mono (by decide)) (by rfl) T.m_exchanged T.F_exchanged.kp T.b_exchanged .nil pass0 (pa_cons (pv 0) (pa_cons (pv 2) (pa_cons (pv 3) pa_nil))))))
  pss_nil)
  (pss_one (ps_ret (pe_call (ok_rolled T) hr (by rfl) T.m_rolled T.F_rolled.kp T.b_rolled .nil pass0 (pa_cons (pv 0) (pa_cons (pv 2) (pa_cons (pv 3) (pa_cons (pe_ix ix_tup (pv 1) pe_int (fun _ _ => rfl)) pa_nil)))))))))))), ?_⟩
    refine ⟨.ref t, rfl, t, _, 0, _, rfl, rfl, ht, head_at, rfl, _, rfl, ?_⟩
    by_cases htu : m = .turn
    · subst htu
      rw [show decide (V.str (Mv.head .turn) = V.str "turn") = true from by decide +kernel]
      refine ⟨.ref p, rfl, p, _, rfl, hp, fun o no => q o _ no ?_ (same_upd no)⟩
      rw [upd_same, ← List.map_reverse]
      rfl
    have hh : decide (V.str m.head = V.str "turn") = false := by
      cases m with
      | turn => exact absurd rfl htu
      | exch x y => exact (by decide +kernel : decide (V.str "exchange" = V.str "turn") = false)
      | roll x y c => exact (by decide +kernel : decide (V.str "roll" = V.str "turn") = false)
    rw [hh]
    obtain ⟨X, Y, hX, hY, wX, wY, hmv⟩ : ∃ X Y, m.parts[1]? = some X ∧ m.parts[2]? = some Y ∧ X ∈ wt ∧ Y ∈ wt ∧ (∀ xs, (inB (plV X (xs.length : Int)) xs.length && inB (plV Y (xs.length : Int)) xs.length) = false → mvF m xs = xs) := by
      cases m with
      | turn => exact absurd rfl htu
      | exch x y =>
        refine ⟨x, y, rfl, rfl, hm.1, hm.2, fun xs h => ?_⟩
        simp only [mvF, h]
        rfl
      | roll x y c =>
        refine ⟨x, y, rfl, rfl, hm.1, hm.2.1, fun xs h => ?_⟩
        simp only [mvF, h, Bool.false_and]
        rfl
    have el : (xs.map V.int).length = xs.length := List.length_map ..
    -- x = place_of(move[1], len(old)); y = ..
    refine ⟨.ref t, rfl, t, _, 1, _, rfl, rfl, ht, strs_get (i := 1) hX, .ref p, rfl, p, _, rfl, .inl hp, X, _, rfl, wX, ?_⟩
    refine ⟨.ref t, rfl, t, _, 2, _, rfl, rfl, ht, strs_get (i := 2) hY, .ref p, rfl, p, _, rfl, .inl hp, Y, _, rfl, wY, ?_⟩
    rw [el]
    -- if not is_between(x, 0, len(old) - 1) or not is_between(y, 0, len(old) - 1)
    refine ⟨_, rfl, .ref p, rfl, p, _, rfl, .inl hp, _, 1, rfl, rfl, .int (plV X (xs.length : Int)), true, 0, _, rfl, .int _, _, rfl, ?_⟩
    rw [el, btM_in]
    cases hx : inB (plV X (xs.length : Int)) xs.length with
    | false =>
      have hq := hmv xs (by rw [hx]; rfl)
      refine ⟨.ref p, rfl, p, _, rfl, .inl hp, fun o no => q o _ no ?_ (same_upd no)⟩
      rw [upd_same, hq]
    | true =>
      refine ⟨_, rfl, .ref p, rfl, p, _, rfl, .inl hp, _, 1, rfl, rfl, .int (plV Y (xs.length : Int)), true, 0, _, rfl, .int _, _, rfl, ?_⟩
      rw [el, btM_in]
      cases hy : inB (plV Y (xs.length : Int)) xs.length with
      | false =>
        have hq := hmv xs (by rw [hx, hy]; rfl)
        refine ⟨.ref p, rfl, p, _, rfl, .inl hp, fun o no => q o _ no ?_ (same_upd no)⟩
        rw [upd_same, hq]
      | true =>
        obtain ⟨x, ex, hxl⟩ := in_nat hx
        obtain ⟨y, ey, hyl⟩ := in_nat hy
        refine ⟨.ref t, rfl, t, _, 0, _, rfl, rfl, ht, head_at, rfl, _, rfl, ?_⟩
        cases m with
        | turn => exact absurd rfl htu
        | exch X' Y' =>
          cases hX
          cases hY
          rw [show decide (V.str (Mv.head (.exch X Y)) = V.str "exchange") = true from by rfl]
          refine ⟨.ref p, rfl, _, rfl, _, rfl, p, xs, x, y, by rw [ex, ey]; rfl, hp, hl, hxl, hyl, fun o H' no eo so => q o H' no ?_ so⟩
          rw [eo]
          have h2 : (inB (plV X (xs.length : Int)) xs.length && inB (plV Y (xs.length : Int)) xs.length) = true := by
            rw [hx, hy]
            rfl
          simp only [mvF]
          rw [if_pos h2, ex, ey]
          rfl
        | roll X' Y' c =>
          cases hX
          cases hY
          rw [show decide (V.str (Mv.head (.roll X Y c)) = V.str "exchange") = false from by rfl]
          refine ⟨.ref p, rfl, _, rfl, _, rfl, .ref t, rfl, t, _, 3, _, rfl, rfl, ht, strs_get (i := 3) rfl, p, xs, x, y, c, by rw [ex, ey]; rfl, hp, hl, hxl, hyl, hm.2.2, fun o H' no eo so => q o H' no ?_ so⟩
          rw [eo]
          simp only [mvF]
          by_cases hxy : x ≤ y
          · have h2 : (inB (plV X (xs.length : Int)) xs.length && inB (plV Y (xs.length : Int)) xs.length && decide (plV X (xs.length : Int) ≤ plV Y (xs.length : Int))) = true := by
              rw [hx, hy, ex, ey, decide_eq_true (show (x : Int) ≤ y by omega)]
              rfl
            rw [if_pos h2, if_pos hxy, ex, ey]
            rfl
          · have h2 : ¬ (inB (plV X (xs.length : Int)) xs.length && inB (plV Y (xs.length : Int)) xs.length && decide (plV X (xs.length : Int) ≤ plV Y (xs.length : Int))) = true := by
              rw [hx, hy, ex, ey, decide_eq_false (show ¬ (x : Int) ≤ y by omega)]
              decide
            rw [if_neg h2, if_neg hxy]
/-! ### words -/
def wtext (ms : List Mv) : Str := Txt.join " " (wp ms)
structure WordOk (ms : List Mv) : Prop where
  ne : ms ≠ []
  l4 : ms.length ≤ 4
  ok : ∀ m ∈ ms, m.ok
  one : oneTurn ms
theorem wp_ok : ∀ {ms : List Mv}, (∀ m ∈ ms, m.ok) → ∀ z ∈ wp ms, PyData.strOk z = true ∧ z.length ≤ 100 ∧ 32 ∉ z.cps.toList
  | [], _, z, hz => by cases hz
  | [m], h, z, hz => Mv.str_ok (h m (List.mem_cons_self ..)) z hz
  | m :: n :: r, h, z, hz => by
    rcases List.mem_append.mp hz with hz | hz
    · exact Mv.str_ok (h m (List.mem_cons_self ..)) z hz
    · rcases List.mem_cons.mp hz with rfl | hz
      · exact ⟨by decide +kernel, by decide +kernel, by decide +kernel⟩
      · exact wp_ok (fun x hx => h x (List.mem_cons_of_mem _ hx)) z hz
theorem wp_ne {ms : List Mv} (h : ms ≠ []) : wp ms ≠ [] := by
  cases ms with
  | nil => exact absurd rfl h
  | cons m r =>
    cases r with
    | nil => cases m <;> simp [wp, Mv.parts]
    | cons n r => simp [wp]
theorem split_wtext {ms : List Mv} (h : WordOk ms) : Txt.split (wtext ms) " " = wp ms := by
  refine TL.split_join (s := 32) (S := []) (by decide +kernel) (by decide +kernel) (wp_ne h.ne) fun z hz => ?_
  exact (wp_ok h.ok z hz).2.2
def flW (ms : List Mv) (t : Addr) : List (Str × V) := putF "has_turn" (.bl (decide (Mv.turn ∈ ms))) (putF "moves" (.ref t) (putF "text" (.str (wtext ms)) []))
/-- a Word stands at p -/
def WordAt (C : Addr) (H : Hp) (p : Addr) (ms : List Mv) : Prop := ∃ dx t rs, H p = some (.ins C dx (flW ms t)) ∧ H t = some (.tup (rs.map V.ref)) ∧ Held H rs ms
theorem WordAt.same {C : Addr} {H H' : Hp} {p : Addr} {ms : List Mv} (h : WordAt C H p ms) (e : Same H H') : WordAt C H' p ms := by
  obtain ⟨dx, t, rs, h1, h2, h3⟩ := h
  exact ⟨dx, t, rs, e _ _ h1, e _ _ h2, h3.same e⟩
theorem kw1 : ¬ (("text" : Str) = "moves") := by decide +kernel
theorem kw2 : ¬ (("text" : Str) = "has_turn") := by decide +kernel
theorem kw3 : ¬ (("moves" : Str) = "has_turn") := by decide +kernel
theorem fl2 (v : V) (t : Addr) : putF "moves" (.ref t) (putF "text" v []) = [(("text" : Str), v), (("moves" : Str), V.ref t)] := by
  show (if ("text" : Str) = "moves" then _ else (("text" : Str), v) :: putF "moves" (.ref t) []) = _
  rw [if_neg kw1]
  rfl
theorem flW_text (ms : List Mv) (t : Addr) : (flW ms t).lookup ("text" : Str) = some (.str (wtext ms)) := by
  unfold flW
  rw [lookup_putF, if_neg kw2, lookup_putF, if_neg kw1, lookup_putF, if_pos rfl]
theorem flW_moves (ms : List Mv) (t : Addr) : (flW ms t).lookup ("moves" : Str) = some (.ref t) := by
  unfold flW
  rw [lookup_putF, if_neg kw3, lookup_putF, if_pos rfl]
theorem flW_turn (ms : List Mv) (t : Addr) : (flW ms t).lookup ("has_turn" : Str) = some (.bl (decide (Mv.turn ∈ ms))) := by
  unfold flW
  rw [lookup_putF, if_pos rfl]
def allF (ms : List Mv) (xs : List Int) : List Int := ms.foldl (fun ys m => mvF m ys) xs
theorem allF_len : ∀ (ms : List Mv) (xs : List Int), (allF ms xs).length = xs.length
  | [], _ => rfl
  | m :: r, xs => by
    show (allF r (mvF m xs)).length = _
    rw [allF_len r, mv_len]
theorem Held.get {H : Hp} : ∀ {rs : List Addr} {ms : List Mv}, Held H rs ms → ∀ {i : Nat} {m : Mv}, ms[i]? = some m → ∃ r, rs[i]? = some r ∧ H r = some (.tup (strsV m.parts))
  | [], [], _, i, m, h => by simp at h
  | r :: rs, n :: ms, hh, 0, m, h => by
    cases h
    exact ⟨r, rfl, hh.1⟩
  | r :: rs, n :: ms, hh, i + 1, m, h => by
    obtain ⟨x, hx, hy⟩ := Held.get hh.2 (i := i) (m := m) (by simpa using h)
    exact ⟨x, by simpa using hx, hy⟩
end

section
variable {P : Program} {w : World} {K : PySem.W.Frag} {mg : Str → Option Value} {base : Heap} {a : Ad}
def spErrInit (C : Addr) (f : Str) : Sp := fun vs H Q _ => ∃ (x : Addr) (v : V), vs = [.ref x, v] ∧ H x = some (exo x C none) ∧ ∀ dx, H dx = none → dx ≠ x → Q .non (upd (upd H dx (exd dx [(f, v)])) x (exo x C (some dx)))
theorem ok_BadWord_init (T : Tx w K mg a) : FnOk P w K mg base CX0 1 a.f_BadWord_init a.d_BadWord_init ["self", "index"] (spErrInit a.C_BadWord "index") := by
  refine T.F_BadWord_init.ok sc_BadWord_init (fun vs H Q E h => ?_) (fun cdv A outer s H vs Q E hr h => ?_)
  · obtain ⟨x, v, rfl, _⟩ := h
    rfl
  · obtain ⟨x, v, rfl, hx, q⟩ := h
    refine ⟨_, 
(pss_one (ps_ost (pv 0) (pv 1))), ?_⟩
    exact ⟨v, rfl, .ref x, rfl, x, a.C_BadWord, rfl, T.ox_BadWord.o, T.ox_BadWord.no, .inl ⟨hx, fun dx n ne => q dx n ne⟩⟩
theorem ok_BadText_init (T : Tx w K mg a) : FnOk P w K mg base CX0 1 a.f_BadText_init a.d_BadText_init ["self", "line"] (spErrInit a.C_BadText "line") := by
  refine T.F_BadText_init.ok sc_BadText_init (fun vs H Q E h => ?_) (fun cdv A outer s H vs Q E hr h => ?_)
  · obtain ⟨x, v, rfl, _⟩ := h
    rfl
  · obtain ⟨x, v, rfl, hx, q⟩ := h
    refine ⟨_, 
(pss_one (ps_ost (pv 0) (pv 1))), ?_⟩
    exact ⟨v, rfl, .ref x, rfl, x, a.C_BadText, rfl, T.ox_BadText.o, T.ox_BadText.no, .inl ⟨hx, fun dx n ne => q dx n ne⟩⟩
theorem ok_BadSize_init (T : Tx w K mg a) : FnOk P w K mg base CX0 1 a.f_BadSize_init a.d_BadSize_init ["self", "size"] (spErrInit a.C_BadSize "size") := by
  refine T.F_BadSize_init.ok sc_BadSize_init (fun vs H Q E h => ?_) (fun cdv A outer s H vs Q E hr h => ?_)
  · obtain ⟨x, v, rfl, _⟩ := h
    rfl
  · obtain ⟨x, v, rfl, hx, q⟩ := h
    refine ⟨_, 
(pss_one (ps_ost (pv 0) (pv 1))), ?_⟩
    exact ⟨v, rfl, .ref x, rfl, x, a.C_BadSize, rfl, T.ox_BadSize.o, T.ox_BadSize.no, .inl ⟨hx, fun dx n ne => q dx n ne⟩⟩
theorem ok_BadNumber_init (T : Tx w K mg a) : FnOk P w K mg base CX0 1 a.f_BadNumber_init a.d_BadNumber_init ["self", "number"] (spErrInit a.C_BadNumber "number") := by
  refine T.F_BadNumber_init.ok sc_BadNumber_init (fun vs H Q E h => ?_) (fun cdv A outer s H vs Q E hr h => ?_)
  · obtain ⟨x, v, rfl, _⟩ := h
    rfl
  · obtain ⟨x, v, rfl, hx, q⟩ := h
    refine ⟨_, 
(pss_one (ps_ost (pv 0) (pv 1))), ?_⟩
    exact ⟨v, rfl, .ref x, rfl, x, a.C_BadNumber, rfl, T.ox_BadNumber.o, T.ox_BadNumber.no, .inl ⟨hx, fun dx n ne => q dx n ne⟩⟩
theorem ok_NoLevel_init (T : Tx w K mg a) : FnOk P w K mg base CX0 1 a.f_NoLevel_init a.d_NoLevel_init ["self", "size"] (spErrInit a.C_NoLevel "size") := by
  refine T.F_NoLevel_init.ok sc_NoLevel_init (fun vs H Q E h => ?_) (fun cdv A outer s H vs Q E hr h => ?_)
  · obtain ⟨x, v, rfl, _⟩ := h
    rfl
  · obtain ⟨x, v, rfl, hx, q⟩ := h
    refine ⟨_, 
(pss_one (ps_ost (pv 0) (pv 1))), ?_⟩
    exact ⟨v, rfl, .ref x, rfl, x, a.C_NoLevel, rfl, T.ox_NoLevel.o, T.ox_NoLevel.no, .inl ⟨hx, fun dx n ne => q dx n ne⟩⟩
theorem made_same {H H1 : Hp} {x dx C : Addr} {f : Str} {v : V} (s : Same H H1) (hx : H1 x = none) (hd : H1 dx = none) : Same H (upd (del (upd (upd (upd H1 x (exo x C none)) dx (exd dx [(f, v)])) x (exo x C (some dx))) x) dx (.xd [(f, v)])) := fun b o e => by
  have e1 := s b o e
  have nx := ne_of_none e1 hx
  have nd := ne_of_none e1 hd
  rw [upd_ne nd, del_ne nx, upd_ne nx, upd_ne nd, upd_ne nx]
  exact e1
theorem err_end {H H1 : Hp} {C : Addr} {f : Str} {v : V} {E : XK} (s1 : Same H H1) (hE : ∀ H' d, Same H H' → H' d = some (.xd [(f, v)]) → E (.ref C) (some d) H') : ∀ x, H1 x = none →
    spErrInit C f [.ref x, v] (upd H1 x (exo x C none)) (fun u H2 => u = .non ∧ ∃ (d : Addr) (fs : List (Str × V)), H2 x = some (exo x C (some d)) ∧ H2 d = some (exd d fs) ∧ H1 d = none ∧ E (.ref C) (some d) (upd (del H2 x) d (.xd fs))) (fun _ _ _ => False) := by
  intro x hx
  refine ⟨x, v, rfl, upd_same, fun dx hd ne => ⟨rfl, dx, [(f, v)], upd_same, ?_, ?_, ?_⟩⟩
  · rw [upd_ne ne]
    exact upd_same
  · rw [upd_ne ne] at hd
    exact hd
  · have hd1 : H1 dx = none := by
      rw [upd_ne ne] at hd
      exact hd
    exact hE _ dx (made_same s1 hx hd1) upd_same
end

/-! ### moves read: where the first part stands that cannot stand there -/
def sNoP : Str := ""
def shp (h : Str) : Option (List Str) := if h = "exchange" then some ["place", "place"] else if h = "roll" then some ["place", "place", "amount"] else if h = "turn" then some [] else none
/-- the first of the parts that is not of its kind -/
def chkP : List Str → List Str → Option Nat
  | _, [] => none
  | [], _ :: _ => some 0
  | z :: zs, k :: ks => if ptM z k = true then (chkP zs ks).map (· + 1) else some 0
/-- a move at the beginning: the first part that cannot stand, or its parts -/
def mvE (l : List Str) (may : Bool) : Nat ⊕ List Str := match l with
  | [] => .inl 0
  | h :: r => match shp h with
    | none => .inl 0
    | some ks => if decide (h = "turn") && !may then .inl 0 else match chkP r ks with
      | some j => .inl (j + 1)
      | none => .inr (h :: r.take ks.length)
theorem mvE_cons (h : Str) (r : List Str) (may : Bool) : mvE (h :: r) may = match shp h with
    | none => .inl 0
    | some ks => if decide (h = "turn") && !may then .inl 0 else match chkP r ks with
      | some j => .inl (j + 1)
      | none => .inr (h :: r.take ks.length) := rfl
/-- at most n moves at the beginning: the first part that cannot stand, or the moves and how many parts they have -/
def mvsE : Nat → List Str → Bool → Nat ⊕ (List (List Str) × Nat)
  | 0, _, _ => .inl 0
  | n + 1, l, may => match mvE l may with
    | .inl j => .inl j
    | .inr m => if n = 0 ∨ (l.drop m.length).head? ≠ some ("then" : Str) then .inr ([m], m.length) else
      match mvsE n ((l.drop m.length).drop 1) (may && !decide (m = [("turn" : Str)])) with
      | .inl j => .inl (m.length + 1 + j)
      | .inr (ms, c) => .inr (m :: ms, m.length + 1 + c)
theorem pt_no : ∀ k, ptM sNoP k = false := by
  intro k
  unfold ptM
  by_cases h : k = "place"
  · rw [if_pos h]
    decide +kernel
  · rw [if_neg h]
    decide +kernel
theorem shp_no : shp sNoP = none := by decide +kernel
/-- what is told of the parts: they end with the empty part -/
theorem chkP_lt : ∀ {ps ks : List Str} {j : Nat}, chkP (ps ++ [sNoP]) ks = some j → j ≤ ps.length
  | _, [], j, h => by
    unfold chkP at h
    cases h
  | [], k :: ks, j, h => by
    have e : chkP ([] ++ [sNoP]) (k :: ks) = if ptM sNoP k = true then (chkP [] ks).map (· + 1) else some 0 := rfl
    rw [e, if_neg (by rw [pt_no]; decide)] at h
    cases h
    exact Nat.le_refl _
  | z :: zs, k :: ks, j, h => by
    have e : chkP (z :: zs ++ [sNoP]) (k :: ks) = if ptM z k = true then (chkP (zs ++ [sNoP]) ks).map (· + 1) else some 0 := rfl
    rw [e] at h
    by_cases hp : ptM z k = true
    · rw [if_pos hp] at h
      obtain ⟨i, hi, rfl⟩ := Option.map_eq_some_iff.mp h
      have := chkP_lt hi
      simp only [List.length_cons]
      omega
    · rw [if_neg hp] at h
      cases h
      exact Nat.zero_le _
theorem chkP_none : ∀ {ps ks : List Str}, chkP (ps ++ [sNoP]) ks = none → ks.length ≤ ps.length ∧ ∀ (j : Nat) (z k : Str), ps[j]? = some z → ks[j]? = some k → ptM z k = true
  | ps, [], _ => ⟨Nat.zero_le _, fun j z k _ h => by simp at h⟩
  | [], k :: ks, h => by
    have e : chkP ([] ++ [sNoP]) (k :: ks) = if ptM sNoP k = true then (chkP [] ks).map (· + 1) else some 0 := rfl
    rw [e, if_neg (by rw [pt_no]; decide)] at h
    cases h
  | z :: zs, k :: ks, h => by
    have e : chkP (z :: zs ++ [sNoP]) (k :: ks) = if ptM z k = true then (chkP (zs ++ [sNoP]) ks).map (· + 1) else some 0 := rfl
    rw [e] at h
    by_cases hp : ptM z k = true
    · rw [if_pos hp] at h
      obtain ⟨h1, h2⟩ := chkP_none (Option.map_eq_none_iff.mp h)
      refine ⟨by simp only [List.length_cons]; omega, fun j y x hj hx => ?_⟩
      match j, hj, hx with
      | 0, hj, hx => cases hj; cases hx; exact hp
      | j + 1, hj, hx => exact h2 j y x (by simpa using hj) (by simpa using hx)
    · rw [if_neg hp] at h
      cases h
/-- as far as the parts are of their kinds -/
theorem chkP_step {qs ks : List Str} {z k : Str} {j : Nat} (hz : qs[j]? = some z) (hk : ks[j]? = some k) : chkP (qs.drop j) (ks.drop j) = if ptM z k = true then (chkP (qs.drop (j + 1)) (ks.drop (j + 1))).map (· + 1) else some 0 := by
  obtain ⟨h1, e1⟩ := List.getElem?_eq_some_iff.mp hz
  obtain ⟨h2, e2⟩ := List.getElem?_eq_some_iff.mp hk
  rw [List.drop_eq_getElem_cons h1, List.drop_eq_getElem_cons h2, e1, e2]
  rfl
/-- tuples of parts, at their addresses -/
def HeldS (H : Hp) : List Addr → List (List Str) → Prop
  | [], [] => True
  | r :: rs, m :: ms => H r = some (.tup (strsV m)) ∧ HeldS H rs ms
  | _, _ => False
theorem HeldS.mono {H H' : Hp} (e : ∀ t ys, H t = some (.tup ys) → H' t = some (.tup ys)) : ∀ {rs : List Addr} {ms : List (List Str)}, HeldS H rs ms → HeldS H' rs ms
  | [], [], _ => trivial
  | _ :: _, _ :: _, h => ⟨e _ _ h.1, HeldS.mono e h.2⟩
theorem HeldS.same {H H' : Hp} {rs : List Addr} {ms : List (List Str)} (h : HeldS H rs ms) (e : Same H H') : HeldS H' rs ms := h.mono fun _ _ q => e _ _ q
theorem HeldS.len {H : Hp} : ∀ {rs : List Addr} {ms : List (List Str)}, HeldS H rs ms → rs.length = ms.length
  | [], [], _ => rfl
  | _ :: _, _ :: _, h => congrArg (· + 1) h.2.len
theorem HeldS.snoc {H : Hp} {t : Addr} {m : List Str} (e : H t = some (.tup (strsV m))) : ∀ {rs : List Addr} {ms : List (List Str)}, HeldS H rs ms → HeldS H (rs ++ [t]) (ms ++ [m])
  | [], [], _ => ⟨e, trivial⟩
  | _ :: _, _ :: _, h => ⟨h.1, HeldS.snoc e h.2⟩
theorem HeldS.off {H : Hp} {l : Addr} {xs : List V} {o : HO} (hl : H l = some (.lst xs)) {rs : List Addr} {ms : List (List Str)} (h : HeldS H rs ms) : HeldS (upd H l o) rs ms :=
  h.mono fun t ys e => by
    rw [upd_ne (ne_of e hl (by intro z; cases z))]
    exact e
theorem HeldS.offI {H : Hp} {p C dx : Addr} {fs : List (Str × V)} {o : HO} (hp : H p = some (.ins C dx fs)) {rs : List Addr} {ms : List (List Str)} (h : HeldS H rs ms) : HeldS (upd H p o) rs ms :=
  h.mono fun t ys e => by
    rw [upd_ne (ne_of e hp (by intro z; cases z))]
    exact e
theorem HeldS.but {d : Addr} {H H' : Hp} {kvs : List (Key × V)} {rs : List Addr} {ms : List (List Str)} (h : HeldS H rs ms) (x : But d H H') (hd : H d = some (.dK kvs)) : HeldS H' rs ms := h.mono fun _ _ q => x.tup hd q
theorem HeldS.held {H : Hp} : ∀ {rs : List Addr} {ms : List Mv}, HeldS H rs (ms.map Mv.parts) → Held H rs ms
  | [], [], _ => trivial
  | _ :: _, _ :: _, h => ⟨h.1, HeldS.held h.2⟩
def tuS (m : List Str) : PyData := .tuple (m.map PyData.str)
theorem HeldS.dp {K : PySem.W.Frag} {H : Hp} : ∀ {rs : List Addr} {ms : List (List Str)}, HeldS H rs ms → DpAll K H (rs.map V.ref) (ms.map tuS)
  | [], [], _ => .nil
  | _ :: _, _ :: _, h => .cons (.tup (SqT.at h.1) (dp_strs _)) (HeldS.dp h.2)
theorem shaped_tuS {ms : List (List Str)} (h : ∀ m ∈ ms, ∀ z ∈ m, PyData.strOk z = true) : SeqAt.shaped (.tuple (ms.map tuS)) = true ∧ SeqAt.shaped (.list (ms.map tuS)) = true := by
  have hl : PyData.canLayAll0 (ms.map tuS) = true := by
    induction ms with
    | nil => simp [PyData.canLayAll0]
    | cons m r ih =>
      simp only [List.map_cons, PyData.canLayAll0, Bool.and_eq_true]
      exact ⟨by unfold tuS; rw [PyData.canLay0]; exact lay_strs (h m (List.mem_cons_self ..)), ih fun y hy => h y (List.mem_cons_of_mem _ hy)⟩
  have hd : PyData.depthAll (ms.map tuS) ≤ 2 := by
    clear h hl
    induction ms with
    | nil => simp [PyData.depthAll]
    | cons m r ih =>
      have := deep_strs m
      have e : PyData.depth (tuS m) = PyData.depthAll (m.map PyData.str) + 1 := by unfold tuS; rw [PyData.depth]
      simp only [List.map_cons, PyData.depthAll]
      omega
  unfold SeqAt.shaped
  rw [Bool.and_eq_true, decide_eq_true_eq, Bool.and_eq_true, decide_eq_true_eq]
  refine ⟨⟨by rw [PyData.canLay0]; exact hl, ?_⟩, ⟨by rw [PyData.canLay0]; exact hl, ?_⟩⟩ <;> (rw [PyData.depth]; omega)
theorem any_tuS (ms : List (List Str)) (n : List Str) : (ms.map tuS).any (fun z => PyData.eqv z (tuS n)) = decide (n ∈ ms) := by
  induction ms with
  | nil => simp
  | cons m r ih =>
    rw [List.map_cons, List.any_cons, ih]
    have e : PyData.eqv (tuS m) (tuS n) = decide (m = n) := by
      unfold tuS
      rw [PyData.eqv]
      exact eqv_all_strs m n
    rw [e]
    by_cases h : m = n
    · subst h
      simp
    · have h2 : ¬ n = m := fun z => h z.symm
      simp [h, h2]
section
variable {P : Program} {w : World} {K : PySem.W.Frag} {mg : Str → Option Value} {base : Heap} {a : Ad}
/-- parts as the program takes them -/
def PartsOk (ps : List Str) : Prop := ps.length ≤ 500 ∧ ∀ z ∈ ps, z.length ≤ 100 ∧ PyData.strOk z = true
theorem PartsOk.get {ps : List Str} (h : PartsOk ps) {j : Nat} {z : Str} (hz : (ps ++ [sNoP])[j]? = some z) : z.length ≤ 100 ∧ PyData.strOk z = true := by
  rcases List.mem_append.mp (List.mem_of_getElem? hz) with q | q
  · exact h.2 z q
  · rw [List.mem_singleton] at q
    subst q
    exact ⟨by decide +kernel, by decide +kernel⟩
def spReadMove (CW : Addr) : Sp := fun vs H Q E => ∃ (p : Addr) (ps : List Str) (i : Nat) (may : Bool), vs = [.ref p, .int (i : Int), .bl may] ∧ H p = some (.lst (strsV (ps ++ [sNoP]))) ∧ i ≤ ps.length ∧ PartsOk ps ∧
  (∀ m, mvE ((ps ++ [sNoP]).drop i) may = .inr m → ∀ t H', H t = none → H' t = some (.tup (strsV m)) → Same H H' → Q (.ref t) H') ∧
  (∀ j, mvE ((ps ++ [sNoP]).drop i) may = .inl j → ∀ H' d, Same H H' → H' d = some (.xd [("index", .int ((i + j : Nat) : Int))]) → E (.ref CW) (some d) H')
theorem kd_shp {h : Str} (T : Tx w K mg a) : (∀ ks, shp h = some ks → ∃ p, PySem.W.nsIn K a.a_SHAPES h = some (some (.ref p)) ∧ ∀ H : Hp, SqT K H p (strsV ks)) := by
  intro ks e
  unfold shp at e
  by_cases h1 : h = "exchange"
  · rw [if_pos h1] at e
    cases e
    subst h1
    exact T.v_SHAPES_0
  · rw [if_neg h1] at e
    by_cases h2 : h = "roll"
    · rw [if_pos h2] at e
      cases e
      subst h2
      exact T.v_SHAPES_1
    · rw [if_neg h2] at e
      by_cases h3 : h = "turn"
      · rw [if_pos h3] at e
        cases e
        subst h3
        exact T.v_SHAPES_2
      · rw [if_neg h3] at e
        cases e
theorem kd_no {h : Str} (T : Tx w K mg a) (e : shp h = none) : PySem.W.nsIn K a.a_SHAPES h = some none := by
  obtain ⟨es, n, D, hk⟩ := T.K_SHAPES
  have hl := D.at_
  have key : ∀ e ∈ es.toList, ∃ x t, e.key = .str x t ∧ x ≠ h := fun y hy => by
    have q := List.all_eq_true.mp hk y hy
    obtain ⟨x, t, e1, _⟩ := D.lit.all y hy
    rw [e1] at q
    refine ⟨x, t, e1, fun z => ?_⟩
    subst z
    have q := of_decide_eq_true q
    simp only [List.mem_cons, List.not_mem_nil, or_false] at q
    unfold shp at e
    rcases q with q | q | q
    · rw [if_pos q] at e
      cases e
    · by_cases z : x = "exchange"
      · rw [if_pos z] at e
        cases e
      · rw [if_neg z, if_pos q] at e
        cases e
    · by_cases z : x = "exchange"
      · rw [if_pos z] at e
        cases e
      · by_cases z2 : x = "roll"
        · rw [if_neg z, if_pos z2] at e
          cases e
        · rw [if_neg z, if_neg z2, if_pos q] at e
          cases e
  unfold PySem.W.nsIn
  rw [hl]
  have f : es.toList.find? (fun x => x.key.isStr h) = none := by
    rw [List.find?_eq_none]
    intro y hy
    obtain ⟨x, t, e1, ne⟩ := key y hy
    rw [e1]
    simp [PySem.Value.isStr, ne]
  have r : es.toList.any (fun x => x.refKey) = false := by
    rw [List.any_eq_false]
    intro y hy
    obtain ⟨x, t, e1, ne⟩ := key y hy
    simp [PySem.DictEntry.refKey, e1]
  simp only [f, r]
  rfl
theorem ok_read_move (T : Tx w K mg a) : FnOk P w K mg base (L2.CX P w) 4 a.f_read_move a.d_read_move ["parts", "start", "may_turn"] (spReadMove a.C_BadWord) := by
  refine T.F_read_move.okX sc_read_move (fun vs H Q E h => ?_) (fun cdv A outer s H vs Q E hr h => ?_)
  · obtain ⟨p, ps, i, may, rfl, _⟩ := h
    rfl
  · obtain ⟨p, ps, i, may, rfl, hp, hi, hok, qY, qN⟩ := h
    obtain ⟨es, n, D⟩ := T.D_SHAPES
    refine ⟨_, 
(pss_cons (ps_set (i := 3) sc_read_move.nd rfl (.inl rfl) (pe_ix ix_list (pv 0) (pv 1) (fun _ _ => rfl)))
  (C8.pss_cut (ps_if (PW.pt (pw_or (pt_cmpR (op_notIn_kd D) (pv 3) (pe_glob (v := .ref a.a_SHAPES) (by rfl) T.m_SHAPES rfl) (by rfl)) (pw_or1 (PW.pt (pw_and (pt_cmpR op_eq (pv 3) pe_str (nomark _)) (pw_and1 (pt_not (pt_val (pv 2)))))))))
  (pss_one (ps_raise rfl (takes_of rfl rfl rfl rfl) (pmk_oex T.ox_BadWord.o T.ox_BadWord.ini T.ox_BadWord.tin (ok_BadWord_init T) (hr.mono (by decide)) T.b_BadWord_init .nil pass0 (by rfl) T.c_BadWord (pa_cons (pv 1) pa_nil))))
  pss_nil)
  (pss_cons (ps_set (i := 4) sc_read_move.nd rfl (.inl rfl) (pe_ix ix_kdict (pe_glob (v := .ref a.a_SHAPES) (by rfl) T.m_SHAPES rfl) (pv 3) (fun _ _ => rfl)))
  (pss_cons (ps_for PassesOwn.leaving rfl (pi_enumF (by rfl) T.z_enumerate (pa_cons (pv 4) pa_nil) (pe_op op_add (pv 1) pe_int)) (pg_tup rfl (pgs_cons (pg_name (i := 5) sc_read_move.nd rfl (.inl rfl)) (pgs_cons (pg_name (i := 6) sc_read_move.nd rfl (.inl rfl)) pgs_nil)))
  (pss_one (ps_if (pt_not (pt_val (pe_call (ok_is_part T) hr (by rfl) T.m_is_part T.F_is_part.kp T.b_is_part .nil pass0 (pa_cons (pe_ix ix_list (pv 0) (pv 5) (fun _ _ => rfl)) (pa_cons (pv 6) pa_nil)))))
  (pss_one (ps_raise rfl (takes_of rfl rfl rfl rfl) (pmk_oex T.ox_BadWord.o T.ox_BadWord.ini T.ox_BadWord.tin (ok_BadWord_init T) (hr.mono (by decide)) T.b_BadWord_init .nil pass0 (by rfl) T.c_BadWord (pa_cons (pv 5) pa_nil))))
  pss_nil)))
  (pss_one (ps_ret (pe_callTy call_tuple_of (by rfl) T.z_tuple (by decide +kernel) (pa_cons (pe_slice sl_list (pv 0) (po_some (pv 1)) (po_some (pe_op op_add (pe_op op_add (pv 1) pe_int) (pe_callB call_len_seq (by rfl) T.z_len PySem.boot_len (pa_cons (pv 4) pa_nil))))) pa_nil)))))))), ?_⟩
    have hil : i < (ps ++ [sNoP]).length := by rw [List.length_append]; exact Nat.lt_succ_of_le hi
    have g0 : (ps ++ [sNoP])[i]? = some (ps ++ [sNoP])[i] := List.getElem?_eq_getElem hil
    have hd : (ps ++ [sNoP]).drop i = (ps ++ [sNoP])[i] :: (ps ++ [sNoP]).drop (i + 1) := List.drop_eq_getElem_cons hil
    rw [hd] at qY qN
    generalize (ps ++ [sNoP])[i] = h at g0 hd qY qN
    -- head = parts[start]
    refine ⟨.ref p, rfl, .int i, rfl, p, _, i, _, rfl, rfl, SqL.at hp, strs_get g0, ?_⟩
    -- if head not in SHAPES or (head == 'turn' and not may_turn)
    cases hs : shp h with
    | none =>
      have e : mvE (h :: (ps ++ [sNoP]).drop (i + 1)) may = .inl 0 := by rw [mvE_cons, hs]
      refine ⟨fun _ _ => False, ?_, fun _ _ h => h.elim⟩
      refine ⟨_, rfl, h, none, rfl, rfl, kd_no T hs, _, rfl, ?_⟩
      exact ⟨_, rfl, (by decide : 1 ≤ 1000), err_end (Same.refl H) (fun H' d s' ed => qN 0 e H' d s' ed)⟩
    | some ks =>
      obtain ⟨kp, hk1, hk2⟩ := kd_shp T ks hs
      rw [mvE_cons, hs] at qY qN
      refine ⟨fun σ' H' => σ' = [some (.ref p), some (.int i), some (.bl may), some (.str h), none, none, none] ∧ H' = H ∧ (decide (h = "turn") && !may) = false, ?_, ?_⟩
      · refine ⟨_, rfl, h, some (.ref kp), rfl, rfl, hk1, _, rfl, .str h, rfl, rfl, _, rfl, ?_⟩
        by_cases ht : h = "turn"
        · rw [decide_eq_true (show V.str h = V.str "turn" by rw [ht])]
          refine ⟨.bl may, rfl, _, rfl, ?_⟩
          cases may with
          | true => exact ⟨rfl, rfl, by simp⟩
          | false =>
            have e : (decide (h = "turn") && !false) = true := by simp [ht]
            simp only [e, if_true] at qN
            exact ⟨_, rfl, (by decide : 1 ≤ 1000), err_end (Same.refl H) (fun H' d s' ed => qN 0 rfl H' d s' ed)⟩
        · rw [decide_eq_false (show ¬ V.str h = V.str "turn" from fun e => ht (V.str.inj e))]
          exact ⟨rfl, rfl, by simp [ht]⟩
      rintro σ' H' ⟨rfl, rfl, hnt⟩
      simp only [hnt] at qY qN
      have hnn : ¬ (false = true) := by decide
      rw [if_neg hnn] at qY qN
      -- shape = SHAPES[head]
      refine ⟨.str h, rfl, a.a_SHAPES, h, .ref kp, rfl, rfl, ⟨es, n, _, D.at_, D.lit, hk1, rfl⟩, ?_⟩
      -- for index, kind in enumerate(shape, start=start + 1)
      refine ⟨.ref kp, rfl, .int i, rfl, i, 1, rfl, rfl, kp, strsV ks, (i : Int) + 1, rfl, rfl, by omega, by have := hok.1; omega, hk2 _, ?_⟩
      have hlen : (ps ++ [sNoP]).length = ps.length + 1 := by rw [List.length_append]; rfl
      have hip : i + 1 ≤ ps.length := by
        rcases Nat.lt_or_ge i ps.length with l | l
        · exact l
        · have : i = ps.length := by omega
          subst this
          rw [List.getElem?_append_right (Nat.le_refl _), Nat.sub_self] at g0
          have e := Option.some.inj g0
          rw [← e, show shp sNoP = none from shp_no] at hs
          cases hs
      have hkl : (strsV ks).length = ks.length := List.length_map ..
      refine for_it (walk_enumF (xs := strsV ks)) (fun j σ H3 => (∃ y5 y6, σ = [some (.ref p), some (.int i), some (.bl may), some (.str h), some (.ref kp), y5, y6]) ∧ Same H' H3 ∧ i + 1 + j ≤ ps.length ∧ chkP ((ps ++ [sNoP]).drop (i + 1)) ks = (chkP ((ps ++ [sNoP]).drop (i + 1 + j)) (ks.drop j)).map (· + j)) ?h0 ?hG ?hs ?hd
      case h0 => exact ⟨⟨none, none, rfl⟩, Same.refl _, hip, by simp⟩
      case hG =>
        rintro j σ H3 hj _
        exact hk2 _
      case hs =>
        rintro j v σ H3 H4 hj ⟨⟨y5, y6, rfl⟩, s3, hij, hch⟩ ⟨t, x1, x, rfl, nt, rfl, e1, e2⟩
        cases e1
        have hjk : j < ks.length := by omega
        have e2 : (strsV ks)[j]? = some x := e2
        unfold strsV at e2
        rw [List.getElem?_map, List.getElem?_eq_getElem hjk] at e2
        cases e2
        have s4 := s3.trans (same_upd (o := .tup [.int ((i : Int) + 1 + (j : Nat)), .str ks[j]]) nt)
        have hjl : i + 1 + j < (ps ++ [sNoP]).length := by omega
        have hz : (ps ++ [sNoP])[i + 1 + j]? = some (ps ++ [sNoP])[i + 1 + j] := List.getElem?_eq_getElem hjl
        generalize (ps ++ [sNoP])[i + 1 + j] = z at hz
        have hat : atI (strsV (ps ++ [sNoP])) ((i : Int) + 1 + (j : Nat)) = some (.str z) := by
          have := strs_get hz
          rw [show ((i + 1 + j : Nat) : Int) = (i : Int) + 1 + (j : Nat) by omega] at this
          exact this
        have hst : chkP ((ps ++ [sNoP]).drop (i + 1 + j)) (ks.drop j) = if ptM z ks[j] = true then (chkP ((ps ++ [sNoP]).drop (i + 1 + (j + 1))) (ks.drop (j + 1))).map (· + 1) else some 0 := by
          obtain ⟨h1, e1⟩ := List.getElem?_eq_some_iff.mp hz
          rw [List.drop_eq_getElem_cons h1, List.drop_eq_getElem_cons hjk, e1]
          rfl
        refine ⟨t, [.int ((i : Int) + 1 + (j : Nat)), .str ks[j]], rfl, SqT.at upd_same, rfl, _, [.str ks[j]], rfl, .str ks[j], [], rfl, rfl, ?_⟩
        refine ⟨.ref p, rfl, _, rfl, p, _, _, _, rfl, rfl, SqL.at (s4 _ _ hp), hat, .str ks[j], rfl, z, ks[j], rfl, sz (by have := (hok.get hz).1; omega), fun H5 s5 => ?_⟩
        by_cases hpt : ptM z ks[j] = true
        · rw [hpt]
          rw [if_pos hpt] at hst
          have hne : i + 1 + j < ps.length := by
            rcases Nat.lt_or_ge (i + 1 + j) ps.length with l | l
            · exact l
            · have e : i + 1 + j = ps.length := by omega
              rw [e, List.getElem?_append_right (Nat.le_refl _), Nat.sub_self] at hz
              have e := Option.some.inj hz
              rw [← e, show ptM sNoP ks[j] = false from pt_no _] at hpt
              cases hpt
          refine ⟨_, rfl, ⟨_, _, rfl⟩, s4.trans s5, by omega, ?_⟩
          rw [hch, hst, Option.map_map]
          congr 1
          funext n
          show n + 1 + j = n + (j + 1)
          omega
        · rw [if_neg hpt] at hst
          rw [Bool.not_eq_true] at hpt
          rw [hpt]
          have hin : chkP ((ps ++ [sNoP]).drop (i + 1)) ks = some j := by
            rw [hch, hst]
            show some (0 + j) = some j
            rw [Nat.zero_add]
          rw [hin] at qN
          refine ⟨_, rfl, _, rfl, (by decide : 1 ≤ 1000), err_end (s4.trans s5) (fun H6 d s' ed => qN (j + 1) rfl H6 d s' ?_)⟩
          rw [ed, show ((i + (j + 1) : Nat) : Int) = (i : Int) + 1 + (j : Nat) by omega]
      case hd =>
        rintro σ H3 ⟨⟨y5, y6, rfl⟩, s3, hij, hch⟩
        rw [hkl] at hij hch
        have hno : chkP ((ps ++ [sNoP]).drop (i + 1)) ks = none := by
          rw [hch, List.drop_length]
          unfold chkP
          rfl
        rw [hno] at qY
        have cut : cutV (strsV (ps ++ [sNoP])) (some (i : Int)) (some ((i : Int) + 1 + ((strsV ks).length : Int))) = strsV (h :: ((ps ++ [sNoP]).drop (i + 1)).take ks.length) := by
          have hsl : (strsV (ps ++ [sNoP])).length = (ps ++ [sNoP]).length := List.length_map ..
          unfold cutV
          rw [hkl, show (i : Int) + 1 + (ks.length : Int) = ((i + 1 + ks.length : Nat) : Int) by omega, HT.sIx_nat, HT.sIx_nat, hsl, Nat.min_eq_left (by omega), Nat.min_eq_left (by omega)]
          unfold strsV
          rw [← List.map_drop, hd, ← List.map_take, show i + 1 + ks.length - i = ks.length + 1 by omega, List.take_succ_cons]
        refine ⟨.ref p, rfl, .int i, rfl, _, rfl, .int i, rfl, i, 1, rfl, rfl, .ref kp, rfl, kp, _, rfl, .inr (hk2 _), _, _, rfl, rfl, _, rfl, p, _, rfl, SqL.at (s3 _ _ hp), fun o no => ?_⟩
        rw [cut]
        have s4 := same_upd (o := .lst (strsV (h :: ((ps ++ [sNoP]).drop (i + 1)).take ks.length))) no
        refine ⟨o, _, rfl, .inl ⟨SqL.at upd_same, fun t nt => ?_⟩⟩
        exact qY _ rfl t _ (s3.free (s4.free nt)) upd_same (s3.trans (s4.trans (same_upd nt)))
end

theorem mvE_inr {ps : List Str} {k : Nat} (hk : k ≤ ps.length) {may : Bool} {m : List Str} (h : mvE ((ps ++ [sNoP]).drop k) may = .inr m) : k + m.length ≤ ps.length ∧ (ps.drop k).take m.length = m ∧ 1 ≤ m.length := by
  have hil : k < (ps ++ [sNoP]).length := by rw [List.length_append]; exact Nat.lt_succ_of_le hk
  rw [List.drop_eq_getElem_cons hil, mvE_cons] at h
  cases hs : shp (ps ++ [sNoP])[k] with
  | none =>
    rw [hs] at h
    cases h
  | some ks =>
    rw [hs] at h
    have hkp : k < ps.length := by
      rcases Nat.lt_or_ge k ps.length with l | l
      · exact l
      · have : k = ps.length := by omega
        subst this
        rw [List.getElem_append_right (Nat.le_refl _)] at hs
        simp only [Nat.sub_self, List.getElem_cons_zero] at hs
        rw [shp_no] at hs
        cases hs
    have e1 : (ps ++ [sNoP]).drop (k + 1) = ps.drop (k + 1) ++ [sNoP] := by
      rw [List.drop_append_of_le_length (by omega)]
    have e2 : (ps ++ [sNoP])[k] = ps[k] := List.getElem_append_left hkp
    rw [e1, e2] at h
    by_cases c : (decide (ps[k] = "turn") && !may) = true
    · simp only [c, if_true] at h
      cases h
    · rw [Bool.not_eq_true] at c
      simp only [c] at h
      cases hc : chkP (ps.drop (k + 1) ++ [sNoP]) ks with
      | some j =>
        rw [hc] at h
        cases h
      | none =>
        rw [hc] at h
        obtain ⟨n1, n2⟩ := chkP_none hc
        rw [List.length_drop] at n1
        have h : ps[k] :: (ps.drop (k + 1) ++ [sNoP]).take ks.length = m := Sum.inr.inj h
        have e3 : (ps.drop (k + 1) ++ [sNoP]).take ks.length = (ps.drop (k + 1)).take ks.length := List.take_append_of_le_length (by rw [List.length_drop]; exact n1)
        rw [e3] at h
        have hml : m.length = ks.length + 1 := by
          rw [← h, List.length_cons, List.length_take, List.length_drop]
          omega
        refine ⟨by omega, ?_, by omega⟩
        rw [hml, ← h, List.drop_eq_getElem_cons hkp, List.take_succ_cons]
theorem mvsE_succ (n : Nat) (l : List Str) (may : Bool) : mvsE (n + 1) l may = match mvE l may with
    | .inl j => .inl j
    | .inr m => if n = 0 ∨ (l.drop m.length).head? ≠ some ("then" : Str) then .inr ([m], m.length) else
      match mvsE n ((l.drop m.length).drop 1) (may && !decide (m = [("turn" : Str)])) with
      | .inl j => .inl (m.length + 1 + j)
      | .inr (ms, c) => .inr (m :: ms, m.length + 1 + c) := rfl
/-- behind the moves dn, which have c parts with the parts between them -/
def behM (dn : List (List Str)) (c : Nat) : Nat ⊕ (List (List Str) × Nat) → Nat ⊕ (List (List Str) × Nat)
  | .inl j => .inl (c + j)
  | .inr (ms, c2) => .inr (dn ++ ms, c + c2)
section
variable {P : Program} {w : World} {K : PySem.W.Frag} {mg : Str → Option Value} {base : Heap} {a : Ad}
def spReadMoves (CW : Addr) : Sp := fun vs H Q E => ∃ (p : Addr) (ps : List Str) (i : Nat), vs = [.ref p, .int (i : Int)] ∧ H p = some (.lst (strsV (ps ++ [sNoP]))) ∧ i ≤ ps.length ∧ PartsOk ps ∧
  (∀ ms c, mvsE 4 ((ps ++ [sNoP]).drop i) true = .inr (ms, c) → ∀ o t rs H', H o = none → H t = none → H' o = some (.tup [.ref t, .int ((i + c : Nat) : Int)]) → H' t = some (.tup (rs.map V.ref)) → HeldS H' rs ms → Same H H' → Q (.ref o) H') ∧
  (∀ j, mvsE 4 ((ps ++ [sNoP]).drop i) true = .inl j → ∀ H' d, Same H H' → H' d = some (.xd [("index", .int ((i + j : Nat) : Int))]) → E (.ref CW) (some d) H')
theorem ok_read_moves (T : Tx w K mg a) : FnOk P w K mg base (L2.CX P w) 5 a.f_read_moves a.d_read_moves ["parts", "start"] (spReadMoves a.C_BadWord) := by
  refine T.F_read_moves.okX sc_read_moves (fun vs H Q E h => ?_) (fun cdv A outer s H vs Q E hr h => ?_)
  · obtain ⟨p, ps, i, rfl, _⟩ := h
    rfl
  · obtain ⟨p, ps, i, rfl, hp, hi, hok, qY, qN⟩ := h
    refine ⟨_, 
(pss_cons (ps_set (i := 2) sc_read_moves.nd rfl (.inl rfl) (pe_lst pa_nil))
  (pss_cons (ps_set (i := 3) sc_read_moves.nd rfl (.inl rfl) (pv 1))
  (pss_one (ps_while PassesOwn.leaving (pt_val pe_bl)
  (pss_cons (ps_set (i := 4) sc_read_moves.nd rfl (.inl rfl) (pe_callS (ok_read_move T) hr (by rfl) T.m_read_move T.F_read_move.kp T.b_read_move (fun σ => passAt (takes_of rfl rfl rfl rfl) σ) (pa_cons (pv 0) (pa_cons (pv 3) (pa_cons (pe_cmpR (op_notInD (room65 hr)) (pe_tup (pa_cons pe_str pa_nil)) (pv 2) (by rfl)) pa_nil)))))
  (pss_cons (ps_expr (pe_bm PySem.F.plainAttrs_list PySem.F.slot_list_append PySem.F.type_list_append mt_append (pv 2) (pa_cons (pv 4) pa_nil)))
  (pss_cons (ps_set (i := 3) sc_read_moves.nd rfl (.inl rfl) (pe_op op_add (pv 3) (pe_callB call_len_seq (by rfl) T.z_len PySem.boot_len (pa_cons (pv 4) pa_nil))))
  (pss_cons (ps_if (PW.pt (pw_or (pt_cmpR op_eq (pe_callB call_len_seq (by rfl) T.z_len PySem.boot_len (pa_cons (pv 2) pa_nil)) (pe_glob (v := .int 4) (by rfl) T.m_MOST_MOVES.choose_spec ⟨_, rfl⟩) (nomark _)) (pw_or1 (pt_cmpR op_ne (pe_ix ix_list (pv 0) (pv 3) (fun _ _ => rfl)) pe_str (nomark _)))))
  (pss_one (ps_ret (pe_tup (pa_cons (pe_callTy call_tuple_of (by rfl) T.z_tuple (by decide +kernel) (pa_cons (pv 2) pa_nil)) (pa_cons (pv 3) pa_nil)))))
  pss_nil)
  (pss_one (ps_set (i := 3) sc_read_moves.nd rfl (.inl rfl) (pe_op op_add (pv 3) pe_int))))))))))), ?_⟩
    generalize hR : mvsE 4 ((ps ++ [sNoP]).drop i) true = R at qY qN
    refine ⟨Nat.zero_le _, fun l nl => ?_⟩
    refine ⟨_, rfl, ?_⟩
    have s1 : Same H (upd H l (.lst [])) := same_upd nl
    have nlp : p ≠ l := ne_of_none hp nl
    refine ⟨fun k σ H3 => ∃ (dn : List (List Str)) (rs : List Addr) (c : Nat) (y4 : Option V), k + dn.length = 3 ∧ i + c ≤ ps.length ∧ R = behM dn c (mvsE (k + 1) ((ps ++ [sNoP]).drop (i + c)) (!decide ([("turn" : Str)] ∈ dn))) ∧ (∀ m ∈ dn, ∀ z ∈ m, z ∈ ps) ∧
        σ = [some (.ref p), some (.int i), some (.ref l), some (.int ((i + c : Nat) : Int)), y4] ∧ H3 l = some (.lst (rs.map V.ref)) ∧ HeldS H3 rs dn ∧ Same H H3,
      ⟨3, [], [], 0, none, rfl, hi, ?_, (fun m hm => by cases hm), rfl, upd_same, trivial, s1⟩, ?_⟩
    · show R = behM [] 0 (mvsE 4 ((ps ++ [sNoP]).drop i) true)
      rw [hR]
      cases R with
      | inl j => show _ = Sum.inl (0 + j); rw [Nat.zero_add]
      | inr q => show _ = Sum.inr (q.1, 0 + q.2); rw [Nat.zero_add]
    rintro k σ H3 ⟨dn, rs, c, y4, hk, hic, heq, hel, rfl, hl3, held, s3⟩
    have hp3 := s3 _ _ hp
    rw [mvsE_succ] at heq
    refine ⟨true, rfl, fun σ' H' => ∃ k', k' < k ∧ ∃ (dn : List (List Str)) (rs : List Addr) (c : Nat) (y4 : Option V), k' + dn.length = 3 ∧ i + c ≤ ps.length ∧ R = behM dn c (mvsE (k' + 1) ((ps ++ [sNoP]).drop (i + c)) (!decide ([("turn" : Str)] ∈ dn))) ∧ (∀ m ∈ dn, ∀ z ∈ m, z ∈ ps) ∧
        σ' = [some (.ref p), some (.int i), some (.ref l), some (.int ((i + c : Nat) : Int)), y4] ∧ H' l = some (.lst (rs.map V.ref)) ∧ HeldS H' rs dn ∧ Same H H', fun σ' H' h => h, ?_⟩
    -- move = read_move(parts, end, ('turn',) not in moves)
    refine ⟨.ref p, rfl, _, rfl, sz (show 1 ≤ 100000 by decide), fun t0 nt0 => ?_⟩
    have s4 := same_upd (o := .tup [V.str "turn"]) nt0
    refine ⟨.ref l, rfl, tuS [("turn" : Str)], dn.map tuS, .tup (SqT.at upd_same) (dp_strs ["turn"]), .lst (SqL.at (s4 _ _ hl3)) (held.same s4).dp, shaped_strs (by decide +kernel), (shaped_tuS fun m hm z hz => (hok.2 z (hel m hm z hz)).2).2, ?_⟩
    rw [any_tuS]
    have s5 := s3.trans s4
    have hl4' := s4 _ _ hl3
    have held4' := held.same s4
    refine ⟨p, ps, i + c, !decide ([("turn" : Str)] ∈ dn), rfl, s5 _ _ hp, hic, hok, fun m hm t H4 nt ht s6 => ?_, fun j hj H4 d s6 ed => ?_⟩
    rotate_left
    · rw [hj] at heq
      refine qN (c + j) heq H4 d (s5.trans s6) ?_
      rw [ed, show i + (c + j) = i + c + j by omega]
    obtain ⟨m1, m2, m3⟩ := mvE_inr hic hm
    rw [hm] at heq
    have s7 := s5.trans s6
    have hl4 := s6 _ _ hl4'
    have hp4 := s7 _ _ hp
    have held4 := held4'.same s6
    have hrl := held4.len
    -- moves.append(move)
    refine ⟨.ref l, rfl, .inl ⟨rfl, _, SqL.at hl4⟩, .ref t, rfl, l, rs.map V.ref, .ref t, rfl, rfl, hl4, szlt (by rw [List.length_map]; omega), ?_⟩
    have s8 := keep_upd (o := .lst (rs.map V.ref ++ [.ref t])) s7 nl
    have ntl : t ≠ l := ne_of ht hl4 (by intro z; cases z)
    have hl5 : (upd H4 l (.lst (rs.map V.ref ++ [.ref t]))) l = some (.lst ((rs ++ [t]).map V.ref)) := by
      rw [upd_same, List.map_append]
      rfl
    have ht5 : (upd H4 l (.lst (rs.map V.ref ++ [.ref t]))) t = some (.tup (strsV m)) := by
      rw [upd_ne ntl]
      exact ht
    have held5 : HeldS (upd H4 l (.lst (rs.map V.ref ++ [.ref t]))) (rs ++ [t]) (dn ++ [m]) := HeldS.snoc ht5 (HeldS.off hl4 held4)
    have hp5 := s8 _ _ hp
    generalize upd H4 l (.lst (rs.map V.ref ++ [.ref t])) = H5 at s8 hl5 ht5 held5 hp5
    -- end = end + len(move)
    refine ⟨_, rfl, .ref t, rfl, t, _, rfl, .inr (SqT.at ht5), _, _, rfl, rfl, ?_⟩
    have ep : ((i + c : Nat) : Int) + ((strsV m).length : Int) = ((i + c + m.length : Nat) : Int) := by
      unfold strsV
      rw [List.length_map]
      omega
    -- if len(moves) == MOST_MOVES or parts[end] != 'then'
    refine ⟨.ref l, rfl, l, _, rfl, .inl (SqL.at hl5), rfl, _, rfl, ?_⟩
    have ehl : ((rs ++ [t]).map V.ref).length = dn.length + 1 := by
      rw [List.length_map, List.length_append, hrl]
      rfl
    rw [ehl]
    have hil : i + c + m.length < (ps ++ [sNoP]).length := by rw [List.length_append]; exact Nat.lt_succ_of_le m1
    have hz : (ps ++ [sNoP])[i + c + m.length]? = some (ps ++ [sNoP])[i + c + m.length] := List.getElem?_eq_getElem hil
    have hhd : (((ps ++ [sNoP]).drop (i + c)).drop m.length).head? = (ps ++ [sNoP])[i + c + m.length]? := by
      rw [List.drop_drop, List.head?_drop]
    generalize (ps ++ [sNoP])[i + c + m.length] = z at hz
    dsimp only at heq
    rw [hhd, hz] at heq
    have hat : atI (strsV (ps ++ [sNoP])) (((i + c : Nat) : Int) + ((strsV m).length : Int)) = some (.str z) := by
      rw [ep]
      exact strs_get hz
    have hel' : ∀ m' ∈ dn ++ [m], ∀ y ∈ m', y ∈ ps := fun m' hm' y hy => by
      rcases List.mem_append.mp hm' with q | q
      · exact hel m' q y hy
      · rw [List.mem_singleton] at q
        rw [q, ← m2] at hy
        exact List.mem_of_mem_drop (List.mem_of_mem_take hy)
    have fin : k = 0 ∨ z ≠ "then" → ∀ (o1 o2 : Addr), H5 o1 = none → (upd H5 o1 (.tup ((rs ++ [t]).map V.ref))) o2 = none → Q (.ref o2) (upd (upd H5 o1 (.tup ((rs ++ [t]).map V.ref))) o2 (.tup [.ref o1, .int (((i + c : Nat) : Int) + ((strsV m).length : Int))])) := fun hend o1 o2 no1 no2 => by
      have u1 := same_upd (o := .tup ((rs ++ [t]).map V.ref)) no1
      have u2 := same_upd (o := .tup [V.ref o1, .int (((i + c : Nat) : Int) + ((strsV m).length : Int))]) no2
      have u12 := s8.trans (u1.trans u2)
      have hc : k = 0 ∨ some z ≠ some ("then" : Str) := hend.imp id fun h e => h (Option.some.inj e)
      simp only [if_pos hc] at heq
      refine qY _ _ heq o2 o1 (rs ++ [t]) _ (s8.free (u1.free no2)) (s8.free no1) ?_ (u2 _ _ upd_same) (held5.same (u1.trans u2)) u12
      rw [upd_same, ep, show i + (c + m.length) = i + c + m.length by omega]
    by_cases h4 : k = 0
    · rw [decide_eq_true (show V.int ((dn.length + 1 : Nat) : Int) = V.int 4 by rw [show dn.length + 1 = 4 by omega]; rfl)]
      refine ⟨.ref l, rfl, l, _, rfl, .inl ⟨SqL.at hl5, fun o1 no1 => ⟨_, rfl, sz (show 2 ≤ 100000 by decide), fun o2 no2 => fin (.inl h4) o1 o2 no1 no2⟩⟩⟩
    · rw [decide_eq_false (show ¬ V.int ((dn.length + 1 : Nat) : Int) = V.int 4 from fun e => h4 (by have := V.int.inj e; omega))]
      refine ⟨.ref p, rfl, _, rfl, p, _, _, _, rfl, rfl, SqL.at hp5, hat, rfl, _, rfl, ?_⟩
      by_cases hzt : z = "then"
      · rw [decide_eq_true (show V.str z = V.str "then" by rw [hzt])]
        refine ⟨_, rfl, _, _, rfl, rfl, ?_⟩
        have hc : ¬ (k = 0 ∨ some z ≠ some ("then" : Str)) := fun h => h.elim h4 fun h => h (by rw [hzt])
        simp only [if_neg hc] at heq
        have hne : i + c + m.length < ps.length := by
          rcases Nat.lt_or_ge (i + c + m.length) ps.length with q | q
          · exact q
          · have e : i + c + m.length = ps.length := by omega
            rw [e, List.getElem?_append_right (Nat.le_refl _), Nat.sub_self] at hz
            have e2 := Option.some.inj hz
            rw [← e2] at hzt
            exact absurd hzt (by decide +kernel)
        refine ⟨k - 1, by omega, dn ++ [m], rs ++ [t], c + m.length + 1, some (.ref t), by rw [List.length_append]; show k - 1 + (dn.length + 1) = 3; omega, by omega, ?_, hel', ?_, hl5, held5, s8⟩
        · rw [heq, show k - 1 + 1 = k by omega, List.drop_drop, List.drop_drop, show i + c + (m.length + 1) = i + (c + m.length + 1) by omega]
          have em : (!decide ([("turn" : Str)] ∈ dn) && !decide (m = [("turn" : Str)])) = !decide ([("turn" : Str)] ∈ dn ++ [m]) := by
            by_cases h1 : [("turn" : Str)] ∈ dn <;> by_cases h2 : m = [("turn" : Str)] <;> simp [h1, h2, eq_comm]
          rw [em]
          cases mvsE k ((ps ++ [sNoP]).drop (i + (c + m.length + 1))) (!decide ([("turn" : Str)] ∈ dn ++ [m])) with
          | inl j => show Sum.inl (c + (m.length + 1 + j)) = Sum.inl (c + m.length + 1 + j); congr 1; omega
          | inr q => show Sum.inr (dn ++ m :: q.1, c + (m.length + 1 + q.2)) = Sum.inr (dn ++ [m] ++ q.1, c + m.length + 1 + q.2); congr 1; rw [List.append_assoc]; congr 1; omega
        · rw [show ((i + (c + m.length + 1) : Nat) : Int) = ((i + c : Nat) : Int) + ((strsV m).length : Int) + 1 by rw [ep]; omega]
          rfl
      · rw [decide_eq_false (show ¬ V.str z = V.str "then" from fun e => hzt (V.str.inj e))]
        refine ⟨.ref l, rfl, l, _, rfl, .inl ⟨SqL.at hl5, fun o1 no1 => ⟨_, rfl, sz (show 2 ≤ 100000 by decide), fun o2 no2 => fin (.inr hzt) o1 o2 no1 no2⟩⟩⟩
end

/-- the parts of moves with `then` between them -/
def wpS : List (List Str) → List Str
  | [] => []
  | [m] => m
  | m :: n :: r => m ++ sThen :: wpS (n :: r)
/-- a word's parts: the first that cannot stand, or its moves -/
def wrdE (ps : List Str) : Nat ⊕ List (List Str) := match mvsE 4 (ps ++ [sNoP]) true with
  | .inl j => .inl j
  | .inr (ms, c) => if c < ps.length then .inl c else .inr ms
def flS (z : Str) (ms : List (List Str)) (t : Addr) : List (Str × V) := putF "has_turn" (.bl (decide ([("turn" : Str)] ∈ ms))) (putF "moves" (.ref t) (putF "text" (.str z) []))
/-- a Word stands at p -/
def WordS (C : Addr) (H : Hp) (p : Addr) (z : Str) (ms : List (List Str)) : Prop := ∃ dx t rs, H p = some (.ins C dx (flS z ms t)) ∧ H t = some (.tup (rs.map V.ref)) ∧ HeldS H rs ms
theorem WordS.same {C : Addr} {H H' : Hp} {p : Addr} {z : Str} {ms : List (List Str)} (h : WordS C H p z ms) (e : Same H H') : WordS C H' p z ms := by
  obtain ⟨dx, t, rs, h1, h2, h3⟩ := h
  exact ⟨dx, t, rs, e _ _ h1, e _ _ h2, h3.same e⟩
theorem WordS.but {C d : Addr} {H H' : Hp} {kvs : List (Key × V)} {p : Addr} {z : Str} {ms : List (List Str)} (h : WordS C H p z ms) (x : But d H H') (hd : H d = some (.dK kvs)) : WordS C H' p z ms := by
  obtain ⟨dx, t, rs, h1, h2, h3⟩ := h
  exact ⟨dx, t, rs, x _ _ h1 (ne_of h1 hd (by intro z; cases z)), x.tup hd h2, h3.but x hd⟩
theorem flS_text (z : Str) (ms : List (List Str)) (t : Addr) : (flS z ms t).lookup ("text" : Str) = some (.str z) := by
  unfold flS
  rw [lookup_putF, if_neg kw2, lookup_putF, if_neg kw1, lookup_putF, if_pos rfl]
theorem flS_moves (z : Str) (ms : List (List Str)) (t : Addr) : (flS z ms t).lookup ("moves" : Str) = some (.ref t) := by
  unfold flS
  rw [lookup_putF, if_neg kw3, lookup_putF, if_pos rfl]
theorem flS_mv (ms : List Mv) (t : Addr) : flS (wtext ms) (ms.map Mv.parts) t = flW ms t := by
  unfold flS flW
  have e : decide ([("turn" : Str)] ∈ ms.map Mv.parts) = decide (Mv.turn ∈ ms) := by
    rw [decide_eq_decide, List.mem_map]
    constructor
    · rintro ⟨m, hm, e⟩
      have : m = .turn := Mv.inj.mp e
      exact this ▸ hm
    · intro h
      exact ⟨_, h, rfl⟩
  rw [e]
theorem WordS.mv {C : Addr} {H : Hp} {p : Addr} {ms : List Mv} (h : WordS C H p (wtext ms) (ms.map Mv.parts)) : WordAt C H p ms := by
  obtain ⟨dx, t, rs, h1, h2, h3⟩ := h
  rw [flS_mv] at h1
  exact ⟨dx, t, rs, h1, h2, h3.held⟩
theorem mvsE_le : ∀ {n : Nat} {ps : List Str} {k : Nat} {may : Bool} {ms : List (List Str)} {c : Nat}, k ≤ ps.length → mvsE n ((ps ++ [sNoP]).drop k) may = .inr (ms, c) → k + c ≤ ps.length ∧ (ps.drop k).take c = wpS ms ∧ ms ≠ [] ∧ ms.length ≤ n ∧ c = (wpS ms).length
  | 0, ps, k, may, ms, c, _, h => by cases h
  | n + 1, ps, k, may, ms, c, hk, h => by
    rw [mvsE_succ] at h
    cases hm : mvE ((ps ++ [sNoP]).drop k) may with
    | inl j =>
      rw [hm] at h
      cases h
    | inr m =>
      rw [hm] at h
      dsimp only at h
      obtain ⟨m1, m2, m3⟩ := mvE_inr hk hm
      by_cases hc : n = 0 ∨ (((ps ++ [sNoP]).drop k).drop m.length).head? ≠ some ("then" : Str)
      · rw [if_pos hc] at h
        cases h
        exact ⟨m1, m2, by simp, by simp, rfl⟩
      · rw [if_neg hc] at h
        have hth : (((ps ++ [sNoP]).drop k).drop m.length).head? = some ("then" : Str) := Classical.byContradiction fun z => hc (.inr z)
        rw [List.drop_drop, List.head?_drop] at hth
        have hlt : k + m.length < ps.length := by
          rcases Nat.lt_or_ge (k + m.length) ps.length with q | q
          · exact q
          · have e : k + m.length = ps.length := by omega
            rw [e, List.getElem?_append_right (Nat.le_refl _), Nat.sub_self] at hth
            have e2 := Option.some.inj hth
            exact absurd e2 (by decide +kernel)
        rw [List.drop_drop, List.drop_drop] at h
        cases hr : mvsE n ((ps ++ [sNoP]).drop (k + (m.length + 1))) (may && !decide (m = [("turn" : Str)])) with
        | inl j =>
          rw [hr] at h
          cases h
        | inr q =>
          obtain ⟨ms', c'⟩ := q
          rw [hr] at h
          cases h
          obtain ⟨r1, r2, r3, r4, r5⟩ := mvsE_le (by omega) hr
          have hz : ps[k + m.length]? = some sThen := by
            rw [List.getElem?_append_left hlt] at hth
            exact hth
          have ew : wpS (m :: ms') = m ++ sThen :: wpS ms' := by
            cases ms' with
            | nil => exact absurd rfl r3
            | cons a b => rfl
          refine ⟨by omega, ?_, by simp, by simp only [List.length_cons]; omega, ?_⟩
          · have d1 : ps.drop k = m ++ ps.drop (k + m.length) := by
              have := List.take_append_drop m.length (ps.drop k)
              rw [m2, List.drop_drop] at this
              exact this.symm
            have d2 : ps.drop (k + m.length) = sThen :: ps.drop (k + (m.length + 1)) := by
              obtain ⟨h1, h2⟩ := List.getElem?_eq_some_iff.mp hz
              rw [List.drop_eq_getElem_cons h1, h2]
              rfl
            rw [ew, d1, d2, show m.length + 1 + c' = m.length + (c' + 1) by omega, List.take_length_add_append, List.take_succ_cons, r2]
          · rw [ew, List.length_append, List.length_cons, r5]
            omega
/-- what is read is the parts -/
theorem wrdE_inr {ps : List Str} {ms : List (List Str)} (h : wrdE ps = .inr ms) : ps = wpS ms ∧ ms ≠ [] ∧ ms.length ≤ 4 := by
  unfold wrdE at h
  cases hm : mvsE 4 (ps ++ [sNoP]) true with
  | inl j =>
    rw [hm] at h
    cases h
  | inr q =>
    obtain ⟨ms', c⟩ := q
    rw [hm] at h
    dsimp only at h
    obtain ⟨r1, r2, r3, r4, r5⟩ := mvsE_le (k := 0) (Nat.zero_le _) hm
    by_cases hc : c < ps.length
    · rw [if_pos hc] at h
      cases h
    · rw [if_neg hc] at h
      cases h
      rw [List.drop_zero, List.take_of_length_le (by omega)] at r2
      exact ⟨r2, r3, r4⟩
section
variable {P : Program} {w : World} {K : PySem.W.Frag} {mg : Str → Option Value} {base : Heap} {a : Ad}
def spWordInit (C CW : Addr) : Sp := fun vs H Q E => ∃ (p dx : Addr) (z : Str) (ps : List Str), vs = [.ref p, .str z] ∧ H p = some (.ins C dx []) ∧ Txt.split z " " = ps ∧ PartsOk ps ∧ z.length ≤ 90000 ∧
  (∀ ms, wrdE ps = .inr ms → ∀ H', WordS C H' p z ms → (∀ b o, H b = some o → b ≠ p → H' b = some o) → Q .non H') ∧
  (∀ j, wrdE ps = .inl j → ∀ H' d, Same H H' → H' d = some (.xd [("index", .int ((j : Nat) : Int))]) → E (.ref CW) (some d) H')
theorem ok_Word_init (T : Tx w K mg a) : FnOk P w K mg base (L2.CX P w) 6 a.f_Word_init a.d_Word_init ["self", "text"] (spWordInit a.C_Word a.C_BadWord) := by
  refine T.F_Word_init.okX sc_Word_init (fun vs H Q E h => ?_) (fun cdv A outer s H vs Q E hr h => ?_)
  · obtain ⟨p, dx, z, ps, rfl, _⟩ := h
    rfl
  · obtain ⟨p, dx, z, ps, rfl, hp, hsp, hok, htl, qY, qN⟩ := h
    refine ⟨_, 
(pss_cons (ps_set (i := 2) sc_Word_init.nd rfl (.inl rfl) (pe_split (pv 1) pe_str))
  (pss_cons (ps_asg (pe_callS (ok_read_moves T) hr (by rfl) T.m_read_moves T.F_read_moves.kp T.b_read_moves (fun σ => passAt (takes_of rfl rfl rfl rfl) σ) (pa_cons (pe_lst (StX.pa_star (pv 2) (pa_cons (pe_glob (v := .str "") (by rfl) T.m_NO_PART.choose_spec ⟨_, rfl⟩) pa_nil))) (pa_cons pe_int pa_nil))) (pg_tup rfl (pgs_cons (pg_name (i := 3) sc_Word_init.nd rfl (.inl rfl)) (pgs_cons (pg_name (i := 4) sc_Word_init.nd rfl (.inl rfl)) pgs_nil))))
  (pss_cons (ps_if (pt_cmpR op_lt (pv 4) (pe_callB call_len_seq (by rfl) T.z_len PySem.boot_len (pa_cons (pv 2) pa_nil)) (nomark _))
  (pss_one (ps_raise rfl (takes_of rfl rfl rfl rfl) (pmk_oex T.ox_BadWord.o T.ox_BadWord.ini T.ox_BadWord.tin (ok_BadWord_init T) (hr.mono (by decide)) T.b_BadWord_init .nil pass0 (by rfl) T.c_BadWord (pa_cons (pv 4) pa_nil))))
  pss_nil)
  (pss_cons (ps_fld (pv 0) (pv 1) rfl)
  (pss_cons (ps_fld (pv 0) (pv 3) rfl)
  (pss_one (ps_fld (pv 0) (pe_cmpR (op_inDT (room65 hr)) (pe_tup (pa_cons pe_str pa_nil)) (pv 3) (by rfl)) rfl))))))), ?_⟩
    -- parts = text.split(' ')
    refine ⟨.str z, rfl, ⟨_, rfl⟩, z, " ", rfl, rfl, (by decide +kernel), sz (by omega), fun l nl => ?_⟩
    rw [hsp]
    have s1 := same_upd (o := .lst (ps.map V.str)) nl
    have hl1 : (upd H l (.lst (ps.map V.str))) l = some (.lst (ps.map V.str)) := upd_same
    have hp1 := s1 _ _ hp
    generalize upd H l (.lst (ps.map V.str)) = H1 at s1 hl1 hp1 ⊢
    have hpl := hok.1
    -- moves, end = read_moves([*parts, NO_PART], 0)
    refine ⟨.ref l, rfl, l, _, rfl, .inr (SqL.at hl1), sz (by simp; omega), fun l2 nl2 => ?_⟩
    have s2 := same_upd (o := .lst (ps.map V.str ++ [.str ""])) nl2
    have hl2 : (upd H1 l2 (.lst (ps.map V.str ++ [.str ""]))) l2 = some (.lst (strsV (ps ++ [sNoP]))) := by
      rw [upd_same]
      unfold strsV
      rw [List.map_append]
      rfl
    generalize upd H1 l2 (.lst (ps.map V.str ++ [.str ""])) = H2 at s2 hl2 ⊢
    unfold wrdE at qY qN
    refine ⟨l2, ps, 0, rfl, hl2, Nat.zero_le _, hok, fun ms c hm o t rs H3 no nt ho ht held s3 => ?_, fun j hj H3 d s3 ed => ?_⟩
    rotate_left
    · rw [show mvsE 4 (ps ++ [sNoP]) true = .inl j from hj] at qN
      refine qN j rfl H3 d (s1.trans (s2.trans s3)) ?_
      rw [ed, Nat.zero_add]
    rw [show mvsE 4 (ps ++ [sNoP]) true = .inr (ms, c) from hm] at qY qN
    obtain ⟨r1, r2, r3, r4, r5⟩ := mvsE_le (k := 0) (Nat.zero_le _) hm
    refine ⟨o, [.ref t, .int ((0 + c : Nat) : Int)], rfl, SqT.at ho, rfl, _, [.int ((0 + c : Nat) : Int)], rfl, _, [], rfl, rfl, ?_⟩
    have s13 := s2.trans s3
    have hl3 := s13 _ _ hl1
    have hp3 := s13 _ _ hp1
    have s03 := s1.trans s13
    -- if end < len(parts)
    refine ⟨_, rfl, .ref l, rfl, l, _, rfl, .inl (SqL.at hl3), _, _, rfl, rfl, _, rfl, ?_⟩
    rw [List.length_map]
    dsimp only at qY qN
    by_cases hc : c < ps.length
    · rw [decide_eq_true (show ((0 + c : Nat) : Int) < (ps.length : Int) by omega)]
      rw [if_pos hc] at qN
      refine ⟨_, rfl, (by decide : 1 ≤ 1000), err_end s03 (fun H' d s' ed => qN c rfl H' d s' ?_)⟩
      rw [ed, Nat.zero_add]
    rw [decide_eq_false (show ¬ ((0 + c : Nat) : Int) < (ps.length : Int) by omega)]
    rw [if_neg hc] at qY
    have hsub : ∀ m ∈ ms, ∀ y ∈ m, PyData.strOk y = true := fun m hm' y hy => by
      have e : ps = wpS ms := by
        rw [List.drop_zero, List.take_of_length_le (by omega)] at r2
        exact r2
      have mem : ∀ {ms : List (List Str)}, m ∈ ms → y ∈ wpS ms := by
        intro ms
        induction ms with
        | nil => intro h; cases h
        | cons a b ih =>
          intro h
          cases b with
          | nil =>
            rw [List.mem_singleton] at h
            rw [← h]
            exact hy
          | cons b r =>
            show y ∈ a ++ sThen :: wpS (b :: r)
            rcases List.mem_cons.mp h with q | q
            · rw [← q]
              exact List.mem_append_left _ hy
            · exact List.mem_append_right _ (List.mem_cons_of_mem _ (ih q))
      exact (hok.2 y (by rw [e]; exact mem hm')).2
    have npt : t ≠ p := ne_of ht hp3 (by intro z; cases z)
    -- self.text = text; self.moves = moves
    refine ⟨.str z, rfl, .ref p, rfl, p, a.C_Word, dx, [], rfl, hp3, T.cl_Word, T.n_Word_text, (show 0 < 1000 by decide), ?_⟩
    refine ⟨.ref t, rfl, .ref p, rfl, p, a.C_Word, dx, _, rfl, upd_same, T.cl_Word, T.n_Word_moves, (show 1 < 1000 by decide), ?_⟩
    rw [upd_upd]
    -- self.has_turn = ('turn',) in moves
    have ht4 : (upd H3 p (.ins a.C_Word dx (putF "moves" (.ref t) (putF "text" (.str z) [])))) t = some (.tup (rs.map V.ref)) := by
      rw [upd_ne npt]
      exact ht
    have hp4 : (upd H3 p (.ins a.C_Word dx (putF "moves" (.ref t) (putF "text" (.str z) [])))) p = _ := upd_same
    have h4s := held.offI (o := .ins a.C_Word dx (putF "moves" (.ref t) (putF "text" (.str z) []))) hp3
    refine ⟨sz (show 1 ≤ 100000 by decide), fun t0 nt0 => ?_⟩
    have s5 := same_upd (o := .tup [V.str "turn"]) nt0
    refine ⟨.ref t, rfl, tuS [("turn" : Str)], ms.map tuS, .tup (SqT.at upd_same) (dp_strs ["turn"]), .tup (SqT.at (s5 _ _ ht4)) (h4s.same s5).dp, shaped_strs (by decide +kernel), (shaped_tuS hsub).1, ?_⟩
    rw [any_tuS]
    refine ⟨.ref p, rfl, p, a.C_Word, dx, _, rfl, s5 _ _ hp4, T.cl_Word, T.n_Word_has_turn, by rw [fl2]; show 2 < 1000; decide, ?_⟩
    have nt0p : t0 ≠ p := (ne_of_none hp4 nt0).symm
    refine qY ms rfl _ ⟨dx, t, rs, upd_same, ?_, ?_⟩ fun b u hb nb => ?_
    · rw [upd_ne npt]
      exact s5 _ _ ht4
    · exact (h4s.same s5).offI (s5 _ _ hp4)
    · rw [upd_ne nb]
      refine s5 _ _ ?_
      rw [upd_ne nb]
      exact s03 _ _ hb
end

section
variable {P : Program} {w : World} {K : PySem.W.Frag} {mg : Str → Option Value} {base : Heap} {a : Ad}
def spWordAt (C CS : Addr) : Sp := fun vs H Q E => ∃ (p : Addr) (y : V) (b : Bool), vs = [.ref p, y] ∧ IsI H y b ∧
  ((∃ (ms : List Mv) (n : Nat), y = .int (n : Int) ∧ WordAt C H p ms ∧ (∀ m ∈ ms, m.ok) ∧ 1 ≤ n ∧ n ≤ 1000 ∧
    ∀ o H', H o = none → H' o = some (.lst ((allF ms (ri n)).map V.int)) → Same H H' → Q (.ref o) H') ∨
   (btM 1 1000 y = false ∧ ∀ H' d, Same H H' → H' d = some (.xd [("size", y)]) → E (.ref CS) (some d) H'))
theorem ok_Word_at (T : Tx w K mg a) : FnOk P w K mg base (L2.CX P w) 4 a.f_Word_at a.d_Word_at ["self", "k"] (spWordAt a.C_Word a.C_BadSize) := by
  refine T.F_Word_at.okX sc_Word_at (fun vs H Q E h => ?_) (fun cdv A outer s H vs Q E hr h => ?_)
  · obtain ⟨p, y, b, rfl, _⟩ := h
    rfl
  · obtain ⟨p, y, b, rfl, hI, h⟩ := h
    refine ⟨_, 
(pss_cons (ps_if (pt_not (pt_val (pe_call (ok_is_between T) (hr.mono (by decide)) (by rfl) T.m_is_between T.F_is_between.kp T.b_is_between .nil pass0 (pa_cons (pv 1) (pa_cons pe_int (pa_cons (pe_glob (v := .int 1000) (by rfl) T.m_MOST_PLACES.choose_spec ⟨_, rfl⟩) pa_nil))))))
  (pss_one (ps_raise rfl (takes_of rfl rfl rfl rfl) (pmk_oex T.ox_BadSize.o T.ox_BadSize.ini T.ox_BadSize.tin (ok_BadSize_init T) (hr.mono (by decide)) T.b_BadSize_init .nil pass0 (by rfl) T.c_BadSize (pa_cons (pv 1) pa_nil))))
  pss_nil)
  (pss_cons (ps_set (i := 2) sc_Word_at.nd rfl (.inl rfl) (pe_listRg rfl (by rfl) T.z_list (prg_1 (by rfl) T.z_range (pv 1))))
  (pss_cons (ps_for PassesOwn.leaving rfl (pi_tup (pe_fld (pv 0) rfl)) (pg_name (i := 3) sc_Word_at.nd rfl (.inl rfl))
  (pss_one (ps_set (i := 2) sc_Word_at.nd rfl (.inl rfl) (pe_call (ok_moved T) hr (by rfl) T.m_moved T.F_moved.kp T.b_moved .nil pass0 (pa_cons (pv 2) (pa_cons (pv 3) pa_nil))))))
  (pss_one (ps_ret (pv 2)))))), ?_⟩
    rcases h with ⟨ms, n, rfl, ⟨dx, t, rs, hp, ht, held⟩, hok, h1, h2, q⟩ | ⟨hy, hE⟩
    rotate_left
    · refine ⟨_, rfl, y, b, 1, 1000, rfl, hI, _, rfl, ?_⟩
      rw [hy]
      exact ⟨_, rfl, (by decide : 1 ≤ 1000), err_end (Same.refl H) hE⟩
    refine ⟨_, rfl, .int n, b, 1, 1000, rfl, hI, _, rfl, ?_⟩
    have e : btM 1 1000 (.int (n : Int)) = true := by
      simp only [btM, Bool.and_eq_true, decide_eq_true_eq]
      omega
    rw [e]
    -- row = list(range(k))
    refine ⟨_, rfl, _, rfl, RgOk.of_le (by decide) (by omega) (by decide) (by omega), fun o no => ?_⟩
    rw [rgV_ri]
    have s1 := same_upd (o := .lst ((ri n).map V.int)) no
    have ho1 : (upd H o (.lst ((ri n).map V.int))) o = some (.lst ((ri n).map V.int)) := upd_same
    generalize upd H o (.lst ((ri n).map V.int)) = H1 at s1 ho1 ⊢
    -- for move in self.moves
    refine ⟨.ref p, rfl, p, a.C_Word, dx, _, _, rfl, s1 _ _ hp, T.cl_Word, T.n_Word_moves, flW_moves ms t, t, rfl, ⟨_, SqT.at (s1 _ _ ht)⟩, ?_⟩
    have hrl : (rs.map V.ref).length = ms.length := by rw [List.length_map, held.len]
    refine for_it (walk_tup (xs := rs.map V.ref)) (fun i σ H3 => ∃ r y3, σ = [some (.ref p), some (.int n), some (.ref r), y3] ∧ Same H H3 ∧ H r = none ∧ H3 r = some (.lst ((allF (ms.take i) (ri n)).map V.int))) ?h0 ?hG ?hs ?hd
    case h0 => exact ⟨o, none, rfl, s1, no, ho1⟩
    case hG =>
      rintro i σ H3 hi ⟨r, y3, rfl, s3, _, _⟩
      exact SqT.at (s3 _ _ ht)
    case hd =>
      rintro σ H3 ⟨r, y3, rfl, s3, nr, hr3⟩
      rw [hrl, List.take_length] at hr3
      exact ⟨_, rfl, q r H3 nr hr3 s3⟩
    case hs =>
      rintro i v σ H3 H4 hi ⟨r, y3, rfl, s3, nr, hr3⟩ ⟨rfl, ev⟩
      rw [hrl] at hi
      obtain ⟨x, hx, hxt⟩ := held.get (List.getElem?_eq_getElem hi)
      rw [List.getElem?_map, hx] at ev
      cases ev
      refine ⟨.ref r, rfl, .ref x, rfl, r, x, _, ms[i], rfl, SqL.at hr3, SqT.at (s3 _ _ hxt), hok _ (List.getElem_mem hi), by rw [allF_len, ri_len]; omega, fun o2 H5 no2 eo2 s5 => ?_⟩
      refine ⟨o2, _, rfl, s3.trans s5, s3.free no2, ?_⟩
      rw [eo2, List.take_add_one, List.getElem?_eq_getElem hi]
      show some (HO.lst ((mvF ms[i] (allF (ms.take i) (ri n))).map V.int)) = some (HO.lst ((allF (ms.take i ++ [ms[i]]) (ri n)).map V.int))
      unfold allF
      rw [List.foldl_append]
      rfl
end

/-! ### lambdas as values: made, tracked, called -/
open LamX hiding takes0
/-- a function made by a lambda stands at f -/
def lamO (q : Str) (ar : Arguments) (bo : Expr) (sc : Scope) (cl : List (Str × Addr)) (f c : Addr) : HO := .ext fun h => ∃ pm cv : Value, h.get? f = some (PySem.W.kla_obj "<lambda>" q ar bo sc cl pm c cv)
theorem lamO_ne {q : Str} {ar : Arguments} {bo : Expr} {sc : Scope} {cl : List (Str × Addr)} {f c : Addr} (ps : Array Value) : lamO q ar bo sc cl f c ≠ .tbl ps := fun z => by
  unfold lamO at z
  cases z
theorem lamO_at {P : Program} {w : World} {H : Hp} {h : Heap} {q : Str} {ar : Arguments} {bo : Expr} {sc : Scope} {cl : List (Str × Addr)} {f c : Addr} (k : HOk P w H h) (e : H f = some (lamO q ar bo sc cl f c)) : ∃ pm cv : Value, h.get? f = some (PySem.W.kla_obj "<lambda>" q ar bo sc cl pm c cv) := (k f _ e).1
section
variable {X : Cx} {pins : List (Addr × Obj)} {σ : L2.St} {H : Hp} {s : Shared}
/-- the lambda is made and tracked -/
theorem lam_new {T : List (Addr × Str)} {c P : Addr} {ar : Arguments} {bo : Expr} {sc : Scope} {pos : Pos} {E Q : Value → Shared → Prop} (I : Inv X pins σ H s) (TB : TabB X.base X.mg c P) (hcode : X.env.code = .ref c)
    (hm : (P, X.env.qual ++ "<lambda>") ∈ T) (hu : ∀ p ∈ T, p.1 = P → p.2 = X.env.qual ++ "<lambda>") (hT : Tabs T H) (hdef : defaultsOf ar X.env = ([], [])) (hfree : ∀ y ∈ sc.names, y.2 = .free → ∃ c, X.env.cells.lookup y.1 = some c)
    (h : ∀ (f c' : Addr) (H1 : Hp) (s' : Shared), Inv X pins σ H1 s' → ExtN H H1 → (∀ b, H1 b = none → H b = none) → Tabs T H1 → H f = none →
      H1 f = some (lamO (X.env.qual ++ "<lambda>") ar bo sc (cloFrom X.env.cells sc.names []) f c') → H1 c' = some (CodeO c' (X.env.qual ++ "<lambda>")) → Q (.ref f) s') :
    wpAny (model X.prog X.w) X.A (eval (.Lambda ar bo sc pos) X.env) Q E s := by
  obtain ⟨tb, hP, ht, ha⟩ := hT _ hm
  refine PySem.W.kla_eval hdef ?_
  have gP : s.heap.get? P = some { cls := .none, data := .fields tb } := I.hok P _ hP
  have kbm : s.heap.BuiltinsAt X.mg P := TB.bm.keeps I.bk
  -- what stands at the end, from the heap in which the code object is known
  have fin : ∀ (c' : Addr) (cv : Value) (g : Heap) (tk : Nat) (H1 : Hp), Inv X pins σ H1 { s with heap := g, toks := tk } → s.heap.objs.size ≤ g.objs.size → ExtN H H1 → (∀ b, H1 b = none → H b = none) → Tabs T H1 → H1 c' = some (CodeO c' (X.env.qual ++ "<lambda>")) →
      Q (.ref g.objs.size) { s with heap := g.push (PySem.W.kla_obj "<lambda>" (X.env.qual ++ "<lambda>") ar bo sc (cloFrom X.env.cells sc.names []) ((X.mg "__name__").getD .none) c' cv), toks := tk } := by
    intro c' cv g tk H1 I1 hz eN fr T1 hc
    have nf : H1 g.objs.size = none := I1.hok.fresh (Nat.le_refl _)
    have I2 := I1.laid (a := g.objs.size) (o := lamO (X.env.qual ++ "<lambda>") ar bo sc (cloFrom X.env.cells sc.names []) g.objs.size c') (t' := tk)
      (h' := g.push (PySem.W.kla_obj "<lambda>" (X.env.qual ++ "<lambda>") ar bo sc (cloFrom X.env.cells sc.names []) ((X.mg "__name__").getD .none) c' cv)) (fun b u e => Heap.get?_push_of_some _ e) (Nat.le_refl _)
      ⟨⟨_, _, Heap.get?_push_size _ rfl⟩, ⟨_, Heap.get?_push_size _ rfl⟩, fun h1 h2 ⟨pm, cw, e⟩ st => ⟨pm, cw, st _ e⟩⟩
    have kp : ∀ b o, H1 b = some o → upd H1 g.objs.size (lamO (X.env.qual ++ "<lambda>") ar bo sc (cloFrom X.env.cells sc.names []) g.objs.size c') b = some o := fun b o e => by
      rw [upd_ne (ne_of_none e nf)]
      exact e
    refine h _ c' _ _ I2 (eN.trans (ExtN.of kp)) (fun b e => fr b ?_) (T1.ext kp) (I.hok.fresh hz) upd_same (kp _ _ hc)
    by_cases hb : b = g.objs.size
    · rw [hb]
      exact nf
    · rw [upd_ne hb] at e
      exact e
  cases hc : codeAmong pos tb.toList with
  | some cv =>
    obtain ⟨c', rfl, hco⟩ := ha pos cv hc
    refine PySem.W.kla_makeFunctionHit (mg := X.mg) (c := c) (P := P) (ps := tb) (closure_ok hfree) I.ok.glob (I.mod.glob.keeps I.bk) hcode (TB.code.keeps I.bk) gP ht hc kbm fun cw g tk kp hz => ?_
    exact fin c' cw g tk H (I.kept kp) hz (ExtN.refl H) (fun _ e => e) hT hco
  | none =>
    refine PySem.W.kla_makeFunction (mg := X.mg) (c := c) (P := P) (ps := tb) (closure_ok hfree) I.ok.glob (I.mod.glob.keeps I.bk) hcode (TB.code.keeps I.bk) gP ht hc TB.gP kbm fun c' cw g tk hx hge hlt hrec htb => ?_
    obtain ⟨c2, oc, vs, t, e2, hoc, hd, hv⟩ := hrec
    cases e2
    have nC : H c' = none := I.hok.fresh hge
    have I1 := inv_table (t' := tk) (more := #[rawInt pos.line, rawInt pos.col, .ref c']) (q := X.env.qual ++ "<lambda>") I hP hx htb hge ⟨oc, vs, t, hoc, hd, hv⟩
    have eN : ExtN H (upd (upd H P (.tbl (tb ++ #[rawInt pos.line, rawInt pos.col, .ref c']))) c' (CodeO c' (X.env.qual ++ "<lambda>"))) := fun b o e n => by
      have n1 : b ≠ P := fun z => n tb (Option.some.inj (e.symm.trans (z ▸ hP)))
      rw [upd_ne (ne_of_none e nC), upd_ne n1]
      exact e
    refine fin c' cw g tk _ I1 (Nat.le_trans hge (Nat.le_of_lt hlt)) eN (fun b e => ?_) (fun p hp => ?_) upd_same
    · by_cases hb : b = c'
      · rw [hb]
        exact nC
      · by_cases hb2 : b = P
        · rw [upd_ne hb, hb2, upd_same] at e
          cases e
        · rw [upd_ne hb, upd_ne hb2] at e
          exact e
    · by_cases hb : p.1 = P
      · rw [hu p hp hb, hb]
        have el : (tb ++ #[rawInt pos.line, rawInt pos.col, .ref c']).toList = tb.toList ++ [rawInt pos.line, rawInt pos.col, .ref c'] := by simp
        refine ⟨_, by rw [upd_ne (ne_of_none hP nC)]; exact upd_same, by rw [el]; exact PySem.TriplesOk_snoc _ _ _ _ ht, fun p' cv hcv => ?_⟩
        rw [el] at hcv
        rcases among_app _ ht hcv with z | z
        · obtain ⟨c0, e1, e2⟩ := ha p' cv z
          exact ⟨c0, e1, eN _ _ e2 codeO_ne⟩
        · exact ⟨c', z, upd_same⟩
      · obtain ⟨tb', a1, a2, a3⟩ := hT p hp
        refine ⟨tb', by rw [upd_ne (ne_of_none a1 nC), upd_ne hb]; exact a1, a2, fun p' cv hcv => ?_⟩
        obtain ⟨c0, e1, e2⟩ := a3 p' cv hcv
        exact ⟨c0, e1, eN _ _ e2 codeO_ne⟩
end
/-! ### cells held as they are, let go, held again -/
def celF (o : Obj) : HO := .frz o (.ext fun _ => True)
/-- the cells that an environment names -/
def csOf (cl : List (Str × Addr)) : List Addr := cl.filterMap fun p => cl.lookup p.1
theorem mem_csOf {cl : List (Str × Addr)} {c : Addr} : c ∈ csOf cl ↔ ∃ x, cl.lookup x = some c := by
  unfold csOf
  rw [List.mem_filterMap]
  refine ⟨fun ⟨p, _, e⟩ => ⟨p.1, e⟩, fun ⟨x, e⟩ => ⟨(x, c), PySem.mem_of_lookup e, e⟩⟩
def heldH (cs : List Addr) (h : Heap) (H : Hp) : Hp := fun b => if b ∈ cs then (h.get? b).map celF else H b
def freedH (cs : List Addr) (H : Hp) : Hp := fun b => if b ∈ cs then none else H b
def againH (cs : List Addr) (G H : Hp) : Hp := fun b => if b ∈ cs then G b else H b
theorem heldH_ne {cs : List Addr} {h : Heap} {H : Hp} {b : Addr} (n : b ∉ cs) : heldH cs h H b = H b := if_neg n
theorem freedH_ne {cs : List Addr} {H : Hp} {b : Addr} (n : b ∉ cs) : freedH cs H b = H b := if_neg n
theorem freedH_in {cs : List Addr} {H : Hp} {b : Addr} (n : b ∈ cs) : freedH cs H b = none := if_pos n
theorem againH_ne {cs : List Addr} {G H : Hp} {b : Addr} (n : b ∉ cs) : againH cs G H b = H b := if_neg n
theorem againH_in {cs : List Addr} {G H : Hp} {b : Addr} (n : b ∈ cs) : againH cs G H b = G b := if_pos n
theorem freed_some {cs : List Addr} {H : Hp} {b : Addr} {o : HO} (e : freedH cs H b = some o) : b ∉ cs ∧ H b = some o := by
  by_cases n : b ∈ cs
  · rw [freedH_in n] at e
    cases e
  · exact ⟨n, by rw [freedH_ne n] at e; exact e⟩
/-- what is known behind a run for which the cells cs were let go -/
structure Und (cs : List Addr) (G H : Hp) : Prop where
  off : ∀ b ∈ cs, H b = none
  frz : ∀ b o u, freedH cs G b = some (.frz o u) → H b = some (.frz o u)
/-- the cells cs stand held in H -/
def CellsF (cs : List Addr) (H : Hp) : Prop := ∀ b ∈ cs, ∃ o, H b = some (celF o)
section
variable {P : Program} {w : World} {H H1 H2 : Hp} {h h' : Heap} {cs : List Addr}
theorem hok_freed (k : HOk P w H h) (C : CellsF cs H) : HOk P w (freedH cs H) h := fun b o e => by
  obtain ⟨n, e⟩ := freed_some e
  refine (k b o e).stay (fun _ _ _ q => q) (fun d q => ?_) fun d xs q => ?_
  · rw [freedH_ne fun z => ?_]
    · exact q
    · obtain ⟨o', e'⟩ := C d z
      rw [q] at e'
      cases e'
  · rw [freedH_ne fun z => ?_]
    · exact q
    · obtain ⟨o', e'⟩ := C d z
      rw [q] at e'
      cases e'
theorem hok_again (k : HOk P w H2 h') (C : CellsF cs H) (n : ∀ b ∈ cs, H2 b = none) (st : ∀ b ∈ cs, ∀ o, H b = some (celF o) → h'.get? b = some o) : HOk P w (againH cs H H2) h' := fun b o e => by
  by_cases hb : b ∈ cs
  · rw [againH_in hb] at e
    obtain ⟨ob, e'⟩ := C b hb
    rw [e] at e'
    cases e'
    exact ⟨st b hb ob e, trivial, ⟨ob, st b hb ob e⟩, fun _ _ _ _ => trivial⟩
  · rw [againH_ne hb] at e
    refine (k b o e).stay (fun _ _ _ q => q) (fun d q => ?_) fun d xs q => ?_
    · rw [againH_ne fun z => ?_]
      · exact q
      · rw [n d z] at q
        cases q
    · rw [againH_ne fun z => ?_]
      · exact q
      · rw [n d z] at q
        cases q
/-- the state of a call, the cells let go -/
theorem env0_freed {K : PySem.W.Frag} {mg : Str → Option Value} {base : Heap} {A : Around} {outer : List Env} {s : Shared} (e : Env0 P w K mg base A outer s H) (C : CellsF cs H) : Env0 P w K mg base A outer s (freedH cs H) :=
  ⟨e.frames, e.mod, fun b o q => ⟨(e.bs b o q).1, by
    by_cases n : b ∈ cs
    · exact freedH_in n
    · rw [freedH_ne n]
      exact (e.bs b o q).2⟩, e.bsz, e.funs, fun b hb => by
    by_cases n : b ∈ cs
    · exact freedH_in n
    · rw [freedH_ne n]
      exact e.frf b hb, hok_freed e.hok C, e.bare⟩
theorem un_again {fs : List Addr} (u : Un fs [] (freedH cs H) H2 h h') (C : CellsF cs H) : Un fs [] H (againH cs H H2) h h' := by
  have nin : ∀ {b : Addr}, H b = none → b ∉ cs := fun {b} e z => by
    obtain ⟨o, e'⟩ := C b z
    rw [e] at e'
    cases e'
  have thru : ∀ {b : Addr} {o : HO}, H b = some o → (∀ ob, o ≠ celF ob) → b ∉ cs ∧ freedH cs H b = some o := fun {b o} e ne => by
    have nb : b ∉ cs := fun z => by
      obtain ⟨ob, e'⟩ := C b z
      rw [e] at e'
      exact ne ob (Option.some.inj e')
    exact ⟨nb, by rw [freedH_ne nb]; exact e⟩
  refine ⟨fun b o e n hb hx => u.keep b o e (by rw [freedH_ne (nin n)]; exact n) hb hx, fun b o e n hb hx => u.slot b o e (by rw [freedH_ne (nin n)]; exact n) hb hx, fun b o e n hx => ?_, u.there, fun b xs e => ?_, fun b o v e => ?_, fun b ps e => ?_⟩
  · rw [againH_ne (nin n)]
    exact u.free b o e (by rw [freedH_ne (nin n)]; exact n) hx
  · obtain ⟨n, e'⟩ := thru e fun _ z => by cases z
    rw [againH_ne n]
    exact u.tups b xs e'
  · by_cases n : b ∈ cs
    · rw [againH_in n]
      exact e
    · rw [againH_ne n]
      exact u.frzs b o v (by rw [freedH_ne n]; exact e)
  · obtain ⟨n, e'⟩ := thru e fun _ z => by cases z
    obtain ⟨more, e2⟩ := u.tbls b ps e'
    exact ⟨more, by rw [againH_ne n]; exact e2⟩
/-- what a call that was made with the cells let go has come to -/
theorem CE_again {K : PySem.W.Frag} {mg : Str → Option Value} {base : Heap} {A : Around} {outer : List Env} {s s' : Shared} {Q : VK} {u : Value} (e0 : Env0 P w K mg base A outer s H) (C : CellsF cs H)
    (q : CE outer P w (freedH cs H) s (fun v H' => Und cs H H' → Q v (againH cs H H')) u s') : CE outer P w H s Q u s' := by
  obtain ⟨v, H2, os, bare, un, hok, r, qq⟩ := q
  have no : ∀ b ∈ cs, ∀ o, H b = some (celF o) → s'.heap.get? b = some o ∧ H2 b = none := fun b hb o e => by
    have h1 := (e0.hok b _ e).1
    have nf : b ∉ frs outer := fun z => by
      rw [e0.frf b z] at e
      cases e
    exact ⟨un.keep b o h1 (freedH_in hb) nf (by simp), un.free b o h1 (freedH_in hb) (by simp)⟩
  have off : ∀ b ∈ cs, H2 b = none := fun b hb => by
    obtain ⟨o, e⟩ := C b hb
    exact (no b hb o e).2
  exact ⟨v, againH cs H H2, os, bare, un_again un C, hok_again hok C off (fun b hb o e => (no b hb o e).1), r, qq ⟨off, un.frzs⟩⟩
theorem CX_again {K : PySem.W.Frag} {mg : Str → Option Value} {base : Heap} {A : Around} {outer : List Env} {s s' : Shared} {E : XK} {u : Value} (e0 : Env0 P w K mg base A outer s H) (C : CellsF cs H)
    (q : L2.CX P w outer (freedH cs H) s (fun cls d H' => Und cs H H' → E cls d (againH cs H H')) u s') : L2.CX P w outer H s E u s' := by
  obtain ⟨a, B, H2, cls, d, ea, fl, hok, ub, na, os, bare, qq⟩ := q
  have no : ∀ b ∈ cs, ∀ o, H b = some (celF o) → B.get? b = some o ∧ H2 b = none := fun b hb o e => by
    have h1 := (e0.hok b _ e).1
    have nf : b ∉ frs outer := fun z => by
      rw [e0.frf b z] at e
      cases e
    exact ⟨ub.keep b o h1 (freedH_in hb) nf, ub.free b o h1 (freedH_in hb)⟩
  have nin : ∀ {b : Addr}, H b = none → b ∉ cs := fun {b} e z => by
    obtain ⟨o, e'⟩ := C b z
    rw [e] at e'
    cases e'
  have thru : ∀ {b : Addr} {o : HO}, H b = some o → (∀ ob, o ≠ celF ob) → b ∉ cs ∧ freedH cs H b = some o := fun {b o} e ne => by
    have nb : b ∉ cs := fun z => by
      obtain ⟨ob, e'⟩ := C b z
      rw [e] at e'
      exact ne ob (Option.some.inj e')
    exact ⟨nb, by rw [freedH_ne nb]; exact e⟩
  have off : ∀ b ∈ cs, H2 b = none := fun b hb => by
    obtain ⟨o, e⟩ := C b hb
    exact (no b hb o e).2
  refine ⟨a, B, againH cs H H2, cls, d, ea, fl, hok_again hok C off (fun b hb o e => (no b hb o e).1), ⟨fun b o e n hb => ub.keep b o e (by rw [freedH_ne (nin n)]; exact n) hb, ub.slot, fun b o e n => ?_, ub.there, fun b xs e => ?_, fun b o v e => ?_, fun b ps e => ?_⟩, ?_, os, bare, qq ⟨off, ub.frzs⟩⟩
  · rw [againH_ne (nin n)]
    exact ub.free b o e (by rw [freedH_ne (nin n)]; exact n)
  · obtain ⟨n, e'⟩ := thru e fun _ z => by cases z
    rw [againH_ne n]
    exact ub.tups b xs e'
  · by_cases n : b ∈ cs
    · rw [againH_in n]
      exact e
    · rw [againH_ne n]
      exact ub.frzs b o v (by rw [freedH_ne n]; exact e)
  · obtain ⟨n, e'⟩ := thru e fun _ z => by cases z
    obtain ⟨more, e2⟩ := ub.tbls b ps e'
    exact ⟨more, by rw [againH_ne n]; exact e2⟩
  · by_cases n : a ∈ cs
    · obtain ⟨o, e⟩ := C a n
      have z := (no a n o e).1
      rw [fl.2.1] at z
      cases z
    · rw [againH_ne n]
      exact na
end
/-! ### thunks -/
def Firm (o : HO) : Prop := (∃ ob u, o = .frz ob u) ∨ ∃ φ, o = .ext φ
/-- at f stands what may be called without arguments, and then keeps sp -/
def Thk (P : Program) (w : World) (K : PySem.W.Frag) (mg : Str → Option Value) (base : Heap) (k : Nat) (H : Hp) (f : Addr) (sp : Hp → VK → XK → Prop) : Prop :=
  ∃ fs : List Addr, (∀ b ∈ fs, ∃ o, H b = some o ∧ Firm o) ∧ ∀ (A : Around) (outer : List Env) (s : Shared) (G : Hp), (∀ b ∈ fs, G b = H b) → Env0 P w K mg base A outer s G → PySem.W.FnAt f s.heap ∧ ∀ (Q : VK) (E : XK), Room k A → sp G Q E →
    codeAny (model P w) A (.call (.ref f) ⟨[], []⟩) (CR (L2.CX P w) outer P w G s Q E) s
theorem Thk.keep {P : Program} {w : World} {K : PySem.W.Frag} {mg : Str → Option Value} {base : Heap} {k : Nat} {H G : Hp} {f : Addr} {sp : Hp → VK → XK → Prop} (t : Thk P w K mg base k H f sp) (e : ∀ b o, H b = some o → Firm o → G b = some o) : Thk P w K mg base k G f sp := by
  obtain ⟨fs, h1, h2⟩ := t
  have q : ∀ b ∈ fs, G b = H b := fun b hb => by
    obtain ⟨o, ho, fo⟩ := h1 b hb
    rw [ho]
    exact e b o ho fo
  refine ⟨fs, fun b hb => ?_, fun A outer s G' hb => h2 A outer s G' fun b z => (hb b z).trans (q b z)⟩
  rw [q b hb]
  exact h1 b hb
theorem Thk.mono {P : Program} {w : World} {K : PySem.W.Frag} {mg : Str → Option Value} {base : Heap} {j k : Nat} {H : Hp} {f : Addr} {sp : Hp → VK → XK → Prop} (t : Thk P w K mg base j H f sp) (h : j ≤ k) : Thk P w K mg base k H f sp := by
  obtain ⟨fs, h1, h2⟩ := t
  exact ⟨fs, h1, fun A outer s G hb e0 => ⟨(h2 A outer s G hb e0).1, fun Q E hr => (h2 A outer s G hb e0).2 Q E (hr.mono h)⟩⟩
theorem Thk.imp {P : Program} {w : World} {K : PySem.W.Frag} {mg : Str → Option Value} {base : Heap} {k : Nat} {H : Hp} {f : Addr} {sp sp' : Hp → VK → XK → Prop} (t : Thk P w K mg base k H f sp) (h : ∀ G Q E, sp' G Q E → sp G Q E) : Thk P w K mg base k H f sp' := by
  obtain ⟨fs, h1, h2⟩ := t
  exact ⟨fs, h1, fun A outer s G hb e0 => ⟨(h2 A outer s G hb e0).1, fun Q E hr q => (h2 A outer s G hb e0).2 Q E hr (h G Q E q)⟩⟩
theorem Thk.imp2 {P : Program} {w : World} {K : PySem.W.Frag} {mg : Str → Option Value} {base : Heap} {k : Nat} {H : Hp} {f : Addr} {sp sp' : Hp → VK → XK → Prop} {cs : List Addr} (t : Thk P w K mg base k H f sp) (hc : ∀ b ∈ cs, ∃ o, H b = some o ∧ Firm o) (h : ∀ G Q E, (∀ b ∈ cs, G b = H b) → sp' G Q E → sp G Q E) : Thk P w K mg base k H f sp' := by
  obtain ⟨fs, h1, h2⟩ := t
  refine ⟨fs ++ cs, fun b hb => (List.mem_append.mp hb).elim (h1 b) (hc b), fun A outer s G hb e0 => ?_⟩
  obtain ⟨a1, a2⟩ := h2 A outer s G (fun b z => hb b (List.mem_append_left _ z)) e0
  exact ⟨a1, fun Q E hr q => a2 Q E hr (h G Q E (fun b z => hb b (List.mem_append_right _ z)) q)⟩
/-- what a lambda of the def of X keeps -/
structure LamOk (X : Cx) (k : Nat) (ar : Arguments) (bo : Expr) (sc : Scope) (t : XK → TE) : Prop where
  L : LamS X.env.scope sc
  bind : ∀ (q : Str) (cl : List (Str × Addr)) (pm cv ctv : Value), bindArgs (PySem.W.kla_fn "<lambda>" q ar bo sc cl pm cv ctv) ⟨[], []⟩ = pure []
  body : ∀ (A : Around) (outer : List Env) (s : Shared) (H : Hp) (E : XK) (f c' : Addr), Room k (A.deeper (lamEnv X sc s.heap.objs.size f c')) → PE (lamCx X A outer s H E sc f c') bo (t E)
/-- the captured cells, held -/
structure CapsAt (X : Cx) (sc : Scope) (σ : L2.St) (H : Hp) : Prop where
  inj : ∀ x y c, X.env.cells.lookup x = some c → X.env.cells.lookup y = some c → x = y
  at_ : ∀ y ∈ sc.names, y.2 = .free → ∃ (c : Addr) (o : Obj) (u : Option Value), X.env.cells.lookup y.1 = some c ∧ H c = some (celF o) ∧ o.data = .cell u ∧ ∀ (i : Nat) (v : V), X.N[i]? = some y.1 → σ[i]? = some (some v) → ∃ u', u = some u' ∧ RelV v u'
  len : σ.length = X.N.length
def capCs (X : Cx) (sc : Scope) : List Addr := csOf (cloFrom X.env.cells sc.names [])
theorem clo_in {X : Cx} {sc : Scope} (hfree : ∀ y ∈ sc.names, y.2 = .free → ∃ c, X.env.cells.lookup y.1 = some c) {x : Str} {c : Addr} (e : (cloFrom X.env.cells sc.names []).lookup x = some c) : (x, NameKind.free) ∈ sc.names ∧ X.env.cells.lookup x = some c := by
  rcases cloFrom_mem (PySem.mem_of_lookup e) with hm | ⟨h1, h2⟩
  · cases hm
  · obtain ⟨c1, hc⟩ := hfree _ h1 rfl
    have hc : X.env.cells.lookup x = some c1 := hc
    have e2 : c = c1 := by
      rw [h2, hc] <;> rfl
    rw [e2]
    exact ⟨h1, hc⟩
theorem clo_at {X : Cx} {sc : Scope} (hfree : ∀ y ∈ sc.names, y.2 = .free → ∃ c, X.env.cells.lookup y.1 = some c) {x : Str} (h : (x, NameKind.free) ∈ sc.names) : ∃ c, (cloFrom X.env.cells sc.names []).lookup x = some c :=
  mem_lookup (cloFrom_has (cells := X.env.cells) (acc := []) h)
/-- the lambda's body begins: its cells are let go -/
theorem lam_begin {X : Cx} {A : Around} {outer : List Env} {E : XK} {sc : Scope} {f c' : Addr} {σ : L2.St} {s : Shared} {H : Hp} {h1 : Heap} {tk : Nat} (L : LamS X.env.scope sc) (e0 : Env0 X.prog X.w X.K X.mg X.base A outer s H) (hd : A.handled = none)
    (C : CapsAt X sc σ H) (CF : CellsF (capCs X sc) H) (hns : h1.Ns s.heap.objs.size fun y => ([] : List (Str × Value)).reverse.lookup y) (kp : ∀ b o, s.heap.get? b = some o → h1.get? b = some o) :
    Inv (lamCx X A outer s (freedH (capCs X sc) H) E sc f c') [] σ (freedH (capCs X sc) H) { s with heap := h1, toks := tk } := by
  have ef := env0_freed e0 CF
  have hfree : ∀ y ∈ sc.names, y.2 = .free → ∃ c, X.env.cells.lookup y.1 = some c := fun y hy hk => by
    obtain ⟨c, _, _, e, _⟩ := C.at_ y hy hk
    exact ⟨c, e⟩
  have noA : ∀ b : Addr, b ∉ (lamCx X A outer s (freedH (capCs X sc) H) E sc f c').ex := fun b z => absurd (show b ∈ ([] : List Addr) from z) (by simp)
  have isC : ∀ {x : Str} {c : Addr}, (cloFrom X.env.cells sc.names []).lookup x = some c → ∃ (o : Obj) (u : Option Value), h1.get? c = some o ∧ o.data = .cell u ∧ ∀ (i : Nat) (v : V), X.N[i]? = some x → σ[i]? = some (some v) → ∃ u', u = some u' ∧ RelV v u' := fun {x c} e => by
    obtain ⟨hy, hc⟩ := clo_in hfree e
    obtain ⟨c2, o, u, e2, e3, e4, e5⟩ := C.at_ _ hy rfl
    have e2 : X.env.cells.lookup x = some c2 := e2
    rw [hc] at e2
    cases e2
    exact ⟨o, u, kp _ _ (e0.hok _ _ e3).1, e4, e5⟩
  refine ⟨⟨e0.mod, L.kind, rfl, rfl, Nat.le_refl _, fun y z c e1 e2 => C.inj y z c (clo_in hfree e1).2 (clo_in hfree e2).2, fun y hy => ?_, fun y c z _ => ?_, fun _ => hd, Around.frames_deeper e0.frames, .inr ⟨rfl, rfl⟩, fun b z => absurd z (noA b), ef.bs, e0.bsz,
      fun b _ _ => noA b, fun b z => absurd z (noA b), e0.funs, ef.frf⟩, rfl, e0.bare, Un.kept kp, ⟨_, hns, fun i y v e1 e2 e3 => ?_⟩, fun y c e => ?_, ef.hok.fresh (Nat.le_refl _), fun y c e => ?_, fun q hq => absurd (show q ∈ ([] : List (Addr × Obj)) ++ [] from hq) (by simp), ?_, C.len⟩
  · have hy : sc.names.lookup y = some .cell ∨ sc.names.lookup y = some .free := hy
    rcases hy with hy | hy
    · exact absurd rfl (L.own _ (PySem.mem_of_lookup hy)).2
    · exact clo_at hfree (PySem.mem_of_lookup hy)
  · have z : false = true := z
    cases z
  · have e3 : Vis sc y := e3
    rcases e3 with k | k | k
    · exact absurd rfl (L.own _ (PySem.mem_of_lookup k)).1
    · exact absurd rfl (L.own _ (PySem.mem_of_lookup k)).2
    · obtain ⟨c, hc⟩ := clo_at hfree (PySem.mem_of_lookup k)
      obtain ⟨o, u, g1, g2, g3⟩ := isC hc
      obtain ⟨u', eu, r⟩ := g3 i v e1 e2
      exact ⟨u', r, .inr ⟨.inr k, c, hc, o, g1, by rw [g2, eu]⟩⟩
  · obtain ⟨o, u, g1, g2, _⟩ := isC e
    exact ⟨u, o, g1, g2⟩
  · exact freedH_in (mem_csOf.mpr ⟨y, e⟩)
  · intro b o q
    exact (ef.hok b o q).stay (fun c v _ r => kp c v r) (fun _ r => r) fun _ _ r => r
theorem caps_cells {X : Cx} {sc : Scope} {σ : L2.St} {H : Hp} (C : CapsAt X sc σ H) : CellsF (capCs X sc) H := fun b hb => by
  obtain ⟨x, e⟩ := mem_csOf.mp hb
  have hfree : ∀ y ∈ sc.names, y.2 = .free → ∃ c, X.env.cells.lookup y.1 = some c := fun y hy hk => by
    obtain ⟨c, _, _, e, _⟩ := C.at_ y hy hk
    exact ⟨c, e⟩
  obtain ⟨hy, hc⟩ := clo_in hfree e
  obtain ⟨c2, o, u, e2, e3, _⟩ := C.at_ _ hy rfl
  have e2 : X.env.cells.lookup x = some c2 := e2
  rw [hc] at e2
  cases e2
  exact ⟨o, e3⟩
/-- how a thunk made of a lambda is read: its body, with the cells let go -/
def spLam (X : Cx) (sc : Scope) (σ : L2.St) (t : XK → TE) : Hp → VK → XK → Prop := fun H Q E =>
  t (fun cls d H' => Und (capCs X sc) H H' → E cls d (againH (capCs X sc) H H')) σ (freedH (capCs X sc) H) fun v H' => Und (capCs X sc) H H' → Q v (againH (capCs X sc) H H')
theorem thk_of {X : Cx} {k : Nat} {ar : Arguments} {bo : Expr} {sc : Scope} {t : XK → TE} {σ : L2.St} {H : Hp} {f c' : Addr} (O : LamOk X k ar bo sc t) (hf : H f = some (lamO (X.env.qual ++ "<lambda>") ar bo sc (cloFrom X.env.cells sc.names []) f c'))
    (hc : H c' = some (CodeO c' (X.env.qual ++ "<lambda>"))) (C : CapsAt X sc σ H) : Thk X.prog X.w X.K X.mg X.base (k + 1) H f (spLam X sc σ t) := by
  refine ⟨f :: c' :: capCs X sc, fun b hb => ?_, fun A outer s G hb e0 => ?_⟩
  · rcases List.mem_cons.mp hb with rfl | hb
    · exact ⟨_, hf, .inr ⟨_, rfl⟩⟩
    rcases List.mem_cons.mp hb with rfl | hb
    · exact ⟨_, hc, .inr ⟨_, rfl⟩⟩
    obtain ⟨o, e⟩ := caps_cells C b hb
    exact ⟨_, e, .inl ⟨_, _, rfl⟩⟩
  have hf' := (hb f List.mem_cons_self).trans hf
  have hc' := (hb c' (List.mem_cons_of_mem _ List.mem_cons_self)).trans hc
  have hfree : ∀ y ∈ sc.names, y.2 = .free → ∃ c, X.env.cells.lookup y.1 = some c := fun y hy hk => by
    obtain ⟨c, _, _, e, _⟩ := C.at_ y hy hk
    exact ⟨c, e⟩
  have C' : CapsAt X sc σ G := ⟨C.inj, fun y hy hk => by
    obtain ⟨c, o, u, e1, e2, e3, e4⟩ := C.at_ y hy hk
    obtain ⟨c1, h1⟩ := clo_at hfree (x := y.1) (sc := sc) (by rw [← hk]; exact hy)
    have h2 := (clo_in hfree h1).2
    rw [e1] at h2
    cases h2
    exact ⟨c, o, u, e1, (hb c (List.mem_cons_of_mem _ (List.mem_cons_of_mem _ (mem_csOf.mpr ⟨_, h1⟩)))).trans e2, e3, e4⟩, C.len⟩
  obtain ⟨pm, cv, of⟩ := lamO_at e0.hok hf'
  obtain ⟨⟨oc, vs, tt, hoc, hdc, hvc⟩, _, _⟩ := e0.hok c' _ hc'
  have lim : s.heap.NoLimit := e0.mod.nolimit.keeps fun b o e => (e0.bs b o e).1
  refine ⟨⟨_, _, _, _, of⟩, fun Q E hr q => ?_⟩
  refine PySem.W.kla_callFunE hr.depth of rfl O.L.co O.L.gen rfl ⟨c', oc, vs, tt, rfl, hoc, hdc, hvc⟩ ?_
  rw [O.bind]
  refine wpAny_pure (wpAny_newFunctionEnv (fun y hy => (O.L.own y hy).2) (fun y hy => absurd hy (by simp)) (fun h1 hns hsb => ⟨lim.fresh _ hsb, ?_⟩) O.L.kind)
  show codeAny _ _ (.expr bo (lamEnv X sc s.heap.objs.size f c')) _ _
  have kp : ∀ b o, s.heap.get? b = some o → h1.get? b = some o := fun b o e => hsb.extBut b o (Nat.ne_of_lt (Heap.lt_size e)) (Heap.get?_push_of_some _ e)
  have J := lam_begin (E := fun cls d H' => Und (capCs X sc) G H' → E cls d (againH (capCs X sc) G H')) (f := f) (c' := c') (tk := s.toks + ([] : List (Str × Value)).length) O.L e0 hr.hd C' (caps_cells C') hns kp
  refine PySem.W.kla_codeExpr (wpAny_mono ((O.body A outer s _ _ f c' (hr.deeper _)).run [] _ σ _ (fun v H' => Und (capCs X sc) G H' → Q v (againH (capCs X sc) G H')) J q) (fun v s' hq => ?_) fun e s' hq => ?_)
  · obtain ⟨v', H', J', rv, qq⟩ := hq
    exact CE_again e0 (caps_cells C') ⟨v', H', J'.os, J'.bare, J'.base, J'.hok, rv, qq⟩
  · exact wpAny_mono (show wpAny _ _ (leaving (lamEnv X sc s.heap.objs.size f c') e) _ _ s' from hq) (fun _ s2 z => CX_again e0 (caps_cells C') z) fun e2 s2 z => CX_again e0 (caps_cells C') z
/-! ### the rules: a lambda as a value, a thunk called, a def called while the cells are held -/
/-- a lambda of the def of X stands at f -/
def LamAt (X : Cx) (k : Nat) (H : Hp) (f : Addr) (t : XK → TE) : Prop := ∃ ar bo sc c', H f = some (lamO (X.env.qual ++ "<lambda>") ar bo sc (cloFrom X.env.cells sc.names []) f c') ∧ H c' = some (CodeO c' (X.env.qual ++ "<lambda>")) ∧ LamOk X k ar bo sc t
theorem LamAt.keep {X : Cx} {k : Nat} {H G : Hp} {f : Addr} {t : XK → TE} (l : LamAt X k H f t) (e : ∀ b o, H b = some o → Firm o → G b = some o) : LamAt X k G f t := by
  obtain ⟨ar, bo, sc, c', h1, h2, h3⟩ := l
  exact ⟨ar, bo, sc, c', e _ _ h1 (.inr ⟨_, rfl⟩), e _ _ h2 (.inr ⟨_, rfl⟩), h3⟩
def tLamV (X : Cx) (k : Nat) (T : List (Addr × Str)) (t : XK → TE) : TE := fun σ H Q => Tabs T H ∧ ∀ (f : Addr) (H1 : Hp), ExtN H H1 → (∀ b, H1 b = none → H b = none) → Tabs T H1 → H f = none → LamAt X k H1 f t → Q (.ref f) H1
theorem pe_lam {X : Cx} {k : Nat} {T : List (Addr × Str)} {c P : Addr} {ar : Arguments} {bo : Expr} {sc : Scope} {pos : Pos} {t : XK → TE} (TB : TabB X.base X.mg c P) (hcode : X.env.code = .ref c) (hm : (P, X.env.qual ++ "<lambda>") ∈ T) (hu : ∀ p ∈ T, p.1 = P → p.2 = X.env.qual ++ "<lambda>")
    (hdef : defaultsOf ar X.env = ([], [])) (O : LamOk X k ar bo sc t) : PE X (.Lambda ar bo sc pos) (tLamV X k T t) := by
  refine ⟨fun pins s σ H Q I h => ?_⟩
  obtain ⟨hT, h⟩ := h
  exact lam_new I TB hcode hm hu hT hdef (O.L.has I.ok) fun f c' H1 s' I1 eN fr T1 nf hf hc => ⟨.ref f, H1, I1, rfl, h f H1 eN fr T1 nf ⟨_, _, _, _, hf, hc, O⟩⟩
/-- how a call of a thunk is read -/
def rThk (P : Program) (w : World) (K : PySem.W.Frag) (mg : Str → Option Value) (base : Heap) (k i : Nat) (W : WX) : TE := fun σ H Q => ∃ f sp, σ[i]? = some (some (.ref f)) ∧ Thk P w K mg base k H f sp ∧ sp H Q (WE W σ)
/-- a(), a thunk held by a name -/
theorem pe_thk {X : Cx} {k i : Nat} {a : Str} {W : WX} {p1 p2 : Pos} (hN : X.N[i]? = some a) (hv : Vis X.env.scope a) (hr : Room k X.A) (tk : Takes X W) (hd : (a == ("__debug__" : Str)) = false := by decide) (hcd : (a == ("__classdict__" : Str)) = false := by decide) :
    PE X (.Call (.Name a p1) [] [] p2) (rThk X.prog X.w X.K X.mg X.base k i W) := by
  refine ⟨fun pins s σ H Q I h => ?_⟩
  obtain ⟨f, sp, hs, ht, q⟩ := h
  refine wpAny_Call_Name_kw (thn ((pe_var (pos := p1) (i := i) hN hv hd hcd).run pins s σ H (fun v H1 => v = .ref f ∧ H1 = H) I ⟨.ref f, hs, rfl, rfl⟩) fun u s1 ⟨v, H1, I1, r1, ev, eH⟩ => ?_)
  subst ev
  rw [eH] at I1
  obtain rfl : u = Value.ref f := r1
  obtain ⟨fs, _, h2⟩ := ht
  obtain ⟨fa, run⟩ := h2 X.A X.stack s1 H (fun _ _ => rfl) I1.env0
  refine PySem.W.callWith_F0 fa (wpAny_call (codeAny_mono (run Q (WE W σ) hr q) fun r s' hq => ?_))
  cases r with
  | error e => exact passAt tk σ pins H s1 e s' I1 hq
  | ok fl =>
    cases fl with
    | ret u => exact I1.after hq
    | next => exact False.elim hq
    | brk => exact False.elim hq
    | cont => exact False.elim hq
/-- the cells of X's frame as they stand in h -/
structure HeldAt (X : Cx) (σ : L2.St) (H : Hp) (h : Heap) : Prop where
  off : ∀ c ∈ csOf X.env.cells, H c = none
  inj : ∀ x y c, X.env.cells.lookup x = some c → X.env.cells.lookup y = some c → x = y
  at_ : ∀ x c, X.env.cells.lookup x = some c → ∃ (o : Obj) (u : Option Value), h.get? c = some o ∧ o.data = .cell u ∧ ∀ (i : Nat) (v : V), X.N[i]? = some x → σ[i]? = some (some v) → (X.env.scope.names.lookup x = some .cell ∨ X.env.scope.names.lookup x = some .free) → ∃ u', u = some u' ∧ RelV v u'
  has : ∀ x, (X.env.scope.names.lookup x = some .cell ∨ X.env.scope.names.lookup x = some .free) → ∃ c, X.env.cells.lookup x = some c
  len : σ.length = X.N.length
theorem held_of {X : Cx} {pins : List (Addr × Obj)} {σ : L2.St} {H : Hp} {s : Shared} (I : Inv X pins σ H s) : HeldAt X σ H s.heap := by
  refine ⟨fun c hc => ?_, I.ok.inj, fun x c e => ?_, I.ok.has, I.len⟩
  · obtain ⟨x, e⟩ := mem_csOf.mp hc
    exact I.freeC x c e
  · obtain ⟨u, o, ho, hd⟩ := I.cell x c e
    refine ⟨o, u, ho, hd, fun i v e1 e2 e3 => ?_⟩
    obtain ⟨m, _, hl⟩ := I.loc
    obtain ⟨u', r, q⟩ := hl i x v e1 e2 (.inr e3)
    rcases q with ⟨k, _⟩ | ⟨_, c2, e4, o2, ho2, hd2⟩
    · exfalso
      have k : X.env.scope.names.lookup x = some .local := k
      rcases e3 with z | z <;> rw [k] at z <;> cases z
    · rw [e] at e4
      cases e4
      rw [ho] at ho2
      cases ho2
      rw [hd] at hd2
      cases hd2
      exact ⟨u', rfl, r⟩
section
variable {X : Cx} {σ : L2.St} {H : Hp} {h : Heap}
theorem HeldAt.celF (hh : HeldAt X σ H h) : CellsF (csOf X.env.cells) (heldH (csOf X.env.cells) h H) := fun b hb => by
  obtain ⟨x, e⟩ := mem_csOf.mp hb
  obtain ⟨o, u, ho, _⟩ := hh.at_ x b e
  exact ⟨o, by unfold heldH; rw [if_pos hb, ho]; rfl⟩
theorem HeldAt.same (hh : HeldAt X σ H h) : Same H (heldH (csOf X.env.cells) h H) := fun b o e => by
  rw [heldH_ne fun z => ?_]
  · exact e
  · rw [hh.off b z] at e
    cases e
theorem HeldAt.caps (hh : HeldAt X σ H h) {sc : Scope} (L : LamS X.env.scope sc) : CapsAt X sc σ (heldH (csOf X.env.cells) h H) := by
  refine ⟨hh.inj, fun y hy e => ?_, hh.len⟩
  have k := L.free y hy e
  obtain ⟨c, hc⟩ := hh.has _ k
  obtain ⟨o, u, h1, h2, h3⟩ := hh.at_ _ _ hc
  refine ⟨c, o, u, hc, ?_, h2, fun i v e1 e2 => h3 i v e1 e2 k⟩
  unfold heldH
  rw [if_pos (mem_csOf.mpr ⟨_, hc⟩), h1]
  rfl
theorem capCs_sub {sc : Scope} (hh : HeldAt X σ H h) (L : LamS X.env.scope sc) : ∀ b ∈ capCs X sc, b ∈ csOf X.env.cells := fun b hb => by
  obtain ⟨x, e⟩ := mem_csOf.mp hb
  exact mem_csOf.mpr ⟨x, (clo_in (fun y hy k => hh.has _ (L.free y hy k)) e).2⟩
/-- G is H' where the cells cs are held -/
structure Back (cs : List Addr) (H' G : Hp) : Prop where
  ne : ∀ b, b ∉ cs → G b = H' b
  cel : ∀ b ∈ cs, ∃ o, G b = some (celF o)
  off : ∀ b o, H' b = some o → (∀ ob, o ≠ celF ob) → b ∉ cs
/-- a lambda of a def that runs, as a thunk, while the cells are held -/
theorem LamAt.thk {k : Nat} {f : Addr} {t : XK → TE} (l : LamAt X k H f t) (hh : HeldAt X σ H h) : ∃ sp, Thk X.prog X.w X.K X.mg X.base (k + 1) (heldH (csOf X.env.cells) h H) f sp ∧
    ∀ (Q : VK) (E : XK), (∀ (H0 : Hp) (R : (Hp → Prop) → Hp → Prop), Same H H0 → (∀ b, H0 b = none → H b = none) → (∀ (C : Hp → Prop) (H' : Hp), (∀ G, Back (csOf X.env.cells) H' G → C G) → R C H') →
      t (fun cls d H' => R (E cls d) H') σ H0 fun v H' => R (Q v) H') → sp (heldH (csOf X.env.cells) h H) Q E := by
  obtain ⟨ar, bo, sc, c', h1, h2, O⟩ := l
  have hs := hh.same
  refine ⟨_, thk_of O (hs _ _ h1) (hs _ _ h2) (hh.caps O.L), fun Q E q => ?_⟩
  have sub := capCs_sub hh O.L
  have cf := hh.celF
  have bk : ∀ H', Und (capCs X sc) (heldH (csOf X.env.cells) h H) H' → Back (csOf X.env.cells) H' (againH (capCs X sc) (heldH (csOf X.env.cells) h H) H') := fun H' u => by
    have hcel : ∀ b ∈ csOf X.env.cells, b ∉ capCs X sc → ∃ o, H' b = some (celF o) := fun b hb n => by
      obtain ⟨o, e⟩ := cf b hb
      exact ⟨o, u.frz b o _ (by rw [freedH_ne n]; exact e)⟩
    refine ⟨fun b n => againH_ne fun z => n (sub b z), fun b hb => ?_, fun b o e ne hb => ?_⟩
    · by_cases n : b ∈ capCs X sc
      · rw [againH_in n]
        exact cf b hb
      · rw [againH_ne n]
        exact hcel b hb n
    · by_cases n : b ∈ capCs X sc
      · rw [u.off b n] at e
        cases e
      · obtain ⟨o', e'⟩ := hcel b hb n
        rw [e] at e'
        exact ne o' (Option.some.inj e')
  refine q (freedH (capCs X sc) (heldH (csOf X.env.cells) h H)) (fun C H' => Und (capCs X sc) (heldH (csOf X.env.cells) h H) H' → C (againH (capCs X sc) (heldH (csOf X.env.cells) h H) H')) (fun b o e => ?_) (fun b e => ?_) fun C H' z u => z _ (bk H' u)
  · rw [freedH_ne fun z => ?_]
    · exact hs b o e
    · rw [hh.off b (sub b z)] at e
      cases e
  · by_cases n : b ∈ csOf X.env.cells
    · exact hh.off b n
    · rw [freedH_ne (fun z => n (sub b z)), heldH_ne n] at e
      exact e
end
/-! ### a def called while the cells of the caller's frame are held -/
section
variable {X : Cx} {pins : List (Addr × Obj)} {σ : L2.St} {H : Hp} {s s' : Shared}
theorem env0_held (I : Inv X pins σ H s) (hfn : ∀ x, X.fn x = true) : Env0 X.prog X.w X.K X.mg X.base X.A X.stack s (heldH (csOf X.env.cells) s.heap H) := by
  have e0 := I.env0
  have hh := held_of I
  have ge : ∀ c ∈ csOf X.env.cells, X.s_0.heap.objs.size ≤ c := fun c hc => by
    obtain ⟨x, e⟩ := mem_csOf.mp hc
    exact I.ok.cab x c (hfn x) e
  refine ⟨e0.frames, e0.mod, fun b o q => ⟨(e0.bs b o q).1, ?_⟩, e0.bsz, e0.funs, fun b hb => ?_, fun b o e => ?_, e0.bare⟩
  · rw [heldH_ne fun z => ?_]
    · exact (e0.bs b o q).2
    · exact absurd (Nat.lt_of_lt_of_le (Heap.lt_size q) (Nat.le_trans I.ok.bsz (ge b z))) (Nat.lt_irrefl _)
  · rw [heldH_ne fun z => ?_]
    · exact e0.frf b hb
    · rcases List.mem_cons.mp (I.stkSub b hb) with e | hb
      · obtain ⟨x, q⟩ := mem_csOf.mp z
        exact I.cne x b q e
      · obtain ⟨_, o, ho, _⟩ := I.ok.funs.mem hb
        exact absurd (Nat.lt_of_lt_of_le (Heap.lt_size ho) (ge b z)) (Nat.lt_irrefl _)
  · by_cases hb : b ∈ csOf X.env.cells
    · obtain ⟨x, q⟩ := mem_csOf.mp hb
      obtain ⟨ob, u, ho, _⟩ := hh.at_ x b q
      unfold heldH at e
      rw [if_pos hb, ho] at e
      cases e
      exact ⟨ho, trivial, ⟨ob, ho⟩, fun _ _ _ _ => trivial⟩
    · rw [heldH_ne hb] at e
      refine (e0.hok b o e).stay (fun _ _ _ q => q) (fun d q => hh.same d _ q) fun d xs q => hh.same d _ q
/-- behind such a call -/
theorem ce_held {Q : VK} {u : Value} (I : Inv X pins σ H s) (hfn : ∀ x, X.fn x = true) (q : CE X.stack X.prog X.w (heldH (csOf X.env.cells) s.heap H) s (fun v G => CellsF (csOf X.env.cells) G → Q v (freedH (csOf X.env.cells) G)) u s') : CE X.stack X.prog X.w H s Q u s' := by
  obtain ⟨v, G, os, bare, un, hok, r, qq⟩ := q
  have hh := held_of I
  have cf : CellsF (csOf X.env.cells) G := fun b hb => by
    obtain ⟨o, e⟩ := hh.celF b hb
    exact ⟨o, un.frzs b o _ e⟩
  refine ⟨v, freedH (csOf X.env.cells) G, os, bare, ⟨fun b o e n hb hx => ?_, fun b o e n hb hx => ?_, fun b o e n hx => ?_, fun b o e hx => un.there b o e hx, fun b xs e => ?_, fun b o v e => ?_, fun b ps e => ?_⟩, hok_freed hok cf, r, qq cf⟩
  · by_cases z : b ∈ csOf X.env.cells
    · obtain ⟨ob, e2⟩ := hh.celF b z
      have h1 := ((env0_held I hfn).hok b _ e2).1
      rw [e] at h1
      cases h1
      exact (hok b _ (un.frzs b _ _ e2)).1
    · exact un.keep b o e (by rw [heldH_ne z]; exact n) hb hx
  · by_cases z : b ∈ csOf X.env.cells
    · obtain ⟨ob, e2⟩ := hh.celF b z
      have h1 := ((env0_held I hfn).hok b _ e2).1
      rw [e] at h1
      cases h1
      exact ⟨o.slots, (hok b _ (un.frzs b _ _ e2)).1⟩
    · exact un.slot b o e (by rw [heldH_ne z]; exact n) hb hx
  · by_cases z : b ∈ csOf X.env.cells
    · exact freedH_in z
    · rw [freedH_ne z]
      exact un.free b o e (by rw [heldH_ne z]; exact n) hx
  · have z : b ∉ csOf X.env.cells := fun z => by
      rw [hh.off b z] at e
      cases e
    rw [freedH_ne z]
    exact un.tups b xs (by rw [heldH_ne z]; exact e)
  · have z : b ∉ csOf X.env.cells := fun z => by
      rw [hh.off b z] at e
      cases e
    rw [freedH_ne z]
    exact un.frzs b o v (by rw [heldH_ne z]; exact e)
  · have z : b ∉ csOf X.env.cells := fun z => by
      rw [hh.off b z] at e
      cases e
    obtain ⟨more, q⟩ := un.tbls b ps (by rw [heldH_ne z]; exact e)
    exact ⟨more, by rw [freedH_ne z]; exact q⟩
end
/-- what is wanted behind a call while the cells are held -/
def HeldQ (X : Cx) (Q : VK) : VK := fun v G => CellsF (csOf X.env.cells) G → Q v (freedH (csOf X.env.cells) G)
def tCallH (X : Cx) (sp : Sp) (t : TA) : TE := fun σ H Q => t σ H fun vs H1 => ∀ h : Heap, HeldAt X σ H1 h → sp vs (heldH (csOf X.env.cells) h H1) (HeldQ X Q) L2.E0
/-- x(e, ..), the cells of X's frame held meanwhile -/
theorem pe_callH {X : Cx} {k : Nat} {f : Addr} {fd : FuncData} {ps : List Str} {sp : Sp} {x : Str} {p pos : Pos} {e : Expr} {es : List Expr} {t : TA} (F : FnOk X.prog X.w X.K X.mg X.base L2.CX0 k f fd ps sp) (hr : Room k X.A) (hg : Gl X x) (hm : X.mg x = some (.ref f)) (hk : PySem.W.keepIn X.K (.ref f) = true) (hb : Binds X.K fd ps [])
    (ha : PA X (e :: es) t) (hfn : ∀ x, X.fn x = true := by intro _; rfl) (hdb : (x == ("__debug__" : Str)) = false := by decide) (he : starEach (e :: es) X.env = (false, eval e X.env) :: starEach es X.env := by rfl) (hpl : (backTo pos (starEach es X.env)).any (·.1) = false := by rfl) :
    PE X (.Call (.Name x p) (e :: es) [] pos) (tCallH X sp t) := by
  refine ⟨fun pins s σ H Q I h => ?_⟩
  refine wpAny_Call_Name_kw (ld_glob I hg hm ?_ hdb)
  refine PySem.W.callWith_K (h₀ := X.base) I.ok.mod.kin hk (thn (ha.run pos pins s σ H _ I h) fun us s1 ⟨vs, H1, I1, r, q⟩ => ⟨I1.kIn, ?_⟩) he hpl
  have q := q s1.heap (held_of I1)
  have hl : us.length = ps.length := by
    rw [← r.length]
    exact F.len _ _ _ _ q
  have hl : (us ++ []).length = ps.length := by rw [List.append_nil]; exact hl
  have r2 : Vals vs (us ++ []) := by rw [List.append_nil]; exact r
  refine wpAny_call (codeAny_mono (F.run X.A X.stack s1 _ ⟨us, []⟩ (us ++ []) vs _ _ hr (env0_held I1 hfn) (hb s1 us I1.kIn hl) r2 q) fun r s' hq => ?_)
  cases r with
  | error e => exact False.elim hq
  | ok fl =>
    cases fl with
    | ret u => exact I1.after (ce_held I1 hfn hq)
    | next => exact False.elim hq
    | brk => exact False.elim hq
    | cont => exact False.elim hq
/-- what a tuple that was made while cells were held looks like behind -/
theorem freed_made {cs : List Addr} {H' G : Hp} {p : Addr} {o : HO} (bk : Back cs H' G) (np : G p = none) : p ∉ cs ∧ freedH cs (upd G p o) = upd (freedH cs H') p o := by
  have n : p ∉ cs := fun z => by
    obtain ⟨ob, e⟩ := bk.cel p z
    rw [np] at e
    cases e
  refine ⟨n, funext fun b => ?_⟩
  by_cases hb : b ∈ cs
  · rw [freedH_in hb, upd_ne (fun (z : b = p) => n (z ▸ hb)), freedH_in hb]
  · rw [freedH_ne hb]
    by_cases hp : b = p
    · rw [hp, upd_same, upd_same]
    · rw [upd_ne hp, upd_ne hp, freedH_ne hb, bk.ne b hb]

/-! ### defs that hand out lambdas: their cells are held from then on -/
/-- the end of a body: what is handed back, the cells held -/
def SPR (X : Cx) (R : VK) (f : Flow) (s' : Shared) : Prop := match f with
  | .ret u => ∃ (pins : List (Addr × Obj)) (v : V) (σ' : L2.St) (H' : Hp), Inv X pins σ' H' s' ∧ RelV v u ∧ R v (heldH (csOf X.env.cells) s'.heap H')
  | _ => False
structure PSr (X : Cx) (st : List Stmt) (t : VK → L2.St → Hp → Prop) : Prop where
  run : ∀ (pins : List (Addr × Obj)) (s : Shared) (σ : L2.St) (H : Hp) (R : VK), Inv X pins σ H s → t R σ H → wpAny (model X.prog X.w) X.A (execs st X.env) (SPR X R) X.xe s
def endR (u : L2.St → Hp → Prop) : Ends := { nx := u, rt := fun _ _ => False }
section
variable {X : Cx} {st : Stmt} {rest : List Stmt} {t : TS} {u : VK → L2.St → Hp → Prop} {e c : Expr} {te : TE} {tc : TT} {pos : Pos}
theorem psr_cons (h1 : PS X st t) (h2 : PSr X rest u) : PSr X (st :: rest) (fun R σ H => t (endR (u R)) σ H) := by
  refine ⟨fun pins s σ H R I h => wpAny_execs_cons (thn (h1.run pins s σ H (endR (u R)) I h) fun f s1 q => ?_)⟩
  cases f with
  | next =>
    obtain ⟨σ', H', I', q⟩ := q
    exact h2.run pins s1 σ' H' R I' q
  | ret v =>
    obtain ⟨_, _, _, _, _, z⟩ := q
    exact False.elim z
  | brk =>
    obtain ⟨_, _, _, z⟩ := q
    exact False.elim z
  | cont =>
    obtain ⟨_, _, _, z⟩ := q
    exact False.elim z
theorem psr_ret (he : PE X e te) : PSr X [.Return (some e) pos] (fun R σ H => te σ H fun v H1 => ∀ h, HeldAt X σ H1 h → R v (heldH (csOf X.env.cells) h H1)) := by
  refine ⟨fun pins s σ H R I h => wpAny_execs_cons (wpAny_Return_some (thn (he.run pins s σ H _ I h) fun v s1 q => ?_))⟩
  obtain ⟨x, H1, I1, r, q⟩ := q
  exact ⟨pins, x, σ, H1, I1, r, q s1.heap (held_of I1)⟩
theorem psr_if {a b : List Stmt} {ta tb : VK → L2.St → Hp → Prop} (hc : PT X c tc) (ha : PSr X a ta) (hb : PSr X b tb) : PSr X [.If c a b pos] (fun R σ H => tc σ H fun d H1 => if d = true then ta R σ H1 else tb R σ H1) := by
  refine ⟨fun pins s σ H R I h => wpAny_execs_cons (thn (wpAny_If (Q := SPR X R) (thn (hc.run pins s σ H _ I h) fun d s1 ⟨H1, I1, q1⟩ => ?_)) fun f s1 q => ?_)⟩
  · cases d with
    | true => exact ha.run pins s1 σ H1 R I1 q1
    | false => exact hb.run pins s1 σ H1 R I1 q1
  · cases f with
    | next => exact False.elim q
    | ret v => exact q
    | brk => exact q
    | cont => exact q
/-- if c: a; rest, where a hands something back -/
theorem psr_ifr {a : List Stmt} {ta : VK → L2.St → Hp → Prop} (hc : PT X c tc) (ha : PSr X a ta) (hb : PSr X rest u) : PSr X (.If c a [] pos :: rest) (fun R σ H => tc σ H fun d H1 => if d = true then ta R σ H1 else u R σ H1) := by
  refine ⟨fun pins s σ H R I h => wpAny_execs_cons (thn (wpAny_If (Q := fun f s' => match f with | .next => wpAny (model X.prog X.w) X.A (execs rest X.env) (SPR X R) X.xe s' | f => SPR X R f s') (thn (hc.run pins s σ H _ I h) fun d s1 ⟨H1, I1, q1⟩ => ?_)) fun f s1 q => ?_)⟩
  · cases d with
    | true =>
      refine thn (ha.run pins s1 σ H1 R I1 q1) fun f s2 q => ?_
      cases f with
      | next => exact False.elim q
      | ret v => exact q
      | brk => exact q
      | cont => exact q
    | false => exact wpAny_execs_nil (hb.run pins s1 σ H1 R I1 q1)
  · cases f with
    | next => exact q
    | ret v => exact q
    | brk => exact q
    | cont => exact q
end
/-- THE RULE for such a def -/
theorem FunL.okD {P : Program} {w : World} {K : PySem.W.Frag} {mg : Str → Option Value} {base : Heap} {x qual : Str} {st : Stmt} {f c : Addr} {fd : FuncData} {N ps : List Str} {k : Nat} {sp : Sp} (F : FunL K x qual st f fd c) (S : FnScope N ps (defScope st)) (len : ∀ vs H Q E, sp vs H Q E → vs.length = ps.length)
    (hbody : ∀ (A : Around) (outer : List Env) (s : Shared) (H : Hp) (vs : List V) (Q : VK) (E : XK), Room k (A.deeper (envOfC qual (defScope st) s.heap.objs.size f (.ref c))) → sp vs H Q E → ∃ t, PSr (cxOf C8.CX0 P w K mg base N qual (defScope st) f (.ref c) A outer s H E) (defBody st) t ∧ t Q (L2.start N vs) H) :
    FnOk P w K mg base CX0 (k + 1) f fd ps sp := by
  obtain ⟨oc, od, kV, doc, pm, an, ct, osl, e, lk, hcd⟩ := F.ex
  refine ⟨len, fun A outer s H args us vs Q E hr e0 hbt r h => ?_⟩
  rw [e] at lk hbt
  have hl := len _ _ _ _ h
  have keep : ∀ b o, base.get? b = some o → s.heap.get? b = some o := fun b o e => (e0.bs b o e).1
  have par : ∀ y ∈ ps.zip us, (defScope st).names.lookup y.1 = some .local ∨ ((defScope st).names.lookup y.1 = some .cell ∧ ((cellsFrom (s.heap.objs.size + 1) (defScope st).names []).lookup y.1).isSome = true) := fun ⟨n, v⟩ hy => by
    rcases S.par n (List.of_mem_zip hy).1 with q | q
    · exact .inl q
    · exact .inr ⟨q, PySem.W.cellsFrom_some _ _ _ (.inl q)⟩
  refine codeAny_call_function hr.depth ((e0.mod.kin.keeps keep) _ _ lk) rfl S.co S.gen rfl (PySem.W.codeRec_of (e0.mod.kin.keeps keep) hcd) (hbt _ _ _ _ ?_)
  refine wpAny_newFunctionEnv_cells S.kind par fun env he s1 z => ?_
  subst he
  refine ⟨(e0.mod.nolimit.keeps keep).keeps z.toInCall.keep, codeAny_func ?_⟩
  obtain ⟨t, ht, hq⟩ := hbody A outer s H vs Q E (hr.deeper _) h
  have I := inv_start (CX := C8.CX0) (E := E) (f := f) (cd := Value.ref c) S hr.hd e0 hl r z
  refine wpAny_mono (ht.run [] s1 (L2.start N vs) H Q I hq) (fun fl s' hs => ?_) fun e s' hs => hs
  cases fl with
  | next => exact False.elim hs
  | brk => exact False.elim hs
  | cont => exact False.elim hs
  | ret u =>
    obtain ⟨pins, v, σ', H', J, rv, q⟩ := hs
    have hh := held_of J
    have ge : ∀ b ∈ csOf (cxOf C8.CX0 P w K mg base N qual (defScope st) f (.ref c) A outer s H E).env.cells, s.heap.objs.size ≤ b := fun b hb => by
      obtain ⟨y, q⟩ := mem_csOf.mp hb
      exact J.ok.cab y b rfl q
    have nin : ∀ {b : Addr} {o : HO}, H' b = some o → b ∉ csOf (cxOf C8.CX0 P w K mg base N qual (defScope st) f (.ref c) A outer s H E).env.cells := fun {b o} e z => by
      rw [hh.off b z] at e
      cases e
    refine ⟨v, _, J.os, J.bare, ⟨J.base.keep, J.base.slot, fun b o e n hx => ?_, J.base.there, fun b xs e => ?_, fun b o y e => ?_, fun b ts e => ?_⟩, (env0_held J (fun _ => rfl)).hok, rv, q⟩
    · rw [heldH_ne fun z => ?_]
      · exact J.base.free b o e n hx
      · exact absurd (Nat.lt_of_lt_of_le (Heap.lt_size e) (ge b z)) (Nat.lt_irrefl _)
    · have e' := J.base.tups b xs e
      rw [heldH_ne (nin e')]
      exact e'
    · have e' := J.base.frzs b o y e
      rw [heldH_ne (nin e')]
      exact e'
    · obtain ⟨more, e'⟩ := J.base.tbls b ts e
      exact ⟨more, by rw [heldH_ne (nin e')]; exact e'⟩
/-- how a thunk is read whose cells are held for good -/
def spD (t : XK → TE) (σ : L2.St) : Hp → VK → XK → Prop := fun G Q E => ∀ (H0 : Hp) (R : (Hp → Prop) → Hp → Prop), (∀ b o, G b = some o → (∀ ob, o ≠ celF ob) → H0 b = some o) →
  (∀ (C : Hp → Prop) (H' : Hp), Same H0 H' → (∀ G', Same G G' → (∀ b o, H' b = some o → G' b = some o) → C G') → R C H') → t (fun cls d H' => R (E cls d) H') σ H0 fun v H' => R (Q v) H'
theorem LamAt.thkD {X : Cx} {σ : L2.St} {H : Hp} {h : Heap} {k : Nat} {f : Addr} {t : XK → TE} (l : LamAt X k H f t) (hh : HeldAt X σ H h) : Thk X.prog X.w X.K X.mg X.base (k + 1) (heldH (csOf X.env.cells) h H) f (spD t σ) := by
  obtain ⟨ar, bo, sc, c', h1, h2, O⟩ := l
  have hs := hh.same
  have sub := capCs_sub hh O.L
  refine (thk_of O (hs _ _ h1) (hs _ _ h2) (hh.caps O.L)).imp2 (cs := capCs X sc) (fun b hb => ?_) fun G Q E hG q => ?_
  · obtain ⟨o, e⟩ := hh.celF b (sub b hb)
    exact ⟨_, e, .inl ⟨_, _, rfl⟩⟩
  · refine q (freedH (capCs X sc) G) (fun C H' => Und (capCs X sc) G H' → C (againH (capCs X sc) G H')) (fun b o e ne => ?_) fun C H' s0 z u => z _ (fun b o e => ?_) fun b o e => ?_
    · rw [freedH_ne fun z => ?_]
      · exact e
      · obtain ⟨ob, e2⟩ := hh.celF b (sub b z)
        rw [hG b z, e2] at e
        exact ne ob (Option.some.inj e).symm
    · by_cases n : b ∈ capCs X sc
      · rw [againH_in n]
        exact e
      · rw [againH_ne n]
        exact s0 b o (by rw [freedH_ne n]; exact e)
    · rw [againH_ne fun n => ?_]
      · exact e
      · rw [u.off b n] at e
        cases e

/-! ### what a call comes to, as a law asks it: ('told', value) or the error's tuple -/
/-- an error of one of these classes has come: the tuple is made -/
def MetX (rs : List (Addr × Str × Str)) (Q : VK) : XK := fun cls d H' => ∃ (C : Addr) (tag fld : Str) (dd : Addr) (v : V), (C, tag, fld) ∈ rs ∧ cls = .ref C ∧ d = some dd ∧ H' dd = some (.xd [(fld, v)]) ∧ ∀ o, H' o = none → Q (.ref o) (upd H' o (.tup [.str tag, v, .bl true]))
def spMet (P : Program) (w : World) (K : PySem.W.Frag) (mg : Str → Option Value) (base : Heap) (k : Nat) (rs : List (Addr × Str × Str)) : Sp := fun vs H Q _ => ∃ (f : Addr) (sp : Hp → VK → XK → Prop), vs = [.ref f] ∧ Thk P w K mg base k H f sp ∧
  ∀ (Q' : VK) (E' : XK), (∀ v H', (∀ p, H' p = none → Q (.ref p) (upd H' p (.tup [.str "told", v]))) → Q' v H') → (∀ cls d H', MetX rs Q cls d H' → E' cls d H') → sp H Q' E'
/-- what has been made while the cells were held is there when they are let go -/
def Over (H' G : Hp) : Prop := ∀ b o, H' b = some o → (∀ ob, o ≠ celF ob) → G b = some o
/-- asked of a lambda that is made on the spot -/
theorem met_live {X : Cx} {σ : L2.St} {H1 : Hp} {h : Heap} {k kk : Nat} {t : XK → TE} {f : Addr} {rs : List (Addr × Str × Str)} {Q : VK} {E : XK} (hh : HeldAt X σ H1 h) (l : LamAt X k H1 f t) (hk : k + 1 ≤ kk)
    (q : ∀ (H0 : Hp) (told : VK) (err : XK), Same H1 H0 → (∀ b, H0 b = none → H1 b = none) →
      (∀ v H', Same H0 H' → (∀ p Hf, Same H1 Hf → Over H' Hf → Hf p = some (.tup [.str "told", v]) → Q (.ref p) Hf) → told v H') →
      (∀ C tag fld dd v H', (C, tag, fld) ∈ rs → Same H0 H' → H' dd = some (.xd [(fld, v)]) → (∀ p Hf, Same H1 Hf → Hf p = some (.tup [.str tag, v, .bl true]) → Q (.ref p) Hf) → err (.ref C) (some dd) H') →
      t err σ H0 told) :
    spMet X.prog X.w X.K X.mg X.base kk rs [.ref f] (heldH (csOf X.env.cells) h H1) (HeldQ X Q) E := by
  obtain ⟨sp, th, run⟩ := l.thk hh
  refine ⟨f, sp, rfl, th.mono hk, fun Q' E' hQ hE => run Q' E' fun H0 R s1 fr hR => ?_⟩
  have fin : ∀ {H' G : Hp} {p : Addr} {o : HO}, Same H0 H' → Back (csOf X.env.cells) H' G → G p = none → (∀ ob, o ≠ celF ob) →
      (Same H1 (freedH (csOf X.env.cells) (upd G p o)) ∧ Over H' (freedH (csOf X.env.cells) (upd G p o))) ∧ freedH (csOf X.env.cells) (upd G p o) p = some o := fun {H' G p o} s' bk np ne => by
    obtain ⟨n, e⟩ := freed_made (o := o) bk np
    rw [e]
    have up : ∀ b u, b ∉ csOf X.env.cells → H' b = some u → upd (freedH (csOf X.env.cells) H') p o b = some u := fun b u nb hb => by
      have nbp : b ≠ p := fun z => by
        rw [← z, bk.ne b nb, hb] at np
        cases np
      rw [upd_ne nbp, freedH_ne nb]
      exact hb
    refine ⟨⟨fun b u hb => up b u (fun z => ?_) (s' b u (s1 b u hb)), fun b u hb nu => up b u (bk.off b u hb nu) hb⟩, upd_same⟩
    rw [hh.off b z] at hb
    cases hb
  refine q H0 (fun v H' => R (Q' v) H') (fun cls d H' => R (E' cls d) H') s1 fr (fun v H' s' qq => hR _ _ fun G bk => hQ v G fun p np _ => ?_) (fun C tag fld dd v H' hm s' hd qq => hR _ _ fun G bk => hE _ _ _ ?_)
  · obtain ⟨⟨a1, a2⟩, a3⟩ := fin (o := .tup [.str "told", v]) s' bk np (fun ob z => by cases z)
    exact qq p _ a1 a2 a3
  · refine ⟨C, tag, fld, dd, v, hm, rfl, rfl, ?_, fun p np _ => ?_⟩
    · rw [bk.ne dd (bk.off dd _ hd fun ob z => by cases z)]
      exact hd
    · obtain ⟨⟨a1, _⟩, a3⟩ := fin (o := .tup [.str tag, v, .bl true]) s' bk np (fun ob z => by cases z)
      exact qq p _ a1 a3

/-! ### what stands behind draws, lambdas and calls -/
/-- lists and tuples stand as they stood -/
def KLT (H H' : Hp) : Prop := ∀ b o, H b = some o → (∃ xs, o = .lst xs ∨ o = .tup xs) → H' b = some o
theorem KLT.refl {H : Hp} : KLT H H := fun _ _ e _ => e
theorem KLT.trans {H H1 H2 : Hp} (x : KLT H H1) (y : KLT H1 H2) : KLT H H2 := fun b o e h => y b o (x b o e h) h
theorem klt_same {H H' : Hp} (s : Same H H') : KLT H H' := fun b o e _ => s b o e
theorem klt_but {d : Addr} {kvs : List (Key × V)} {H H' : Hp} (s : But d H H') (hd : H d = some (.dK kvs)) : KLT H H' := fun b o e ⟨xs, h⟩ => s b o e (ne_of e hd (by rcases h with rfl | rfl <;> intro z <;> cases z))
theorem klt_ext {H H' : Hp} (s : LamX.ExtN H H') : KLT H H' := fun b o e ⟨xs, h⟩ => s b o e fun ps z => by rcases h with rfl | rfl <;> cases z
theorem KLT.lst {H H' : Hp} (k : KLT H H') {b : Addr} {xs : List V} (e : H b = some (.lst xs)) : H' b = some (.lst xs) := k _ _ e ⟨_, .inl rfl⟩
theorem KLT.tup {H H' : Hp} (k : KLT H H') {b : Addr} {xs : List V} (e : H b = some (.tup xs)) : H' b = some (.tup xs) := k _ _ e ⟨_, .inr rfl⟩
theorem Pen.ext {H H' : Hp} {d c : Addr} {n : Nat} (p : Pen H d c n) (s : LamX.ExtN H H') : Pen H' d c n := by
  obtain ⟨ns, t, l, q, e⟩ := p
  exact ⟨ns, t, l, ⟨s _ _ q.dc (fun ps z => by unfold penD at z; cases z), s _ _ q.cs (fun ps z => by cases z), q.len, q.t0⟩, e⟩
theorem tabs_but {TT : List (Addr × Str)} {d : Addr} {kvs : List (Key × V)} {H H' : Hp} (h : LamX.Tabs TT H) (s : But d H H') (hd : H d = some (.dK kvs)) : LamX.Tabs TT H' := fun p hp => by
  obtain ⟨ps, h1, h2, h3⟩ := h p hp
  refine ⟨ps, s _ _ h1 (ne_of h1 hd (by intro z; cases z)), h2, fun pos cv hc => ?_⟩
  obtain ⟨c, e1, e2⟩ := h3 pos cv hc
  exact ⟨c, e1, s _ _ e2 (ne_of e2 hd (by intro z; unfold LamX.CodeO at z; cases z))⟩
/-- a pen, and the tables of code objects -/
structure PT2 (TT : List (Addr × Str)) (H : Hp) (d c : Addr) (n : Nat) : Prop where
  pen : Pen H d c n
  tabs : LamX.Tabs TT H
theorem PT2.same {TT : List (Addr × Str)} {H H' : Hp} {d c : Addr} {n : Nat} (p : PT2 TT H d c n) (s : Same H H') : PT2 TT H' d c n := ⟨p.pen.same s, p.tabs.ext s⟩
theorem PT2.but {TT : List (Addr × Str)} {H H' : Hp} {d c : Addr} {n m : Nat} (p : PT2 TT H d c n) (q : Pen H' d c m) (s : But d H H') : PT2 TT H' d c m ∧ KLT H H' := by
  obtain ⟨_, hd⟩ := p.pen.dict
  exact ⟨⟨q, tabs_but p.tabs s hd⟩, klt_but s hd⟩
theorem PT2.up {TT : List (Addr × Str)} {H : Hp} {d c : Addr} {n m : Nat} (p : PT2 TT H d c n) (h : n ≤ m) : PT2 TT H d c m := ⟨p.pen.up h, p.tabs⟩

/-! ### != by an own __eq__ (object.__ne__ turns its answer round), own == beside ints and tuples -/
inductive EqTy2 (H : Hp) : V → Value → Prop where
  | str (y : Str) : EqTy2 H (.str y) (.type "str")
  | int (i : Int) : EqTy2 H (.int i) (.type "int")
  | ins {p C : Addr} {dx : Addr} {fs : List (Str × V)} (e : H p = some (.ins C dx fs)) : EqTy2 H (.ref p) (.ref C)
  | tup {p : Addr} {xs : List V} (e : H p = some (.tup xs)) : EqTy2 H (.ref p) (.type "tuple")
  | lst {p : Addr} {xs : List V} (e : H p = some (.lst xs)) : EqTy2 H (.ref p) (.type "list")
theorem eqTy2_looks {X : Cx} {pins : List (Addr × Obj)} {σ : L2.St} {H : Hp} {s : Shared} {y : V} {u tb : Value} (I : Inv X pins σ H s) (ty : EqTy2 H y tb) (ry : RelV y u) : PySem.W.Looks (model X.prog X.w) s.heap (typeOf u) tb := by
  cases ty with
  | str z =>
    obtain ⟨t, q⟩ := (show ∃ t, u = Value.str z t from ry)
    cases q
    exact .now
  | int i =>
    obtain ⟨t, q⟩ := (show ∃ t, u = Value.int i t from ry)
    cases q
    exact .now
  | @ins b C' dy gs e =>
    cases (show u = Value.ref b from ry)
    obtain ⟨mB, J', _⟩ := ins_get I.hok e
    obtain ⟨od', J', _⟩ := J'.look
    exact J'.type
  | @tup b xs e =>
    cases (show u = Value.ref b from ry)
    obtain ⟨_, its, _, ob, ho, hc, _⟩ := I.hok b _ e
    rw [← hc]
    exact (PySem.W.Looks.ld ho).andThen .now
  | @lst b xs e =>
    cases (show u = Value.ref b from ry)
    obtain ⟨z, its, n, r, hl, e'⟩ := I.lstM e
    exact (PySem.W.Looks.ld e').andThen .now
def rEqOwn2 (K : PySem.W.Frag) (C : Addr) (sp : Sp) : R2 := fun x y H Q => ∃ (p dx : Addr) (fs : List (Str × V)) (tb : Value), x = .ref p ∧ H p = some (.ins C dx fs) ∧ EqTy2 H y tb ∧ PySem.W.notFirst K C tb = true ∧ sp [x, y] H (fun v H' => (∃ b, v = .bl b) ∧ Q v H') L2.E0
def rNeOwn2 (K : PySem.W.Frag) (C : Addr) (sp : Sp) : R2 := fun x y H Q => ∃ (p dx : Addr) (fs : List (Str × V)) (tb : Value), x = .ref p ∧ H p = some (.ins C dx fs) ∧ EqTy2 H y tb ∧ PySem.W.notFirst K C tb = true ∧ sp [x, y] H (fun v H' => ∃ b, v = .bl b ∧ Q (.bl (!b)) H') L2.E0
theorem op_eq_own2 {X : Cx} {n : Nat} {C f : Addr} {fd : FuncData} {ps : List Str} {sp : Sp} (F : FnOk X.prog X.w X.K X.mg X.base L2.CX0 n f fd ps sp) (hr : Room n X.A)
    (hs : PySem.W.findIn X.K (.ref C) "__eq__" = some (some (.ref f))) (hf : PySem.W.isFn X.K (.ref f) = true) (hb : Binds X.K fd ps []) : OpR X (compareOp .Eq) (rEqOwn2 X.K C sp) := by
  rintro pins s σ H x y v u Q I rx ry ⟨p, dx, fs, tb, rfl, hp, ty, hn, hsp⟩
  cases rx
  obtain ⟨mA, J, _⟩ := ins_get I.hok hp
  obtain ⟨od, J, _⟩ := J.look
  obtain ⟨m, hF⟩ := I.fr
  have hT := eqTy2_looks I ty ry
  show wpAny (model X.prog X.w) X.A (richCompare .Eq (.ref p) u) (EP X pins σ Q) X.xe s
  refine PySem.W.cmp_K (op := .Eq) (tb := tb) hr.units0 hF I.ok.mod.kin J hT hn hs hf ?_
  refine wpAny_mono (run_fn F hr hb .nil pass0 I (show Vals [V.ref p, y] [Value.ref p, u] from .cons rfl (.cons ry .nil)) hsp) (fun w s' z => ?_) fun _ _ h => h
  obtain ⟨z, H', I', rz, ⟨b, ez⟩, q⟩ := z
  subst ez
  cases (show w = Value.bool b from rz)
  exact ⟨.bl b, H', I', rfl, q⟩
theorem op_ne_own2 {X : Cx} {n : Nat} {C f : Addr} {fd : FuncData} {ps : List Str} {sp : Sp} (F : FnOk X.prog X.w X.K X.mg X.base L2.CX0 n f fd ps sp) (hr : Room (n + 1) X.A)
    (hs : PySem.W.findIn X.K (.ref C) "__eq__" = some (some (.ref f))) (hne : PySem.W.findIn X.K (.ref C) "__ne__" = some (some (.builtin "object.__ne__"))) (hob : PySem.W.mroIn X.K C (.type "object") = some true) (hf : PySem.W.isFn X.K (.ref f) = true) (hb : Binds X.K fd ps []) : OpR X (compareOp .NotEq) (rNeOwn2 X.K C sp) := by
  rintro pins s σ H x y v u Q I rx ry ⟨p, dx, fs, tb, rfl, hp, ty, hn, hsp⟩
  cases rx
  obtain ⟨mA, J, _⟩ := ins_get I.hok hp
  obtain ⟨od, J, _⟩ := J.look
  have hT := eqTy2_looks I ty ry
  have kX := I.kIn
  have r2 : Vals [V.ref p, y] [Value.ref p, u] := .cons rfl (.cons ry .nil)
  have hl : [Value.ref p, u].length = ps.length := by
    have e := F.len _ _ _ _ hsp
    exact e
  -- the own == is asked by object.__ne__
  have run : codeAny (model X.prog X.w) X.A (.call (.builtin "object.__ne__") ⟨[.ref p, u], []⟩) (fun r s' => ∃ b : Bool, r = .ok (.ret (.bool (!b))) ∧ ∃ H', Inv X pins σ H' s' ∧ Q (.bl (!b)) H') s := by
    have sub : PySem.W.Looks (model X.prog X.w) s.heap (isInstance (.ref p) (.type "object")) true := J.type.andThen (PySem.W.looks_mroIn kX hob)
    refine codeAny_call_builtin PySem.F.cmp_object.ne.plain PySem.F.cmpEntry_ne (PySem.W.check_slot PySem.F.cmpKind_ne PySem.F.cmpSplit_ne sub (PySem.F.cmpArgs_ne _ _) ?_)
    unfold Builtin.«object.__ne__»
    have hu1 : X.A.in1.units < cLine := (hr.in1).units0
    rw [show slotArgs "__ne__" 1 ⟨[.ref p, u], []⟩ = pure (.ref p, [u]) from rfl]
    refine wpAny_bind (wpAny_pure (wpAny_bind (wpAny_cRoomFor hu1 (wpAny_bind (PySem.W.ifBound_K kX J hs hf ?_)))))
    have inner : wpAny (model X.prog X.w) X.A.in1 (call (.ref f) [.ref p, u]) (fun w s' => ∃ b, w = .bool b ∧ ∃ H', Inv X pins σ H' s' ∧ Q (.bl (!b)) H') (fun e s' => ∃ b : Bool, (Except.error e : Result) = .ok (.ret (.bool (!b))) ∧ ∃ H', Inv X pins σ H' s' ∧ Q (.bl (!b)) H') s := by
      refine wpAny_call (codeAny_mono (F.run X.A.in1 X.stack s H ⟨[.ref p, u], []⟩ [.ref p, u] [V.ref p, y] _ _ hr.in1 I.env0.in1 (hb s [.ref p, u] kX hl) r2 hsp) fun r s' hq => ?_)
      cases r with
      | error e => exact False.elim hq
      | ok fl =>
        cases fl with
        | ret w =>
          obtain ⟨v', H', I', rz, b, ez, q⟩ := I.after hq
          subst ez
          exact ⟨b, rz, H', I', q⟩
        | next => exact False.elim hq
        | brk => exact False.elim hq
        | cont => exact False.elim hq
    refine wpAny_mono inner (fun w s' hq => ?_) fun _ _ h => h
    obtain ⟨b, rfl, H', I', q⟩ := hq
    refine wpAny_bind (wpAny_truthy_bool ?_)
    exact wpAny_pure ⟨b, rfl, H', I', q⟩
  have one : wpAny (model X.prog X.w) X.A (tryCompare (.ref p) "__ne__" u) (fun r s' => ∃ v, r = some v ∧ EP X pins σ Q v s') X.xe s := by
    unfold tryCompare
    simp only [callSpecialIfBound?, bindSpecialIfBound?]
    refine wpAny_bind (wpAny_holding (wpAny_bind (wpAny_bind (wpAny_bind (J.type.here ((PySem.W.looks_findIn kX hne).here ?_))))))
    simp only [PySem.F.cmp_object.ne.bind]
    have fin : wpAny (model X.prog X.w) X.A (call (.builtin "object.__ne__") [.ref p, u]) (fun v s' => ∃ b : Bool, v = .bool (!b) ∧ ∃ H', Inv X pins σ H' s' ∧ Q (.bl (!b)) H') X.xe s := wpAny_call (codeAny_mono run fun r s' hq => by
      obtain ⟨b, rfl, hq⟩ := hq
      exact ⟨b, rfl, hq⟩)
    refine wpAny_bind (wpAny_askSetting (wpAny_ite ?_))
    split
    · refine wpAny_bind (wpAny_pure (wpAny_pure ?_))
      show wpAny _ _ (call (.builtin "object.__ne__") ([.ref p] ++ [u]) >>= fun v => pure (some v)) _ _ _
      refine wpAny_bind (wpAny_mono fin (fun v s' hq => ?_) fun _ _ h => h)
      obtain ⟨b, rfl, H', I', q⟩ := hq
      exact wpAny_pure (wpAny_pure ⟨_, rfl, .bl (!b), H', I', rfl, q⟩)
    · refine wpAny_tryCatch (wpAny_bind (wpAny_pure (wpAny_pure ?_)))
      show wpAny _ _ (call (.builtin "object.__ne__") ([.ref p] ++ [u]) >>= fun v => pure (some v)) _ _ _
      refine wpAny_bind (wpAny_mono fin (fun v s' hq => ?_) fun _ _ h => h)
      obtain ⟨b, rfl, H', I', q⟩ := hq
      exact wpAny_pure (wpAny_pure ⟨_, rfl, .bl (!b), H', I', rfl, q⟩)
  show wpAny (model X.prog X.w) X.A (richCompare .NotEq (.ref p) u) (EP X pins σ Q) X.xe s
  unfold richCompare
  simp only [oneThing_ref]
  refine wpAny_holding (wpAny_bind (wpAny_cRoomFor hr.units0 ?_))
  refine wpAny_bind (J.type.here (wpAny_bind (hT.here ?_)))
  split
  · rename_i q
    have e : PySem.W.subIn X.K tb (.ref C) = some false := by
      rcases Bool.or_eq_true_iff.mp hn with e | e
      · rw [beq_iff_eq.mp e] at q
        simp at q
      · exact beq_iff_eq.mp e
    refine wpAny_bind ((PySem.W.looks_subIn kX e).here ?_)
    simp only [Bool.false_eq_true, if_false]
    refine wpAny_bind (wpAny_mono one (fun r s' z => ?_) fun _ _ e => e)
    obtain ⟨v, rfl, hq⟩ := z
    exact wpAny_pure hq
  · refine wpAny_bind (wpAny_pure ?_)
    simp only [Bool.false_eq_true, if_false]
    refine wpAny_bind (wpAny_mono one (fun r s' z => ?_) fun _ _ e => e)
    obtain ⟨v, rfl, hq⟩ := z
    exact wpAny_pure hq

/-! ### a list comprehension whose element may know what its block began with -/
section
variable {X : Cx}
/-- PE X e t, where the block's beginning is known to be a state of the def -/
theorem pe_lcG {elt tg iter : Expr} {scope : Scope} {own : List (Str × Nat)} {pos : Pos} {wi : TI} {g : TG} {te : L2.St → TE} (calm : X.calm = true) (nod : X.N.Nodup) (hi : PI X tg iter wi) (bk : BlkOk X.N X.env.scope scope own)
    (hg : ∀ (z : Shared) (G : Hp) (C : Addr) (cl : List (Str × Addr)) (fp : List Addr), PG (X.blk z G scope (compEnvC scope cl C X.env) fp) tg g)
    (he : ∀ (pins : List (Addr × Obj)) (σ : L2.St) (z : Shared) (G : Hp) (C : Addr) (cl : List (Str × Addr)) (fp : List Addr), Inv X pins σ G z → (∀ b ∈ fp, FpOk X pins G b) → PE (X.blk z G scope (compEnvC scope cl C X.env) fp) elt (te σ))
    (hs : ∀ x, foldedSetIterable iter X.env x = pure x := by intro _; rfl) :
    PE X (.ListComp elt [⟨tg, iter, [], 0⟩] scope pos) (fun σ H Q => tLc wi g tYes (te σ) (own.map (·.2)) σ H Q) := by
  refine ⟨fun pins s σ H Q I h => ?_⟩
  rw [eval_ListComp]
  have fr : ∀ y ∈ scope.names, y.2 = .free → ∃ c, X.env.cells.lookup y.1 = some c := fun y hy e => (bk.free y hy e).elim (fun k => I.ok.has _ (.inl k)) fun k => I.ok.has _ (.inr k)
  refine wpAny_comprehension_free (use := none) rfl hs (closure_ok fr) bk.kind (fun y hy e => (bk.uniq y hy).trans (congrArg some e)) (thn (hi.run pins s σ H _ I h) fun _ _ ha => thn ha fun _ a hb => ?_)
  obtain ⟨it, fp, tn, J, H2, rfl, I2, T, t0, f0, ask⟩ := hb
  refine wpAny_newObj_type (newEnv_comp ?_) (show 0 ≤ sizeLine by decide)
  -- the new list stands at D
  obtain ⟨D, hD⟩ : ∃ D, D = a.heap.objs.size := ⟨_, rfl⟩
  rw [← hD]
  obtain ⟨W, ⟨m0, w0⟩, turn⟩ := ask D (I2.hok.fresh (Nat.le_of_eq hD.symm))
  obtain ⟨b, hb⟩ : ∃ b : Shared, b = { a with heap := a.heap.push { cls := .type "list", data := .seq ([] : List Value).toArray } } := ⟨_, rfl⟩
  rw [← hb]
  have bh : b.heap = a.heap.push { cls := .type "list", data := .seq ([] : List Value).toArray } := by rw [hb]
  have pushes : ∀ c o, a.heap.get? c = some o → b.heap.get? c = some o := fun c o e => by
    rw [bh]
    exact Heap.get?_push_of_some _ e
  have I3 : Inv X pins σ (upd H2 D (.lst [])) b := by
    rw [hb]
    refine I2.laid (t' := a.toks) (fun _ _ e => Heap.get?_push_of_some _ e) (Nat.le_of_eq hD.symm) ⟨Nat.zero_le _, [], 0, .nil, ?_⟩
    rw [hD]
    exact Heap.get?_push_size _ rfl
  have lt : ∀ c ∈ fp, c < a.heap.objs.size := fun c hc => by
    obtain ⟨o, e, _⟩ := T.obj _ _ t0 c hc
    exact Heap.lt_size e
  have f1 : ∀ c ∈ fp, FpOk X pins (upd H2 D (.lst [])) c ∧ c < b.heap.objs.size := fun c hc => by
    have l := lt c hc
    refine ⟨⟨?_, (f0 c hc).2⟩, ?_⟩
    · rw [upd_ne (by rw [hD]; exact Nat.ne_of_lt l)]
      exact (f0 c hc).1
    · rw [bh, Heap.size_push]
      exact Nat.lt_succ_of_lt l
  have t1 : tn 0 b.heap := T.keep _ _ _ t0 fun c _ o e => pushes c o e
  have I4 := block_start I3 bk nod f1
  have off1 : ∀ c ∈ fp, (upd H2 D (.lst [])) c = none := fun c hc => (f1 c hc).1.1
  obtain ⟨G, hG⟩ : ∃ G, G = upd H2 D (.lst []) := ⟨_, rfl⟩
  rw [← hG] at I3 I4 f1 w0 off1
  have pg := hg b G b.heap.objs.size (cellsFrom (b.heap.objs.size + 1) scope.names (cloFrom X.env.cells scope.names [])) fp
  have pe := he pins σ b G b.heap.objs.size (cellsFrom (b.heap.objs.size + 1) scope.names (cloFrom X.env.cells scope.names [])) fp I3 fun c hc => (f1 c hc).1
  obtain ⟨ce, hce⟩ : ∃ ce, ce = compEnvC scope (cellsFrom (b.heap.objs.size + 1) scope.names (cloFrom X.env.cells scope.names [])) b.heap.objs.size X.env := ⟨_, rfl⟩
  rw [← hce] at I4 pg pe
  have cL : ce.locals = b.heap.objs.size := by rw [hce]; rfl
  obtain ⟨d, hd⟩ : ∃ d : Shared, d = { b with heap := pushCells (b.heap.push { cls := .type "dict", data := .dict #[] }) scope.names } := ⟨_, rfl⟩
  rw [← hd] at I4
  have t2 : tn 0 d.heap := T.keep _ _ _ t1 fun c _ o e => by
    rw [hd]
    exact pushCells_keeps _ _ _ _ (Heap.get?_push_of_some _ e)
  have rec_ : ∀ {σ' : L2.St} {H' : Hp} {s' : Shared}, Inv (X.blk b G scope ce fp) [] σ' H' s' → (∀ c ∈ fp, H' c = none) → ∀ c ∈ fp, FpOk (X.blk b G scope ce fp) [] H' c := fun {σ' H' s'} I' n c hc =>
    ⟨n c hc, (I'.ok.exf c hc).1, I'.ok.exfs c hc, .inl hc, fun x k e => (I'.ok.exf c hc).2 x k e, fun p hp => absurd (show p ∈ ([] : List (Addr × Obj)) ++ [] from hp) (by simp)⟩
  have loop : codeAny (model X.prog X.w) X.A (.compLoop (.ListComp elt [⟨tg, iter, [], 0⟩] scope pos) 0 (.ref it) (.ref D) ce) (compPost (model X.prog X.w) X.A X.xe none (EP X pins σ Q) (.ref D) b.heap.objs.size) d := by
    refine compLoop_any (fun n z => ∃ i K, Inv (X.blk b G scope ce fp) [] (wipe σ (own.map (·.2))) K z ∧ tn i z.heap ∧ (∀ c ∈ fp, K c = none) ∧ W i n K) ?_ m0 ⟨0, G, I4, t2, off1, w0⟩
    rintro n z ⟨i, K, IK, tK, nK, wK⟩
    rcases turn i n K wK with ⟨stop, fin⟩ | ⟨go, Nx, hNx, step⟩
    · refine thnF (T.done (X.blk b G scope ce fp) rfl rfl rfl calm i [] z _ K (fun _ _ => False) IK (rec_ IK nK) tK stop) fun r y ⟨hr, Iy⟩ => ?_
      subst hr
      have back : Inv X pins σ K y := I3.call' (ch := fp) Iy.os Iy.base Iy.hok Iy.bare fun c hc => ⟨(f1 c hc).1.2.2.2.1, (f1 c hc).1.2.1, (f1 c hc).1.2.2.2.2.1, (f1 c hc).1.2.2.2.2.2⟩
      have nL : K b.heap.objs.size = none := by
        have q : K ce.locals = none := Iy.free
        rw [cL] at q
        exact q
      obtain ⟨m, hn, _⟩ := Iy.loc
      have hn : y.heap.Ns ce.locals m := hn
      rw [cL] at hn
      refine ⟨m, hn, fun h'' sb => ?_⟩
      obtain ⟨_, g1, _, g3, g4, g5⟩ := I3.fpOk (H' := K) (Nat.le_refl _) nL
      exact ⟨.ref D, K, back.turned (t' := y.toks) (fun c o hc e => (sb.2 c hc).trans e) nL g1 g3 g4 g5, rfl, fin⟩
    · refine thnF (T.item (X.blk b G scope ce fp) rfl rfl rfl calm i [] z _ K (fun _ _ => False) IK (rec_ IK nK) tK go) fun r y ⟨u, hr, hy⟩ => ?_
      subst hr
      refine thnF hy fun _ y2 ⟨x, K2, I5, r5, yl, t5, n5⟩ => ?_
      refine thnF (pg.run _ y2 _ K2 x u _ (I5.pinned (rec_ I5 n5) (T.obj _ _ t5)) r5 (step x K2 yl)) fun _ y3 ⟨σ3, K3, I6, hw, q6⟩ => ?_
      refine wpAny_pure ?_
      simp only [if_true]
      have q6 : te σ σ3 K3 _ := q6
      refine thnF (pe.run _ y3 σ3 K3 _ I6 q6) fun v y4 ⟨yv, K4, I7, r7, acc, hDa, hz, nx⟩ => app_ok (X := X.blk b G scope ce fp) I7 hDa hz r7 fun y5 I8 => ?_
      obtain ⟨m', hm, w'⟩ := hNx _ nx
      have pin : ∀ c ∈ fp, ∀ o, y2.heap.get? c = some o → y5.heap.get? c = some o ∧ (upd K4 D (.lst (acc ++ [yv]))) c = none := fun c hc o e =>
        let q := I8.pin (c, o) (List.mem_append_right _ (List.mem_append_right _ (mem_pinsAt hc e)))
        ⟨q.1, q.2.1⟩
      refine ⟨m', hm, i + 1, _, (I8.unpinned (pins := [])).weak (by rw [← hw, wipe_length]) (fun j v e => ?_), T.keep _ _ _ t5 fun c hc o e => (pin c hc o e).1, fun c hc => ?_, w'⟩
      · rw [← hw] at e
        exact (wipe_some e).1
      · obtain ⟨o, e, _⟩ := T.obj _ _ t5 c hc
        exact (pin c hc o e).2
  have whole : codeAny (model X.prog X.w) X.A (.compStart (.ListComp elt [⟨tg, iter, [], 0⟩] scope pos) 0 (.ref it) (.ref D) ce) (compPost (model X.prog X.w) X.A X.xe none (EP X pins σ Q) (.ref D) b.heap.objs.size) d :=
    codeAny_compStart_list loop (T.self X.A 0 _ _ _ t2 loop)
  rw [hce, hd] at whole
  exact whole
end

/-! ### calls while the cells of a frame are held, also out of a block of its def -/
structure Hold (base : Heap) (fr : List Addr) (cs : List Addr) (H : Hp) (h : Heap) : Prop where
  off : ∀ c ∈ cs, H c = none
  cel : ∀ c ∈ cs, ∃ o, h.get? c = some o
  bas : ∀ c ∈ cs, base.objs.size ≤ c
  frm : ∀ c ∈ cs, c ∉ fr
section
variable {base : Heap} {fr cs : List Addr} {H : Hp} {h : Heap}
theorem Hold.celF (x : Hold base fr cs H h) : CellsF cs (heldH cs h H) := fun b hb => by
  obtain ⟨o, e⟩ := x.cel b hb
  exact ⟨o, by unfold heldH; rw [if_pos hb, e]; rfl⟩
theorem Hold.same (x : Hold base fr cs H h) : Same H (heldH cs h H) := fun b o e => by
  rw [heldH_ne fun z => ?_]
  · exact e
  · rw [x.off b z] at e
    cases e
end
section
variable {P : Program} {w : World} {K : PySem.W.Frag} {mg : Str → Option Value} {base : Heap} {A : Around} {outer : List Env} {s s' : Shared} {H : Hp} {cs : List Addr}
theorem env0_hold (e0 : Env0 P w K mg base A outer s H) (x : Hold base (frs outer) cs H s.heap) : Env0 P w K mg base A outer s (heldH cs s.heap H) := by
  refine ⟨e0.frames, e0.mod, fun b o q => ⟨(e0.bs b o q).1, ?_⟩, e0.bsz, e0.funs, fun b hb => ?_, fun b o e => ?_, e0.bare⟩
  · rw [heldH_ne fun z => ?_]
    · exact (e0.bs b o q).2
    · exact absurd (Nat.lt_of_lt_of_le (Heap.lt_size q) (x.bas b z)) (Nat.lt_irrefl _)
  · rw [heldH_ne fun z => x.frm b z hb]
    exact e0.frf b hb
  · by_cases hb : b ∈ cs
    · obtain ⟨ob, ho⟩ := x.cel b hb
      unfold heldH at e
      rw [if_pos hb, ho] at e
      cases e
      exact ⟨ho, trivial, ⟨ob, ho⟩, fun _ _ _ _ => trivial⟩
    · rw [heldH_ne hb] at e
      refine (e0.hok b o e).stay (fun _ _ _ q => q) (fun d q => x.same d _ q) fun d xs q => x.same d _ q
theorem ce_hold {Q : VK} {u : Value} (e0 : Env0 P w K mg base A outer s H) (x : Hold base (frs outer) cs H s.heap) (q : CE outer P w (heldH cs s.heap H) s (fun v G => CellsF cs G → Q v (freedH cs G)) u s') : CE outer P w H s Q u s' := by
  obtain ⟨v, G, os, bare, un, hok, r, qq⟩ := q
  have cf : CellsF cs G := fun b hb => by
    obtain ⟨o, e⟩ := x.celF b hb
    exact ⟨o, un.frzs b o _ e⟩
  have stands : ∀ b ∈ cs, ∀ o, s.heap.get? b = some o → s'.heap.get? b = some o := fun b z o e => by
    obtain ⟨ob, e2⟩ := x.celF b z
    have h1 := ((env0_hold e0 x).hok b _ e2).1
    rw [e] at h1
    cases h1
    exact (hok b _ (un.frzs b _ _ e2)).1
  refine ⟨v, freedH cs G, os, bare, ⟨fun b o e n hb hx => ?_, fun b o e n hb hx => ?_, fun b o e n hx => ?_, fun b o e hx => un.there b o e hx, fun b xs e => ?_, fun b o v e => ?_, fun b ps e => ?_⟩, hok_freed hok cf, r, qq cf⟩
  · by_cases z : b ∈ cs
    · exact stands b z o e
    · exact un.keep b o e (by rw [heldH_ne z]; exact n) hb hx
  · by_cases z : b ∈ cs
    · exact ⟨o.slots, stands b z o e⟩
    · exact un.slot b o e (by rw [heldH_ne z]; exact n) hb hx
  · by_cases z : b ∈ cs
    · exact freedH_in z
    · rw [freedH_ne z]
      exact un.free b o e (by rw [heldH_ne z]; exact n) hx
  · have z : b ∉ cs := fun z => by
      rw [x.off b z] at e
      cases e
    rw [freedH_ne z]
    exact un.tups b xs (by rw [heldH_ne z]; exact e)
  · have z : b ∉ cs := fun z => by
      rw [x.off b z] at e
      cases e
    rw [freedH_ne z]
    exact un.frzs b o v (by rw [heldH_ne z]; exact e)
  · have z : b ∉ cs := fun z => by
      rw [x.off b z] at e
      cases e
    obtain ⟨more, q⟩ := un.tbls b ps (by rw [heldH_ne z]; exact e)
    exact ⟨more, by rw [freedH_ne z]; exact q⟩
end
section
variable {X : Cx} {pins : List (Addr × Obj)} {σ : L2.St} {G : Hp} {b : Shared} {scope : Scope} {ce : Env} {fp : List Addr}
/-- in a block of X's def that began at b: X's cells stand there as they stood -/
theorem blk_cells {q : List (Addr × Obj)} {τ : L2.St} {H : Hp} {s : Shared} (I0 : Inv X pins σ G b) (hfn : ∀ x, X.fn x = true) (f0 : ∀ c ∈ fp, FpOk X pins G c) (I : Inv (X.blk b G scope ce fp) q τ H s) :
    HeldAt X σ H s.heap ∧ Hold X.base (frs X.stack) (csOf X.env.cells) H s.heap := by
  have fr : ∀ x c, X.env.cells.lookup x = some c → c ∉ frs X.stack := fun x c e z => by
    rcases List.mem_cons.mp (I0.stkSub c z) with k | k
    · exact I0.cne x c e k
    · obtain ⟨_, o, ho, _⟩ := I0.ok.funs.mem k
      exact absurd (Nat.lt_of_lt_of_le (Heap.lt_size ho) (I0.ok.cab x c (hfn x) e)) (Nat.lt_irrefl _)
  have nfp : ∀ x c, X.env.cells.lookup x = some c → c ∉ fp := fun x c e z => (f0 c z).2.2.2.2.1 x c e rfl
  have st : ∀ x c, X.env.cells.lookup x = some c → ∀ o, b.heap.get? c = some o → s.heap.get? c = some o := fun x c e o ho =>
    I.base.keep c o ho (I0.freeC x c e) (fr x c e) (nfp x c e)
  have off : ∀ x c, X.env.cells.lookup x = some c → H c = none := fun x c e => by
    obtain ⟨u, o, ho, _⟩ := I0.cell x c e
    exact I.base.free c o ho (I0.freeC x c e) (nfp x c e)
  have h0 := held_of I0
  refine ⟨⟨fun c hc => ?_, h0.inj, fun x c e => ?_, h0.has, h0.len⟩, ⟨fun c hc => ?_, fun c hc => ?_, fun c hc => ?_, fun c hc => ?_⟩⟩
  · obtain ⟨x, e⟩ := mem_csOf.mp hc
    exact off x c e
  · obtain ⟨o, u, h1, h2, h3⟩ := h0.at_ x c e
    exact ⟨o, u, st x c e o h1, h2, h3⟩
  · obtain ⟨x, e⟩ := mem_csOf.mp hc
    exact off x c e
  · obtain ⟨x, e⟩ := mem_csOf.mp hc
    obtain ⟨u, o, ho, _⟩ := I0.cell x c e
    exact ⟨o, st x c e o ho⟩
  · obtain ⟨x, e⟩ := mem_csOf.mp hc
    exact Nat.le_trans I0.ok.bsz (I0.ok.cab x c (hfn x) e)
  · obtain ⟨x, e⟩ := mem_csOf.mp hc
    exact fr x c e
def tCallB (X : Cx) (sp : Sp) (t : TA) (σ : L2.St) : TE := fun τ H Q => t τ H fun vs H1 => ∀ h : Heap, HeldAt X σ H1 h → sp vs (heldH (csOf X.env.cells) h H1) (HeldQ X Q) L2.E0
/-- x(e, ..) in a block, the cells of the def's frame held meanwhile -/
theorem pe_callBk (I0 : Inv X pins σ G b) (f0 : ∀ c ∈ fp, FpOk X pins G c) {k : Nat} {f : Addr} {fd : FuncData} {ps : List Str} {sp : Sp} {x : Str} {p pos : Pos} {e : Expr} {es : List Expr} {t : TA} (F : FnOk X.prog X.w X.K X.mg X.base L2.CX0 k f fd ps sp) (hr : Room k X.A) (hg : Gl (X.blk b G scope ce fp) x) (hm : X.mg x = some (.ref f)) (hk : PySem.W.keepIn X.K (.ref f) = true) (hb : Binds X.K fd ps [])
    (ha : PA (X.blk b G scope ce fp) (e :: es) t) (hfn : ∀ x, X.fn x = true := by intro _; rfl) (hdb : (x == ("__debug__" : Str)) = false := by decide) (he : starEach (e :: es) ce = (false, eval e ce) :: starEach es ce := by rfl) (hpl : (backTo pos (starEach es ce)).any (·.1) = false := by rfl) :
    PE (X.blk b G scope ce fp) (.Call (.Name x p) (e :: es) [] pos) (tCallB X sp t σ) := by
  refine ⟨fun pins' s τ H Q I h => ?_⟩
  refine wpAny_Call_Name_kw (ld_glob I hg hm ?_ hdb)
  refine PySem.W.callWith_K (h₀ := X.base) I.ok.mod.kin hk (thn (ha.run pos pins' s τ H _ I h) fun us s1 ⟨vs, H1, I1, r, q⟩ => ⟨I1.kIn, ?_⟩) he hpl
  obtain ⟨hh, hd⟩ := blk_cells I0 hfn f0 I1
  have q := q s1.heap hh
  have e0 : Env0 X.prog X.w X.K X.mg X.base X.A X.stack s1 H1 := I1.env0
  have hl : us.length = ps.length := by
    rw [← r.length]
    exact F.len _ _ _ _ q
  have hl : (us ++ []).length = ps.length := by rw [List.append_nil]; exact hl
  have r2 : Vals vs (us ++ []) := by rw [List.append_nil]; exact r
  refine wpAny_call (codeAny_mono (F.run X.A X.stack s1 _ ⟨us, []⟩ (us ++ []) vs _ _ hr (env0_hold e0 hd) (hb s1 us I1.kIn hl) r2 q) fun r s' hq => ?_)
  cases r with
  | error e => exact False.elim hq
  | ok fl =>
    cases fl with
    | ret u => exact I1.after (ce_hold e0 hd hq)
    | next => exact False.elim hq
    | brk => exact False.elim hq
    | cont => exact False.elim hq
end

/-! ### tuple(d): the keys of a dict -/
section
variable {prog : Program} {w : World} {A : Around} {E : Value → Shared → Prop} {s : Shared} {T : String} {r d : Addr} {n : Nat} {Pk : Nat → Value → Prop} {OK : Heap → Prop}
theorem code_tuple_new_src {Q₁ : Value → Shared → Prop} (hT : T = "dict") (K : PySem.W.KdlSrc prog w T r d n Pk OK) (hh : A.handled = none) (hok : OK s.heap) (hn : n ≤ sizeLine)
    (h : ∀ (h' : Heap) (tk : Nat) (acc : Array Value), (∀ b o, s.heap.get? b = some o → h'.get? b = some o) → ItemsOf Pk acc n →
      Q₁ (.ref h'.objs.size) { s with heap := h'.push { cls := .type "tuple", data := .seq acc }, toks := tk }) :
    codeAny (model prog w) A (.call (.builtin "tuple.__new__") ⟨[.type "tuple", .ref r], []⟩) (wants Q₁ E) s := by
  refine codeAny_of_tree ?_
  show wpAny _ A.in1 (do checkBuiltinCall "tuple.__new__" ⟨[.type "tuple", .ref r], []⟩; again (.builtin "tuple.__new__" ⟨[.type "tuple", .ref r], []⟩)) _ _ s
  refine wpAny_bind (wpAny_of_eq (F.newCall_tuple_1 _) (wpAny_pure ⟨plainId_quiet F.plain_tuple_new _, codeAny_builtin F.entry_tuple_new ?_⟩))
  rw [Around.under_plainId F.plain_tuple_new _]
  have hsub := sub_tuple_self
  have hinit := init_tuple_lookup
  have hmh := madeHere_tuple
  obtain ⟨o, ho, hc⟩ := K.type _ hok
  have hTI : s.TypeIs (.ref r) T := ⟨o, ho, hc⟩
  subst hT
  have hh1 : A.in1.handled = none := hh
  wp_walk using wpAny_typeOf hTI, PySem.W.kdu_collect (A := A.in1) K hh1 hok hn
  intro h' tk acc hk hacc
  show wpAny _ _ (Builtin.Tuple.tupleExact acc.toList.toArray >>= fun v => ret v) _ _ _
  unfold Builtin.Tuple.tupleExact
  refine wpAny_bind (wpAny_newObj_type ?_ (by show acc.toList.toArray.size ≤ sizeLine; simp only [Array.toArray_toList]; rw [hacc.1]; exact hn))
  refine wpAny_pure ?_
  have e : acc.toList.toArray = acc := by simp
  rw [e]
  exact h h' tk acc hk hacc
theorem call_tuple_src {Q : Value → Shared → Prop} (hT : T = "dict") (K : PySem.W.KdlSrc prog w T r d n Pk OK) (hh : A.handled = none) (hok : OK s.heap) (hn : n ≤ sizeLine)
    (hQ : ∀ (h' : Heap) (tk : Nat) (acc : Array Value), (∀ b o, s.heap.get? b = some o → h'.get? b = some o) → ItemsOf Pk acc n →
      Q (.ref h'.objs.size) { s with heap := h'.push { cls := .type "tuple", data := .seq acc }, toks := tk }) :
    wpAny (model prog w) A (call (.type "tuple") [.ref r]) Q E s := by
  refine callType_codes (Q₁ := fun obj s₁ => s₁.TypeIs obj "tuple" ∧ Q obj s₁) F.called_tuple (F.typeCall_tuple_1 _) F.entry_object_init
    (code_tuple_new_src (A := A.in1) hT K hh hok hn fun h' tk acc hk hacc => ⟨⟨_, Heap.get?_push_size _ rfl, rfl⟩, hQ h' tk acc hk hacc⟩) fun obj s₁ h₁ => ?_
  exact ⟨h₁.1, F.args_object_init_2 obj _, object_init_meets F.called_tuple.init.lookup F.called_tuple.made (by decide) prog w A.in1 _ s₁ ⟨h₁.1, rfl, h₁.2⟩⟩
end
def rTupD : List V → Hp → VK → Prop := fun xs H Q => ∃ p kvs, xs = [.ref p] ∧ H p = some (.dK kvs) ∧ ∀ q, H q = none → Q (.ref q) (upd H q (.tup (kvs.map fun kv => kV kv.1)))
theorem call_tuple_dK {X : Cx} (hc : X.calm = true) : CallR X (.type "tuple") rTupD := by
  intro pins s σ H xs us Q I r h
  obtain ⟨p, kvs, e, hk, q⟩ := h
  subst e
  obtain ⟨u, eu, rx⟩ := vals1 r
  subst eu
  obtain rfl : u = Value.ref p := rx
  obtain ⟨z, lo, vs, rk, hd⟩ := (show ObjOk X.prog X.w H s.heap p (.dK kvs) from I.hok p _ hk)
  obtain ⟨ep, hat⟩ := hd.dictAt
  have hl : kvs.length = vs.length := Paired.length rk
  refine call_tuple_src rfl (PySem.W.kdl_dict (knd := mixKind X.prog X.w) (kvs := vs) (ep := ep) lo) (I.ok.hd hc) hat (by rw [← hl]; exact z) fun h' tk acc' hkeep hacc => ?_
  have I2 : Inv X pins σ H { s with heap := h', toks := tk } := I.kept hkeep
  refine ⟨.ref h'.objs.size, upd H h'.objs.size (.tup (kvs.map fun kv => kV kv.1)), I2.laid (t' := tk) (fun c o e => Heap.get?_push_of_some _ e) (Nat.le_refl _) (show ObjOk X.prog X.w _ _ _ (.tup (kvs.map fun kv => kV kv.1)) from ⟨?_, acc'.toList, ?_, ?_⟩), rfl, q _ (I2.hok.fresh (Nat.le_refl _))⟩
  · rw [List.length_map]; exact z
  · have el : acc'.toList.length = acc'.size := by simp
    refine vals_of_at (by rw [List.length_map, el, hacc.1, hl]) fun j x w h1 h2 => ?_
    obtain ⟨k, y, hky, hi⟩ := hacc.2 j w (by rw [← Array.getElem?_toList]; exact h2)
    have e1 : (kvs.map (·.1))[j]? = some k := by
      rw [KV.keys rk, List.getElem?_map, hky] <;> rfl
    have e2 : (kvs.map fun kv => kV kv.1)[j]? = some (kV k) := by
      have e3 : (kvs.map fun kv => kV kv.1) = (kvs.map (·.1)).map kV := by rw [List.map_map] <;> rfl
      rw [e3, List.getElem?_map, e1] <;> rfl
    rw [e2] at h1
    cases h1
    exact keyIs_rel hi
  · rw [Array.toArray_toList]; exact IsTup.new _ _
/-- k in d -/
theorem op_inDk {X : Cx} (hu : X.A.units + 1 < cLine) : OpR X (compareOp .In) (fun x y H Q => ∃ (a : Addr) (o : Option V), y = .ref a ∧ DGet H a x o ∧ Q (.bl o.isSome) H) := by
  intro pins s σ H x y v u Q I rx ry h
  obtain ⟨a, o, rfl, g, q⟩ := h
  obtain rfl : u = Value.ref a := ry
  exact d_in hu I g rx fun s' I' => ⟨.bl _, H, I', rfl, q⟩

section
variable {P : Program} {w : World} {K : PySem.W.Frag} {mg : Str → Option Value} {base : Heap} {a : Ad}
def toStr (i : Int) : Str := Str.ofString (toString i)
def nsA (f : Str) (i : Nat) : Str := Str.append f (toStr ((1 : Int) + (i : Nat)))
def nums : List Str := (List.range 9).map (fun i => toStr ((1 : Int) + (i : Nat))) ++ (List.range 9).map (nsA "-")
def places : List Str := ([Str.ofString "0", Str.ofString "half"] ++ nums) ++ (List.range 9).map (nsA "half+") ++ (List.range 9).map (nsA "half-")
theorem places_wt : ∀ z ∈ places, z ∈ wt := by decide +kernel
theorem ok__law_numbers (T : Tx w K mg a) : FnOk P w K mg base CX0 1 a.f__law_numbers a.d__law_numbers [] (fun vs H Q _ => vs = [] ∧ ∀ o H', H o = none → H' o = some (.lst (nums.map V.str)) → Same H H' → Q (.ref o) H') := by
  refine T.F__law_numbers.ok sc__law_numbers (fun vs H Q E h => ?_) (fun cdv A outer s H vs Q E hr h => ?_)
  · obtain ⟨rfl, _⟩ := h
    rfl
  · obtain ⟨rfl, q⟩ := h
    refine ⟨_, 
(pss_one (ps_ret (pe_op op_cat (pe_lc (own := [("k", 0)]) (g := gName 0) rfl sc__law_numbers.nd (pi_range2 (by rfl) T.z_range (pa_cons pe_int (pa_cons pe_int pa_nil))) (blkOk_by (own := [("k", 0)]) (N := ["k"]) (sc := defScope s__law_numbers) (by decide +kernel)) (fun _ _ _ _ _ => pg_name (i := 0) sc__law_numbers.nd rfl (Or.inl rfl)) (fun _ _ _ _ _ => pts_nil) (fun _ _ _ _ _ => (pe_callTy call_str_int (by rfl) T.z_str (by decide +kernel) (pa_cons (pv 0) pa_nil)))) (pe_lc (own := [("k", 0)]) (g := gName 0) rfl sc__law_numbers.nd (pi_range2 (by rfl) T.z_range (pa_cons pe_int (pa_cons pe_int pa_nil))) (blkOk_by (own := [("k", 0)]) (N := ["k"]) (sc := defScope s__law_numbers) (by decide +kernel)) (fun _ _ _ _ _ => pg_name (i := 0) sc__law_numbers.nd rfl (Or.inl rfl)) (fun _ _ _ _ _ => pts_nil) (fun _ _ _ _ _ => (pe_op op_add_str pe_str (pe_callTy call_str_int (by rfl) T.z_str (by decide +kernel) (pa_cons (pv 0) pa_nil)))))))), ?_⟩
    refine ⟨1, 10, rfl, ⟨by decide, by decide, by decide, by decide⟩, fun o1 no1 => ?_⟩
    refine lc_range (lo := 1) (n := 9) (fun l H' => Same H H' ∧ H' o1 = some (.lst (((List.range l).map (fun i => toStr ((1 : Int) + (i : Nat)))).map V.str))) ?c0 ?cs ?cd
    case c0 => exact ⟨same_upd no1, upd_same⟩
    case cs =>
      rintro l H' hl ⟨sm, e⟩
      refine ⟨rfl, _, rfl, _, rfl, lg _ (by omega) (by omega), _, e, ?_, keep_upd sm no1, ?_⟩
      · rw [List.length_map, List.length_map, List.length_range]
        exact szlt (by omega)
      · rw [upd_same, List.range_succ, List.map_append, List.map_append]
        rfl
    rintro H1 ⟨s1, e1⟩
    refine ⟨1, 10, rfl, ⟨by decide, by decide, by decide, by decide⟩, fun o2 no2 => ?_⟩
    refine lc_range (lo := 1) (n := 9) (fun l H' => Same H1 H' ∧ H' o2 = some (.lst (((List.range l).map (nsA "-")).map V.str))) ?d0 ?ds ?dd
    case d0 => exact ⟨same_upd no2, upd_same⟩
    case ds =>
      rintro l H' hl ⟨sm, e⟩
      refine ⟨rfl, _, rfl, _, rfl, lg _ (by omega) (by omega), _, _, rfl, rfl, sz (ln _ _ (by decide) (by omega) (by omega)), _, e, ?_, keep_upd sm no2, ?_⟩
      · rw [List.length_map, List.length_map, List.length_range]
        exact szlt (by omega)
      · rw [upd_same, List.range_succ, List.map_append, List.map_append]
        rfl
    rintro H2 ⟨s2, e2⟩
    refine ⟨o1, o2, _, _, rfl, rfl, s2 _ _ e1, e2, sz (show 18 ≤ 100000 by decide), fun o no => ?_⟩
    refine q o _ (s1.free (s2.free no)) ?_ ((s1.trans s2).trans (same_upd no))
    rw [upd_same, ← List.map_append]
    rfl
theorem ok__law_places (T : Tx w K mg a) : FnOk P w K mg base CX0 2 a.f__law_places a.d__law_places [] (fun vs H Q _ => vs = [] ∧ ∀ o H', H o = none → H' o = some (.lst (places.map V.str)) → Same H H' → Q (.ref o) H') := by
  refine T.F__law_places.ok sc__law_places (fun vs H Q E h => ?_) (fun cdv A outer s H vs Q E hr h => ?_)
  · obtain ⟨rfl, _⟩ := h
    rfl
  · obtain ⟨rfl, q⟩ := h
    refine ⟨_, 
(pss_cons (ps_set (i := 0) sc__law_places.nd rfl (.inl rfl) (pe_op op_cat (pe_lst (pa_cons pe_str (pa_cons pe_str pa_nil))) (pe_call0 (ok__law_numbers T) hr (by rfl) T.m__law_numbers T.F__law_numbers.kp T.b__law_numbers .nil pass0)))
  (pss_one (ps_ret (pe_op op_cat (pe_op op_cat (pv 0) (pe_lc (own := [("k", 1)]) (g := gName 1) rfl sc__law_places.nd (pi_range2 (by rfl) T.z_range (pa_cons pe_int (pa_cons pe_int pa_nil))) (blkOk_by (own := [("k", 1)]) (N := ["found", "k"]) (sc := defScope s__law_places) (by decide +kernel)) (fun _ _ _ _ _ => pg_name (i := 1) sc__law_places.nd rfl (Or.inl rfl)) (fun _ _ _ _ _ => pts_nil) (fun _ _ _ _ _ => (pe_op op_add_str pe_str (pe_callTy call_str_int (by rfl) T.z_str (by decide +kernel) (pa_cons (pv 1) pa_nil)))))) (pe_lc (own := [("k", 1)]) (g := gName 1) rfl sc__law_places.nd (pi_range2 (by rfl) T.z_range (pa_cons pe_int (pa_cons pe_int pa_nil))) (blkOk_by (own := [("k", 1)]) (N := ["found", "k"]) (sc := defScope s__law_places) (by decide +kernel)) (fun _ _ _ _ _ => pg_name (i := 1) sc__law_places.nd rfl (Or.inl rfl)) (fun _ _ _ _ _ => pts_nil) (fun _ _ _ _ _ => (pe_op op_add_str pe_str (pe_callTy call_str_int (by rfl) T.z_str (by decide +kernel) (pa_cons (pv 1) pa_nil))))))))), ?_⟩
    refine ⟨sz (show 2 ≤ 100000 by decide), fun p0 np0 => ?_⟩
    have t0 := same_upd (o := .lst [V.str "0", V.str "half"]) np0
    have q0 : (upd H p0 (.lst [V.str "0", V.str "half"])) p0 = some (.lst [V.str "0", V.str "half"]) := upd_same
    generalize upd H p0 (.lst [V.str "0", V.str "half"]) = H0 at t0 q0 ⊢
    refine ⟨rfl, fun o1 H1 no1 e1 s1 => ?_⟩
    refine ⟨p0, o1, _, _, rfl, rfl, s1 _ _ q0, e1, sz (show 20 ≤ 100000 by decide), fun o2 no2 => ?_⟩
    have s2 := same_upd (o := .lst ([V.str "0", V.str "half"] ++ nums.map V.str)) no2
    have e2 : (upd H1 o2 (.lst ([V.str "0", V.str "half"] ++ nums.map V.str))) o2 = some (.lst ([V.str "0", V.str "half"] ++ nums.map V.str)) := upd_same
    generalize upd H1 o2 (.lst ([V.str "0", V.str "half"] ++ nums.map V.str)) = H2 at s2 e2 ⊢
    refine ⟨.ref o2, rfl, 1, 10, rfl, ⟨by decide, by decide, by decide, by decide⟩, fun o3 no3 => ?_⟩
    refine lc_range (lo := 1) (n := 9) (fun l H' => Same H2 H' ∧ H' o3 = some (.lst (((List.range l).map (nsA "half+")).map V.str))) ?c0 ?cs ?cd
    case c0 => exact ⟨same_upd no3, upd_same⟩
    case cs =>
      rintro l H' hl ⟨sm, e⟩
      refine ⟨rfl, _, rfl, _, rfl, lg _ (by omega) (by omega), _, _, rfl, rfl, sz (ln _ _ (by decide) (by omega) (by omega)), _, e, ?_, keep_upd sm no3, ?_⟩
      · rw [List.length_map, List.length_map, List.length_range]
        exact szlt (by omega)
      · rw [upd_same, List.range_succ, List.map_append, List.map_append]
        rfl
    rintro H3 ⟨s3, e3⟩
    refine ⟨o2, o3, _, _, rfl, rfl, s3 _ _ e2, e3, sz (show 29 ≤ 100000 by decide), fun o4 no4 => ?_⟩
    generalize eV : [V.str "0", V.str "half"] ++ nums.map V.str ++ ((List.range 9).map (nsA "half+")).map V.str = vs4
    have s4 := same_upd (o := .lst vs4) no4
    have e4 : (upd H3 o4 (.lst vs4)) o4 = some (.lst vs4) := upd_same
    generalize upd H3 o4 (.lst vs4) = H4 at s4 e4 ⊢
    refine ⟨1, 10, rfl, ⟨by decide, by decide, by decide, by decide⟩, fun o5 no5 => ?_⟩
    refine lc_range (lo := 1) (n := 9) (fun l H' => Same H4 H' ∧ H' o5 = some (.lst (((List.range l).map (nsA "half-")).map V.str))) ?d0 ?ds ?dd
    case d0 => exact ⟨same_upd no5, upd_same⟩
    case ds =>
      rintro l H' hl ⟨sm, e⟩
      refine ⟨rfl, _, rfl, _, rfl, lg _ (by omega) (by omega), _, _, rfl, rfl, sz (ln _ _ (by decide) (by omega) (by omega)), _, e, ?_, keep_upd sm no5, ?_⟩
      · rw [List.length_map, List.length_map, List.length_range]
        exact szlt (by omega)
      · rw [upd_same, List.range_succ, List.map_append, List.map_append]
        rfl
    rintro H5 ⟨s5, e5⟩
    refine ⟨o4, o5, _, _, rfl, rfl, s5 _ _ e4, e5, ?_, fun o no => ?_⟩
    · rw [← eV]
      exact sz (show 38 ≤ 100000 by decide)
    have sA := t0.trans (s1.trans (s2.trans (s3.trans (s4.trans s5))))
    refine q o _ (sA.free no) ?_ (sA.trans (same_upd no))
    rw [upd_same, ← eV]
    rfl
end

/-! ### the parts that a text may have -/
def FSx : List Str := ([ "exchange", "roll", "turn", "then", "same", "along", "list", "to", "the", "end", "", "10", "-0", "00", "+1", "half+0", "half-10", "Turn", "-10", "11", "wrong"] : List String).map Str.ofString
def FS : List Str := wt ++ (am ++ FSx)
def nmH : List Str := nums ++ [Str.ofString "half"]
def wantsOf (k : Str) : List Str := if k = "place" then places else nmH
def chkF (z : Str) : Bool := decide (inV (.str z) (places.map V.str) = ipM z) && (decide (inV (.str z) (nmH.map V.str) = iaM z) && (decide (z.length ≤ 100) && (PyData.strOk z && decide (32 ∉ z.cps.toList))))
theorem FS_all : FS.all chkF = true := by decide +kernel
theorem FS_chk {z : Str} (h : z ∈ FS) : inV (.str z) (places.map V.str) = ipM z ∧ inV (.str z) (nmH.map V.str) = iaM z ∧ z.length ≤ 100 ∧ PyData.strOk z = true ∧ 32 ∉ z.cps.toList := by
  have e := List.all_eq_true.mp FS_all z h
  unfold chkF at e
  simp only [Bool.and_eq_true, decide_eq_true_eq] at e
  exact ⟨e.1, e.2.1, e.2.2.1, e.2.2.2.1, e.2.2.2.2⟩
theorem FS_want {z : Str} (h : z ∈ FS) (k : Str) : inV (.str z) ((wantsOf k).map V.str) = ptM z k := by
  obtain ⟨h1, h2, _⟩ := FS_chk h
  unfold wantsOf ptM
  by_cases hk : k = "place"
  · rw [if_pos hk, if_pos hk]
    exact h1
  · rw [if_neg hk, if_neg hk]
    exact h2
theorem FS_ok {ps : List Str} (h : ∀ z ∈ ps, z ∈ FS) (hl : ps.length ≤ 500) : PartsOk ps := ⟨hl, fun z hz => ⟨(FS_chk (h z hz)).2.2.1, (FS_chk (h z hz)).2.2.2.1⟩⟩
/-- lists of what may stand there, at their addresses -/
def HeldW (H : Hp) : List Addr → List Str → Prop
  | [], [] => True
  | w :: ws, k :: ks => H w = some (.lst ((wantsOf k).map V.str)) ∧ HeldW H ws ks
  | _, _ => False
theorem HeldW.same {H H' : Hp} (e : Same H H') : ∀ {ws : List Addr} {ks : List Str}, HeldW H ws ks → HeldW H' ws ks
  | [], [], _ => trivial
  | _ :: _, _ :: _, h => ⟨e _ _ h.1, HeldW.same e h.2⟩
theorem HeldW.get {H : Hp} : ∀ {ws : List Addr} {ks : List Str}, HeldW H ws ks → ∀ {j : Nat} {k : Str}, ks[j]? = some k → ∃ w, ws[j]? = some w ∧ H w = some (.lst ((wantsOf k).map V.str))
  | [], [], _, j, k, h => by simp at h
  | w :: ws, n :: ks, hh, 0, k, h => by
    cases h
    exact ⟨w, rfl, hh.1⟩
  | w :: ws, n :: ks, hh, j + 1, k, h => by
    obtain ⟨x, hx, hy⟩ := HeldW.get hh.2 (j := j) (k := k) (by simpa using h)
    exact ⟨x, by simpa using hx, hy⟩
theorem HeldW.len {H : Hp} : ∀ {ws : List Addr} {ks : List Str}, HeldW H ws ks → ws.length = ks.length
  | [], [], _ => rfl
  | _ :: _, _ :: _, h => congrArg (· + 1) h.2.len
theorem flat_strs (zs : List Str) : (zs.map V.str).all flatV = true := strs_flat zs
section
variable {P : Program} {w : World} {K : PySem.W.Frag} {mg : Str → Option Value} {base : Heap} {a : Ad}
def spMoveEnd (K : PySem.W.Frag) : Sp := fun vs H Q _ => ∃ (p : Addr) (ps : List Str) (i : Nat) (tu : Bool), vs = [.ref p, .int (i : Int), .bl tu] ∧ H p = some (.lst (ps.map V.str)) ∧ i ≤ ps.length ∧ ps.length ≤ 500 ∧ (∀ z ∈ ps, z ∈ FS) ∧
  (∀ j, mvE ((ps ++ [sNoP]).drop i) (!tu) = .inl j → ∀ o H', H o = none → H' o = some (.tup [.int ((i + j : Nat) : Int)]) → Same H H' → Q (.ref o) H') ∧
  (∀ m, mvE ((ps ++ [sNoP]).drop i) (!tu) = .inr m → ∀ H', Same H H' → Q (.int ((i + m.length : Nat) : Int)) H')
theorem ok__law_move_end (T : Tx w K mg a) : FnOk P w K mg base CX0 3 a.f__law_move_end a.d__law_move_end ["parts", "at", "turned"] (spMoveEnd K) := by
  refine T.F__law_move_end.ok sc__law_move_end (fun vs H Q E h => ?_) (fun cdv A outer s H vs Q E hr h => ?_)
  · obtain ⟨p, ps, i, tu, rfl, _⟩ := h
    rfl
  · obtain ⟨p, ps, i, tu, rfl, hp, hi, hl, hF, qN, qY⟩ := h
    refine ⟨_, 
(pss_cons (ps_if (pt_cmpR op_ge (pv 1) (pe_callB call_len_seq (by rfl) T.z_len PySem.boot_len (pa_cons (pv 0) pa_nil)) (nomark _))
  (pss_one (ps_ret (pe_tup (pa_cons (pe_callB call_len_seq (by rfl) T.z_len PySem.boot_len (pa_cons (pv 0) pa_nil)) pa_nil))))
  pss_nil)
  (C8.pss_cut (ps_if (PW.pt (pw_and (pt_cmpR op_eq (pe_ix ix_list (pv 0) (pv 1) (fun _ _ => rfl)) pe_str (nomark _)) (pw_and1 (pt_not (pt_val (pv 2))))))
  (pss_one (ps_ret (pe_op op_add (pv 1) pe_int)))
  pss_nil)
  (pss_cons (ps_if (pt_cmpR op_notIn_seq (pe_ix ix_list (pv 0) (pv 1) (fun _ _ => rfl)) (pe_tup (pa_cons pe_str (pa_cons pe_str pa_nil))) (by rfl))
  (pss_one (ps_ret (pe_tup (pa_cons (pv 1) pa_nil))))
  pss_nil)
  (pss_cons (ps_set (i := 3) sc__law_move_end.nd rfl (.inl rfl) (pe_lst (pa_cons (pe_call0 (ok__law_places T) hr (by rfl) T.m__law_places T.F__law_places.kp T.b__law_places .nil pass0) (pa_cons (pe_call0 (ok__law_places T) hr (by rfl) T.m__law_places T.F__law_places.kp T.b__law_places .nil pass0) (pa_cons (pe_op op_cat (pe_call0 (ok__law_numbers T) (hr.mono (by decide)) (by rfl) T.m__law_numbers T.F__law_numbers.kp T.b__law_numbers .nil pass0) (pe_lst (pa_cons pe_str pa_nil))) pa_nil)))))
  (C8.pss_cut (ps_if (pt_cmpR op_eq (pe_ix ix_list (pv 0) (pv 1) (fun _ _ => rfl)) pe_str (nomark _))
  (pss_one (ps_expr (pe_bm0 PySem.F.plainAttrs_list PySem.F.slot_list_pop PySem.F.type_list_pop mt_pop (pv 3))))
  pss_nil)
  (pss_cons (ps_for PassesOwn.never rfl (pi_range1 (by rfl) T.z_range (pa_cons (pe_callB call_len_seq (by rfl) T.z_len PySem.boot_len (pa_cons (pv 3) pa_nil)) pa_nil)) (pg_name (i := 4) sc__law_move_end.nd rfl (.inl rfl))
  (pss_cons (ps_if (pt_cmpR op_ge (pe_op op_add (pe_op op_add (pv 1) pe_int) (pv 4)) (pe_callB call_len_seq (by rfl) T.z_len PySem.boot_len (pa_cons (pv 0) pa_nil)) (nomark _))
  (pss_one (ps_ret (pe_tup (pa_cons (pe_callB call_len_seq (by rfl) T.z_len PySem.boot_len (pa_cons (pv 0) pa_nil)) pa_nil))))
  pss_nil)
  (pss_one (ps_if (pt_cmpR op_notIn_seq (pe_ix ix_list (pv 0) (pe_op op_add (pe_op op_add (pv 1) pe_int) (pv 4)) (fun _ _ => rfl)) (pe_ix ix_list (pv 3) (pv 4) (fun _ _ => rfl)) (by rfl))
  (pss_one (ps_ret (pe_tup (pa_cons (pe_op op_add (pe_op op_add (pv 1) pe_int) (pv 4)) pa_nil))))
  pss_nil))))
  (pss_one (ps_ret (pe_op op_add (pe_op op_add (pv 1) pe_int) (pe_callB call_len_seq (by rfl) T.z_len PySem.boot_len (pa_cons (pv 3) pa_nil))))))))))), ?_⟩
    have hil : i < (ps ++ [sNoP]).length := by rw [List.length_append]; exact Nat.lt_succ_of_le hi
    have hpl : (ps.map V.str).length = ps.length := List.length_map ..
    -- if at >= len(parts)
    refine ⟨_, rfl, _, rfl, p, _, rfl, .inl (SqL.at hp), _, _, rfl, rfl, _, rfl, ?_⟩
    rw [hpl]
    rcases Nat.lt_or_ge i ps.length with hlt | hge
    rotate_left
    · have e : i = ps.length := by omega
      rw [decide_eq_true (show (ps.length : Int) ≤ (i : Int) by omega)]
      have em : mvE ((ps ++ [sNoP]).drop i) (!tu) = .inl 0 := by
        rw [e, List.drop_left, mvE_cons, shp_no]
      refine ⟨_, rfl, p, _, rfl, .inl (SqL.at hp), sz (show 1 ≤ 100000 by decide), fun o no => qN 0 em o _ no ?_ (same_upd no)⟩
      rw [upd_same, hpl, Nat.add_zero, e]
    rw [decide_eq_false (show ¬ (ps.length : Int) ≤ (i : Int) by omega)]
    have g0 : ps[i]? = some ps[i] := List.getElem?_eq_getElem hlt
    have hd : (ps ++ [sNoP]).drop i = ps[i] :: (ps ++ [sNoP]).drop (i + 1) := by
      rw [List.drop_eq_getElem_cons hil, List.getElem_append_left hlt]
    have hF0 := hF _ (List.getElem_mem hlt)
    rw [hd, mvE_cons] at qN qY
    generalize ps[i] = h at g0 hd hF0 qN qY
    have hat : atI (ps.map V.str) (i : Int) = some (.str h) := atI_nat (by rw [List.getElem?_map, g0]; rfl)
    -- if parts[at] == 'turn' and (not turned)
    refine ⟨fun σ' H' => σ' = [some (.ref p), some (.int i), some (.bl tu), none, none] ∧ H' = H ∧ ¬ (h = "turn" ∧ tu = false), ?_, ?_⟩
    · refine ⟨_, rfl, _, rfl, p, _, (i : Int), _, rfl, rfl, SqL.at hp, hat, rfl, _, rfl, ?_⟩
      by_cases ht : h = "turn" ∧ tu = false
      · obtain ⟨h1, h2⟩ := ht
        subst h2
        rw [decide_eq_true (show V.str h = V.str "turn" by rw [h1])]
        refine iteT ⟨_, rfl, _, rfl, ?_⟩
        have es : shp h = some [] := by rw [h1]; decide +kernel
        have ec : ∀ l, chkP l [] = none := fun l => by unfold chkP; rfl
        rw [es] at qY
        refine ⟨_, rfl, _, 1, rfl, rfl, ?_⟩
        have := qY [h] ?_ H (Same.refl H)
        · exact this
        · simp [ec]
      · by_cases h1 : h = "turn"
        · have h2 : tu = true := by
            cases tu with
            | true => rfl
            | false => exact absurd ⟨h1, rfl⟩ ht
          subst h2
          rw [decide_eq_true (show V.str h = V.str "turn" by rw [h1])]
          exact iteT ⟨_, rfl, _, rfl, rfl, rfl, ht⟩
        · rw [decide_eq_false (show ¬ V.str h = V.str "turn" from fun e => h1 (V.str.inj e))]
          exact iteF ⟨rfl, rfl, ht⟩
    rintro σ' H' ⟨rfl, rfl, ht⟩
    -- if parts[at] not in ('exchange', 'roll')
    refine ⟨_, rfl, _, rfl, p, _, (i : Int), _, rfl, rfl, SqL.at hp, hat, sz (show 2 ≤ 100000 by decide), fun t nt => ⟨t, _, rfl, .inr (SqT.at upd_same), rfl, rfl, _, rfl, ?_⟩⟩
    have in2 : inV (.str h) [V.str "exchange", V.str "roll"] = decide (h = "exchange" ∨ h = "roll") := by
      have e1 : inV (.str h) [V.str "exchange", V.str "roll"] = (decide (("exchange" : Str) = h) || (decide (("roll" : Str) = h) || false)) := rfl
      rw [e1]
      by_cases a1 : h = "exchange"
      · subst a1
        simp
      · by_cases a2 : h = "roll"
        · subst a2
          simp
        · have b1 : ¬ (("exchange" : Str) = h) := fun z => a1 z.symm
          have b2 : ¬ (("roll" : Str) = h) := fun z => a2 z.symm
          simp [a1, a2, b1, b2]
    rw [in2]
    have s1 := same_upd (o := .tup [V.str "exchange", V.str "roll"]) nt
    have hp1 := s1 _ _ hp
    generalize upd H' t (.tup [V.str "exchange", V.str "roll"]) = H1 at s1 hp1 ⊢
    by_cases hx : h = "exchange" ∨ h = "roll"
    rotate_left
    · rw [decide_eq_false hx]
      have em : ∀ may, may = !tu → (match shp h with
        | none => (Sum.inl 0 : Nat ⊕ List Str)
        | some ks => if decide (h = "turn") && !may then .inl 0 else match chkP ((ps ++ [sNoP]).drop (i + 1)) ks with
          | some j => .inl (j + 1)
          | none => .inr (h :: ((ps ++ [sNoP]).drop (i + 1)).take ks.length)) = .inl 0 := fun may hmay => by
        by_cases h1 : h = "turn"
        · have h2 : tu = true := by
            cases tu with
            | true => rfl
            | false => exact absurd ⟨h1, rfl⟩ ht
          subst h1 h2 hmay
          rfl
        · have : shp h = none := by
            unfold shp
            rw [if_neg (fun z => hx (.inl z)), if_neg (fun z => hx (.inr z)), if_neg h1]
          rw [this]
      refine iteT ⟨_, rfl, sz (show 1 ≤ 100000 by decide), fun o no => qN 0 (em _ rfl) o _ (s1.free no) ?_ (s1.trans (same_upd no))⟩
      rw [upd_same, Nat.add_zero]
    rw [decide_eq_true hx]
    refine iteF ?_
    have hnt : (decide (h = "turn") && !(!tu)) = false := by
      have : ¬ h = "turn" := by
        intro z
        subst z
        rcases hx with q | q <;> exact absurd q (by decide +kernel)
      simp [this]
    -- wants = [..]
    refine ⟨rfl, fun o1 H2 no1 e1 s2 => ⟨rfl, fun o2 H3 no2 e2 s3 => ⟨rfl, fun o3 H4 no3 e3 s4 => ⟨sz (show 1 ≤ 100000 by decide), fun o4 no4 => ?_⟩⟩⟩⟩
    have u4 := same_upd (o := .lst [V.str "half"]) no4
    refine ⟨o3, o4, _, _, rfl, rfl, u4 _ _ e3, upd_same, sz (by rw [List.length_map]; decide), fun o5 no5 => ⟨sz (show 3 ≤ 100000 by decide), fun wv nwv => ?_⟩⟩
    have e5 : (upd (upd H4 o4 (.lst [V.str "half"])) o5 (.lst (nums.map V.str ++ [V.str "half"]))) o5 = some (.lst (nmH.map V.str)) := by
      rw [upd_same]
      unfold nmH
      rw [List.map_append]
      rfl
    have u5 := same_upd (o := .lst (nums.map V.str ++ [V.str "half"])) no5
    have u6 := same_upd (o := .lst [V.ref o1, .ref o2, .ref o5]) nwv
    have s46 := u4.trans (u5.trans u6)
    have w1 := s46 _ _ (s4 _ _ (s3 _ _ e1))
    have w2 := s46 _ _ (s4 _ _ e2)
    have w3 := u6 _ _ e5
    have ew : (upd (upd (upd H4 o4 (.lst [V.str "half"])) o5 (.lst (nums.map V.str ++ [V.str "half"]))) wv (.lst [V.ref o1, .ref o2, .ref o5])) wv = some (.lst ([o1, o2, o5].map V.ref)) := upd_same
    have s17 := s1.trans (s2.trans (s3.trans (s4.trans s46)))
    have nwv0 : H' wv = none := (s1.trans (s2.trans (s3.trans (s4.trans (u4.trans u5))))).free nwv
    generalize upd (upd (upd H4 o4 (.lst [V.str "half"])) o5 (.lst (nums.map V.str ++ [V.str "half"]))) wv (.lst [V.ref o1, .ref o2, .ref o5]) = H7 at w1 w2 w3 ew s17 ⊢
    have hp7 := s17 _ _ hp
    have held : HeldW H7 [o1, o2, o5] ["place", "place", "amount"] := ⟨w1, w2, w3, trivial⟩
    -- if parts[at] == 'exchange': wants.pop()
    refine ⟨fun σ' H'' => ∃ (ws : List Addr) (ks : List Str), shp h = some ks ∧ σ' = [some (.ref p), some (.int i), some (.bl tu), some (.ref wv), none] ∧ H'' wv = some (.lst (ws.map V.ref)) ∧ HeldW H'' ws ks ∧ Same H' H'', ?_, ?_⟩
    · refine ⟨_, rfl, _, rfl, p, _, (i : Int), _, rfl, rfl, SqL.at hp7, hat, rfl, _, rfl, ?_⟩
      by_cases h1 : h = "exchange"
      · rw [decide_eq_true (show V.str h = V.str "exchange" by rw [h1])]
        refine iteT ⟨_, rfl, .inl ⟨rfl, _, SqL.at ew⟩, wv, _, .ref o5, rfl, rfl, ew, rfl, ?_⟩
        have n1 : o1 ≠ wv := fun z => by
          rw [z, ew] at w1
          have := HO.lst.inj (Option.some.inj w1)
          cases this
        have n2 : o2 ≠ wv := fun z => by
          rw [z, ew] at w2
          have := HO.lst.inj (Option.some.inj w2)
          cases this
        refine ⟨[o1, o2], ["place", "place"], by rw [h1]; decide +kernel, rfl, upd_same, ⟨?_, ?_, trivial⟩, keep_upd s17 nwv0⟩
        · rw [upd_ne n1]
          exact w1
        · rw [upd_ne n2]
          exact w2
      · rw [decide_eq_false (show ¬ V.str h = V.str "exchange" from fun e => h1 (V.str.inj e))]
        exact iteF ⟨[o1, o2, o5], _, by rw [hx.resolve_left h1]; decide +kernel, rfl, ew, held, s17⟩
    rintro σ' H8 ⟨ws, ks, hs, rfl, ew8, held8, s18⟩
    have hp8 := s18 _ _ hp
    rw [hs] at qN qY
    simp only [hnt] at qN qY
    have hnn : ¬ (false = true) := by decide
    rw [if_neg hnn] at qN qY
    have hwl := held8.len
    have hkn : ks.length ≤ 3 := by
      unfold shp at hs
      rcases hx with q | q
      · rw [if_pos q] at hs
        cases hs
        decide
      · rw [if_neg (by rw [q]; decide +kernel), if_pos q] at hs
        cases hs
        decide
    -- for k in range(len(wants))
    refine ⟨_, rfl, wv, _, rfl, .inl (SqL.at ew8), _, rfl, ?_⟩
    rw [List.length_map, hwl]
    refine ⟨by omega, by omega, ?_⟩
    refine for_range (lo := 0) (n := ((ks.length : Nat) : Int).toNat) (fun j σ H3 => (∃ y4, σ = [some (.ref p), some (.int i), some (.bl tu), some (.ref wv), y4]) ∧ Same H8 H3 ∧ i + 1 + j ≤ ps.length ∧ chkP ((ps ++ [sNoP]).drop (i + 1)) ks = (chkP ((ps ++ [sNoP]).drop (i + 1 + j)) (ks.drop j)).map (· + j)) ?_ ?_ ?_
    · exact ⟨⟨none, rfl⟩, Same.refl _, by omega, by simp⟩
    · rintro j σ H9 hj ⟨⟨y4, rfl⟩, s9, hij, hch⟩
      rw [Int.toNat_natCast] at hj
      rw [show (0 : Int) + (j : Int) = (j : Int) from Int.zero_add _]
      have hp9 := s9 _ _ hp8
      have ew9 := s9 _ _ ew8
      have held9 := held8.same s9
      have hjl : i + 1 + j < (ps ++ [sNoP]).length := by rw [List.length_append]; exact Nat.lt_succ_of_le hij
      have hz : (ps ++ [sNoP])[i + 1 + j]? = some (ps ++ [sNoP])[i + 1 + j] := List.getElem?_eq_getElem hjl
      have hst : chkP ((ps ++ [sNoP]).drop (i + 1 + j)) (ks.drop j) = if ptM (ps ++ [sNoP])[i + 1 + j] ks[j] = true then (chkP ((ps ++ [sNoP]).drop (i + 1 + (j + 1))) (ks.drop (j + 1))).map (· + 1) else some 0 := by
        rw [List.drop_eq_getElem_cons hjl, List.drop_eq_getElem_cons hj]
        rfl
      generalize (ps ++ [sNoP])[i + 1 + j] = z at hz hst
      have bad : ptM z ks[j] = false → (match chkP ((ps ++ [sNoP]).drop (i + 1)) ks with
          | some j => (Sum.inl (j + 1) : Nat ⊕ List Str)
          | none => .inr (h :: ((ps ++ [sNoP]).drop (i + 1)).take ks.length)) = .inl (j + 1) := fun hpt => by
        rw [if_neg (by rw [hpt]; decide)] at hst
        rw [hch, hst]
        show Sum.inl (0 + j + 1) = _
        rw [Nat.zero_add]
      -- if at + 1 + k >= len(parts)
      refine ⟨_, rfl, _, 1, rfl, rfl, _, rfl, _, _, rfl, rfl, _, rfl, p, _, rfl, .inl (SqL.at hp9), _, _, rfl, rfl, _, rfl, ?_⟩
      rw [hpl]
      rcases Nat.lt_or_ge (i + 1 + j) ps.length with hl2 | hl2
      rotate_left
      · have e : i + 1 + j = ps.length := by omega
        rw [decide_eq_true (show (ps.length : Int) ≤ (i : Int) + 1 + (j : Int) by omega)]
        rw [e, List.getElem?_append_right (Nat.le_refl _), Nat.sub_self] at hz
        have ez := Option.some.inj hz
        have hb := bad (by rw [← ez]; exact pt_no _)
        refine iteT ⟨_, rfl, p, _, rfl, .inl (SqL.at hp9), sz (show 1 ≤ 100000 by decide), fun o no => qN (j + 1) hb o _ ((s18.trans s9).free no) ?_ ((s18.trans s9).trans (same_upd no))⟩
        rw [upd_same, hpl, show i + (j + 1) = ps.length by omega]
      rw [decide_eq_false (show ¬ (ps.length : Int) ≤ (i : Int) + 1 + (j : Int) by omega)]
      refine iteF ?_
      rw [List.getElem?_append_left hl2] at hz
      have hzF := hF z (List.mem_of_getElem? hz)
      obtain ⟨wj, ewj, hwj⟩ := held9.get (List.getElem?_eq_getElem hj)
      have hat2 : atI (ps.map V.str) ((i : Int) + 1 + (j : Int)) = some (.str z) := by
        have this : atI (ps.map V.str) ((i + 1 + j : Nat) : Int) = some (.str z) := atI_nat (by rw [List.getElem?_map, hz]; rfl)
        rw [show ((i + 1 + j : Nat) : Int) = (i : Int) + 1 + (j : Int) by omega] at this
        exact this
      have hatw : atI (ws.map V.ref) (j : Int) = some (.ref wj) := atI_nat (by rw [List.getElem?_map, ewj]; rfl)
      -- if parts[at + 1 + k] not in wants[k]
      refine ⟨_, rfl, _, rfl, _, 1, rfl, rfl, _, rfl, _, _, rfl, rfl, p, _, _, _, rfl, rfl, SqL.at hp9, hat2, _, rfl, _, rfl, wv, _, (j : Int), _, rfl, rfl, SqL.at ew9, hatw, wj, _, rfl, .inl (SqL.at hwj), rfl, flat_strs _, _, rfl, ?_⟩
      rw [FS_want hzF]
      by_cases hpt : ptM z ks[j] = true
      · rw [hpt]
        rw [if_pos hpt] at hst
        refine iteF ⟨⟨_, rfl⟩, s9, by omega, ?_⟩
        rw [hch, hst, Option.map_map]
        congr 1
        funext n
        show n + 1 + j = n + (j + 1)
        omega
      · rw [Bool.not_eq_true] at hpt
        have hb := bad hpt
        rw [hpt]
        refine iteT ⟨_, rfl, _, 1, rfl, rfl, _, rfl, _, _, rfl, rfl, sz (show 1 ≤ 100000 by decide), fun o no => qN (j + 1) hb o _ ((s18.trans s9).free no) ?_ ((s18.trans s9).trans (same_upd no))⟩
        rw [upd_same, show ((i + (j + 1) : Nat) : Int) = (i : Int) + 1 + (j : Int) by omega]
    · rintro σ H9 ⟨⟨y4, rfl⟩, s9, hij, hch⟩
      rw [Int.toNat_natCast] at hij hch
      have hno : chkP ((ps ++ [sNoP]).drop (i + 1)) ks = none := by
        rw [hch, List.drop_length]
        unfold chkP
        rfl
      rw [hno] at qY
      have ew9 := s9 _ _ ew8
      refine ⟨_, rfl, _, 1, rfl, rfl, _, rfl, wv, _, rfl, .inl (SqL.at ew9), _, _, rfl, rfl, ?_⟩
      have q := qY _ rfl H9 (s18.trans s9)
      have hlen : (h :: ((ps ++ [sNoP]).drop (i + 1)).take ks.length).length = ks.length + 1 := by
        rw [List.length_cons, List.length_take, List.length_drop, List.length_append]
        simp only [List.length_singleton]
        omega
      rw [hlen, show ((i + (ks.length + 1) : Nat) : Int) = (i : Int) + 1 + (ks.length : Int) by omega] at q
      rw [List.length_map, hwl]
      exact q
end

theorem mvE_turn {ps : List Str} {k : Nat} (hk : k < ps.length) {may : Bool} {m : List Str} (h : mvE ((ps ++ [sNoP]).drop k) may = .inr m) : (m = [("turn" : Str)]) ↔ ps[k] = ("turn" : Str) := by
  have hil : k < (ps ++ [sNoP]).length := by rw [List.length_append]; exact Nat.lt_succ_of_lt hk
  rw [List.drop_eq_getElem_cons hil, List.getElem_append_left hk, mvE_cons] at h
  cases hs : shp ps[k] with
  | none =>
    rw [hs] at h
    cases h
  | some ks =>
    rw [hs] at h
    by_cases c : (decide (ps[k] = "turn") && !may) = true
    · simp only [c, if_true] at h
      cases h
    · rw [Bool.not_eq_true] at c
      simp only [c] at h
      cases hc : chkP ((ps ++ [sNoP]).drop (k + 1)) ks with
      | some j =>
        rw [hc] at h
        cases h
      | none =>
        rw [hc] at h
        have h : ps[k] :: ((ps ++ [sNoP]).drop (k + 1)).take ks.length = m := Sum.inr.inj h
        constructor
        · intro e
          rw [e] at h
          exact (List.cons.inj h).1
        · intro e
          have : ks = [] := by
            rw [e] at hs
            have : shp ("turn" : Str) = some [] := by decide +kernel
            rw [this] at hs
            exact (Option.some.inj hs).symm
          rw [← h, this, e]
          rfl
section
variable {P : Program} {w : World} {K : PySem.W.Frag} {mg : Str → Option Value} {base : Heap} {a : Ad}
def spMovesEnd (K : PySem.W.Frag) : Sp := fun vs H Q _ => ∃ (p : Addr) (ps : List Str) (i : Nat), vs = [.ref p, .int (i : Int)] ∧ H p = some (.lst (ps.map V.str)) ∧ i ≤ ps.length ∧ ps.length ≤ 500 ∧ (∀ z ∈ ps, z ∈ FS) ∧
  (∀ j, mvsE 4 ((ps ++ [sNoP]).drop i) true = .inl j → ∀ o H', H o = none → H' o = some (.tup [.int ((i + j : Nat) : Int)]) → Same H H' → Q (.ref o) H') ∧
  (∀ ms c, mvsE 4 ((ps ++ [sNoP]).drop i) true = .inr (ms, c) → ∀ H', Same H H' → Q (.int ((i + c : Nat) : Int)) H')
theorem ok__law_moves_end (T : Tx w K mg a) : FnOk P w K mg base CX0 4 a.f__law_moves_end a.d__law_moves_end ["parts", "at"] (spMovesEnd K) := by
  refine T.F__law_moves_end.ok sc__law_moves_end (fun vs H Q E h => ?_) (fun cdv A outer s H vs Q E hr h => ?_)
  · obtain ⟨p, ps, i, rfl, _⟩ := h
    rfl
  · obtain ⟨p, ps, i, rfl, hp, hi, hl, hF, qN, qY⟩ := h
    refine ⟨_, 
(pss_cons (ps_set (i := 2) sc__law_moves_end.nd rfl (.inl rfl) pe_bl)
  (pss_cons (ps_for PassesOwn.never rfl (pi_range1 (by rfl) T.z_range (pa_cons pe_int pa_nil)) (pg_name (i := 3) sc__law_moves_end.nd rfl (.inl rfl))
  (pss_cons (ps_set (i := 4) sc__law_moves_end.nd rfl (.inl rfl) (pe_call (ok__law_move_end T) hr (by rfl) T.m__law_move_end T.F__law_move_end.kp T.b__law_move_end .nil pass0 (pa_cons (pv 0) (pa_cons (pv 1) (pa_cons (pv 2) pa_nil)))))
  (pss_cons (ps_if (pt_val (pe_callB call_isi (by rfl) T.z_isinstance (by decide +kernel) (pa_cons (pv 4) (pa_cons (pe_bltn (v := .ty "tuple") (by rfl) T.z_tuple (by decide +kernel) rfl) pa_nil))))
  (pss_one (ps_ret (pv 4)))
  pss_nil)
  (C8.pss_cut (ps_set (i := 2) sc__law_moves_end.nd rfl (.inl rfl) (pe_or (pv 2) (pe_one (pe_cmpR op_eq (pe_ix ix_list (pv 0) (pv 1) (fun _ _ => rfl)) pe_str (nomark _)))))
  (pss_cons (ps_if (PW.pt (pw_or (pt_cmpR op_eq (pv 3) pe_int (nomark _)) (pw_or (pt_cmpR op_ge (pv 4) (pe_callB call_len_seq (by rfl) T.z_len PySem.boot_len (pa_cons (pv 0) pa_nil)) (nomark _)) (pw_or1 (pt_cmpR op_ne (pe_ix ix_list (pv 0) (pv 4) (fun _ _ => rfl)) pe_str (nomark _))))))
  (pss_one (ps_ret (pv 4)))
  pss_nil)
  (pss_one (ps_set (i := 1) sc__law_moves_end.nd rfl (.inl rfl) (pe_op op_add (pv 4) pe_int))))))))
  (pss_one (ps_ret (pv 1))))), ?_⟩
    generalize hR : mvsE 4 ((ps ++ [sNoP]).drop i) true = R at qN qY
    have hpl : (ps.map V.str).length = ps.length := List.length_map ..
    refine ⟨4, rfl, by decide, by decide, ?_⟩
    refine for_range (lo := 0) (n := 4) (fun k σ H3 => ∃ (dn : List (List Str)) (c : Nat) (tu : Bool) (y3 y4 : Option V), k ≤ 3 ∧ i + c ≤ ps.length ∧ R = behM dn c (mvsE (3 - k + 1) ((ps ++ [sNoP]).drop (i + c)) (!tu)) ∧
        σ = [some (.ref p), some (.int ((i + c : Nat) : Int)), some (.bl tu), y3, y4] ∧ Same H H3) ?_ ?_ ?_
    · refine ⟨[], 0, false, none, none, by decide, hi, ?_, rfl, Same.refl H⟩
      show R = behM [] 0 (mvsE 4 ((ps ++ [sNoP]).drop i) true)
      rw [hR]
      cases R with
      | inl j => show _ = Sum.inl (0 + j); rw [Nat.zero_add]
      | inr q => show _ = Sum.inr (q.1, 0 + q.2); rw [Nat.zero_add]
    rotate_left
    · rintro σ H3 ⟨dn, c, tu, y3, y4, hk, _⟩
      exact absurd hk (by decide)
    rintro k σ H3 hk4 ⟨dn, c, tu, y3, y4, hk, hic, heq, rfl, s3⟩
    rw [mvsE_succ] at heq
    have hp3 := s3 _ _ hp
    -- end = _law_move_end(parts, at, turned)
    refine ⟨_, rfl, _, rfl, _, rfl, p, ps, i + c, tu, rfl, hp3, hic, hl, hF, fun j hj o H4 no eo s4 => ?_, fun m hm H4 s4 => ?_⟩
    · rw [hj] at heq
      refine ⟨_, rfl, _, _, _, _, true, rfl, .ty "tuple", .base (.tup eo), kit_ty (by decide +kernel), true, rfl, iteT ⟨_, rfl, ?_⟩⟩
      refine qN (c + j) heq o H4 (s3.free no) ?_ (s3.trans s4)
      rw [eo, show i + (c + j) = i + c + j by omega]
    · obtain ⟨m1, m2, m3⟩ := mvE_inr hic hm
      have hlt : i + c < ps.length := by omega
      have htu := mvE_turn hlt hm
      rw [hm] at heq
      dsimp only at heq
      have hp4 := s4 _ _ hp3
      have g0 : atI (ps.map V.str) ((i + c : Nat) : Int) = some (.str ps[i + c]) := atI_nat (by rw [List.getElem?_map, List.getElem?_eq_getElem hlt]; rfl)
      refine ⟨_, rfl, _, _, _, _, false, rfl, .ty "tuple", .base (.int _), kit_ty (by decide +kernel), false, rfl, iteF ?_⟩
      -- turned = turned or parts[at] == 'turn'
      refine ⟨fun σ' H' => σ' = [some (.ref p), some (.int ((i + c : Nat) : Int)), some (.bl (tu || decide (m = [("turn" : Str)]))), some (.int (0 + (k : Int))), some (.int ((i + c + m.length : Nat) : Int))] ∧ H' = H4, ?_, ?_⟩
      · cases tu with
        | true => exact ⟨_, rfl, true, rfl, iteT ⟨rfl, rfl⟩⟩
        | false =>
          refine ⟨_, rfl, false, rfl, iteF ⟨_, rfl, _, rfl, p, _, _, _, rfl, rfl, SqL.at hp4, g0, rfl, ?_⟩⟩
          have e : decide (V.str ps[i + c] = V.str "turn") = (false || decide (m = [("turn" : Str)])) := by
            rw [Bool.false_or, decide_eq_decide]
            exact ⟨fun h => htu.mpr (V.str.inj h), fun h => congrArg _ (htu.mp h)⟩
          rw [e]
          exact ⟨rfl, rfl⟩
      rintro σ' H' ⟨rfl, rfl⟩
      have hhd : (((ps ++ [sNoP]).drop (i + c)).drop m.length).head? = (ps ++ [sNoP])[i + c + m.length]? := by
        rw [List.drop_drop, List.head?_drop]
      have hil : i + c + m.length < (ps ++ [sNoP]).length := by rw [List.length_append]; exact Nat.lt_succ_of_le m1
      have hz : (ps ++ [sNoP])[i + c + m.length]? = some (ps ++ [sNoP])[i + c + m.length] := List.getElem?_eq_getElem hil
      generalize (ps ++ [sNoP])[i + c + m.length] = z at hz
      rw [hhd, hz] at heq
      have fin : (3 - k = 0 ∨ z ≠ "then") → Q (.int ((i + c + m.length : Nat) : Int)) H' := fun hend => by
        have hc : 3 - k = 0 ∨ some z ≠ some ("then" : Str) := hend.imp id fun h e => h (Option.some.inj e)
        rw [if_pos hc] at heq
        have q := qY (dn ++ [m]) (c + m.length) heq H' (s3.trans s4)
        rw [show i + (c + m.length) = i + c + m.length by omega] at q
        exact q
      -- if many == 3 or end >= len(parts) or parts[end] != 'then'
      refine ⟨_, rfl, rfl, _, rfl, ?_⟩
      by_cases h3 : k = 3
      · rw [decide_eq_true (show V.int (0 + (k : Int)) = V.int 3 by rw [h3]; rfl)]
        exact iteT ⟨_, rfl, fin (.inl (by omega))⟩
      rw [decide_eq_false (show ¬ V.int (0 + (k : Int)) = V.int 3 from fun e => h3 (by have := V.int.inj e; omega))]
      refine iteF ⟨_, rfl, _, rfl, p, _, rfl, .inl (SqL.at hp4), _, _, rfl, rfl, _, rfl, ?_⟩
      rw [hpl]
      rcases Nat.lt_or_ge (i + c + m.length) ps.length with hl2 | hl2
      rotate_left
      · have e : i + c + m.length = ps.length := by omega
        rw [decide_eq_true (show (ps.length : Int) ≤ ((i + c + m.length : Nat) : Int) by omega)]
        rw [e, List.getElem?_append_right (Nat.le_refl _), Nat.sub_self] at hz
        have ez := Option.some.inj hz
        exact iteT ⟨_, rfl, fin (.inr (by rw [← ez]; decide +kernel))⟩
      rw [decide_eq_false (show ¬ (ps.length : Int) ≤ ((i + c + m.length : Nat) : Int) by omega)]
      rw [List.getElem?_append_left hl2] at hz
      have g1 : atI (ps.map V.str) ((i + c + m.length : Nat) : Int) = some (.str z) := atI_nat (by rw [List.getElem?_map, hz]; rfl)
      refine iteF ⟨_, rfl, _, rfl, p, _, _, _, rfl, rfl, SqL.at hp4, g1, rfl, _, rfl, ?_⟩
      by_cases hzt : z = "then"
      · refine iteNS (by rw [hzt]) ?_
        have hc : ¬ (3 - k = 0 ∨ some z ≠ some ("then" : Str)) := fun h => h.elim (by omega) fun h => h (by rw [hzt])
        rw [if_neg hc] at heq
        refine ⟨_, rfl, _, 1, rfl, rfl, dn ++ [m], c + m.length + 1, tu || decide (m = [("turn" : Str)]), some (.int (0 + (k : Int))), some (.int ((i + c + m.length : Nat) : Int)), by omega, by omega, ?_, ?_, s3.trans s4⟩
        rotate_left
        · rw [show ((i + (c + m.length + 1) : Nat) : Int) = ((i + c + m.length : Nat) : Int) + 1 by omega]
          rfl
        · rw [heq, show 3 - (k + 1) + 1 = 3 - k by omega, List.drop_drop, List.drop_drop, show i + c + (m.length + 1) = i + (c + m.length + 1) by omega]
          have em : (!tu && !decide (m = [("turn" : Str)])) = !(tu || decide (m = [("turn" : Str)])) := by rw [Bool.not_or]
          rw [em]
          cases mvsE (3 - k) ((ps ++ [sNoP]).drop (i + (c + m.length + 1))) (!(tu || decide (m = [("turn" : Str)]))) with
          | inl j => show Sum.inl (c + (m.length + 1 + j)) = Sum.inl (c + m.length + 1 + j); congr 1; omega
          | inr q => show Sum.inr (dn ++ m :: q.1, c + (m.length + 1 + q.2)) = Sum.inr (dn ++ [m] ++ q.1, c + m.length + 1 + q.2); congr 1; rw [List.append_assoc]; congr 1; omega
      · have e : decide (V.str z = V.str "then") = false := decide_eq_false fun e => hzt (V.str.inj e)
        rw [e]
        exact ⟨_, rfl, fin (.inr hzt)⟩
end
section
variable {P : Program} {w : World} {K : PySem.W.Frag} {mg : Str → Option Value} {base : Heap} {a : Ad}
end

theorem roF_same (xs : List Int) (x : Nat) (c : Int) (h : x < xs.length) : roF xs x x c = xs := by
  have bl := blk_len xs x x (Nat.le_refl x) h
  unfold roF
  have e1 : x + 1 - x = 1 := by omega
  rw [e1] at bl
  simp only [e1, bl]
  have e2 : Int.fmod c ((1 : Nat) : Int) = 0 := Int.fmod_one c
  rw [e2]
  have e3 : (((1 : Nat) : Int) - 0).toNat = 1 := by decide
  rw [e3]
  have e5 : ((xs.drop x).take 1).drop 1 = [] := List.drop_of_length_le (by rw [bl]; exact Nat.le_refl _)
  have e6 : ((xs.drop x).take 1).take 1 = (xs.drop x).take 1 := List.take_of_length_le (by rw [bl]; exact Nat.le_refl _)
  rw [e5, e6, List.append_nil, List.append_assoc]
  have e4 : (xs.drop x).take 1 ++ xs.drop (x + 1) = xs.drop x := by
    rw [← List.drop_drop]
    exact List.take_append_drop 1 (xs.drop x)
  rw [e4]
  exact List.take_append_drop x xs
section
variable {P : Program} {w : World} {K : PySem.W.Frag} {mg : Str → Option Value} {base : Heap} {a : Ad}
def laM (k : Int) : Str := if 17 < k then "half" else if k < 9 then toString (k + 1) else Str.append "-" (toString (k - 8))
theorem la_am : ∀ k : Fin 20, laM ((k.val : Nat) : Int) ∈ am := by decide +kernel
def spLawAmount : Sp := fun vs H Q _ => ∃ (d c : Addr) (n : Nat), vs = [.ref d] ∧ Pen H d c n ∧ n < 2 ^ 40 ∧ ∀ z H', z ∈ am → Pen H' d c (n + 1) → But d H H' → Q (.str z) H'
theorem ok__law_amount (T : Tx w K mg a) : FnOk P w K mg base CX0 2 a.f__law_amount a.d__law_amount ["pen"] spLawAmount := by
  refine T.F__law_amount.ok sc__law_amount (fun vs H Q E h => ?_) (fun cdv A outer s H vs Q E hr h => ?_)
  · obtain ⟨d, c, n, rfl, _⟩ := h
    rfl
  · obtain ⟨d, c, n, rfl, hp, hn, q⟩ := h
    refine ⟨_, 
(pss_cons (ps_set (i := 1) sc__law_amount.nd rfl (.inl rfl) (pe_call (ok__law_draw T) hr (by rfl) T.m__law_draw T.F__law_draw.kp T.b__law_draw .nil pass0 (pa_cons (pv 0) (pa_cons pe_int pa_nil))))
  (pss_one (ps_ret (pe_ifExp (pt_cmpR op_gt (pv 1) pe_int (nomark _)) pe_str (pe_ifExp (pt_cmpR op_lt (pv 1) pe_int (nomark _)) (pe_callTy call_str_int (by rfl) T.z_str (by decide +kernel) (pa_cons (pe_op op_add (pv 1) pe_int) pa_nil)) (pe_op op_add_str pe_str (pe_callTy call_str_int (by rfl) T.z_str (by decide +kernel) (pa_cons (pe_op op_sub (pv 1) pe_int) pa_nil)))))))), ?_⟩
    refine ⟨.ref d, rfl, d, c, n, 20, rfl, hp, hn, by decide, by decide, fun k H1 k0 k1 hp1 hb => ?_⟩
    have hw : laM k ∈ am := by
      have e := la_am ⟨k.toNat, by omega⟩
      have e2 : ((k.toNat : Nat) : Int) = k := by omega
      rw [show (((⟨k.toNat, by omega⟩ : Fin 20).val : Nat) : Int) = k from e2] at e
      exact e
    have hq := q _ H1 hw hp1 hb
    unfold laM at hq
    refine ⟨.int k, rfl, k, 17, rfl, rfl, _, rfl, ite2 (fun e1 => ?_) (fun e1 => ?_)⟩
    · rw [if_pos (of_decide_eq_true e1)] at hq
      exact hq
    have e1' : ¬ 17 < k := fun z => e1 (decide_eq_true z)
    rw [if_neg e1'] at hq
    refine ⟨.int k, rfl, k, 9, rfl, rfl, _, rfl, ite2 (fun e2 => ?_) (fun e2 => ?_)⟩
    · rw [if_pos (of_decide_eq_true e2)] at hq
      exact ⟨.int k, rfl, k, 1, rfl, rfl, k + 1, rfl, lg _ (by omega) (by omega), hq⟩
    have e2' : ¬ k < 9 := fun z => e2 (decide_eq_true z)
    rw [if_neg e2'] at hq
    exact ⟨.int k, rfl, k, 8, rfl, rfl, k - 8, rfl, lg _ (by omega) (by omega), _, _, rfl, rfl, sz (ln _ _ (by decide) (by omega) (by omega)), hq⟩
def spLawMove : Sp := fun vs H Q _ => ∃ (d c : Addr) (n : Nat) (b : Bool), vs = [.ref d, .bl b] ∧ Pen H d c n ∧ n + 20 < 2 ^ 40 ∧
  ∀ o m H', m.ok → (b = true → m ≠ Mv.turn) → H o = none → H' o = some (.lst (strsV m.parts)) → Pen H' d c (n + 20) → But d H H' → Q (.ref o) H'
theorem pick3 {z : V} {x y u : Str} (h : z ∈ [V.str x, V.str y, V.str u]) (hx : x ∈ wt) (hy : y ∈ wt) (hu : u ∈ wt) : ∃ s, z = .str s ∧ s ∈ wt := by
  simp only [List.mem_cons, List.not_mem_nil, or_false] at h
  rcases h with rfl | rfl | rfl
  · exact ⟨_, rfl, hx⟩
  · exact ⟨_, rfl, hy⟩
  · exact ⟨_, rfl, hu⟩
theorem ok__law_move (T : Tx w K mg a) : FnOk P w K mg base CX0 3 a.f__law_move a.d__law_move ["pen", "has_turn"] spLawMove := by
  refine T.F__law_move.ok sc__law_move (fun vs H Q E h => ?_) (fun cdv A outer s H vs Q E hr h => ?_)
  · obtain ⟨d, c, n, b, rfl, _⟩ := h
    rfl
  · obtain ⟨d, c, n, b, rfl, hp, hn, q⟩ := h
    refine ⟨_, 
(C8.pss_cut (ps_set (i := 2) sc__law_move.nd rfl (.inl rfl) (pe_call (ok__law_draw T) (hr.mono (by decide)) (by rfl) T.m__law_draw T.F__law_draw.kp T.b__law_draw .nil pass0 (pa_cons (pv 0) (pa_cons (pe_ifExp (pt_val (pv 1)) pe_int pe_int) pa_nil))))
  (pss_cons (ps_if (pt_cmpR op_eq (pv 2) pe_int (nomark _))
  (pss_one (ps_ret (pe_lst (pa_cons pe_str pa_nil))))
  pss_nil)
  (pss_cons (ps_par (i := 3) (j := 4) (by rfl) sc__law_move.nd rfl rfl (by decide) rfl rfl (pa_cons (pe_call (ok__law_place_word T) hr (by rfl) T.m__law_place_word T.F__law_place_word.kp T.b__law_place_word .nil pass0 (pa_cons (pv 0) pa_nil)) (pa_cons (pe_call (ok__law_place_word T) hr (by rfl) T.m__law_place_word T.F__law_place_word.kp T.b__law_place_word .nil pass0 (pa_cons (pv 0) pa_nil)) pa_nil)) (by rfl))
  (C8.pss_cut (ps_if (pt_cmpR op_eq (pe_call (ok__law_draw T) (hr.mono (by decide)) (by rfl) T.m__law_draw T.F__law_draw.kp T.b__law_draw .nil pass0 (pa_cons (pv 0) (pa_cons pe_int pa_nil))) pe_int (nomark _))
  (pss_one (ps_par (i := 3) (j := 4) (by rfl) sc__law_move.nd rfl rfl (by decide) rfl rfl (pa_cons (pe_call (ok__law_pick T) hr (by rfl) T.m__law_pick T.F__law_pick.kp T.b__law_pick .nil pass0 (pa_cons (pv 0) (pa_cons (pe_lst (pa_cons pe_str (pa_cons pe_str (pa_cons pe_str pa_nil)))) pa_nil))) (pa_cons (pe_call (ok__law_pick T) hr (by rfl) T.m__law_pick T.F__law_pick.kp T.b__law_pick .nil pass0 (pa_cons (pv 0) (pa_cons (pe_lst (pa_cons pe_str (pa_cons pe_str (pa_cons pe_str pa_nil)))) pa_nil))) pa_nil)) (by rfl)))
  pss_nil)
  (pss_one (ps_ret (pe_ifExp (pt_cmpR op_lt (pv 2) pe_int (nomark _)) (pe_lst (pa_cons pe_str (pa_cons (pv 3) (pa_cons (pv 4) pa_nil)))) (pe_lst (pa_cons pe_str (pa_cons (pv 3) (pa_cons (pv 4) (pa_cons (pe_call (ok__law_amount T) hr (by rfl) T.m__law_amount T.F__law_amount.kp T.b__law_amount .nil pass0 (pa_cons (pv 0) pa_nil)) pa_nil)))))))))))), ?_⟩
    -- way = _law_draw(pen, 7 if has_turn else 8)
    refine ⟨fun σ' H' => ∃ way : Int, 0 ≤ way ∧ way ≤ 7 ∧ (b = true → way < 7) ∧ σ' = [some (.ref d), some (.bl b), some (.int way), none, none] ∧ Pen H' d c (n + 1) ∧ But d H H', ⟨.ref d, rfl, .bl b, rfl, _, rfl, ?_⟩, ?_⟩
    · cases b with
      | true => exact ⟨d, c, n, 7, rfl, hp, by omega, by decide, by decide, fun v H1 v0 v1 hp1 hb1 => ⟨v, v0, by omega, fun _ => v1, rfl, hp1, hb1⟩⟩
      | false => exact ⟨d, c, n, 8, rfl, hp, by omega, by decide, by decide, fun v H1 v0 v1 hp1 hb1 => ⟨v, v0, by omega, (fun e => by cases e), rfl, hp1, hb1⟩⟩
    rintro σ' H1 ⟨way, w0, w7, wb, rfl, hp1, hb1⟩
    -- if way == 7: return ['turn']
    refine ⟨.int way, rfl, rfl, _, rfl, ite2 (fun e => ?_) (fun e => ?_)⟩
    · have ew : way = 7 := V.int.inj (of_decide_eq_true e)
      refine ⟨Nat.succ_le_of_lt (by decide), fun o no => ?_⟩
      obtain ⟨kvs, hd1⟩ := hp1.dict
      refine q o .turn _ trivial (fun hb => by have := wb hb; omega) ?_ upd_same ((hp1.same (same_upd no)).up (by omega)) (hb1.trans (but_same (same_upd no)))
      cases hH : H o with
      | none => rfl
      | some u =>
        by_cases hod : o = d
        · subst hod
          rw [hd1] at no
          cases no
        · rw [hb1 o u hH hod] at no
          cases no
    -- x, y = two place words
    refine ⟨.ref d, rfl, d, c, _, rfl, hp1, by omega, fun x H2 wx hp2 hb2 => ⟨.ref d, rfl, d, c, _, rfl, hp2, by omega, fun y H3 wy hp3 hb3 => ⟨.str x, .str y, rfl, ?_⟩⟩⟩
    have hb13 := hb1.trans (hb2.trans hb3)
    -- if _law_draw(pen, 3) == 0: others
    refine ⟨fun σ' H' => ∃ x y : Str, x ∈ wt ∧ y ∈ wt ∧ σ' = [some (.ref d), some (.bl b), some (.int way), some (.str x), some (.str y)] ∧ Pen H' d c (n + 10) ∧ But d H H', ?_, ?_⟩
    · refine ⟨.ref d, rfl, d, c, _, 3, rfl, hp3, by omega, by decide, by decide, fun v H4 v0 v1 hp4 hb4 => ⟨rfl, _, rfl, ite2 (fun _ => ?_) (fun _ => ⟨x, y, wx, wy, rfl, hp4.up (by omega), hb13.trans hb4⟩)⟩⟩
      refine ⟨.ref d, rfl, sz (show 3 ≤ 100000 by decide), fun p1 np1 => ?_⟩
      refine ⟨d, c, p1, _, [.str "0", .str "1", .str "2"], rfl, hp4.same (same_upd np1), by omega, SqL.at upd_same, (show 0 < 3 by decide), (show 3 ≤ 100000 by decide), fun z1 H5 hz1 hp5 hb5 => ?_⟩
      obtain ⟨x', rfl, wx'⟩ := pick3 hz1 (by decide +kernel) (by decide +kernel) (by decide +kernel)
      refine ⟨.ref d, rfl, sz (show 3 ≤ 100000 by decide), fun p2 np2 => ?_⟩
      refine ⟨d, c, p2, _, [.str "-1", .str "-2", .str "half"], rfl, hp5.same (same_upd np2), by omega, SqL.at upd_same, (show 0 < 3 by decide), (show 3 ≤ 100000 by decide), fun z2 H6 hz2 hp6 hb6 => ?_⟩
      obtain ⟨y', rfl, wy'⟩ := pick3 hz2 (by decide +kernel) (by decide +kernel) (by decide +kernel)
      exact ⟨.str x', .str y', rfl, x', y', wx', wy', rfl, hp6.up (by omega), hb13.trans (hb4.trans ((but_same (same_upd np1)).trans (hb5.trans ((but_same (same_upd np2)).trans hb6))))⟩
    rintro σ' H4 ⟨x, y, wx, wy, rfl, hp4, hb4⟩
    have new : ∀ {H' : Hp} {o : Addr}, Pen H' d c (n + 11) ∨ Pen H' d c (n + 10) → But d H H' → H' o = none → H o = none := by
      intro H' o hpen hb' no
      have hd' : ∃ kvs, H' d = some (.dK kvs) := hpen.elim (fun h => h.dict) (fun h => h.dict)
      obtain ⟨kvs, hd'⟩ := hd'
      cases hH : H o with
      | none => rfl
      | some u =>
        by_cases hod : o = d
        · subst hod
          rw [hd'] at no
          cases no
        · rw [hb' o u hH hod] at no
          cases no
    refine ⟨.int way, rfl, way, 3, rfl, rfl, _, rfl, ite2 (fun _ => ?_) (fun _ => ?_)⟩
    · refine ⟨.str x, rfl, .str y, rfl, sz (show 3 ≤ 100000 by decide), fun o no => ?_⟩
      exact q o (.exch x y) _ ⟨wx, wy⟩ (fun _ e => by cases e) (new (.inr hp4) hb4 no) upd_same ((hp4.same (same_upd no)).up (by omega)) (hb4.trans (but_same (same_upd no)))
    · refine ⟨.str x, rfl, .str y, rfl, .ref d, rfl, d, c, _, rfl, hp4, by omega, fun z H5 hz hp5 hb5 => ⟨sz (show 4 ≤ 100000 by decide), fun o no => ?_⟩⟩
      exact q o (.roll x y z) _ ⟨wx, wy, hz⟩ (fun _ e => by cases e) (new (.inl hp5) (hb4.trans hb5) no) upd_same ((hp5.same (same_upd no)).up (by omega)) ((hb4.trans hb5).trans (but_same (same_upd no)))
end

/-! ### lengths of joined texts; moves keep the things -/
theorem joinL_len (S : List Nat) : ∀ ps : List (List Nat), (TL.joinL S ps).length ≤ (ps.map List.length).sum + ps.length * S.length
  | [] => by simp [TL.joinL]
  | [p] => by simp [TL.joinL]
  | p :: q :: r => by
    have := joinL_len S (q :: r)
    show (p ++ (S ++ TL.joinL S (q :: r))).length ≤ _
    rw [List.length_append, List.length_append, List.map_cons, List.sum_cons, List.length_cons (as := q :: r), Nat.add_mul]
    omega
theorem sum_le : ∀ {zs : List Str}, (∀ z ∈ zs, z.length ≤ 100) → (zs.map (·.length)).sum ≤ zs.length * 100
  | [], _ => by simp
  | z :: r, h => by
    have h1 := h z (List.mem_cons_self ..)
    have h2 := sum_le (zs := r) fun y hy => h y (List.mem_cons_of_mem _ hy)
    rw [List.map_cons, List.sum_cons, List.length_cons, Nat.add_mul]
    omega
theorem join_len {zs : List Str} (h : ∀ z ∈ zs, z.length ≤ 100) : (Txt.join " " zs).length ≤ zs.length * 101 := by
  rw [TL.len_tl, TL.join_eq, TL.tl_join]
  have h1 := joinL_len (TL.tl " ") (zs.map TL.tl)
  have h2 := sum_le h
  have e1 : ((zs.map TL.tl).map List.length).sum = (zs.map (·.length)).sum := by
    rw [List.map_map]
    exact congrArg List.sum (List.map_congr_left fun z _ => (TL.len_tl z).symm)
  have e2 : (TL.tl " ").length = 1 := by decide +kernel
  rw [e1, e2, List.length_map] at h1
  omega
theorem wtext_len {ms : List Mv} (h : WordOk ms) : (wtext ms).length ≤ 90000 := by
  have h1 := join_len (zs := wp ms) fun z hz => (wp_ok h.ok z hz).2.1
  have h2 := wp_len ms
  have h3 := h.l4
  unfold wtext
  omega
theorem ex_perm {xs : List Int} {x y : Nat} (hx : x < xs.length) (hy : y < xs.length) : (exF xs x y).Perm xs := by
  unfold exF
  rw [getD_get hx, getD_get hy]
  exact List.set_set_perm hx hy
theorem ro_perm {xs : List Int} {x y : Nat} {c : Int} (hxy : x ≤ y) (hy : y < xs.length) : (roF xs x y c).Perm xs := by
  unfold roF
  simp only []
  generalize eb : (xs.drop x).take (y + 1 - x) = B
  generalize ((B.length : Int) - Int.fmod c (B.length : Int)).toNat = k
  have e1 : xs.take x ++ B ++ xs.drop (y + 1) = xs := by
    rw [← eb, List.append_assoc]
    have e2 : (xs.drop x).take (y + 1 - x) ++ xs.drop (y + 1) = xs.drop x := by
      conv => rhs; rw [← List.take_append_drop (y + 1 - x) (xs.drop x)]
      rw [List.drop_drop, show x + (y + 1 - x) = y + 1 by omega]
    rw [e2]
    exact List.take_append_drop x xs
  have p1 : (B.drop k ++ B.take k).Perm B := by
    have := List.perm_append_comm (l₁ := B.drop k) (l₂ := B.take k)
    rw [List.take_append_drop] at this
    exact this
  have p2 : (xs.take x ++ B.drop k ++ B.take k ++ xs.drop (y + 1)).Perm (xs.take x ++ B ++ xs.drop (y + 1)) := by
    rw [List.append_assoc (xs.take x)]
    exact (p1.append_left (xs.take x)).append_right (xs.drop (y + 1))
  rw [e1] at p2
  exact p2
theorem mv_perm (m : Mv) (xs : List Int) : (mvF m xs).Perm xs := by
  cases m with
  | turn => exact List.reverse_perm xs
  | exch x y =>
    simp only [mvF]
    split
    · rename_i h
      simp only [inB, Bool.and_eq_true, decide_eq_true_eq] at h
      exact ex_perm (by omega) (by omega)
    · exact List.Perm.refl _
  | roll x y c =>
    simp only [mvF]
    split
    · rename_i h
      simp only [inB, Bool.and_eq_true, decide_eq_true_eq] at h
      exact ro_perm (by omega) (by omega)
    · exact List.Perm.refl _
theorem ri_sorted (n : Nat) : (ri n).Pairwise (· ≤ ·) := by
  unfold ri
  rw [List.pairwise_map]
  exact List.Pairwise.imp (fun h => by omega) (List.pairwise_lt_range (n := n))
theorem ne_false {xs ys : List Int} {A B : Prop} (h : xs = ys) (q : B) : if (!PyData.eqv (iD xs) (iD ys)) = true then A else B := by
  subst h
  rw [eqv_ints, decide_eq_true rfl]
  exact q
theorem eqv_all_mvs : ∀ ms ns : List Mv, PyData.eqvAll (ms.map mvD) (ns.map mvD) = decide (ms = ns)
  | [], [] => by simp [PyData.eqvAll]
  | [], _ :: _ => by simp [PyData.eqvAll]
  | _ :: _, [] => by simp [PyData.eqvAll]
  | x :: r, y :: u => by
    simp only [List.map_cons, PyData.eqvAll, eqv_mv, eqv_all_mvs r u, List.cons.injEq]
    by_cases h1 : x = y <;> by_cases h2 : r = u <;> simp [h1, h2]
theorem ne_mvs {ms ns : List Mv} {A B : Prop} (h : ms = ns) (q : B) : if (!PyData.eqv (.tuple (ms.map mvD)) (.tuple (ns.map mvD))) = true then A else B := by
  subst h
  rw [PyData.eqv, eqv_all_mvs, decide_eq_true rfl]
  exact q
theorem shaped_strsL {zs : List Str} (h : ∀ z ∈ zs, PyData.strOk z = true) : SeqAt.shaped (.list (zs.map PyData.str)) = true := by
  unfold SeqAt.shaped
  rw [Bool.and_eq_true, decide_eq_true_eq]
  refine ⟨by rw [PyData.canLay0]; exact lay_strs h, ?_⟩
  have := deep_strs zs
  rw [PyData.depth]
  omega
theorem eqv_turn (m : Mv) : PyData.eqv (.list (m.parts.map PyData.str)) (.list ((["turn"] : List Str).map PyData.str)) = decide (m = .turn) := by
  rw [PyData.eqv, eqv_all_strs]
  by_cases h : m = .turn
  · subst h
    rfl
  · have : ¬ m.parts = ([("turn" : Str)] : List Str) := fun e => h (Mv.inj.mp (e.trans rfl))
    simp [h, this]
theorem flW_at (ms : List Mv) (t : Addr) : (flW ms t).lookup ("at" : Str) = none := by
  unfold flW
  rw [lookup_putF, if_neg (by decide +kernel), lookup_putF, if_neg (by decide +kernel), lookup_putF, if_neg (by decide +kernel)]
  rfl

/-! ### == by an own __eq__, with both answers; the other value a text or an instance -/
inductive EqTy (H : Hp) : V → Value → Prop where
  | str (y : Str) : EqTy H (.str y) (.type "str")
  | ins {p C : Addr} {dx : Addr} {fs : List (Str × V)} (e : H p = some (.ins C dx fs)) : EqTy H (.ref p) (.ref C)
def rEqOwn (K : PySem.W.Frag) (C : Addr) (sp : Sp) (E : XK) : R2 := fun x y H Q => ∃ (p dx : Addr) (fs : List (Str × V)) (tb : Value), x = .ref p ∧ H p = some (.ins C dx fs) ∧ EqTy H y tb ∧ PySem.W.notFirst K C tb = true ∧ sp [x, y] H (fun v H' => (∃ b, v = .bl b) ∧ Q v H') E
theorem op_eq_own {X : Cx} {n : Nat} {CX : CXT} {C f : Addr} {fd : FuncData} {ps : List Str} {sp : Sp} {E : XK} (F : FnOk X.prog X.w X.K X.mg X.base CX n f fd ps sp) (hr : Room n X.A)
    (hs : PySem.W.findIn X.K (.ref C) "__eq__" = some (some (.ref f))) (hf : PySem.W.isFn X.K (.ref f) = true) (hb : Binds X.K fd ps []) (hx : Passes CX X E) : OpR X (compareOp .Eq) (rEqOwn X.K C sp E) := by
  rintro pins s σ H x y v u Q I rx ry ⟨p, dx, fs, tb, rfl, hp, ty, hn, hsp⟩
  cases rx
  obtain ⟨mA, J, _⟩ := ins_get I.hok hp
  obtain ⟨od, J, _⟩ := J.look
  obtain ⟨m, hF⟩ := I.fr
  have hT : PySem.W.Looks (model X.prog X.w) s.heap (typeOf u) tb := by
    cases ty with
    | str z =>
      obtain ⟨t, q⟩ := (show ∃ t, u = Value.str z t from ry)
      cases q
      exact .now
    | @ins b C' dy gs e =>
      cases (show u = Value.ref b from ry)
      obtain ⟨mB, J', _⟩ := ins_get I.hok e
      obtain ⟨od', J', _⟩ := J'.look
      exact J'.type
  show wpAny (model X.prog X.w) X.A (richCompare .Eq (.ref p) u) (EP X pins σ Q) X.xe s
  refine PySem.W.cmp_K (op := .Eq) (tb := tb) hr.units0 hF I.ok.mod.kin J hT hn hs hf ?_
  refine wpAny_mono (run_fn F hr hb .nil hx I (show Vals [V.ref p, y] [Value.ref p, u] from .cons rfl (.cons ry .nil)) hsp) (fun w s' z => ?_) fun _ _ h => h
  obtain ⟨z, H', I', rz, ⟨b, ez⟩, q⟩ := z
  subst ez
  cases (show w = Value.bool b from rz)
  exact ⟨.bl b, H', I', rfl, q⟩

/-! ### moves as lists of lists, joined texts, naturality of moves -/
def HeldL (H : Hp) : List Addr → List Mv → Prop
  | [], [] => True
  | p :: ps, m :: ms => H p = some (.lst (strsV m.parts)) ∧ HeldL H ps ms
  | _, _ => False
theorem HeldL.len {H : Hp} : ∀ {ps : List Addr} {ms : List Mv}, HeldL H ps ms → ps.length = ms.length
  | [], [], _ => rfl
  | _ :: _, _ :: _, h => congrArg (· + 1) h.2.len
theorem HeldL.mono {H H' : Hp} : ∀ {ps : List Addr} {ms : List Mv}, (∀ p ∈ ps, ∀ m ∈ ms, H p = some (.lst (strsV m.parts)) → H' p = some (.lst (strsV m.parts))) → HeldL H ps ms → HeldL H' ps ms
  | [], [], _, _ => trivial
  | p :: ps, m :: ms, h, x => ⟨h p (List.mem_cons_self ..) m (List.mem_cons_self ..) x.1, HeldL.mono (fun q hq n hn => h q (List.mem_cons_of_mem _ hq) n (List.mem_cons_of_mem _ hn)) x.2⟩
theorem HeldL.same {H H' : Hp} {ps : List Addr} {ms : List Mv} (x : HeldL H ps ms) (h : Same H H') : HeldL H' ps ms := x.mono fun _ _ _ _ e => h _ _ e
theorem HeldL.butd {d : Addr} {H H' : Hp} {kvs : List (Key × V)} (x : But d H H') (hd : H d = some (.dK kvs)) {ps : List Addr} {ms : List Mv} (h : HeldL H ps ms) : HeldL H' ps ms :=
  h.mono fun _ _ _ _ e => x.list hd e
theorem HeldL.snoc {H : Hp} {p : Addr} {m : Mv} (e : H p = some (.lst (strsV m.parts))) : ∀ {ps : List Addr} {ms : List Mv}, HeldL H ps ms → HeldL H (ps ++ [p]) (ms ++ [m])
  | [], [], _ => ⟨e, trivial⟩
  | _ :: _, _ :: _, h => ⟨h.1, HeldL.snoc e h.2⟩
theorem HeldL.drop {H : Hp} : ∀ {ps : List Addr} {ms : List Mv} (k : Nat), HeldL H ps ms → HeldL H (ps.drop k) (ms.drop k)
  | [], [], k, _ => by simp [HeldL]
  | _ :: _, _ :: _, 0, h => h
  | _ :: _, _ :: _, k + 1, h => h.2.drop k
theorem HeldL.get {H : Hp} : ∀ {ps : List Addr} {ms : List Mv}, HeldL H ps ms → ∀ {i : Nat} {m : Mv}, ms[i]? = some m → ∃ p, ps[i]? = some p ∧ H p = some (.lst (strsV m.parts))
  | [], [], _, i, m, h => by simp at h
  | r :: rs, n :: ms, hh, 0, m, h => by
    cases h
    exact ⟨r, rfl, hh.1⟩
  | r :: rs, n :: ms, hh, i + 1, m, h => by
    obtain ⟨x, hx, hy⟩ := HeldL.get hh.2 (i := i) (m := m) (by simpa using h)
    exact ⟨x, by simpa using hx, hy⟩
def mvL (m : Mv) : PyData := .list (m.parts.map PyData.str)
theorem dp_mvl {K : PySem.W.Frag} {H : Hp} : ∀ {ps : List Addr} {ms : List Mv}, HeldL H ps ms → DpAll K H (ps.map V.ref) (ms.map mvL)
  | [], [], _ => .nil
  | _ :: _, _ :: _, h => .cons (.lst (SqL.at h.1) (dp_strs _)) (dp_mvl h.2)
theorem WordAt.butd {C d : Addr} {H H' : Hp} {kvs : List (Key × V)} (x : But d H H') (hd : H d = some (.dK kvs)) {p : Addr} {ms : List Mv} (h : WordAt C H p ms) : WordAt C H' p ms := by
  obtain ⟨dx, t, rs, z1, z2, z3⟩ := h
  exact ⟨dx, t, rs, x _ _ z1 (ne_of z1 hd (by intro z; cases z)), x.tup hd z2, Held.butd x hd z3⟩
theorem joinL_append {S : List Nat} : ∀ {P R : List (List Nat)}, P ≠ [] → R ≠ [] → TL.joinL S (P ++ R) = TL.joinL S P ++ (S ++ TL.joinL S R)
  | [], _, h, _ => absurd rfl h
  | [p], [], _, h => absurd rfl h
  | [p], q :: r, _, _ => rfl
  | p :: q :: r, R, _, hR => by
    show p ++ (S ++ TL.joinL S (q :: r ++ R)) = (p ++ (S ++ TL.joinL S (q :: r))) ++ _
    rw [joinL_append (by simp) hR]
    simp only [List.append_assoc]
theorem parts_ne (m : Mv) : m.parts ≠ [] := by cases m <;> simp [Mv.parts]
theorem joinL_wp (S t : List Nat) (et : TL.tl sThen = t) : ∀ ms : List Mv, TL.joinL (S ++ (t ++ S)) (ms.map fun m => TL.joinL S (m.parts.map TL.tl)) = TL.joinL S ((wp ms).map TL.tl)
  | [] => rfl
  | [m] => rfl
  | m :: n :: r => by
    have ih := joinL_wp S t et (n :: r)
    show TL.joinL S (m.parts.map TL.tl) ++ ((S ++ (t ++ S)) ++ TL.joinL (S ++ (t ++ S)) ((n :: r).map fun m => TL.joinL S (m.parts.map TL.tl))) = TL.joinL S ((m.parts ++ sThen :: wp (n :: r)).map TL.tl)
    rw [ih, List.map_append, List.map_cons, et]
    have hm : m.parts.map TL.tl ≠ [] := by
      intro z
      exact parts_ne m (List.map_eq_nil_iff.mp z)
    have hw : (wp (n :: r)).map TL.tl ≠ [] := by
      intro z
      exact wp_ne (ms := n :: r) (by simp) (List.map_eq_nil_iff.mp z)
    rw [joinL_append hm (by simp), show t :: (wp (n :: r)).map TL.tl = [t] ++ (wp (n :: r)).map TL.tl from rfl, joinL_append (by simp) hw]
    show _ ++ (S ++ (t ++ S) ++ _) = _ ++ (S ++ (t ++ (S ++ _)))
    simp only [List.append_assoc]
theorem join_wtext (ms : List Mv) : Txt.join " then " (ms.map fun m => Txt.join " " m.parts) = wtext ms := by
  refine TL.ext_tl ?_
  unfold wtext
  rw [TL.join_eq, TL.tl_join, TL.join_eq, TL.tl_join, List.map_map]
  have e := joinL_wp (TL.tl " ") (TL.tl sThen) rfl ms
  rw [← e]
  have e2 : TL.tl " then " = TL.tl " " ++ (TL.tl sThen ++ TL.tl " ") := by decide +kernel
  rw [e2]
  refine congrArg _ (List.map_congr_left fun m _ => ?_)
  show TL.tl (Txt.join " " m.parts) = _
  rw [TL.join_eq, TL.tl_join]
theorem wtext_one (m : Mv) : Txt.join " " m.parts = wtext [m] := rfl
theorem joinL_suff {S : List Nat} : ∀ {P : List (List Nat)} {q : List Nat} {r : List (List Nat)}, (TL.joinL S (q :: r)).length ≤ (TL.joinL S (P ++ q :: r)).length
  | [], q, r => Nat.le_refl _
  | p :: P, q, r => by
    have h := @joinL_suff S P q r
    have e : TL.joinL S (p :: P ++ q :: r) = TL.joinL S ([p] ++ (P ++ q :: r)) := rfl
    rw [e, joinL_append (by simp) (by simp), List.length_append, List.length_append]
    omega
theorem wtext_tail {m : Mv} {ms : List Mv} (h : ms ≠ []) : wtext (m :: ms) ≠ wtext ms := by
  cases ms with
  | nil => exact absurd rfl h
  | cons n r =>
    intro e
    have e1 := congrArg Str.length e
    unfold wtext at e1
    rw [TL.len_tl, TL.len_tl, TL.join_eq, TL.join_eq, TL.tl_join, TL.tl_join] at e1
    have hm : m.parts.map TL.tl ≠ [] := fun z => parts_ne m (List.map_eq_nil_iff.mp z)
    have hw : (wp (n :: r)).map TL.tl ≠ [] := fun z => wp_ne (ms := n :: r) (by simp) (List.map_eq_nil_iff.mp z)
    have e2 : (wp (m :: n :: r)).map TL.tl = m.parts.map TL.tl ++ (TL.tl sThen :: (wp (n :: r)).map TL.tl) := by
      show (m.parts ++ sThen :: wp (n :: r)).map TL.tl = _
      rw [List.map_append, List.map_cons]
    rw [e2, joinL_append hm (by simp), show TL.tl sThen :: (wp (n :: r)).map TL.tl = [TL.tl sThen] ++ (wp (n :: r)).map TL.tl from rfl, joinL_append (by simp) hw] at e1
    have e3 : (TL.tl " ").length = 1 := by decide +kernel
    simp only [List.length_append, e3] at e1
    omega
theorem ex_map (f : Int → Int) {xs : List Int} {x y : Nat} (hx : x < xs.length) (hy : y < xs.length) : exF (xs.map f) x y = (exF xs x y).map f := by
  have g : ∀ {i : Nat} (h : i < xs.length), (xs.map f).getD i 0 = f (xs.getD i 0) := fun {i} h => by
    rw [List.getD_eq_getElem?_getD, List.getD_eq_getElem?_getD, List.getElem?_map, List.getElem?_eq_getElem h]
    rfl
  unfold exF
  rw [g hx, g hy, List.map_set, List.map_set]
theorem ro_map (f : Int → Int) (xs : List Int) (x y : Nat) (c : Int) : roF (xs.map f) x y c = (roF xs x y c).map f := by
  unfold roF
  simp only [← List.map_drop, ← List.map_take, List.length_map, List.map_append]
theorem mv_map (f : Int → Int) (m : Mv) (xs : List Int) : mvF m (xs.map f) = (mvF m xs).map f := by
  cases m with
  | turn => exact List.map_reverse.symm
  | exch x y =>
    simp only [mvF, List.length_map]
    split
    · rename_i h
      simp only [inB, Bool.and_eq_true, decide_eq_true_eq] at h
      exact ex_map f (by omega) (by omega)
    · rfl
  | roll x y c =>
    simp only [mvF, List.length_map]
    split
    · exact ro_map f _ _ _ _
    · rfl
/-- the moves of a row are those of the plain row, picked -/
theorem mv_pick (m : Mv) (xs : List Int) : pickI xs (mvF m (ri xs.length)) = mvF m xs := by
  conv => rhs; rw [← pick_ri xs]
  unfold pickI
  rw [mv_map]
theorem all_perm : ∀ (ms : List Mv) (xs : List Int), (allF ms xs).Perm xs
  | [], xs => List.Perm.refl _
  | m :: r, xs => (all_perm r (mvF m xs)).trans (mv_perm m xs)
theorem all_snoc (ms : List Mv) (m : Mv) (xs : List Int) : allF (ms ++ [m]) xs = mvF m (allF ms xs) := by
  unfold allF
  rw [List.foldl_append]
  rfl
theorem all_row (ms : List Mv) (n : Nat) : IsRow (allF ms (ri n)) := isRow_of n (all_perm ms (ri n))
section
variable {P : Program} {w : World} {K : PySem.W.Frag} {mg : Str → Option Value} {base : Heap} {a : Ad}
theorem eq_texts {x y : Str} {H : Hp} {Q : VK} (k : Q (.bl (decide (x = y))) H) : rEq (.str x) (.str y) H Q := by
  refine ⟨rfl, ?_⟩
  have e : decide (V.str x = V.str y) = decide (x = y) := decide_eq_decide.mpr ⟨fun h => V.str.inj h, fun h => congrArg _ h⟩
  rw [e]
  exact k
def spWordEq (C : Addr) : Sp := fun vs H Q _ => ∃ (p : Addr) (ms : List Mv), WordAt C H p ms ∧ ((∃ (q : Addr) (ns : List Mv), vs = [.ref p, .ref q] ∧ WordAt C H q ns ∧ Q (.bl (decide (wtext ms = wtext ns))) H) ∨ (∃ s : Str, vs = [.ref p, .str s] ∧ Q (.bl false) H))
theorem ok_Word_eq (T : Tx w K mg a) : FnOk P w K mg base CX0 1 a.f_Word_eq a.d_Word_eq ["self", "other"] (spWordEq a.C_Word) := by
  refine T.F_Word_eq.ok sc_Word_eq (fun vs H Q E h => ?_) (fun cdv A outer s H vs Q E hr h => ?_)
  · obtain ⟨p, ms, _, h | h⟩ := h
    · obtain ⟨q, ns, rfl, _⟩ := h
      rfl
    · obtain ⟨s, rfl, _⟩ := h
      rfl
  · obtain ⟨p, ms, hp, h⟩ := h
    refine ⟨_, 
(pss_one (ps_ret (pe_and (pe_callB call_isi (by rfl) T.z_isinstance (by decide +kernel) (pa_cons (pv 1) (pa_cons (pe_glob (v := .ref a.C_Word) (by rfl) T.c_Word rfl) pa_nil))) (pe_one (pe_cmpR op_eq (pe_fld (pv 0) rfl) (pe_fld (pv 1) rfl) (nomark _)))))), ?_⟩
    obtain ⟨dx, t, rs, p1, p2, p3⟩ := hp
    rcases h with ⟨q, ns, rfl, hq, k⟩ | ⟨s, rfl, k⟩
    · obtain ⟨dy, u, rq, q1, q2, q3⟩ := hq
      refine ⟨.ref q, rfl, ?_⟩
      refine ⟨.ref q, .ref a.C_Word, .ref a.C_Word, .ref a.C_Word, true, rfl, .own _, .base (.ins q1 T.cl_Word T.ow_Word.cls T.ow_Word.get T.ow_Word.tak T.ow_Word.mro), ?_, ?_⟩
      · unfold PySem.W.kitOne
        rw [if_pos (by simp)]
      exact ⟨true, rfl, .ref p, rfl, p, a.C_Word, dx, _, _, rfl, p1, T.cl_Word, T.n_Word_text, flW_text _ _, .ref q, rfl, q, a.C_Word, dy, _, _, rfl, q1, T.cl_Word, T.n_Word_text, flW_text _ _, eq_texts k⟩
    · refine ⟨.str s, rfl, ?_⟩
      refine ⟨.str s, .ref a.C_Word, .type "str", .ref a.C_Word, false, rfl, .own _, .base (.str _), T.ow_Word.kit, ?_⟩
      exact ⟨false, rfl, k⟩
end

/-- join, its reading with K by name (in a comprehension) -/
def rJoinK (K : PySem.W.Frag) : V → List V → Hp → VK → Prop := fun x xs H Q => ∃ a p, ∃ ys : List Str, x = .str a ∧ xs = [.ref p] ∧ (SqL K H p (ys.map V.str) ∨ SqT K H p (ys.map V.str)) ∧ (ys.map (·.length)).sum + ys.length * a.length ≤ 16777216 ∧ Q (.str (Txt.join a ys)) H
theorem pe_joinK {X : Cx} {K : PySem.W.Frag} {o e : Expr} {to te : TE} {apos pos : Pos} (hK : X.K = K) (ho : PE X o to) (he : PE X e te) (hs : starEach [e] X.env = [(false, eval e X.env)] := by rfl) (hbase : attributeBase o "join" X.env (eval o X.env) = eval o X.env := by rfl) (hline : (apos.endLine == pos.line) = true := by rfl) :
    PE X (.Call (.Attribute o "join" apos) [e] [] pos) (tM1 (rJoinK K) to te) := by
  subst hK
  exact pe_join ho he hs hbase hline
/-- tuple(x), its reading with K by name -/
def rTupOf (K : PySem.W.Frag) : List V → Hp → VK → Prop := fun xs H Q => ∃ p ys, xs = [V.ref p] ∧ ((SqL K H p ys ∧ ∀ (l : Addr), H l = none → Q (V.ref l) (upd H l (HO.tup ys))) ∨ SqT K H p ys ∧ Q (V.ref p) H)
theorem call_tuple_ofK {X : Cx} {K : PySem.W.Frag} (hK : X.K = K) : CallR X (.type "tuple") (rTupOf K) := by
  subst hK
  exact call_tuple_of
/-- list(x), its reading with K by name -/
def rListOf (K : PySem.W.Frag) : List V → Hp → VK → Prop := fun xs H Q => ∃ p ys, xs = [V.ref p] ∧ (SqL K H p ys ∨ SqT K H p ys) ∧ ∀ (l : Addr), H l = none → Q (V.ref l) (upd H l (HO.lst ys))
theorem call_list_ofK {X : Cx} {K : PySem.W.Frag} (hK : X.K = K) : CallR X (.type "list") (rListOf K) := by
  subst hK
  exact call_list_of
/-- len(x), its reading with K by name -/
def rLenS (K : PySem.W.Frag) : List V → Hp → VK → Prop := fun xs H Q => ∃ p ys, xs = [V.ref p] ∧ (SqL K H p ys ∨ SqT K H p ys) ∧ Q (.int ys.length) H
theorem call_len_seqK {X : Cx} {K : PySem.W.Frag} (hK : X.K = K) : CallR X (.builtin "len") (rLenS K) := by
  subst hK
  exact call_len_seq

section
variable {P : Program} {w : World} {K : PySem.W.Frag} {mg : Str → Option Value} {base : Heap} {a : Ad}
theorem But.free {d c o : Addr} {n : Nat} {H H' : Hp} (b : But d H H') (hp : Pen H' d c n) (no : H' o = none) : H o = none := by
  obtain ⟨kvs, hd⟩ := hp.dict
  cases hH : H o with
  | none => rfl
  | some u =>
    by_cases hod : o = d
    · subst hod
      rw [hd] at no
      cases no
    · rw [b o u hH hod] at no
      cases no
theorem shaped_mvl {m : Mv} (h : m.ok) : SeqAt.shaped (mvL m) = true := by
  unfold SeqAt.shaped
  rw [Bool.and_eq_true, decide_eq_true_eq]
  refine ⟨by unfold mvL; rw [PyData.canLay0]; exact lay_strs fun z hz => (Mv.str_ok h z hz).1, ?_⟩
  have := deep_strs m.parts
  unfold mvL
  rw [PyData.depth]
  omega
theorem shaped_mvls {ms : List Mv} (h : ∀ m ∈ ms, m.ok) : SeqAt.shaped (.list (ms.map mvL)) = true ∧ SeqAt.shaped (.tuple (ms.map mvL)) = true := by
  have hl : PyData.canLayAll0 (ms.map mvL) = true := by
    induction ms with
    | nil => simp [PyData.canLayAll0]
    | cons m r ih =>
      simp only [List.map_cons, PyData.canLayAll0, Bool.and_eq_true]
      exact ⟨by unfold mvL; rw [PyData.canLay0]; exact lay_strs fun z hz => (Mv.str_ok (h m (List.mem_cons_self ..)) z hz).1, ih fun y hy => h y (List.mem_cons_of_mem _ hy)⟩
  have hd : PyData.depthAll (ms.map mvL) ≤ 2 := by
    clear h hl
    induction ms with
    | nil => simp [PyData.depthAll]
    | cons m r ih =>
      have := deep_strs m.parts
      simp only [List.map_cons, PyData.depthAll, mvL, PyData.depth]
      omega
  unfold SeqAt.shaped
  simp only [Bool.and_eq_true, decide_eq_true_eq]
  refine ⟨⟨by rw [PyData.canLay0]; exact hl, ?_⟩, by rw [PyData.canLay0]; exact hl, ?_⟩
  · rw [PyData.depth]
    omega
  · rw [PyData.depth]
    omega
theorem oneTurn_snoc {ms : List Mv} {m : Mv} (h : oneTurn ms) (hm : Mv.turn ∈ ms → m ≠ .turn) : oneTurn (ms ++ [m]) := by
  intro pre x post e ex
  rcases List.eq_nil_or_concat post with rfl | ⟨L, y, rfl⟩
  · have e2 := List.append_inj' e rfl
    obtain ⟨rfl, e3⟩ := e2
    cases e3
    exact fun z => hm z ex
  · have e1 : ms ++ [m] = (pre ++ x :: L) ++ [y] := by rw [e]; simp
    have e2 := List.append_inj' e1 rfl
    exact h pre x L e2.1 ex
theorem any_mvl (m : Mv) (ms : List Mv) : ((ms.map mvL).any fun z => PyData.eqv z (mvL m)) = decide (m ∈ ms) := by
  induction ms with
  | nil => simp
  | cons n r ih =>
    rw [List.map_cons, List.any_cons, ih]
    have e : PyData.eqv (mvL n) (mvL m) = decide (n = m) := by
      unfold mvL
      rw [PyData.eqv, eqv_all_strs]
      exact decide_eq_decide.mpr Mv.inj
    rw [e]
    by_cases h1 : n = m <;> by_cases h2 : m ∈ r <;> simp [h1, h2, eq_comm]
    exact fun z => absurd z.symm h1
def spLawMoves : Sp := fun vs H Q _ => ∃ (d c : Addr) (n : Nat), vs = [.ref d] ∧ Pen H d c n ∧ n + 200 < 2 ^ 40 ∧
  ∀ o ps ms H', WordOk ms → H o = none → H' o = some (.lst (ps.map V.ref)) → HeldL H' ps ms → (∀ p ∈ ps, H p = none) → Pen H' d c (n + 100) → But d H H' → Q (.ref o) H'
theorem ok__law_moves (T : Tx w K mg a) : FnOk P w K mg base CX0 4 a.f__law_moves a.d__law_moves ["pen"] spLawMoves := by
  refine T.F__law_moves.ok sc__law_moves (fun vs H Q E h => ?_) (fun cdv A outer s H vs Q E hr h => ?_)
  · obtain ⟨d, c, n, rfl, _⟩ := h
    rfl
  · obtain ⟨d, c, n, rfl, hp, hn, q⟩ := h
    refine ⟨_, 
(pss_cons (ps_set (i := 1) sc__law_moves.nd rfl (.inl rfl) (pe_lst pa_nil))
  (pss_cons (ps_for PassesOwn.never rfl (pi_range1 (by rfl) T.z_range (pa_cons (pe_op op_add pe_int (pe_call (ok__law_draw T) (hr.mono (by decide)) (by rfl) T.m__law_draw T.F__law_draw.kp T.b__law_draw .nil pass0 (pa_cons (pv 0) (pa_cons pe_int pa_nil)))) pa_nil)) (pg_name (i := 2) sc__law_moves.nd rfl (.inl rfl))
  (pss_one (ps_expr (pe_bm PySem.F.plainAttrs_list PySem.F.slot_list_append PySem.F.type_list_append mt_append (pv 1) (pa_cons (pe_call (ok__law_move T) hr (by rfl) T.m__law_move T.F__law_move.kp T.b__law_move .nil pass0 (pa_cons (pv 0) (pa_cons (pe_cmpR (op_inD (room65 hr)) (pe_lst (pa_cons pe_str pa_nil)) (pv 1) (by rfl)) pa_nil))) pa_nil)))))
  (pss_one (ps_ret (pv 1))))), ?_⟩
    refine ⟨sz (show 0 ≤ 100000 by decide), fun o no => ?_⟩
    have s1 := same_upd (o := .lst []) no
    refine ⟨.ref d, rfl, d, c, n, 4, rfl, hp.same s1, by omega, by decide, by decide, fun v H2 v0 v1 hp2 b2 => ?_⟩
    have do' : d ≠ o := by
      obtain ⟨kvs, hd⟩ := hp.dict
      exact ne_of_none hd no
    have co : c ≠ o := by
      obtain ⟨u, hc⟩ := hp.cells
      exact ne_of_none hc no
    have b02 : But d H H2 := (but_same s1).trans b2
    have ho2 : H2 o = some (.lst (([] : List Addr).map V.ref)) := by
      obtain ⟨kvs, hd⟩ := (hp.same s1).dict
      exact b2.list hd upd_same
    refine ⟨1, v, rfl, rfl, _, rfl, by omega, by omega, ?_⟩
    refine for_range (lo := 0) (n := (1 + v).toNat) (fun i σ H3 => ∃ (ps : List Addr) (ms : List Mv) (y : Option V), σ = [some (.ref d), some (.ref o), y] ∧ ms.length = i ∧ (∀ m ∈ ms, m.ok) ∧ oneTurn ms ∧ H3 o = some (.lst (ps.map V.ref)) ∧ HeldL H3 ps ms ∧ (∀ p ∈ ps, H p = none ∧ p ≠ o) ∧ Pen H3 d c (n + 1 + 20 * i) ∧ But d H H3) ?_ ?_ ?_
    · exact ⟨[], [], none, rfl, rfl, fun m h => (by cases h), fun pre m post e => by simp at e, ho2, trivial, fun p h => (by cases h), hp2, b02⟩
    rotate_left
    · rintro σ H3 ⟨ps, ms, y, rfl, hl, hok, h1, ho3, hh, hps, hp3, b3⟩
      have hl2 : 1 ≤ ms.length ∧ ms.length ≤ 4 := by omega
      refine ⟨.ref o, rfl, ?_⟩
      exact q o ps ms H3 ⟨fun e => (by rw [e] at hl2; simp at hl2), hl2.2, hok, h1⟩ no ho3 hh (fun p hp => (hps p hp).1) (hp3.up (by omega)) b3
    rintro i σ H3 hi ⟨ps, ms, y, rfl, hl, hok, h1, ho3, hh, hps, hp3, b3⟩
    have hi4 : i < 4 := by omega
    have hpl := hh.len
    -- found.append(_law_move(pen, ['turn'] in found))
    refine ⟨.ref o, rfl, ?_⟩
    refine ⟨.inl ⟨rfl, _, SqL.at ho3⟩, .ref d, rfl, sz (show 1 ≤ 100000 by decide), fun l nl => ?_⟩
    have s4 := same_upd (o := .lst [V.str "turn"]) nl
    have ho4 := s4 _ _ ho3
    have hh4 := hh.same s4
    have hp4 := hp3.same s4
    have hl4 : (upd H3 l (.lst [V.str "turn"])) l = some (.lst [V.str "turn"]) := upd_same
    generalize upd H3 l (.lst [V.str "turn"]) = H4 at s4 ho4 hh4 hp4 hl4 ⊢
    refine ⟨.ref o, rfl, mvL .turn, ms.map mvL, .lst (SqL.at hl4) (dp_strs ["turn"]), .lst (SqL.at ho4) (dp_mvl hh4), shaped_mvl trivial, (shaped_mvls hok).1, ?_⟩
    rw [any_mvl]
    refine ⟨d, c, n + 1 + 20 * i, decide (Mv.turn ∈ ms), rfl, hp4, by omega, fun p m H5 hm ht np hp5' hp5 b5 => ?_⟩
    obtain ⟨kvs, hd4⟩ := hp4.dict
    have b35 : But d H3 H5 := (but_same s4).trans b5
    have np3 : H3 p = none := s4.free np
    have nH : H p = none := b3.free hp3 np3
    have npo : p ≠ o := (ne_of_none ho3 np3).symm
    have ho5 := b5.list hd4 ho4
    have hh5 := HeldL.butd b5 hd4 hh4
    refine ⟨o, _, _, rfl, rfl, ho5, szlt (by rw [List.length_map]; omega), ?_⟩
    refine ⟨ps ++ [p], ms ++ [m], _, rfl, by rw [List.length_append, hl]; rfl, ?_, oneTurn_snoc h1 fun hz => ht (decide_eq_true hz), ?_, ?_, ?_, (hp5.mut do' co).up (by omega), (b3.trans b35).mut no⟩
    · intro x hx
      rcases List.mem_append.mp hx with h | h
      · exact hok x h
      · rw [List.mem_singleton.mp h]
        exact hm
    · rw [upd_same, List.map_append]
      rfl
    · refine HeldL.snoc ?_ (HeldL.mono (fun q hq x hx e => ?_) hh5)
      · rw [upd_ne npo]
        exact hp5'
      · rw [upd_ne (hps q hq).2]
        exact e
    · intro x hx
      rcases List.mem_append.mp hx with h | h
      · exact hps x h
      · rw [List.mem_singleton.mp h]
        exact ⟨nH, npo⟩
theorem tparts_len {m : Mv} (h : m.ok) : ((m.parts).map (·.length)).sum + m.parts.length * (Str.ofString " ").length ≤ 16777216 := by
  have h1 := sum_le (zs := m.parts) fun z hz => (Mv.str_ok h z hz).2.1
  have h2 : m.parts.length ≤ 4 := by cases m <;> simp [Mv.parts]
  have h3 : (Str.ofString " ").length = 1 := by decide +kernel
  rw [h3]
  omega
theorem sum_leB {B : Nat} : ∀ {zs : List Str}, (∀ z ∈ zs, z.length ≤ B) → (zs.map (·.length)).sum ≤ zs.length * B
  | [], _ => by simp
  | z :: r, h => by
    have h1 := h z (List.mem_cons_self ..)
    have h2 := sum_leB (zs := r) fun y hy => h y (List.mem_cons_of_mem _ hy)
    rw [List.map_cons, List.sum_cons, List.length_cons, Nat.add_mul]
    omega
def spWordText (K : PySem.W.Frag) : Sp := fun vs H Q _ => ∃ (o : Addr) (ps : List Addr) (ms : List Mv), vs = [.ref o] ∧ SqL K H o (ps.map V.ref) ∧ HeldL H ps ms ∧ ms.length ≤ 4 ∧ (∀ m ∈ ms, m.ok) ∧ ∀ H', Same H H' → Q (.str (wtext ms)) H'
theorem ok__law_word_text (T : Tx w K mg a) : FnOk P w K mg base CX0 1 a.f__law_word_text a.d__law_word_text ["moves"] (spWordText K) := by
  refine T.F__law_word_text.ok sc__law_word_text (fun vs H Q E h => ?_) (fun cdv A outer s H vs Q E hr h => ?_)
  · obtain ⟨o, ps, ms, rfl, _⟩ := h
    rfl
  · obtain ⟨o, ps, ms, rfl, hO, hh, hl, hok, q⟩ := h
    refine ⟨_, 
(pss_one (ps_ret (pe_join pe_str (pe_lc (own := [("move", 1)]) (g := gName 1) rfl sc__law_word_text.nd (pi_list (pv 0)) (blkOk_by (own := [("move", 1)]) (N := ["moves", "move"]) (sc := defScope s__law_word_text) (by decide +kernel)) (fun _ _ _ _ _ => pg_name (i := 1) sc__law_word_text.nd rfl (Or.inl rfl)) (fun _ _ _ _ _ => pts_nil) (fun _ _ _ _ _ => (pe_joinK (K := K) rfl pe_str (pv 1))))))), ?_⟩
    refine ⟨⟨_, rfl⟩, .ref o, rfl, o, rfl, ⟨_, hO⟩, fun o5 no5 => ?_⟩
    have hpl := hh.len
    refine lc_it (walk_list (xs := ps.map V.ref)) (fun l H' => Same H H' ∧ H' o5 = some (.lst (((ms.take l).map fun m => Txt.join " " m.parts).map V.str))) ?c0 ?cG ?cs ?cd
    case c0 => exact ⟨same_upd no5, upd_same⟩
    case cG =>
      rintro l H' _ ⟨sm, _⟩
      exact sm.seq hO
    case cs =>
      rintro l y H3' H4'' hlt ⟨sm, e⟩ ⟨rfl, ex⟩
      rw [List.length_map, hpl] at hlt
      obtain ⟨p, hp, ep⟩ := hh.get (List.getElem?_eq_getElem hlt)
      rw [List.getElem?_map, hp] at ex
      cases ex
      refine ⟨rfl, ⟨_, rfl⟩, .ref p, rfl, " ", p, ms[l].parts, rfl, rfl, .inl (SqL.at (sm _ _ ep)), tparts_len (hok _ (List.getElem_mem hlt)), ?_⟩
      refine ⟨_, e, ?_, keep_upd sm no5, ?_⟩
      · rw [List.length_map, List.length_map, List.length_take]
        exact szlt (by omega)
      · rw [upd_same, List.take_add_one, List.getElem?_eq_getElem hlt, List.map_append, List.map_append]
        rfl
    rintro H19 ⟨s19, e19⟩
    rw [List.length_map, hpl, List.take_length] at e19
    refine ⟨" then ", o5, ms.map fun m => Txt.join " " m.parts, rfl, rfl, .inl (SqL.at e19), ?_, ?_⟩
    · have hb : ∀ z ∈ ms.map fun m => Txt.join " " m.parts, z.length ≤ 404 := by
        intro z hz
        obtain ⟨m, hm, rfl⟩ := List.mem_map.mp hz
        have h1 := join_len (zs := m.parts) fun z hz => (Mv.str_ok (hok m hm) z hz).2.1
        have h2 : m.parts.length ≤ 4 := by cases m <;> simp [Mv.parts]
        omega
      have h1 := sum_leB hb
      have h2 : (Str.ofString " then ").length = 6 := by decide +kernel
      rw [h2]
      rw [List.length_map] at h1 ⊢
      omega
    · rw [join_wtext]
      exact q _ s19
end

def sTTE : Str := "to the end"
def exB (z : Str) : List Str := if z = sTTE then ["to", "the", "end"] else [z]
/-- the parts that a joined text has when it is parted again -/
def normE (fs : List Str) : List Str := if fs = [] then [sNoP] else fs.flatMap exB
theorem exB_ne (z : Str) : exB z ≠ [] := by
  unfold exB
  split <;> simp
theorem exB_join (z : Str) : TL.joinL (TL.tl " ") ((exB z).map TL.tl) = TL.tl z := by
  unfold exB
  split
  · rename_i h
    subst h
    decide +kernel
  · rfl
theorem flat_ne {fs : List Str} (h : fs ≠ []) : fs.flatMap exB ≠ [] := by
  cases fs with
  | nil => exact absurd rfl h
  | cons z r =>
    rw [List.flatMap_cons]
    intro e
    exact exB_ne z (List.append_eq_nil_iff.mp e).1
theorem flat_join : ∀ {fs : List Str}, fs ≠ [] → TL.joinL (TL.tl " ") (fs.map TL.tl) = TL.joinL (TL.tl " ") ((fs.flatMap exB).map TL.tl)
  | [], h => absurd rfl h
  | [z], _ => by
    rw [List.flatMap_cons, List.flatMap_nil, List.append_nil, exB_join]
    rfl
  | z :: q :: r, _ => by
    have ih := flat_join (fs := q :: r) (by simp)
    rw [List.flatMap_cons, List.map_append, joinL_append (fun e => exB_ne z (List.map_eq_nil_iff.mp e)) (fun e => flat_ne (fs := q :: r) (by simp) (List.map_eq_nil_iff.mp e)), exB_join, ← ih]
    rfl
theorem norm_join (fs : List Str) : Txt.join " " fs = Txt.join " " (normE fs) := by
  unfold normE
  by_cases h : fs = []
  · rw [if_pos h, h]
    decide +kernel
  · rw [if_neg h]
    refine TL.ext_tl ?_
    rw [TL.join_eq, TL.tl_join, TL.join_eq, TL.tl_join]
    exact flat_join h
theorem norm_ne (fs : List Str) : normE fs ≠ [] := by
  unfold normE
  by_cases h : fs = []
  · rw [if_pos h]
    simp
  · rw [if_neg h]
    exact flat_ne h
theorem norm_FS {fs : List Str} (h : ∀ z ∈ fs, z ∈ FS ∨ z = sTTE) : ∀ z ∈ normE fs, z ∈ FS := by
  have k0 : sNoP ∈ FS := by decide +kernel
  have k1 : ∀ z ∈ ([("to" : Str), "the", "end"] : List Str), z ∈ FS := by decide +kernel
  intro z hz
  unfold normE at hz
  by_cases e : fs = []
  · rw [if_pos e, List.mem_singleton] at hz
    rw [hz]
    exact k0
  · rw [if_neg e, List.mem_flatMap] at hz
    obtain ⟨y, hy, hzy⟩ := hz
    unfold exB at hzy
    by_cases ht : y = sTTE
    · rw [if_pos ht] at hzy
      exact k1 z hzy
    · rw [if_neg ht, List.mem_singleton] at hzy
      rw [hzy]
      exact (h y hy).resolve_right ht
theorem norm_len (fs : List Str) : (normE fs).length ≤ 3 * fs.length + 1 := by
  unfold normE
  by_cases e : fs = []
  · rw [if_pos e]
    simp
  · rw [if_neg e]
    clear e
    induction fs with
    | nil => simp
    | cons z r ih =>
      have : (exB z).length ≤ 3 := by
        unfold exB
        split <;> simp
      rw [List.flatMap_cons, List.length_append, List.length_cons]
      omega
theorem split_FS {ps : List Str} (hne : ps ≠ []) (h : ∀ z ∈ ps, z ∈ FS) : Txt.split (Txt.join " " ps) " " = ps := by
  refine TL.split_join (s := 32) (S := []) (by decide +kernel) (by decide +kernel) hne fun z hz => ?_
  exact (FS_chk (h z hz)).2.2.2.2
theorem FS_len {z : Str} (h : z ∈ FS ∨ z = sTTE) : z.length ≤ 100 := by
  rcases h with h | h
  · exact (FS_chk h).2.2.1
  · rw [h]
    decide +kernel
theorem join_size {zs : List Str} (h : ∀ z ∈ zs, z.length ≤ 100) (hl : zs.length ≤ 800) : (zs.map (·.length)).sum + zs.length * (Str.ofString " ").length ≤ 16777216 := by
  have h1 := sum_le h
  have h3 : (Str.ofString " ").length = 1 := by decide +kernel
  rw [h3]
  omega
theorem seqIxW {v : Int} {n : Nat} (h0 : 0 ≤ v) (h1 : v < n) : seqIndex? v n = some v.toNat := by
  unfold seqIndex?
  have e : ¬ v < 0 := by omega
  simp only [e, if_false]
  simp [h0, h1]
theorem erase_strs : ∀ (zs : List Str) (k : Nat), (zs.map V.str).eraseIdx k = (zs.eraseIdx k).map V.str
  | [], _ => rfl
  | _ :: _, 0 => rfl
  | z :: r, k + 1 => by
    show V.str z :: (r.map V.str).eraseIdx k = V.str z :: (r.eraseIdx k).map V.str
    rw [erase_strs r k]
def menu1 : List Str := (["then", "turn", "exchange", "roll", "same", "along", "list", "to", "the", "end", "", "10"] : List String).map Str.ofString
def menu2 : List Str := (["-0", "00", "+1", "half+0", "half-10", "Turn", "to the end", "1", "half", "then", "turn", "5", "-10"] : List String).map Str.ofString
theorem menu_FS : ∀ z ∈ places ++ menu1 ++ menu2, z ∈ FS ∨ z = sTTE := by decide +kernel
section
variable {P : Program} {w : World} {K : PySem.W.Frag} {mg : Str → Option Value} {base : Heap} {a : Ad}
def spSpoiled (K : PySem.W.Frag) : Sp := fun vs H Q _ => ∃ (d c p : Addr) (n : Nat) (ps : List Str), vs = [.ref d, .ref p] ∧ Pen H d c n ∧ n + 10 < 2 ^ 40 ∧ H p = some (.lst (ps.map V.str)) ∧ ps ≠ [] ∧ ps.length ≤ 100 ∧ (∀ z ∈ ps, z ∈ FS) ∧
  ∀ o qs H', H o = none → H' o = some (.lst (qs.map V.str)) → qs ≠ [] → (∀ z ∈ qs, z ∈ FS) → qs.length ≤ 3 * (ps.length + 1) + 1 → Pen H' d c (n + 10) → But d H H' → Q (.ref o) H'
theorem ok__law_spoiled (T : Tx w K mg a) : FnOk P w K mg base CX0 3 a.f__law_spoiled a.d__law_spoiled ["pen", "parts"] (spSpoiled K) := by
  refine T.F__law_spoiled.ok sc__law_spoiled (fun vs H Q E h => ?_) (fun cdv A outer s H vs Q E hr h => ?_)
  · obtain ⟨d, c, p, n, ps, rfl, _⟩ := h
    rfl
  · obtain ⟨d, c, p, n, ps, rfl, hp, hn, eP, hne, hl, hF, q⟩ := h
    refine ⟨_, 
(pss_cons (ps_set (i := 2) sc__law_spoiled.nd rfl (.inl rfl) (pe_op op_cat (pe_call0 (ok__law_places T) hr (by rfl) T.m__law_places T.F__law_places.kp T.b__law_places .nil pass0) (pe_lst (pa_cons pe_str (pa_cons pe_str (pa_cons pe_str (pa_cons pe_str (pa_cons pe_str (pa_cons pe_str (pa_cons pe_str (pa_cons pe_str (pa_cons pe_str (pa_cons pe_str (pa_cons pe_str (pa_cons pe_str pa_nil)))))))))))))))
  (pss_cons (ps_set (i := 2) sc__law_spoiled.nd rfl (.inl rfl) (pe_op op_cat (pv 2) (pe_lst (pa_cons pe_str (pa_cons pe_str (pa_cons pe_str (pa_cons pe_str (pa_cons pe_str (pa_cons pe_str (pa_cons pe_str (pa_cons pe_str (pa_cons pe_str (pa_cons pe_str (pa_cons pe_str (pa_cons pe_str (pa_cons pe_str pa_nil))))))))))))))))
  (pss_cons (ps_par3 (i := 3) (j := 4) (l := 5) (by rfl) sc__law_spoiled.nd rfl rfl rfl (by decide) (by decide) (by decide) rfl rfl rfl (pa_cons (pe_callTy call_list_of (by rfl) T.z_list (by decide +kernel) (pa_cons (pv 1) pa_nil)) (pa_cons (pe_call (ok__law_draw T) (hr.mono (by decide)) (by rfl) T.m__law_draw T.F__law_draw.kp T.b__law_draw .nil pass0 (pa_cons (pv 0) (pa_cons (pe_callB call_len_seq (by rfl) T.z_len PySem.boot_len (pa_cons (pv 1) pa_nil)) pa_nil))) (pa_cons (pe_call (ok__law_draw T) (hr.mono (by decide)) (by rfl) T.m__law_draw T.F__law_draw.kp T.b__law_draw .nil pass0 (pa_cons (pv 0) (pa_cons pe_int pa_nil))) pa_nil))) (by rfl))
  (C8.pss_cut (ps_if (pt_cmpR op_eq (pv 5) pe_int (nomark _))
  (pss_one (ps_expr (pe_bm PySem.F.plainAttrs_list PySem.F.slot_list_pop PySem.F.type_list_pop mt_popAt (pv 3) (pa_cons (pv 4) pa_nil))))
  (pss_one (ps_if (pt_cmpR op_eq (pv 5) pe_int (nomark _))
  (pss_one (ps_expr (pe_bm PySem.F.plainAttrs_list PySem.F.slot_list_insert PySem.F.type_list_insert mt_insert (pv 3) (pa_cons (pv 4) (pa_cons (pe_call (ok__law_pick T) hr (by rfl) T.m__law_pick T.F__law_pick.kp T.b__law_pick .nil pass0 (pa_cons (pv 0) (pa_cons (pv 2) pa_nil))) pa_nil)))))
  (pss_one (ps_if (pt_cmpR op_eq (pv 5) pe_int (nomark _))
  (pss_one (ps_expr (pe_bm PySem.F.plainAttrs_list PySem.F.slot_list_insert PySem.F.type_list_insert mt_insert (pv 3) (pa_cons (pv 4) (pa_cons (pe_ix ix_list (pv 3) (pv 4) (fun _ _ => rfl)) pa_nil)))))
  (pss_one (ps_if (pt_cmpR op_eq (pv 5) pe_int (nomark _))
  (pss_one (ps_expr (pe_bm PySem.F.plainAttrs_list PySem.F.slot_list_append PySem.F.type_list_append mt_append (pv 3) (pa_cons (pe_call (ok__law_pick T) hr (by rfl) T.m__law_pick T.F__law_pick.kp T.b__law_pick .nil pass0 (pa_cons (pv 0) (pa_cons (pv 2) pa_nil))) pa_nil))))
  (pss_one (ps_asg (pe_call (ok__law_pick T) hr (by rfl) T.m__law_pick T.F__law_pick.kp T.b__law_pick .nil pass0 (pa_cons (pv 0) (pa_cons (pv 2) pa_nil))) (pg_sub (pv 3) (pv 4) set_list))))))))))
  (pss_one (ps_ret (pe_split (pe_join pe_str (pv 3)) pe_str))))))), ?_⟩
    -- menu = _law_places() + [..]; menu = menu + [..]
    refine ⟨rfl, fun o1 H1 no1 e1 s1 => ⟨sz (show 12 ≤ 100000 by decide), fun o2 no2 => ?_⟩⟩
    have u2 := same_upd (o := .lst [V.str "then", V.str "turn", V.str "exchange", V.str "roll", V.str "same", V.str "along", V.str "list", V.str "to", V.str "the", V.str "end", V.str "", V.str "10"]) no2
    have e2 : (upd H1 o2 (.lst [V.str "then", V.str "turn", V.str "exchange", V.str "roll", V.str "same", V.str "along", V.str "list", V.str "to", V.str "the", V.str "end", V.str "", V.str "10"])) o2 = some (.lst (menu1.map V.str)) := upd_same
    generalize upd H1 o2 (.lst [V.str "then", V.str "turn", V.str "exchange", V.str "roll", V.str "same", V.str "along", V.str "list", V.str "to", V.str "the", V.str "end", V.str "", V.str "10"]) = H2 at u2 e2 ⊢
    refine ⟨o1, o2, _, menu1.map V.str, rfl, rfl, u2 _ _ e1, e2, sz (by rw [List.length_map, List.length_map]; decide), fun o3 no3 => ?_⟩
    have u3 := same_upd (o := .lst (places.map V.str ++ menu1.map V.str)) no3
    have e3 : (upd H2 o3 (.lst (places.map V.str ++ menu1.map V.str))) o3 = some (.lst (places.map V.str ++ menu1.map V.str)) := upd_same
    have s13 := s1.trans (u2.trans u3)
    generalize upd H2 o3 (.lst (places.map V.str ++ menu1.map V.str)) = H3 at u3 e3 s13 ⊢
    refine ⟨_, rfl, sz (show 13 ≤ 100000 by decide), fun o4 no4 => ?_⟩
    have u4 := same_upd (o := .lst [V.str "-0", V.str "00", V.str "+1", V.str "half+0", V.str "half-10", V.str "Turn", V.str "to the end", V.str "1", V.str "half", V.str "then", V.str "turn", V.str "5", V.str "-10"]) no4
    have e4 : (upd H3 o4 (.lst [V.str "-0", V.str "00", V.str "+1", V.str "half+0", V.str "half-10", V.str "Turn", V.str "to the end", V.str "1", V.str "half", V.str "then", V.str "turn", V.str "5", V.str "-10"])) o4 = some (.lst (menu2.map V.str)) := upd_same
    generalize upd H3 o4 (.lst [V.str "-0", V.str "00", V.str "+1", V.str "half+0", V.str "half-10", V.str "Turn", V.str "to the end", V.str "1", V.str "half", V.str "then", V.str "turn", V.str "5", V.str "-10"]) = H4 at u4 e4 ⊢
    refine ⟨o3, o4, _, menu2.map V.str, rfl, rfl, u4 _ _ e3, e4, sz (by rw [List.length_append, List.length_map, List.length_map, List.length_map]; decide), fun mn nmn => ?_⟩
    rw [← List.map_append, ← List.map_append]
    have u5 := same_upd (o := .lst ((places ++ menu1 ++ menu2).map V.str)) nmn
    have em : (upd H4 mn (.lst ((places ++ menu1 ++ menu2).map V.str))) mn = some (.lst ((places ++ menu1 ++ menu2).map V.str)) := upd_same
    have s15 := s13.trans (u4.trans u5)
    generalize upd H4 mn (.lst ((places ++ menu1 ++ menu2).map V.str)) = H5 at em s15 ⊢
    have eP5 := s15 _ _ eP
    have hml : ((places ++ menu1 ++ menu2).map V.str).length ≤ 100 ∧ 0 < ((places ++ menu1 ++ menu2).map V.str).length := by
      rw [List.length_map]
      decide
    have hmem : ∀ y ∈ (places ++ menu1 ++ menu2).map V.str, ∃ z, y = .str z ∧ (z ∈ FS ∨ z = sTTE) := fun y hy => by
      obtain ⟨z, hz, rfl⟩ := List.mem_map.mp hy
      exact ⟨z, rfl, menu_FS z hz⟩
    generalize (places ++ menu1 ++ menu2).map V.str = MN at em hml hmem
    have hpl : (ps.map V.str).length = ps.length := List.length_map ..
    have h0 : 0 < ps.length := List.length_pos_iff.mpr hne
    -- found, at, way = list(parts), _law_draw(pen, len(parts)), _law_draw(pen, 5)
    refine ⟨_, rfl, p, _, rfl, .inl (SqL.at eP5), fun f nf => ?_⟩
    have u6 := same_upd (o := .lst (ps.map V.str)) nf
    have ef : (upd H5 f (.lst (ps.map V.str))) f = some (.lst (ps.map V.str)) := upd_same
    have nf0 : H f = none := s15.free nf
    have s6 := s15.trans u6
    have em6 := u6 _ _ em
    have hp6 := hp.same s6
    generalize upd H5 f (.lst (ps.map V.str)) = H6 at u6 ef s6 em6 hp6 ⊢
    have eP6 := s6 _ _ eP
    refine ⟨_, rfl, _, rfl, p, _, rfl, .inl (SqL.at eP6), d, c, n, _, rfl, hp6, by omega, by rw [hpl]; omega, ?_, fun v H7 v0 v1 hp7 b7 => ⟨_, rfl, d, c, _, 5, rfl, hp7, by omega, by decide, by decide, fun v2 H8 _ _ hp8 b8 => ⟨_, _, _, rfl, ?_⟩⟩⟩
    · have : ((100000 : Nat) : Int) < 2 ^ 200 := by decide
      rw [hpl]
      omega
    rw [hpl] at v1
    obtain ⟨_, hd0⟩ := hp.dict
    obtain ⟨_, hc0⟩ := hp.cells
    obtain ⟨_, hd6⟩ := hp6.dict
    obtain ⟨_, hd7⟩ := hp7.dict
    obtain ⟨_, hd8⟩ := hp8.dict
    have ef8 := b8.list hd7 (b7.list hd6 ef)
    have em8 := b8.list hd7 (b7.list hd6 em6)
    have b08 : But d H H8 := (but_same s6).trans (b7.trans b8)
    have df : d ≠ f := ne_of_none hd0 nf0
    have cf : c ≠ f := ne_of_none hc0 nf0
    have hFs : ∀ z ∈ ps, z ∈ FS ∨ z = sTTE := fun z hz => .inl (hF z hz)
    have hv : v.toNat < ps.length := by omega
    have hvg : ps[v.toNat]? = some ps[v.toNat] := List.getElem?_eq_getElem hv
    -- the five ways
    refine ⟨fun σ' H' => ∃ fs : List Str, σ' = [some (.ref d), some (.ref p), some (.ref mn), some (.ref f), some (.int v), some (.int v2)] ∧ H' f = some (.lst (fs.map V.str)) ∧ (∀ z ∈ fs, z ∈ FS ∨ z = sTTE) ∧ fs.length ≤ ps.length + 1 ∧ Pen H' d c (n + 5) ∧ But d H H', ?_, ?_⟩
    · have pickd : ∀ {G : V → Hp → Prop}, (∀ (z : Str) (H' : Hp), (z ∈ FS ∨ z = sTTE) → Pen H' d c (n + 1 + 1 + 1) → But d H8 H' → G (.str z) H') → spPick K [.ref d, .ref mn] H8 G E0 := fun {G} hG => by
        refine ⟨d, c, mn, n + 1 + 1, MN, rfl, hp8, by omega, SqL.at em8, hml.2, by omega, fun y H' hy hp' b' => ?_⟩
        obtain ⟨z, rfl, hz⟩ := hmem y hy
        exact hG z H' hz hp' b'
      refine ⟨_, rfl, rfl, _, rfl, ite2 (fun _ => ?_) (fun _ => ?_)⟩
      · refine ⟨_, rfl, .inl ⟨rfl, _, SqL.at ef8⟩, _, rfl, f, _, v, v.toNat, .str ps[v.toNat], rfl, rfl, ef8, by omega, by omega, seqIxW v0 (by rw [hpl]; omega), by rw [List.getElem?_map, hvg]; rfl, ?_⟩
        refine ⟨ps.eraseIdx v.toNat, rfl, ?_, fun z hz => hFs z (List.mem_of_mem_eraseIdx hz), by rw [List.length_eraseIdx]; split <;> omega, (hp8.mut df cf).up (by omega), b08.mut nf0⟩
        rw [upd_same, erase_strs]
      refine ⟨_, rfl, rfl, _, rfl, ite2 (fun _ => ?_) (fun _ => ?_)⟩
      · refine ⟨_, rfl, .inl ⟨rfl, _, SqL.at ef8⟩, _, rfl, _, rfl, _, rfl, pickd fun z H9 hz hp9 b9 => ?_⟩
        have ef9 := b9.list hd8 ef8
        refine ⟨f, _, v, .str z, rfl, rfl, ef9, szlt (by rw [hpl]; omega), v0, by omega, ?_⟩
        refine ⟨ps.take v.toNat ++ [z] ++ ps.drop v.toNat, rfl, ?_, fun y hy => ?_, by simp; omega, (hp9.mut df cf).up (by omega), (b08.trans b9).mut nf0⟩
        · rw [upd_same, List.map_append, List.map_append, List.map_take, List.map_drop]
          rfl
        · simp only [List.mem_append, List.mem_singleton] at hy
          rcases hy with (hy | hy) | hy
          · exact hFs y (List.mem_of_mem_take hy)
          · rw [hy]
            exact hz
          · exact hFs y (List.mem_of_mem_drop hy)
      refine ⟨_, rfl, rfl, _, rfl, ite2 (fun _ => ?_) (fun _ => ?_)⟩
      · refine ⟨_, rfl, .inl ⟨rfl, _, SqL.at ef8⟩, _, rfl, _, rfl, _, rfl, f, _, v, .str ps[v.toNat], rfl, rfl, SqL.at ef8, ?_, ?_⟩
        · have := atI_nat (j := v.toNat) (xs := ps.map V.str) (v := .str ps[v.toNat]) (by rw [List.getElem?_map, hvg]; rfl)
          rw [show ((v.toNat : Nat) : Int) = v by omega] at this
          exact this
        refine ⟨f, _, v, .str ps[v.toNat], rfl, rfl, ef8, szlt (by rw [hpl]; omega), v0, by omega, ?_⟩
        refine ⟨ps.take v.toNat ++ [ps[v.toNat]] ++ ps.drop v.toNat, rfl, ?_, fun y hy => ?_, by simp; omega, (hp8.mut df cf).up (by omega), b08.mut nf0⟩
        · rw [upd_same, List.map_append, List.map_append, List.map_take, List.map_drop]
          rfl
        · simp only [List.mem_append, List.mem_singleton] at hy
          rcases hy with (hy | hy) | hy
          · exact hFs y (List.mem_of_mem_take hy)
          · rw [hy]
            exact hFs _ (List.getElem_mem hv)
          · exact hFs y (List.mem_of_mem_drop hy)
      refine ⟨_, rfl, rfl, _, rfl, ite2 (fun _ => ?_) (fun _ => ?_)⟩
      · refine ⟨_, rfl, .inl ⟨rfl, _, SqL.at ef8⟩, _, rfl, _, rfl, pickd fun z H9 hz hp9 b9 => ?_⟩
        have ef9 := b9.list hd8 ef8
        refine ⟨f, _, _, rfl, rfl, ef9, szlt (by rw [hpl]; omega), ?_⟩
        refine ⟨ps ++ [z], rfl, ?_, fun y hy => ?_, by simp, (hp9.mut df cf).up (by omega), (b08.trans b9).mut nf0⟩
        · rw [upd_same, List.map_append]
          rfl
        · rcases List.mem_append.mp hy with hy | hy
          · exact hFs y hy
          · rw [List.mem_singleton] at hy
            rw [hy]
            exact hz
      · refine ⟨_, rfl, _, rfl, pickd fun z H9 hz hp9 b9 => ?_⟩
        have ef9 := b9.list hd8 ef8
        refine ⟨_, rfl, _, rfl, f, _, v, v.toNat, rfl, rfl, ef9, ixN_nat v0 (by rw [hpl]; omega), ?_⟩
        refine ⟨ps.set v.toNat z, rfl, ?_, fun y hy => ?_, by simp, (hp9.mut df cf).up (by omega), (b08.trans b9).mut nf0⟩
        · rw [upd_same, List.map_set]
        · rcases List.mem_or_eq_of_mem_set hy with hy | hy
          · exact hFs y hy
          · rw [hy]
            exact hz
    rintro σ' H9 ⟨fs, rfl, ef9, hfs, hfl, hp9, b9⟩
    -- return ' '.join(found).split(' ')
    refine ⟨⟨_, rfl⟩, _, rfl, " ", f, fs, rfl, rfl, .inl (SqL.at ef9), join_size (fun z hz => FS_len (hfs z hz)) (by omega), ?_⟩
    have hnl := norm_len fs
    have hnF := norm_FS hfs
    rw [norm_join]
    have hjl := join_len (zs := normE fs) fun z hz => FS_len (.inl (hnF z hz))
    refine ⟨⟨_, rfl⟩, _, " ", rfl, rfl, (by decide +kernel), sz (by omega), fun o no => ?_⟩
    rw [split_FS (norm_ne fs) hnF]
    have sl := same_upd (o := .lst ((normE fs).map V.str)) no
    refine q o (normE fs) _ ?_ upd_same (norm_ne fs) hnF (by omega) ((hp9.same sl).up (by omega)) (b9.trans (but_same sl))
    exact But.free b9 hp9 no
end

/-! ### levels read: where the first part stands that cannot stand there -/
def sEnding : List Str := ["to", "the", "end"]
def sN (i : Nat) : Str := toStr (i : Int)
def lNums (s : Nat) : List Str := (List.range (s - 1)).map sN
/-- how many parts at the beginning are numbers, at most n -/
def cntN (ns : List Str) : Nat → List Str → Nat
  | 0, _ => 0
  | _ + 1, [] => 0
  | n + 1, z :: r => if z ∈ ns then cntN ns n r + 1 else 0
/-- the first of the parts that is not the one that is asked -/
def endE : List Str → List Str → Option Nat
  | _, [] => none
  | [], _ :: _ => some 0
  | z :: zs, k :: ks => if z = k then (endE zs ks).map (· + 1) else some 0
def nthS (ps : List Str) (k : Nat) : Str := ((ps ++ [sNoP])[k]?).getD sNoP
def hd (ps : List Str) : Str := nthS ps 0
def bodyE (ps : List Str) (size : Option Nat) : Nat ⊕ Nat :=
  if hd ps = "same" then match mvsE 4 ((ps ++ [sNoP]).drop 1) true with
    | .inl j => .inl (1 + j)
    | .inr q => .inr (1 + q.2)
  else if hd ps = "along" then (if figM fronts2 (nthS ps 1) = true then (if ipM (nthS ps 2) = true then .inr 3 else .inl 2) else .inl 1)
  else match size with
    | none => .inl 0
    | some s => if hd ps = "list" then (if 1 + cntN (lNums s) s ((ps ++ [sNoP]).drop 1) < s then .inl (1 + cntN (lNums s) s ((ps ++ [sNoP]).drop 1)) else .inr (1 + cntN (lNums s) s ((ps ++ [sNoP]).drop 1))) else .inl 0
def goesOn (ps : List Str) (size : Option Nat) (b : Nat) : Bool := if hd ps = "list" then decide (size.getD 0 < b) else decide (b < ps.length)
def lvlE (ps : List Str) (size : Option Nat) : Nat ⊕ (Nat × Bool) := match bodyE ps size with
  | .inl j => .inl j
  | .inr b => if goesOn ps size b = true then (match endE ((ps ++ [sNoP]).drop b) sEnding with
      | some j => .inl (b + j)
      | none => if b + 3 < ps.length then .inl (b + 3) else .inr (b, true))
    else if b < ps.length then .inl b else .inr (b, false)
def oN : Option Nat → V
  | none => .non
  | some s => .int (s : Int)
def SizeOk : Option Nat → Prop
  | none => True
  | some s => 2 ≤ s ∧ s ≤ 12
theorem nth_get {ps : List Str} {k : Nat} (h : k ≤ ps.length) : (ps ++ [sNoP])[k]? = some (nthS ps k) := by
  have : k < (ps ++ [sNoP]).length := by rw [List.length_append]; exact Nat.lt_succ_of_le h
  unfold nthS
  rw [List.getElem?_eq_getElem this]
  rfl
theorem nth_end (ps : List Str) : nthS ps ps.length = sNoP := by
  unfold nthS
  rw [List.getElem?_append_right (Nat.le_refl _), Nat.sub_self]
  rfl
theorem nth_lt {ps : List Str} {k : Nat} (h : k ≤ ps.length) (ne : nthS ps k ≠ sNoP) : k < ps.length := by
  rcases Nat.lt_or_ge k ps.length with q | q
  · exact q
  · have : k = ps.length := by omega
    rw [this, nth_end] at ne
    exact absurd rfl ne
theorem PartsOk.nth {ps : List Str} (h : PartsOk ps) {k : Nat} (hk : k ≤ ps.length) : (nthS ps k).length ≤ 100 ∧ PyData.strOk (nthS ps k) = true := h.get (nth_get hk)
section
variable {P : Program} {w : World} {K : PySem.W.Frag} {mg : Str → Option Value} {base : Heap} {a : Ad}
def spReadAlong (CW : Addr) : Sp := fun vs H Q E => ∃ (p : Addr) (ps : List Str), vs = [.ref p] ∧ H p = some (.lst (strsV (ps ++ [sNoP]))) ∧ 1 ≤ ps.length ∧ PartsOk ps ∧
  (figM fronts2 (nthS ps 1) = true → ipM (nthS ps 2) = true → ∀ H', Same H H' → Q (.int 3) H') ∧
  (figM fronts2 (nthS ps 1) = true → ipM (nthS ps 2) = false → ∀ H' d, Same H H' → H' d = some (.xd [("index", .int 2)]) → E (.ref CW) (some d) H') ∧
  (figM fronts2 (nthS ps 1) = false → ∀ H' d, Same H H' → H' d = some (.xd [("index", .int 1)]) → E (.ref CW) (some d) H')
theorem ok_read_along (T : Tx w K mg a) : FnOk P w K mg base (L2.CX P w) 3 a.f_read_along a.d_read_along ["parts"] (spReadAlong a.C_BadWord) := by
  refine T.F_read_along.okX sc_read_along (fun vs H Q E h => ?_) (fun cdv A outer s H vs Q E hr h => ?_)
  · obtain ⟨p, ps, rfl, _⟩ := h
    rfl
  · obtain ⟨p, ps, rfl, hp, h1, hok, q1, q2, q3⟩ := h
    refine ⟨_, 
(pss_cons (ps_if (pt_not (pt_val (pe_call (ok_is_figure_behind T) (hr.mono (by decide)) (by rfl) T.m_is_figure_behind T.F_is_figure_behind.kp T.b_is_figure_behind .nil pass0 (pa_cons (pe_glob (v := .ref a.a_AMOUNT_FRONTS) (by rfl) T.m_AMOUNT_FRONTS rfl) (pa_cons (pe_ix ix_list (pv 0) pe_int (fun _ _ => rfl)) pa_nil)))))
  (pss_one (ps_raise rfl (takes_of rfl rfl rfl rfl) (pmk_oex T.ox_BadWord.o T.ox_BadWord.ini T.ox_BadWord.tin (ok_BadWord_init T) hr T.b_BadWord_init .nil pass0 (by rfl) T.c_BadWord (pa_cons pe_int pa_nil))))
  pss_nil)
  (pss_cons (ps_if (pt_not (pt_val (pe_call (ok_is_place_word T) hr (by rfl) T.m_is_place_word T.F_is_place_word.kp T.b_is_place_word .nil pass0 (pa_cons (pe_ix ix_list (pv 0) pe_int (fun _ _ => rfl)) pa_nil))))
  (pss_one (ps_raise rfl (takes_of rfl rfl rfl rfl) (pmk_oex T.ox_BadWord.o T.ox_BadWord.ini T.ox_BadWord.tin (ok_BadWord_init T) hr T.b_BadWord_init .nil pass0 (by rfl) T.c_BadWord (pa_cons pe_int pa_nil))))
  pss_nil)
  (pss_one (ps_ret pe_int)))), ?_⟩
    have g1 := strs_get (nth_get h1)
    have hl1 := (hok.nth h1).1
    refine ⟨_, rfl, p, _, _, _, rfl, rfl, SqL.at hp, g1, a.a_AMOUNT_FRONTS, fronts2, nthS ps 1, rfl, T.q_AMOUNT_FRONTS _, rfl, sz (by omega), ?_⟩
    cases hf : figM fronts2 (nthS ps 1) with
    | false => exact ⟨_, rfl, iteT ⟨(by decide : 1 ≤ 1000), err_end (Same.refl H) (fun H' d s' ed => q3 hf H' d s' ed)⟩⟩
    | true =>
      have h2 : 2 ≤ ps.length := nth_lt h1 (fun e => by
        rw [e] at hf
        exact absurd hf (by decide +kernel))
      have g2 := strs_get (nth_get h2)
      have hl2 := (hok.nth h2).1
      refine ⟨_, rfl, iteF ⟨_, rfl, p, _, _, _, rfl, rfl, SqL.at hp, g2, nthS ps 2, rfl, sz (by omega), fun H5 s5 => ?_⟩⟩
      cases hi : ipM (nthS ps 2) with
      | false => exact ⟨_, rfl, iteT ⟨(by decide : 1 ≤ 1000), err_end s5 (fun H' d s' ed => q2 hf hi H' d s' ed)⟩⟩
      | true => exact ⟨_, rfl, iteF (q1 hf hi _ s5)⟩
/-- what is told of the numbers at the beginning -/
theorem cntN_le (ns : List Str) : ∀ (n : Nat) (l : List Str), cntN ns n l ≤ n
  | 0, _ => Nat.le_refl _
  | n + 1, [] => Nat.zero_le _
  | n + 1, z :: r => by
    show (if z ∈ ns then cntN ns n r + 1 else 0) ≤ n + 1
    by_cases h : z ∈ ns
    · rw [if_pos h]
      have := cntN_le ns n r
      omega
    · rw [if_neg h]
      exact Nat.zero_le _
theorem cntN_all (ns : List Str) : ∀ (n : Nat) (l : List Str), ∀ z ∈ l.take (cntN ns n l), z ∈ ns
  | 0, l => fun z hz => by
    rw [show cntN ns 0 l = 0 from by cases l <;> rfl, List.take_zero] at hz
    cases hz
  | n + 1, [] => fun z hz => by simp at hz
  | n + 1, z :: r => fun y hy => by
    have e : cntN ns (n + 1) (z :: r) = if z ∈ ns then cntN ns n r + 1 else 0 := rfl
    rw [e] at hy
    by_cases h : z ∈ ns
    · rw [if_pos h, List.take_succ_cons] at hy
      rcases List.mem_cons.mp hy with q | q
      · rw [q]
        exact h
      · exact cntN_all ns n r y q
    · rw [if_neg h, List.take_zero] at hy
      cases hy
theorem sN_ne : ∀ i : Fin 12, sN i.val ≠ sNoP := by decide +kernel
theorem lNums_no {s : Nat} (hs : s ≤ 12) : sNoP ∉ lNums s := fun h => by
  obtain ⟨i, hi, e⟩ := List.mem_map.mp h
  rw [List.mem_range] at hi
  exact sN_ne ⟨i, by omega⟩ e
theorem cntN_len {ns : List Str} (hn : sNoP ∉ ns) : ∀ (n : Nat) (l : List Str), cntN ns n (l ++ [sNoP]) ≤ l.length
  | 0, l => by
    rw [show cntN ns 0 (l ++ [sNoP]) = 0 from by cases l <;> rfl]
    exact Nat.zero_le _
  | n + 1, [] => by
    have e : cntN ns (n + 1) ([] ++ [sNoP]) = if sNoP ∈ ns then cntN ns n [] + 1 else 0 := rfl
    rw [e, if_neg hn]
    exact Nat.le_refl _
  | n + 1, z :: r => by
    have e : cntN ns (n + 1) (z :: r ++ [sNoP]) = if z ∈ ns then cntN ns n (r ++ [sNoP]) + 1 else 0 := rfl
    rw [e, List.length_cons]
    by_cases h : z ∈ ns
    · rw [if_pos h]
      have := cntN_len hn n r
      omega
    · rw [if_neg h]
      exact Nat.zero_le _
theorem inV_strs (z : Str) (zs : List Str) : inV (.str z) (zs.map V.str) = decide (z ∈ zs) := by
  induction zs with
  | nil => simp [inV]
  | cons y r ih =>
    rw [List.map_cons]
    unfold inV at ih ⊢
    rw [List.any_cons, ih]
    have e : eqV (.str y) (.str z) = decide (y = z) := rfl
    rw [e]
    by_cases h : y = z
    · subst h
      simp
    · have h2 : ¬ z = y := fun z => h z.symm
      simp [h, h2]
theorem flatS (zs : List Str) : (zs.map V.str).all flatV = true := strs_flat zs
def spReadList (CW : Addr) : Sp := fun vs H Q E => ∃ (p : Addr) (ps : List Str) (s : Nat), vs = [.ref p, .int (s : Int)] ∧ H p = some (.lst (strsV (ps ++ [sNoP]))) ∧ 1 ≤ ps.length ∧ PartsOk ps ∧ 2 ≤ s ∧ s ≤ 12 ∧
  (∀ b, 1 + cntN (lNums s) s ((ps ++ [sNoP]).drop 1) = b → s ≤ b → ∀ H', Same H H' → Q (.int (b : Int)) H') ∧
  (∀ b, 1 + cntN (lNums s) s ((ps ++ [sNoP]).drop 1) = b → b < s → ∀ H' d, Same H H' → H' d = some (.xd [("index", .int (b : Int))]) → E (.ref CW) (some d) H')
theorem ok_read_list (T : Tx w K mg a) : FnOk P w K mg base (L2.CX P w) 3 a.f_read_list a.d_read_list ["parts", "size"] (spReadList a.C_BadWord) := by
  refine T.F_read_list.okX sc_read_list (fun vs H Q E h => ?_) (fun cdv A outer s H vs Q E hr h => ?_)
  · obtain ⟨p, ps, s, rfl, _⟩ := h
    rfl
  · obtain ⟨p, ps, n, rfl, hp, h1, hok, n2, n12, qY, qN⟩ := h
    refine ⟨_, 
(pss_cons (ps_setLc (i := 2) (own := [("place", 4)]) (g := gName 4) rfl sc_read_list.nd rfl rfl (sw_true rfl rfl rfl (by decide +kernel)) (pi_range1 (by rfl) T.z_range (pa_cons (pe_op op_sub (pv 1) pe_int) pa_nil)) (blkOk_by (own := [("place", 4)]) (N := ["parts", "size", "places", "behind", "place"]) (sc := defScope s_read_list) (by decide +kernel)) (fun _ _ _ _ _ => pg_name (i := 4) sc_read_list.nd rfl (Or.inl rfl)) (fun _ _ _ _ _ => pts_nil) (fun _ _ _ _ _ => (pe_callTy call_str_int (by rfl) T.z_str (by decide +kernel) (pa_cons (pv 4) pa_nil))))
  (pss_cons (ps_set (i := 3) sc_read_list.nd rfl (.inl rfl) pe_int)
  (pss_cons (ps_while PassesOwn.leaving (PW.pt (pw_and (pt_cmpR op_le (pv 3) (pv 1) (nomark _)) (pw_and1 (pt_cmpR op_in_seq (pe_ix ix_list (pv 0) (pv 3) (fun _ _ => rfl)) (pv 2) (by rfl)))))
  (pss_one (ps_set (i := 3) sc_read_list.nd rfl (.inl rfl) (pe_op op_add (pv 3) pe_int))))
  (pss_cons (ps_if (pt_cmpR op_lt (pv 3) (pv 1) (nomark _))
  (pss_one (ps_raise rfl (takes_of rfl rfl rfl rfl) (pmk_oex T.ox_BadWord.o T.ox_BadWord.ini T.ox_BadWord.tin (ok_BadWord_init T) hr T.b_BadWord_init .nil pass0 (by rfl) T.c_BadWord (pa_cons (pv 3) pa_nil))))
  pss_nil)
  (pss_one (ps_ret (pv 3))))))), ?_⟩
    -- places = [str(place) for place in range(size - 1)]
    refine ⟨_, rfl, _, _, rfl, rfl, _, rfl, by omega, by omega, fun o no => ?_⟩
    refine lc_range (lo := 0) (n := ((n : Int) - 1).toNat) (fun l H' => Same H H' ∧ H' o = some (.lst (((List.range l).map sN).map V.str))) ?c0 ?cs ?cd
    case c0 => exact ⟨same_upd no, upd_same⟩
    case cs =>
      rintro l H' hl ⟨sm, e⟩
      refine ⟨rfl, _, rfl, _, rfl, lg _ (by omega) (by omega), _, e, ?_, keep_upd sm no, ?_⟩
      · rw [List.length_map, List.length_map, List.length_range]
        exact szlt (by omega)
      · rw [upd_same, List.range_succ, List.map_append, List.map_append, show (0 : Int) + (l : Nat) = (l : Int) by omega]
        rfl
    rintro H1 ⟨s1, e1⟩
    have e1 : H1 o = some (.lst ((lNums n).map V.str)) := by
      rw [e1, show ((n : Int) - 1).toNat = n - 1 by omega]
      rfl
    have hp1 := s1 _ _ hp
    have hno := lNums_no n12
    have hds : (ps ++ [sNoP]).drop 1 = ps.drop 1 ++ [sNoP] := by rw [List.drop_append_of_le_length h1]
    have hcl : 1 + cntN (lNums n) n ((ps ++ [sNoP]).drop 1) ≤ ps.length := by
      have := cntN_len hno n (ps.drop 1)
      rw [← hds, List.length_drop] at this
      omega
    have hce := cntN_le (lNums n) n ((ps ++ [sNoP]).drop 1)
    -- behind = 1; while behind <= size and parts[behind] in places
    refine ⟨fun k σ H3 => ∃ (b : Nat) (y4 : Option V), b + k = n + 1 ∧ 1 ≤ b ∧ 1 + cntN (lNums n) n ((ps ++ [sNoP]).drop 1) = b + cntN (lNums n) (n + 1 - b) ((ps ++ [sNoP]).drop b) ∧
        σ = [some (.ref p), some (.int (n : Int)), some (.ref o), some (.int (b : Int)), y4] ∧ H3 = H1, ⟨n, 1, _, by omega, Nat.le_refl _, rfl, rfl, rfl⟩, ?_⟩
    rintro k σ H3 ⟨b, y4, hbk, hb1, heq, rfl, rfl⟩
    have fin : cntN (lNums n) (n + 1 - b) ((ps ++ [sNoP]).drop b) = 0 → tSeq
          (tIfS (tTest (tOp (rI0 fun i j => V.bl (decide (i < j))) (tVar 3) (tVar 1)))
            (fun x σ H =>
              tMkO a.C_BadWord (spErrInit a.C_BadWord (Str.ofString "index")) [] (tCons (tVar 3) tNil) σ H
                fun cls d H' => E cls d H')
            tNext)
          (tRet (tVar 3)) { nx := fun x H' => Q V.non H', rt := Q } [some (.ref p), some (.int (n : Int)), some (.ref o), some (.int (b : Int)), y4] H3 := fun h0 => by
      rw [h0] at heq
      refine ⟨_, rfl, _, rfl, _, _, rfl, rfl, _, rfl, ?_⟩
      by_cases hb : b < n
      · rw [decide_eq_true (show (b : Int) < (n : Int) by omega)]
        exact ⟨_, rfl, (by decide : 1 ≤ 1000), err_end s1 (fun H' d s' ed => qN b heq hb H' d s' ed)⟩
      · rw [decide_eq_false (show ¬ (b : Int) < (n : Int) by omega)]
        exact ⟨_, rfl, qY b heq (by omega) _ s1⟩
    refine ⟨_, rfl, _, rfl, _, _, rfl, rfl, _, rfl, ?_⟩
    by_cases hb : b ≤ n
    rotate_left
    · rw [decide_eq_false (show ¬ (b : Int) ≤ (n : Int) by omega)]
      refine fin ?_
      rw [show n + 1 - b = 0 by omega]
      cases (ps ++ [sNoP]).drop b <;> rfl
    rw [decide_eq_true (show (b : Int) ≤ (n : Int) by omega)]
    have hbl : b ≤ ps.length := by omega
    have g1 := strs_get (nth_get hbl)
    have hst : cntN (lNums n) (n + 1 - b) ((ps ++ [sNoP]).drop b) = if nthS ps b ∈ lNums n then cntN (lNums n) (n - b) ((ps ++ [sNoP]).drop (b + 1)) + 1 else 0 := by
      obtain ⟨h1, e1⟩ := List.getElem?_eq_some_iff.mp (nth_get hbl)
      rw [List.drop_eq_getElem_cons h1, e1, show n + 1 - b = (n - b) + 1 by omega]
      rfl
    refine ⟨_, rfl, _, rfl, p, _, _, _, rfl, rfl, SqL.at hp1, g1, _, rfl, o, _, rfl, .inl (SqL.at e1), rfl, flatS _, _, rfl, ?_⟩
    rw [inV_strs]
    by_cases hm : nthS ps b ∈ lNums n
    · rw [decide_eq_true hm]
      rw [if_pos hm] at hst
      refine ⟨fun σ' H' => σ' = [some (.ref p), some (.int (n : Int)), some (.ref o), some (.int ((b : Int) + 1)), y4] ∧ H' = H3, ?_, ⟨_, rfl, _, _, rfl, rfl, rfl, rfl⟩⟩
      rintro σ' H' ⟨rfl, rfl⟩
      exact ⟨k - 1, by omega, b + 1, y4, by omega, by omega, by rw [heq, hst, show n + 1 - (b + 1) = n - b by omega]; omega, rfl, rfl⟩
    · rw [decide_eq_false hm]
      rw [if_neg hm] at hst
      exact fin hst
def spReadBody (CW : Addr) : Sp := fun vs H Q E => ∃ (p : Addr) (ps : List Str) (size : Option Nat), vs = [.ref p, oN size] ∧ H p = some (.lst (strsV (ps ++ [sNoP]))) ∧ 1 ≤ ps.length ∧ PartsOk ps ∧ SizeOk size ∧
  (∀ b, bodyE ps size = .inr b → ∀ H', Same H H' → Q (.int (b : Int)) H') ∧
  (∀ b, bodyE ps size = .inl b → ∀ H' d, Same H H' → H' d = some (.xd [("index", .int (b : Int))]) → E (.ref CW) (some d) H')
theorem ok_read_body (T : Tx w K mg a) : FnOk P w K mg base (L2.CX P w) 6 a.f_read_body a.d_read_body ["parts", "size"] (spReadBody a.C_BadWord) := by
  refine T.F_read_body.okX sc_read_body (fun vs H Q E h => ?_) (fun cdv A outer s H vs Q E hr h => ?_)
  · obtain ⟨p, ps, s, rfl, _⟩ := h
    rfl
  · obtain ⟨p, ps, size, rfl, hp, h1, hok, hsz, qY, qN⟩ := h
    refine ⟨_, 
(pss_cons (ps_if (pt_cmpR op_eq (pe_ix ix_list (pv 0) pe_int (fun _ _ => rfl)) pe_str (nomark _))
  (pss_one (ps_ret (pe_ix ix_tup (pe_callS (ok_read_moves T) hr (by rfl) T.m_read_moves T.F_read_moves.kp T.b_read_moves (fun σ => passAt (takes_of rfl rfl rfl rfl) σ) (pa_cons (pv 0) (pa_cons pe_int pa_nil))) pe_int (fun _ _ => rfl))))
  pss_nil)
  (pss_cons (ps_if (pt_cmpR op_eq (pe_ix ix_list (pv 0) pe_int (fun _ _ => rfl)) pe_str (nomark _))
  (pss_one (ps_ret (pe_callS (ok_read_along T) (hr.mono (by decide)) (by rfl) T.m_read_along T.F_read_along.kp T.b_read_along (fun σ => passAt (takes_of rfl rfl rfl rfl) σ) (pa_cons (pv 0) pa_nil))))
  pss_nil)
  (pss_cons (ps_if (PW.pt (pw_and (pt_cmpR op_eq (pe_ix ix_list (pv 0) pe_int (fun _ _ => rfl)) pe_str (nomark _)) (pw_and1 (pt_cmpR op_notN (pv 1) pe_non (nomark _)))))
  (pss_one (ps_ret (pe_callS (ok_read_list T) (hr.mono (by decide)) (by rfl) T.m_read_list T.F_read_list.kp T.b_read_list (fun σ => passAt (takes_of rfl rfl rfl rfl) σ) (pa_cons (pv 0) (pa_cons (pv 1) pa_nil)))))
  pss_nil)
  (pss_one (ps_raise rfl (takes_of rfl rfl rfl rfl) (pmk_oex T.ox_BadWord.o T.ox_BadWord.ini T.ox_BadWord.tin (ok_BadWord_init T) (hr.mono (by decide)) T.b_BadWord_init .nil pass0 (by rfl) T.c_BadWord (pa_cons pe_int pa_nil))))))), ?_⟩
    unfold bodyE hd at qY qN
    have g0 := strs_get (nth_get (Nat.zero_le ps.length))
    -- if parts[0] == 'same'
    refine ⟨_, rfl, p, _, _, _, rfl, rfl, SqL.at hp, g0, rfl, _, rfl, ?_⟩
    by_cases c1 : nthS ps 0 = "same"
    · rw [decide_eq_true (show V.str (nthS ps 0) = V.str "same" by rw [c1])]
      rw [if_pos c1] at qY qN
      refine iteT ⟨_, rfl, p, ps, 1, rfl, hp, h1, hok, fun ms c hm o t rs H1 no nt ho ht held s1 => ⟨o, _, 1, _, rfl, rfl, SqT.at ho, rfl, ?_⟩, fun j hj H1 d s1 ed => ?_⟩
      · rw [hm] at qY
        exact qY (1 + c) rfl H1 s1
      · rw [hj] at qN
        exact qN (1 + j) rfl H1 d s1 ed
    rw [decide_eq_false (show ¬ V.str (nthS ps 0) = V.str "same" from fun e => c1 (V.str.inj e))]
    rw [if_neg c1] at qY qN
    refine iteF ⟨_, rfl, p, _, _, _, rfl, rfl, SqL.at hp, g0, rfl, _, rfl, ?_⟩
    by_cases c2 : nthS ps 0 = "along"
    · rw [decide_eq_true (show V.str (nthS ps 0) = V.str "along" by rw [c2])]
      rw [if_pos c2] at qY qN
      refine iteT ⟨_, rfl, p, ps, rfl, hp, h1, hok, fun f1 f2 H1 s1 => ?_, fun f1 f2 H1 d s1 ed => ?_, fun f1 H1 d s1 ed => ?_⟩
      · rw [if_pos f1, if_pos f2] at qY
        exact qY 3 rfl H1 s1
      · rw [if_pos f1, if_neg (by rw [f2]; decide)] at qN
        exact qN 2 rfl H1 d s1 ed
      · rw [if_neg (by rw [f1]; decide)] at qN
        exact qN 1 rfl H1 d s1 ed
    rw [decide_eq_false (show ¬ V.str (nthS ps 0) = V.str "along" from fun e => c2 (V.str.inj e))]
    rw [if_neg c2] at qY qN
    refine iteF ?_
    have fin : (match size with
        | none => (Sum.inl 0 : Nat ⊕ Nat)
        | some s =>
          if nthS ps 0 = "list" then
            if 1 + cntN (lNums s) s (List.drop 1 (ps ++ [sNoP])) < s then
              Sum.inl (1 + cntN (lNums s) s (List.drop 1 (ps ++ [sNoP])))
            else Sum.inr (1 + cntN (lNums s) s (List.drop 1 (ps ++ [sNoP])))
          else Sum.inl 0) = Sum.inl 0 → tMkO a.C_BadWord (spErrInit a.C_BadWord "index") [] (tCons (tC (V.int 0)) tNil) [some (.ref p), some (oN size)] H fun cls d H' => E cls d H' := fun e =>
      ⟨(by decide : 1 ≤ 1000), err_end (Same.refl H) (fun H' d s' ed => qN 0 e H' d s' ed)⟩
    refine ⟨_, rfl, p, _, _, _, rfl, rfl, SqL.at hp, g0, rfl, _, rfl, ?_⟩
    by_cases c3 : nthS ps 0 = "list"
    rotate_left
    · rw [decide_eq_false (show ¬ V.str (nthS ps 0) = V.str "list" from fun e => c3 (V.str.inj e))]
      refine fin ?_
      cases size with
      | none => rfl
      | some s => simp only [if_neg c3]
    rw [decide_eq_true (show V.str (nthS ps 0) = V.str "list" by rw [c3])]
    refine ⟨_, rfl, rfl, _, rfl, ?_⟩
    cases size with
    | none => exact fin rfl
    | some s =>
      clear fin
      simp only [if_pos c3] at qY qN
      refine ⟨_, rfl, _, rfl, p, ps, s, rfl, hp, h1, hok, hsz.1, hsz.2, fun b eb hb H1 s1 => ?_, fun b eb hb H1 d s1 ed => ?_⟩
      · rw [eb, if_neg (by omega)] at qY
        exact qY b rfl H1 s1
      · rw [eb, if_pos hb] at qN
        exact qN b rfl H1 d s1 ed
theorem bodyE_le {ps : List Str} {size : Option Nat} {b : Nat} (hsz : SizeOk size) (h1 : 1 ≤ ps.length) (h : bodyE ps size = .inr b) : b ≤ ps.length ∧ 1 ≤ b := by
  unfold bodyE at h
  by_cases c1 : hd ps = "same"
  · rw [if_pos c1] at h
    cases hm : mvsE 4 ((ps ++ [sNoP]).drop 1) true with
    | inl j =>
      rw [hm] at h
      cases h
    | inr q =>
      obtain ⟨ms, c⟩ := q
      rw [hm] at h
      cases h
      have := (mvsE_le h1 hm).1
      exact ⟨this, by show 1 ≤ 1 + c; omega⟩
  rw [if_neg c1] at h
  by_cases c2 : hd ps = "along"
  · rw [if_pos c2] at h
    by_cases f1 : figM fronts2 (nthS ps 1) = true
    · rw [if_pos f1] at h
      by_cases f2 : ipM (nthS ps 2) = true
      · rw [if_pos f2] at h
        cases h
        have h2 : 1 < ps.length := nth_lt h1 (fun e => by
          rw [e] at f1
          exact absurd f1 (by decide +kernel))
        have h3 : 2 < ps.length := nth_lt h2 (fun e => by
          rw [e] at f2
          exact absurd f2 (by decide +kernel))
        exact ⟨h3, by decide⟩
      · rw [if_neg f2] at h
        cases h
    · rw [if_neg f1] at h
      cases h
  rw [if_neg c2] at h
  cases size with
  | none => cases h
  | some s =>
    dsimp only at h
    by_cases c3 : hd ps = "list"
    · rw [if_pos c3] at h
      have hcl := cntN_len (lNums_no hsz.2) s (ps.drop 1)
      rw [show ps.drop 1 ++ [sNoP] = (ps ++ [sNoP]).drop 1 from (List.drop_append_of_le_length h1).symm, List.length_drop] at hcl
      split at h
      · cases h
      · cases h
        omega
    · rw [if_neg c3] at h
      cases h
def spReadLevel (CW : Addr) : Sp := fun vs H Q E => ∃ (p : Addr) (ps : List Str) (size : Option Nat), vs = [.ref p, oN size] ∧ H p = some (.lst (strsV (ps ++ [sNoP]))) ∧ 1 ≤ ps.length ∧ PartsOk ps ∧ SizeOk size ∧
  (∀ b g, lvlE ps size = .inr (b, g) → ∀ o H', H o = none → H' o = some (.tup [.int (b : Int), .bl g]) → Same H H' → Q (.ref o) H') ∧
  (∀ b, lvlE ps size = .inl b → ∀ H' d, Same H H' → H' d = some (.xd [("index", .int (b : Int))]) → E (.ref CW) (some d) H')
theorem ok_read_level (T : Tx w K mg a) : FnOk P w K mg base (L2.CX P w) 7 a.f_read_level a.d_read_level ["parts", "size"] (spReadLevel a.C_BadWord) := by
  refine T.F_read_level.okX sc_read_level (fun vs H Q E h => ?_) (fun cdv A outer s H vs Q E hr h => ?_)
  · obtain ⟨p, ps, s, rfl, _⟩ := h
    rfl
  · obtain ⟨p, ps, size, rfl, hp, h1, hok, hsz, qY, qN⟩ := h
    refine ⟨_, 
(pss_cons (ps_set (i := 2) sc_read_level.nd rfl (.inl rfl) (pe_callS (ok_read_body T) hr (by rfl) T.m_read_body T.F_read_body.kp T.b_read_body (fun σ => passAt (takes_of rfl rfl rfl rfl) σ) (pa_cons (pv 0) (pa_cons (pv 1) pa_nil))))
  (pss_cons (ps_set (i := 3) sc_read_level.nd rfl (.inl rfl) (pe_op op_sub (pe_callB call_len_seq (by rfl) T.z_len PySem.boot_len (pa_cons (pv 0) pa_nil)) pe_int))
  (C8.pss_cut (ps_if (pt_cmpR op_eq (pe_ix ix_list (pv 0) pe_int (fun _ _ => rfl)) pe_str (nomark _))
  (pss_one (ps_set (i := 4) sc_read_level.nd rfl (.inl rfl) (pe_cmpR op_gt (pv 2) (pv 1) (nomark _))))
  (pss_one (ps_set (i := 4) sc_read_level.nd rfl (.inl rfl) (pe_cmpR op_lt (pv 2) (pv 3) (nomark _)))))
  (C8.pss_cut (ps_if (pt_val (pv 4))
  (pss_one (ps_for PassesOwn.leaving rfl (pi_enumF (by rfl) T.z_enumerate (pa_cons (pe_glob (v := .ref a.a_ENDING) (by rfl) T.m_ENDING rfl) pa_nil) (pv 2)) (pg_tup rfl (pgs_cons (pg_name (i := 5) sc_read_level.nd rfl (.inl rfl)) (pgs_cons (pg_name (i := 6) sc_read_level.nd rfl (.inl rfl)) pgs_nil)))
  (pss_one (ps_if (pt_cmpR op_ne (pe_ix ix_list (pv 0) (pv 5) (fun _ _ => rfl)) (pv 6) (nomark _))
  (pss_one (ps_raise rfl (takes_of rfl rfl rfl rfl) (pmk_oex T.ox_BadWord.o T.ox_BadWord.ini T.ox_BadWord.tin (ok_BadWord_init T) (hr.mono (by decide)) T.b_BadWord_init .nil pass0 (by rfl) T.c_BadWord (pa_cons (pv 5) pa_nil))))
  pss_nil))))
  pss_nil)
  (pss_cons (ps_set (i := 7) sc_read_level.nd rfl (.inl rfl) (pe_ifExp (pt_val (pv 4)) (pe_op op_add (pv 2) (pe_callB call_len_seq (by rfl) T.z_len PySem.boot_len (pa_cons (pe_glob (v := .ref a.a_ENDING) (by rfl) T.m_ENDING rfl) pa_nil))) (pv 2)))
  (pss_cons (ps_if (pt_cmpR op_lt (pv 7) (pv 3) (nomark _))
  (pss_one (ps_raise rfl (takes_of rfl rfl rfl rfl) (pmk_oex T.ox_BadWord.o T.ox_BadWord.ini T.ox_BadWord.tin (ok_BadWord_init T) (hr.mono (by decide)) T.b_BadWord_init .nil pass0 (by rfl) T.c_BadWord (pa_cons (pv 7) pa_nil))))
  pss_nil)
  (pss_one (ps_ret (pe_tup (pa_cons (pv 2) (pa_cons (pv 4) pa_nil))))))))))), ?_⟩
    have g0 := strs_get (nth_get (Nat.zero_le ps.length))
    have hpl : (strsV (ps ++ [sNoP])).length = ps.length + 1 := by unfold strsV; rw [List.length_map, List.length_append]; rfl
    unfold lvlE at qY qN
    -- behind = read_body(parts, size)
    refine ⟨_, rfl, _, rfl, p, ps, size, rfl, hp, h1, hok, hsz, fun b hb H1 s1 => ?_, fun b hb H1 d s1 ed => ?_⟩
    rotate_left
    · rw [hb] at qN
      exact qN b rfl H1 d s1 ed
    obtain ⟨b1, b2⟩ := bodyE_le hsz h1 hb
    rw [hb] at qY qN
    dsimp only at qY qN
    have hp1 := s1 _ _ hp
    -- stop = len(parts) - 1
    refine ⟨_, rfl, p, _, rfl, .inl (SqL.at hp1), _, 1, rfl, rfl, ?_⟩
    rw [hpl]
    have hgl : goesOn ps size b = true → b ≤ ps.length := fun _ => b1
    generalize hg : goesOn ps size b = g at qY qN
    have estop : (((ps.length + 1 : Nat) : Int) - 1) = (ps.length : Int) := by omega
    refine ⟨fun σ' H' => σ' = [some (.ref p), some (oN size), some (.int (b : Int)), some (.int (ps.length : Int)), some (.bl g), none, none, none] ∧ H' = H1, ?_, ?_⟩
    · refine ⟨_, rfl, p, _, _, _, rfl, rfl, SqL.at hp1, g0, rfl, _, rfl, ?_⟩
      unfold goesOn hd at hg
      by_cases c3 : nthS ps 0 = "list"
      · rw [decide_eq_true (show V.str (nthS ps 0) = V.str "list" by rw [c3])]
        rw [if_pos c3] at hg
        refine iteT ?_
        cases size with
        | none =>
          unfold bodyE hd at hb
          rw [if_neg (by rw [c3]; decide +kernel), if_neg (by rw [c3]; decide +kernel)] at hb
          cases hb
        | some s =>
          refine ⟨_, rfl, _, rfl, _, _, rfl, rfl, ?_, rfl⟩
          rw [← hg]
          have : decide ((s : Int) < (b : Int)) = decide (s < b) := by rw [decide_eq_decide]; omega
          show [some (V.ref p), some (V.int (s : Int)), some (V.int (b : Int)), some (V.int (((ps.length + 1 : Nat) : Int) - 1)), some (V.bl (decide ((s : Int) < (b : Int)))), none, none, none] = _
          rw [this, estop]
          rfl
      · rw [decide_eq_false (show ¬ V.str (nthS ps 0) = V.str "list" from fun e => c3 (V.str.inj e))]
        rw [if_neg c3] at hg
        refine iteF ⟨_, rfl, _, rfl, _, _, rfl, rfl, ?_, rfl⟩
        rw [← hg]
        show [some (V.ref p), some (oN size), some (V.int (b : Int)), some (V.int (((ps.length + 1 : Nat) : Int) - 1)), some (V.bl (decide ((b : Int) < ((ps.length + 1 : Nat) : Int) - 1))), none, none, none] = _
        have : decide ((b : Int) < (ps.length : Int)) = decide (b < ps.length) := by rw [decide_eq_decide]; omega
        rw [estop, this]
    rintro σ' H' ⟨rfl, rfl⟩
    -- if goes_on
    refine ⟨fun σ' H3 => ∃ y5 y6, σ' = [some (.ref p), some (oN size), some (.int (b : Int)), some (.int (ps.length : Int)), some (.bl g), y5, y6, none] ∧ Same H H3 ∧ (g = true → endE ((ps ++ [sNoP]).drop b) sEnding = none), ?_, ?_⟩
    · cases g with
      | false => exact ⟨_, rfl, _, rfl, iteF ⟨none, none, rfl, s1, fun h => by cases h⟩⟩
      | true =>
        have hb500 := hok.1
        rw [if_pos rfl] at qN
        refine ⟨_, rfl, _, rfl, iteT ⟨_, rfl, a.a_ENDING, strsV sEnding, (b : Int), rfl, rfl, by omega, by omega, T.q_ENDING _, ?_⟩⟩
        refine for_it (walk_enumF (xs := strsV sEnding)) (fun j σ H3 => (∃ y5 y6, σ = [some (.ref p), some (oN size), some (.int (b : Int)), some (.int (ps.length : Int)), some (.bl true), y5, y6, none]) ∧ Same H H3 ∧ b + j ≤ ps.length ∧ endE ((ps ++ [sNoP]).drop b) sEnding = (endE ((ps ++ [sNoP]).drop (b + j)) (sEnding.drop j)).map (· + j)) ?h0 ?hG ?hs ?hd
        case h0 => exact ⟨⟨none, none, rfl⟩, s1, b1, by simp⟩
        case hG =>
          rintro j σ H3 hj ⟨⟨y5, y6, rfl⟩, _⟩
          exact T.q_ENDING _
        case hs =>
          rintro j v σ H3 H4 hj ⟨⟨y5, y6, rfl⟩, s3, hij, hch⟩ ⟨t, x1, x, rfl, nt, rfl, e1, e2⟩
          cases e1
          have hjk : j < sEnding.length := hj
          have e2 : (strsV sEnding)[j]? = some x := e2
          unfold strsV at e2
          rw [List.getElem?_map, List.getElem?_eq_getElem hjk] at e2
          cases e2
          have s4 := s3.trans (same_upd (o := .tup [.int ((b : Int) + (j : Nat)), .str sEnding[j]]) nt)
          have hat := strs_get (nth_get hij)
          rw [show ((b + j : Nat) : Int) = (b : Int) + (j : Nat) by omega] at hat
          have hst : endE ((ps ++ [sNoP]).drop (b + j)) (sEnding.drop j) = if nthS ps (b + j) = sEnding[j] then (endE ((ps ++ [sNoP]).drop (b + (j + 1))) (sEnding.drop (j + 1))).map (· + 1) else some 0 := by
            obtain ⟨h1, e1⟩ := List.getElem?_eq_some_iff.mp (nth_get hij)
            rw [List.drop_eq_getElem_cons h1, List.drop_eq_getElem_cons hjk, e1]
            rfl
          refine ⟨t, [.int ((b : Int) + (j : Nat)), .str sEnding[j]], rfl, SqT.at upd_same, rfl, _, [.str sEnding[j]], rfl, .str sEnding[j], [], rfl, rfl, ?_⟩
          refine ⟨_, rfl, _, rfl, p, _, _, _, rfl, rfl, SqL.at (s4 _ _ hp), hat, _, rfl, rfl, _, rfl, ?_⟩
          by_cases hpt : nthS ps (b + j) = sEnding[j]
          · rw [if_pos hpt] at hst
            have hne : b + j < ps.length := nth_lt hij (by
              rw [hpt]
              exact (by decide +kernel : ∀ z ∈ sEnding, z ≠ sNoP) _ (List.getElem_mem hjk))
            refine iteNS (by rw [hpt]) ?_
            refine ⟨⟨_, _, rfl⟩, s4, by omega, ?_⟩
            rw [hch, hst, Option.map_map]
            congr 1
            funext n
            show n + 1 + j = n + (j + 1)
            omega
          · rw [if_neg hpt] at hst
            have e : decide (V.str (nthS ps (b + j)) = V.str sEnding[j]) = false := decide_eq_false fun e => hpt (V.str.inj e)
            rw [e]
            have hin : endE ((ps ++ [sNoP]).drop b) sEnding = some j := by
              rw [hch, hst]
              show some (0 + j) = some j
              rw [Nat.zero_add]
            rw [hin] at qN
            refine iteT ⟨_, rfl, (by decide : 1 ≤ 1000), err_end s4 (fun H6 d s' ed => qN (b + j) rfl H6 d s' ?_)⟩
            rw [ed, show ((b + j : Nat) : Int) = (b : Int) + (j : Nat) by omega]
        case hd =>
          rintro σ H3 ⟨⟨y5, y6, rfl⟩, s3, hij, hch⟩
          exact ⟨y5, y6, rfl, s3, fun _ => by
            rw [hch, show (strsV sEnding).length = 3 from by decide +kernel]
            have en : ∀ l, endE l [] = none := fun l => by cases l <;> rfl
            show Option.map _ (endE _ []) = none
            rw [en]
            rfl⟩
    rintro σ' H3 ⟨y5, y6, rfl, s3, hend⟩
    cases g with
    | false =>
      rw [if_neg (by decide)] at qY qN
      refine ⟨_, rfl, _, rfl, iteF ⟨_, rfl, ?_⟩⟩
      refine ⟨_, rfl, _, rfl, _, _, rfl, rfl, _, rfl, ?_⟩
      by_cases hc : b < ps.length
      · rw [if_pos hc] at qN
        rw [decide_eq_true (show (b : Int) < (ps.length : Int) by omega)]
        exact iteT ⟨_, rfl, (by decide : 1 ≤ 1000), err_end s3 (fun H6 d s' ed => qN b rfl H6 d s' ed)⟩
      · rw [if_neg hc] at qY
        rw [decide_eq_false (show ¬ (b : Int) < (ps.length : Int) by omega)]
        refine iteF ⟨_, rfl, _, rfl, sz (show 2 ≤ 100000 by decide), fun o no => ?_⟩
        exact qY b false rfl o _ (s3.free no) upd_same (s3.trans (same_upd no))
    | true =>
      rw [if_pos rfl, hend rfl] at qY qN
      dsimp only at qY qN
      refine ⟨_, rfl, _, rfl, iteT ⟨_, rfl, a.a_ENDING, strsV sEnding, rfl, .inr (T.q_ENDING _), _, _, rfl, rfl, ?_⟩⟩
      refine ⟨_, rfl, _, rfl, _, _, rfl, rfl, _, rfl, ?_⟩
      have hl3 : (strsV sEnding).length = 3 := by decide +kernel
      rw [hl3]
      by_cases hc : b + 3 < ps.length
      · rw [if_pos hc] at qN
        rw [decide_eq_true (show (b : Int) + ((3 : Nat) : Int) < (ps.length : Int) by omega)]
        refine iteT ⟨_, rfl, (by decide : 1 ≤ 1000), err_end s3 (fun H6 d s' ed => qN (b + 3) rfl H6 d s' ?_)⟩
        rw [ed]
        rfl
      · rw [if_neg hc] at qY
        rw [decide_eq_false (show ¬ (b : Int) + ((3 : Nat) : Int) < (ps.length : Int) by omega)]
        refine iteF ⟨_, rfl, _, rfl, sz (show 2 ≤ 100000 by decide), fun o no => ?_⟩
        exact qY b true rfl o _ (s3.free no) upd_same (s3.trans (same_upd no))
theorem chkP_take : ∀ {t ks : List Str} (r : List Str), chkP t ks = none → chkP (t.take ks.length ++ r) ks = none ∧ (t.take ks.length).length = ks.length
  | t, [], r, _ => ⟨by unfold chkP; rfl, by simp⟩
  | [], k :: ks, r, h => by cases h
  | z :: zs, k :: ks, r, h => by
    have e : chkP (z :: zs) (k :: ks) = if ptM z k = true then (chkP zs ks).map (· + 1) else some 0 := rfl
    rw [e] at h
    by_cases hp : ptM z k = true
    · rw [if_pos hp] at h
      obtain ⟨h1, h2⟩ := chkP_take r (Option.map_eq_none_iff.mp h)
      rw [List.length_cons, List.take_succ_cons]
      refine ⟨?_, by rw [List.length_cons, h2]⟩
      show (if ptM z k = true then (chkP (zs.take ks.length ++ r) ks).map (· + 1) else some 0) = none
      rw [if_pos hp, h1]
      rfl
    · rw [if_neg hp] at h
      cases h
theorem mvE_take {l m : List Str} {may : Bool} (r : List Str) (h : mvE l may = .inr m) : mvE (m ++ r) may = .inr m := by
  cases l with
  | nil => cases h
  | cons x t =>
    rw [mvE_cons] at h
    cases hs : shp x with
    | none =>
      rw [hs] at h
      cases h
    | some ks =>
      rw [hs] at h
      by_cases c : (decide (x = "turn") && !may) = true
      · simp only [c, if_true] at h
        cases h
      · rw [Bool.not_eq_true] at c
        simp only [c] at h
        cases hc : chkP t ks with
        | some j =>
          rw [hc] at h
          cases h
        | none =>
          rw [hc] at h
          have h : x :: t.take ks.length = m := Sum.inr.inj h
          obtain ⟨h1, h2⟩ := chkP_take r hc
          rw [← h, List.cons_append, mvE_cons, hs]
          simp only [c]
          rw [h1]
          show Sum.inr (x :: (t.take ks.length ++ r).take ks.length) = _
          rw [List.take_append_of_le_length (by omega), List.take_of_length_le (by omega)]
theorem mvsE_tail {r : List Str} (hr : r.head? ≠ some ("then" : Str)) : ∀ {n : Nat} {ps : List Str} {k : Nat} {may : Bool} {ms : List (List Str)} {c : Nat}, k ≤ ps.length → mvsE n ((ps ++ [sNoP]).drop k) may = .inr (ms, c) → mvsE n (wpS ms ++ r) may = .inr (ms, c)
  | 0, ps, k, may, ms, c, _, h => by cases h
  | n + 1, ps, k, may, ms, c, hk, h => by
    rw [mvsE_succ] at h ⊢
    cases hm : mvE ((ps ++ [sNoP]).drop k) may with
    | inl j =>
      rw [hm] at h
      cases h
    | inr m =>
      rw [hm] at h
      dsimp only at h
      obtain ⟨m1, m2, m3⟩ := mvE_inr hk hm
      by_cases hc : n = 0 ∨ (((ps ++ [sNoP]).drop k).drop m.length).head? ≠ some ("then" : Str)
      · rw [if_pos hc] at h
        cases h
        rw [show wpS [m] = m from rfl, mvE_take r hm]
        dsimp only
        rw [List.drop_left, if_pos (.inr hr)]
      · rw [if_neg hc] at h
        rw [List.drop_drop, List.drop_drop] at h
        have hth : (((ps ++ [sNoP]).drop k).drop m.length).head? = some ("then" : Str) := Classical.byContradiction fun z => hc (.inr z)
        rw [List.drop_drop, List.head?_drop] at hth
        have hlt : k + m.length < ps.length := by
          rcases Nat.lt_or_ge (k + m.length) ps.length with q | q
          · exact q
          · have e : k + m.length = ps.length := by omega
            rw [e, List.getElem?_append_right (Nat.le_refl _), Nat.sub_self] at hth
            have e2 := Option.some.inj hth
            exact absurd e2 (by decide +kernel)
        cases hr2 : mvsE n ((ps ++ [sNoP]).drop (k + (m.length + 1))) (may && !decide (m = [("turn" : Str)])) with
        | inl j =>
          rw [hr2] at h
          cases h
        | inr q =>
          obtain ⟨ms', c'⟩ := q
          rw [hr2] at h
          cases h
          obtain ⟨r1, r2, r3, r4, r5⟩ := mvsE_le (by omega) hr2
          have ih := mvsE_tail hr (by omega) hr2
          have ew : wpS (m :: ms') ++ r = m ++ (sThen :: (wpS ms' ++ r)) := by
            cases ms' with
            | nil => exact absurd rfl r3
            | cons a b =>
              show (m ++ sThen :: wpS (a :: b)) ++ r = _
              rw [List.append_assoc]
              rfl
          have hn : n ≠ 0 := fun e => hc (.inl e)
          rw [ew, mvE_take _ hm]
          dsimp only
          rw [List.drop_left, if_neg (fun z => z.elim hn fun z => z rfl)]
          show (match mvsE n (wpS ms' ++ r) (may && !decide (m = [("turn" : Str)])) with
            | .inl j => .inl (m.length + 1 + j)
            | .inr (ms, c) => .inr (m :: ms, m.length + 1 + c) : Nat ⊕ (List (List Str) × Nat)) = _
          rw [ih]
theorem mvsE_take {n : Nat} {ps : List Str} {k : Nat} {may : Bool} {ms : List (List Str)} {c : Nat} (hk : k ≤ ps.length) (h : mvsE n ((ps ++ [sNoP]).drop k) may = .inr (ms, c)) : mvsE n (wpS ms ++ [sNoP]) may = .inr (ms, c) :=
  mvsE_tail (by decide +kernel) hk h
theorem wrdE_take {ps : List Str} {k : Nat} {ms : List (List Str)} {c : Nat} (hk : k ≤ ps.length) (h : mvsE 4 ((ps ++ [sNoP]).drop k) true = .inr (ms, c)) : wrdE (wpS ms) = .inr ms := by
  obtain ⟨r1, r2, r3, r4, r5⟩ := mvsE_le hk h
  unfold wrdE
  rw [mvsE_take hk h]
  dsimp only
  rw [if_neg (by omega)]
def LevelS (C : Addr) (H : Hp) (p : Addr) (z : Str) : Prop := ∃ dx fs, H p = some (.ins C dx fs) ∧ fs.lookup ("text" : Str) = some (.str z)
theorem lkN {f g : Str} {v r : V} {fs : List (Str × V)} (h : fs.lookup f = some r) (ne : f ≠ g) : (putF g v fs).lookup f = some r := by
  rw [lookup_putF, if_neg ne]
  exact h
theorem lkP {f : Str} {v : V} {fs : List (Str × V)} : (putF f v fs).lookup f = some v := by
  rw [lookup_putF, if_pos rfl]
theorem putF_le (f : Str) (v : V) : ∀ fs : List (Str × V), (putF f v fs).length ≤ fs.length + 1
  | [] => Nat.le_refl _
  | (g, y) :: r => by
    unfold putF
    by_cases h : g = f
    · simp [h]
    · have := putF_le f v r
      simp [h]
      try omega
theorem figs_FS : ∀ z ∈ FS, figM fronts2 z = true → (intText? z).isSome = true := by decide +kernel
theorem lNums_FS : ∀ i : Fin 12, (intText? (sN i.val)).isSome = true ∧ (sN i.val).length ≤ 100 := by decide +kernel
theorem lNums_int {s : Nat} (hs : s ≤ 12) {z : Str} (h : z ∈ lNums s) : (∃ n, intText? z = some n) ∧ z.length ≤ 100 := by
  obtain ⟨i, hi, rfl⟩ := List.mem_map.mp h
  rw [List.mem_range] at hi
  obtain ⟨h1, h2⟩ := lNums_FS ⟨i, by omega⟩
  exact ⟨Option.isSome_iff_exists.mp h1, h2⟩
theorem lvlE_body {ps : List Str} {size : Option Nat} {b : Nat} {g : Bool} (h : lvlE ps size = .inr (b, g)) : bodyE ps size = .inr b := by
  unfold lvlE at h
  cases hb : bodyE ps size with
  | inl j =>
    rw [hb] at h
    cases h
  | inr c =>
    rw [hb] at h
    dsimp only at h
    split at h
    · split at h
      · cases h
      · split at h
        · cases h
        · cases h
          rfl
    · split at h
      · cases h
      · cases h
        rfl
theorem cut_strs {ps : List Str} {b : Nat} (h1 : 1 ≤ ps.length) (hb : b ≤ ps.length) : cutV (strsV ps) (some 1) (some (b : Int)) = strsV ((ps.drop 1).take (b - 1)) := by
  have hsl : (strsV ps).length = ps.length := List.length_map ..
  show cutV (strsV ps) (some ((1 : Nat) : Int)) (some (b : Int)) = _
  unfold cutV
  rw [HT.sIx_nat, HT.sIx_nat, hsl, Nat.min_eq_left (by omega), Nat.min_eq_left (by omega)]
  unfold strsV
  rw [← List.map_drop, ← List.map_take]
/-- fields that an instance has -/
def FsK (ks : List Str) (vs : List V) (n : Nat) (fs : List (Str × V)) : Prop := fs.length ≤ n ∧ (∀ (i : Nat) (k : Str) (v : V), ks[i]? = some k → vs[i]? = some v → fs.lookup k = some v) ∧ ∀ k, k ∉ ks → fs.lookup k = none
theorem lkO {f g : Str} {v : V} {fs : List (Str × V)} (h : fs.lookup f = none) (ne : f ≠ g) : (putF g v fs).lookup f = none := by
  rw [lookup_putF, if_neg ne]
  exact h
theorem FsK.put {ks : List Str} {vs : List V} {n : Nat} {fs : List (Str × V)} (h : FsK ks vs n fs) (f : Str) (v : V) (hk : f ∉ ks) : FsK (f :: ks) (v :: vs) (n + 1) (putF f v fs) :=
  ⟨Nat.le_trans (putF_le f v fs) (Nat.succ_le_succ h.1), fun i k x hi hx => by
    cases i with
    | zero =>
      cases hi
      cases hx
      exact lkP
    | succ i =>
      have hi : ks[i]? = some k := by simpa using hi
      have hx : vs[i]? = some x := by simpa using hx
      exact lkN (h.2.1 i k x hi hx) fun e => hk (e ▸ List.mem_of_getElem? hi), fun k hk2 => lkO (h.2.2 k fun z => hk2 (List.mem_cons_of_mem _ z)) fun e => hk2 (e ▸ List.mem_cons_self ..)⟩
theorem FsK.nil : FsK [] [] 0 [] := ⟨Nat.le_refl _, fun i k v h => by simp at h, fun _ _ => rfl⟩
def lvKeys : List Str := ["entries", "place", "factor", "word", "to_end", "kind", "text"]
theorem WordS.offI {CW C p x dx : Addr} {H : Hp} {fs : List (Str × V)} {o : HO} {z : Str} {ms : List (List Str)} (hp : H p = some (.ins C dx fs)) (h : WordS CW H x z ms) (ne : x ≠ p) : WordS CW (upd H p o) x z ms := by
  obtain ⟨dy, t, rs, h1, h2, h3⟩ := h
  exact ⟨dy, t, rs, by rw [upd_ne ne]; exact h1, by rw [upd_ne (ne_of h2 hp (by intro z; cases z))]; exact h2, h3.offI hp⟩
/-- word, factor, place and entries of a level with these parts, whose body ends at b -/
def LvIs (CW : Addr) (H : Hp) (ps : List Str) (b : Nat) (w fa pl en : V) : Prop :=
  (nthS ps 0 = "same" ∧ ∃ a ms c, mvsE 4 ((ps ++ [sNoP]).drop 1) true = .inr (ms, c) ∧ w = .ref a ∧ WordS CW H a (Txt.join " " (wpS ms)) ms ∧ fa = .non ∧ pl = .non ∧ en = .non) ∨
  (nthS ps 0 = "along" ∧ ∃ n, intText? (nthS ps 1) = some n ∧ w = .non ∧ fa = .int n ∧ pl = .str (nthS ps 2) ∧ en = .non) ∨
  (nthS ps 0 ≠ "same" ∧ nthS ps 0 ≠ "along" ∧ ∃ t, en = .ref t ∧ H t = some (.tup (((ps.drop 1).take (b - 1)).map fun y => V.int ((intText? y).getD 0))) ∧ (∀ y ∈ (ps.drop 1).take (b - 1), (intText? y).isSome = true) ∧ w = .non ∧ fa = .non ∧ pl = .non)
/-- a level stands at p -/
def LevelF (C CW : Addr) (H : Hp) (p : Addr) (z : Str) (ps : List Str) (b : Nat) (g : Bool) : Prop := ∃ dx fs w fa pl en, H p = some (.ins C dx fs) ∧ fs.lookup ("text" : Str) = some (.str z) ∧ fs.lookup ("kind" : Str) = some (.str (nthS ps 0)) ∧ fs.lookup ("to_end" : Str) = some (.bl g) ∧
  fs.lookup ("word" : Str) = some w ∧ fs.lookup ("factor" : Str) = some fa ∧ fs.lookup ("place" : Str) = some pl ∧ fs.lookup ("entries" : Str) = some en ∧ (∀ k, k ∉ lvKeys → fs.lookup k = none) ∧ LvIs CW H ps b w fa pl en
def spLevelInit (C CW0 CW CS : Addr) : Sp := fun vs H Q E => ∃ (p dx : Addr) (z : Str) (sv : V), vs = [.ref p, .str z, sv] ∧ H p = some (.ins C dx []) ∧
  ((∃ size ps, sv = oN size ∧ SizeOk size ∧ Txt.split z " " = ps ∧ 1 ≤ ps.length ∧ ps.length ≤ 500 ∧ (∀ y ∈ ps, y ∈ FS) ∧ z.length ≤ 90000 ∧
    (∀ b g, lvlE ps size = .inr (b, g) → ∀ H', LevelF C CW0 H' p z ps b g → (∀ b o, H b = some o → b ≠ p → H' b = some o) → Q .non H') ∧
    (∀ j, lvlE ps size = .inl j → ∀ H' d, Same H H' → H' d = some (.xd [("index", .int ((j : Nat) : Int))]) → E (.ref CW) (some d) H')) ∨
   (∃ ib, IsI H sv ib ∧ sv ≠ .non ∧ btM 2 12 sv = false ∧ ∀ H' d, Same H H' → H' d = some (.xd [("size", sv)]) → E (.ref CS) (some d) H'))
theorem ok_Level_init (T : Tx w K mg a) : FnOk P w K mg base (L2.CX P w) 8 a.f_Level_init a.d_Level_init ["self", "text", "size"] (spLevelInit a.C_Level a.C_Word a.C_BadWord a.C_BadSize) := by
  refine T.F_Level_init.ok sc_Level_init (fun vs H Q E h => ?_) (fun cdv A outer s H vs Q E hr h => ?_)
  · obtain ⟨p, dx, z, sv, rfl, _⟩ := h
    rfl
  · obtain ⟨p, dx, z, sv, rfl, hp, hh⟩ := h
    refine ⟨_, 
(C8.pss_cut (ps_if (PW.pt (pw_and (pt_cmpR op_notN (pv 2) pe_non (nomark _)) (pw_and1 (pt_not (pt_val (pe_call (ok_is_between T) (hr.mono (by decide)) (by rfl) T.m_is_between T.F_is_between.kp T.b_is_between .nil pass0 (pa_cons (pv 2) (pa_cons (pe_glob (v := .int 2) (by rfl) T.m_LEAST_SINGLE.choose_spec ⟨_, rfl⟩) (pa_cons (pe_glob (v := .int 12) (by rfl) T.m_MOST_SINGLE.choose_spec ⟨_, rfl⟩) pa_nil)))))))))
  (pss_one (ps_raise rfl (takes_of rfl rfl rfl rfl) (pmk_oex T.ox_BadSize.o T.ox_BadSize.ini T.ox_BadSize.tin (ok_BadSize_init T) (hr.mono (by decide)) T.b_BadSize_init .nil pass0 (by rfl) T.c_BadSize (pa_cons (pv 2) pa_nil))))
  pss_nil)
  (pss_cons (ps_set (i := 3) sc_Level_init.nd rfl (.inl rfl) (pe_split (pv 1) pe_str))
  (pss_cons (ps_asg (pe_callS (ok_read_level T) hr (by rfl) T.m_read_level T.F_read_level.kp T.b_read_level (fun σ => passAt (takes_of rfl rfl rfl rfl) σ) (pa_cons (pe_lst (StX.pa_star (pv 3) (pa_cons (pe_glob (v := .str "") (by rfl) T.m_NO_PART.choose_spec ⟨_, rfl⟩) pa_nil))) (pa_cons (pv 2) pa_nil))) (pg_tup rfl (pgs_cons (pg_name (i := 4) sc_Level_init.nd rfl (.inl rfl)) (pgs_cons (pg_name (i := 5) sc_Level_init.nd rfl (.inl rfl)) pgs_nil))))
  (pss_cons (ps_fld (pv 0) (pv 1) rfl)
  (pss_cons (ps_fld (pv 0) (pe_ix ix_list (pv 3) pe_int (fun _ _ => rfl)) rfl)
  (pss_cons (ps_fld (pv 0) (pv 5) rfl)
  (pss_cons (ps_fld (pv 0) pe_non rfl)
  (pss_cons (ps_fld (pv 0) pe_non rfl)
  (pss_cons (ps_fld (pv 0) pe_non rfl)
  (pss_cons (ps_fld (pv 0) pe_non rfl)
  (pss_one (ps_if (pt_cmpR op_eq (pe_fld (pv 0) rfl) pe_str (nomark _))
  (pss_one (ps_fld (pv 0) (pe_makeS T.mk_Word (ok_Word_init T) hr (by rfl) T.c_Word T.b_Word_init .nil (takes_of rfl rfl rfl rfl) (pa_cons (pe_join pe_str (pe_slice sl_list (pv 3) (po_some pe_int) (po_some (pv 4)))) pa_nil)) rfl))
  (pss_one (ps_if (pt_cmpR op_eq (pe_fld (pv 0) rfl) pe_str (nomark _))
  (pss_cons (ps_fld (pv 0) (pe_callTy call_int_str (by rfl) T.z_int (by decide +kernel) (pa_cons (pe_ix ix_list (pv 3) pe_int (fun _ _ => rfl)) pa_nil)) rfl)
  (pss_one (ps_fld (pv 0) (pe_ix ix_list (pv 3) pe_int (fun _ _ => rfl)) rfl)))
  (pss_one (ps_fld (pv 0) (pe_callTy call_tuple_of (by rfl) T.z_tuple (by decide +kernel) (pa_cons (pe_lc (own := [("part", 6)]) (g := gName 6) rfl sc_Level_init.nd (pi_list (pe_slice sl_list (pv 3) (po_some pe_int) (po_some (pv 4)))) (blkOk_by (own := [("part", 6)]) (N := ["self", "text", "size", "parts", "behind", "goes_on", "part"]) (sc := defScope s_Level_init) (by decide +kernel)) (fun _ _ _ _ _ => pg_name (i := 6) sc_Level_init.nd rfl (Or.inl rfl)) (fun _ _ _ _ _ => pts_nil) (fun _ _ _ _ _ => (pe_callTy call_int_str (by rfl) T.z_int (by decide +kernel) (pa_cons (pv 6) pa_nil)))) pa_nil)) rfl)))))))))))))))), ?_⟩
    rcases hh with ⟨size, ps, rfl, hsz, hsp, h1, hl5, hF, hzl, qY, qN⟩ | ⟨ib, hI, hnn, hbt, hE⟩
    rotate_left
    · refine ⟨fun _ _ => False, ?_, fun _ _ h => h.elim⟩
      refine ⟨_, rfl, rfl, _, rfl, ?_⟩
      rw [decide_eq_false hnn]
      refine ⟨_, rfl, sv, ib, 2, 12, rfl, hI, _, rfl, ?_⟩
      rw [hbt]
      exact ⟨_, rfl, (by decide : 1 ≤ 1000), err_end (Same.refl H) hE⟩
    have hok := FS_ok hF hl5
    refine ⟨fun σ' H' => σ' = [some (.ref p), some (.str z), some (oN size), none, none, none, none] ∧ H' = H, ?_, ?_⟩
    · refine ⟨_, rfl, rfl, _, rfl, ?_⟩
      cases size with
      | none => exact ⟨rfl, rfl⟩
      | some n =>
        refine ⟨_, rfl, .int (n : Int), true, 2, 12, rfl, .int _, _, rfl, ?_⟩
        have e : btM 2 12 (.int (n : Int)) = true := by
          have := hsz.1
          have := hsz.2
          simp only [btM, Bool.and_eq_true, decide_eq_true_eq]
          omega
        rw [e]
        exact ⟨rfl, rfl⟩
    rintro σ' H' ⟨rfl, rfl⟩
    -- parts = text.split(' ')
    refine ⟨.str z, rfl, ⟨_, rfl⟩, z, " ", rfl, rfl, (by decide +kernel), sz (by omega), fun l nl => ?_⟩
    rw [hsp]
    have s1 := same_upd (o := .lst (ps.map V.str)) nl
    have hl1 : (upd H' l (.lst (ps.map V.str))) l = some (.lst (ps.map V.str)) := upd_same
    have hp1 := s1 _ _ hp
    generalize upd H' l (.lst (ps.map V.str)) = H1 at s1 hl1 hp1 ⊢
    -- behind, goes_on = read_level([*parts, NO_PART], size)
    refine ⟨.ref l, rfl, l, _, rfl, .inr (SqL.at hl1), sz (by simp; omega), fun l2 nl2 => ?_⟩
    have s2 := same_upd (o := .lst (ps.map V.str ++ [.str ""])) nl2
    have hl2 : (upd H1 l2 (.lst (ps.map V.str ++ [.str ""]))) l2 = some (.lst (strsV (ps ++ [sNoP]))) := by
      rw [upd_same]
      unfold strsV
      rw [List.map_append]
      rfl
    generalize upd H1 l2 (.lst (ps.map V.str ++ [.str ""])) = H2 at s2 hl2 ⊢
    refine ⟨_, rfl, l2, ps, size, rfl, hl2, h1, hok, hsz, fun b g hbg o H3 no ho s3 => ?_, fun j hj H3 d s3 ed => ?_⟩
    rotate_left
    · exact qN j hj H3 d (s1.trans (s2.trans s3)) ed
    refine ⟨o, [.int (b : Int), .bl g], rfl, SqT.at ho, rfl, _, [.bl g], rfl, _, [], rfl, rfl, ?_⟩
    have s13 := s2.trans s3
    have hl3 := s13 _ _ hl1
    have hp3 := s13 _ _ hp1
    have s03 := s1.trans s13
    have hbo := lvlE_body hbg
    obtain ⟨b1, b2⟩ := bodyE_le hsz h1 hbo
    have qY := qY _ _ hbg
    have npl : l ≠ p := ne_of hl3 hp3 (by intro z; cases z)
    have g0 : atI (ps.map V.str) ((0 : Nat) : Int) = some (.str (nthS ps 0)) := atI_nat (by
      have := nth_get (Nat.zero_le ps.length)
      rw [List.getElem?_append_left h1] at this
      rw [List.getElem?_map, this]
      rfl)
    clear hl2
    -- self.text = text; self.kind = parts[0]; self.to_end = goes_on
    refine ⟨.str z, rfl, .ref p, rfl, p, a.C_Level, dx, [], rfl, hp3, T.cl_Level, T.n_Level_text, (show 0 < 1000 by decide), ?_⟩
    have hlA : (upd H3 p (.ins a.C_Level dx (putF "text" (.str z) []))) l = some (.lst (ps.map V.str)) := by
      rw [upd_ne npl]
      exact hl3
    refine ⟨.ref l, rfl, l, _, _, _, rfl, rfl, SqL.at hlA, g0, .ref p, rfl, p, a.C_Level, dx, _, rfl, upd_same, T.cl_Level, T.n_Level_kind, (show 1 < 1000 by decide), ?_⟩
    rw [upd_upd]
    have k2 : FsK ["kind", "text"] [.str (nthS ps 0), .str z] 2 (putF "kind" (.str (nthS ps 0)) (putF "text" (.str z) [])) := (FsK.nil.put "text" (.str z) (by decide +kernel)).put "kind" (.str (nthS ps 0)) (by decide +kernel)
    generalize (putF "kind" (.str (nthS ps 0)) (putF "text" (.str z) [])) = f2 at k2 ⊢
    refine ⟨.bl g, rfl, .ref p, rfl, p, a.C_Level, dx, _, rfl, upd_same, T.cl_Level, T.n_Level_to_end, (by have := k2.1; omega), ?_⟩
    rw [upd_upd]
    have k3 := k2.put "to_end" (.bl g) (by decide +kernel)
    generalize (putF "to_end" (.bl g) f2) = f3 at k3 ⊢
    refine ⟨.ref p, rfl, p, a.C_Level, dx, _, rfl, upd_same, T.cl_Level, T.n_Level_word, (by have := k3.1; omega), ?_⟩
    rw [upd_upd]
    have k4 := k3.put "word" .non (by decide +kernel)
    generalize (putF "word" .non f3) = f4 at k4 ⊢
    refine ⟨.ref p, rfl, p, a.C_Level, dx, _, rfl, upd_same, T.cl_Level, T.n_Level_factor, (by have := k4.1; omega), ?_⟩
    rw [upd_upd]
    have k5 := k4.put "factor" .non (by decide +kernel)
    generalize (putF "factor" .non f4) = f5 at k5 ⊢
    refine ⟨.ref p, rfl, p, a.C_Level, dx, _, rfl, upd_same, T.cl_Level, T.n_Level_place, (by have := k5.1; omega), ?_⟩
    rw [upd_upd]
    have k6 := k5.put "place" .non (by decide +kernel)
    generalize (putF "place" .non f5) = f6 at k6 ⊢
    refine ⟨.ref p, rfl, p, a.C_Level, dx, _, rfl, upd_same, T.cl_Level, T.n_Level_entries, (by have := k6.1; omega), ?_⟩
    rw [upd_upd]
    have k7 := k6.put "entries" .non (by decide +kernel)
    generalize (putF "entries" .non f6) = fs at k7 ⊢
    have kl := k7.1
    have x0 : fs.lookup ("entries" : Str) = some .non := k7.2.1 0 _ _ rfl rfl
    have x1 : fs.lookup ("place" : Str) = some .non := k7.2.1 1 _ _ rfl rfl
    have x2 : fs.lookup ("factor" : Str) = some .non := k7.2.1 2 _ _ rfl rfl
    have x3 : fs.lookup ("word" : Str) = some .non := k7.2.1 3 _ _ rfl rfl
    have x4 : fs.lookup ("to_end" : Str) = some (.bl g) := k7.2.1 4 _ _ rfl rfl
    have x5 : fs.lookup ("kind" : Str) = some (.str (nthS ps 0)) := k7.2.1 5 _ _ rfl rfl
    have x6 : fs.lookup ("text" : Str) = some (.str z) := k7.2.1 6 _ _ rfl rfl
    have xo : ∀ k, k ∉ lvKeys → fs.lookup k = none := k7.2.2
    clear k7
    clear k2 k3 k4 k5 k6 hlA
    have hF7 : ∀ t u, H' t = some u → t ≠ p → (upd H3 p (.ins a.C_Level dx fs)) t = some u := fun t u e ne => by
      rw [upd_ne ne]
      exact s03 _ _ e
    have hl7 : (upd H3 p (.ins a.C_Level dx fs)) l = some (.lst (ps.map V.str)) := by
      rw [upd_ne npl]
      exact hl3
    have hp7 : (upd H3 p (.ins a.C_Level dx fs)) p = some (.ins a.C_Level dx fs) := upd_same
    generalize upd H3 p (.ins a.C_Level dx fs) = H7 at hF7 hl7 hp7 ⊢
    have hcut := cut_strs h1 b1
    -- if self.kind == 'same'
    refine ⟨.ref p, rfl, p, a.C_Level, dx, fs, _, rfl, hp7, T.cl_Level, T.n_Level_kind, x5, rfl, _, rfl, ?_⟩
    have hbo2 := hbo
    unfold bodyE hd at hbo
    by_cases c1 : nthS ps 0 = "same"
    · rw [decide_eq_true (show V.str (nthS ps 0) = V.str "same" by rw [c1])]
      rw [if_pos c1] at hbo
      cases hm : mvsE 4 ((ps ++ [sNoP]).drop 1) true with
      | inl j =>
        rw [hm] at hbo
        cases hbo
      | inr q =>
      obtain ⟨ms, c⟩ := q
      rw [hm] at hbo
      dsimp only at hbo
      have hbc : 1 + c = b := Sum.inr.inj hbo
      obtain ⟨r1, r2, r3, r4, r5⟩ := mvsE_le h1 hm
      have hw := wrdE_take h1 hm
      have hsl : (ps.drop 1).take (b - 1) = wpS ms := by rw [← hbc, Nat.add_sub_cancel_left]; exact r2
      have hwF : ∀ y ∈ wpS ms, y ∈ FS := fun y hy => by
        rw [← hsl] at hy
        exact hF y (List.mem_of_mem_drop (List.mem_of_mem_take hy))
      have hwl : (wpS ms).length ≤ 500 := by
        rw [← r5]
        omega
      have hwne : wpS ms ≠ [] := fun e => by
        obtain ⟨j, ej⟩ : ∃ j, mvsE 4 (wpS ms ++ [sNoP]) true = .inl j := by
          rw [e]
          exact ⟨0, by decide +kernel⟩
        rw [mvsE_take h1 hm] at ej
        cases ej
      refine iteT ⟨⟨_, rfl⟩, .ref l, rfl, _, rfl, _, rfl, _, rfl, l, _, rfl, SqL.at hl7, fun o2 no2 => ?_⟩
      have hcut : cutV (ps.map V.str) (some 1) (some (b : Int)) = (wpS ms).map V.str := by
        rw [← hsl]
        exact hcut
      rw [hcut]
      have s8 := same_upd (o := .lst ((wpS ms).map V.str)) no2
      have he : (upd H7 o2 (.lst ((wpS ms).map V.str))) o2 = some (.lst ((wpS ms).map V.str)) := upd_same
      generalize upd H7 o2 (.lst ((wpS ms).map V.str)) = H8 at s8 he ⊢
      have hwn : ∀ y ∈ wpS ms, y.length ≤ 100 := fun y hy => (FS_chk (hwF y hy)).2.2.1
      have hjl := join_len (zs := wpS ms) hwn
      refine ⟨" ", o2, wpS ms, rfl, rfl, .inl (SqL.at he), join_size hwn (by omega), fun x dx2 nx ndx nxd => ?_⟩
      have hold8 : ∀ t u, H8 t = some u → (upd (upd H8 dx2 (.own x)) x (.ins a.C_Word dx2 [])) t = some u := fun t u e => by
        rw [upd_ne (ne_of_none e nx), upd_ne (ne_of_none e ndx)]
        exact e
      refine ⟨x, dx2, Txt.join " " (wpS ms), wpS ms, rfl, upd_same, split_FS hwne hwF, FS_ok hwF hwl, by omega, fun ms' hm' H9 hW hold => ?_, fun j hj => ?_⟩
      · have h9p := hold p _ (hold8 p _ (s8 _ _ hp7)) (ne_of_none (s8 _ _ hp7) nx)
        refine ⟨rfl, .ref p, rfl, p, a.C_Level, dx, fs, rfl, h9p, T.cl_Level, T.n_Level_word, (by omega), ?_⟩
        have hxp : x ≠ p := (ne_of_none (s8 _ _ hp7) nx).symm
        have hwm : ms' = ms := by
          rw [hw] at hm'
          exact (Sum.inr.inj hm').symm
        subst hwm
        refine qY _ ⟨dx, _, _, _, _, _, upd_same, lkN x6 (by decide +kernel), lkN x5 (by decide +kernel), lkN x4 (by decide +kernel), lkP, lkN x2 (by decide +kernel), lkN x1 (by decide +kernel), lkN x0 (by decide +kernel), (fun k hk => lkO (xo k hk) fun e => hk (e ▸ (by decide +kernel))), .inl ⟨c1, x, _, c, hm, rfl, hW.offI h9p hxp, rfl, rfl, rfl⟩⟩ fun t u e ne => ?_
        rw [upd_ne ne]
        have e8 := s8 _ _ (hF7 t u e ne)
        exact hold t u (hold8 t u e8) (ne_of_none e8 nx)
      · rw [hw] at hj
        cases hj
    rw [decide_eq_false (show ¬ V.str (nthS ps 0) = V.str "same" from fun e => c1 (V.str.inj e))]
    rw [if_neg c1] at hbo
    refine iteF ⟨.ref p, rfl, p, a.C_Level, dx, fs, _, rfl, hp7, T.cl_Level, T.n_Level_kind, x5, rfl, _, rfl, ?_⟩
    by_cases c2 : nthS ps 0 = "along"
    · rw [decide_eq_true (show V.str (nthS ps 0) = V.str "along" by rw [c2])]
      rw [if_pos c2] at hbo
      by_cases f1 : figM fronts2 (nthS ps 1) = true
      rotate_left
      · rw [if_neg f1] at hbo
        cases hbo
      rw [if_pos f1] at hbo
      by_cases f2 : ipM (nthS ps 2) = true
      rotate_left
      · rw [if_neg f2] at hbo
        cases hbo
      rw [if_pos f2] at hbo
      have hb3 : 3 = b := Sum.inr.inj hbo
      have gk : ∀ k, k < ps.length → nthS ps k ∈ ps ∧ atI (ps.map V.str) ((k : Nat) : Int) = some (.str (nthS ps k)) := fun k hk => by
        have := nth_get (Nat.le_of_lt hk)
        rw [List.getElem?_append_left hk] at this
        exact ⟨List.mem_of_getElem? this, atI_nat (by
          rw [List.getElem?_map, this]
          rfl)⟩
      obtain ⟨m1, g1⟩ := gk 1 (by omega)
      obtain ⟨m2, g2⟩ := gk 2 (by omega)
      obtain ⟨n, hn⟩ := Option.isSome_iff_exists.mp (figs_FS _ (hF _ m1) f1)
      have hl1' := (FS_chk (hF _ m1)).2.2.1
      refine iteT ⟨.ref l, rfl, l, _, _, _, rfl, rfl, SqL.at hl7, g1, nthS ps 1, n, rfl, hn, by omega, .ref p, rfl, p, a.C_Level, dx, fs, rfl, hp7, T.cl_Level, T.n_Level_factor, (by omega), ?_⟩
      have hlA : (upd H7 p (.ins a.C_Level dx (putF "factor" (.int n) fs))) l = some (.lst (ps.map V.str)) := by
        rw [upd_ne npl]
        exact hl7
      have k9l := putF_le "factor" (.int n) fs
      refine ⟨.ref l, rfl, l, _, _, _, rfl, rfl, SqL.at hlA, g2, .ref p, rfl, p, a.C_Level, dx, _, rfl, upd_same, T.cl_Level, T.n_Level_place, (by omega), ?_⟩
      rw [upd_upd]
      refine qY _ ⟨dx, _, _, _, _, _, upd_same, lkN (lkN x6 (by decide +kernel)) (by decide +kernel), lkN (lkN x5 (by decide +kernel)) (by decide +kernel), lkN (lkN x4 (by decide +kernel)) (by decide +kernel), lkN (lkN x3 (by decide +kernel)) (by decide +kernel), lkN lkP (by decide +kernel), lkP, lkN (lkN x0 (by decide +kernel)) (by decide +kernel), (fun k hk => lkO (lkO (xo k hk) fun e => hk (e ▸ (by decide +kernel))) fun e => hk (e ▸ (by decide +kernel))), .inr (.inl ⟨c2, n, hn, rfl, rfl, rfl, rfl⟩)⟩ fun t u e ne => ?_
      rw [upd_ne ne]
      exact hF7 t u e ne
    rw [decide_eq_false (show ¬ V.str (nthS ps 0) = V.str "along" from fun e => c2 (V.str.inj e))]
    rw [if_neg c2] at hbo
    have hall : ∀ y ∈ (ps.drop 1).take (b - 1), (∃ n, intText? y = some n) ∧ y.length ≤ 100 := by
      cases size with
      | none => cases hbo
      | some s =>
        dsimp only at hbo
        by_cases c3 : nthS ps 0 = "list"
        · rw [if_pos c3] at hbo
          split at hbo
          · cases hbo
          · have hb4 : 1 + cntN (lNums s) s ((ps ++ [sNoP]).drop 1) = b := Sum.inr.inj hbo
            intro y hy
            refine lNums_int hsz.2 (cntN_all (lNums s) s ((ps ++ [sNoP]).drop 1) y ?_)
            rw [List.drop_append_of_le_length h1] at hb4 ⊢
            rw [List.take_append_of_le_length (by rw [List.length_drop]; omega), show cntN (lNums s) s (ps.drop 1 ++ [sNoP]) = b - 1 by omega]
            exact hy
        · rw [if_neg c3] at hbo
          cases hbo
    have hLl : ((ps.drop 1).take (b - 1)).length ≤ 500 := by
      rw [List.length_take, List.length_drop]
      omega
    refine iteF ⟨.ref l, rfl, _, rfl, _, rfl, _, rfl, l, _, rfl, SqL.at hl7, fun o2 no2 => ?_⟩
    rw [show cutV (ps.map V.str) (some 1) (some (b : Int)) = ((ps.drop 1).take (b - 1)).map V.str from hcut]
    generalize hL : (ps.drop 1).take (b - 1) = L at hall hLl
    have s8 := same_upd (o := .lst (L.map V.str)) no2
    have he : (upd H7 o2 (.lst (L.map V.str))) o2 = some (.lst (L.map V.str)) := upd_same
    generalize upd H7 o2 (.lst (L.map V.str)) = H8 at s8 he ⊢
    refine ⟨o2, rfl, ⟨_, SqL.at he⟩, fun D hD => ?_⟩
    refine lc_it (walk_list (xs := L.map V.str)) (fun j H' => Same H8 H' ∧ H' D = some (.lst ((L.take j).map fun y => V.int ((intText? y).getD 0)))) ?h0 ?hG ?hs ?hd
    case h0 => exact ⟨same_upd hD, upd_same⟩
    case hG =>
      rintro j H9 _ ⟨sm, _⟩
      exact SqL.at (sm _ _ he)
    case hs =>
      rintro j x H9 H10 hj ⟨sm, e⟩ ⟨rfl, ex⟩
      rw [List.length_map] at hj
      rw [List.getElem?_map, List.getElem?_eq_getElem hj] at ex
      cases ex
      obtain ⟨⟨n, hn⟩, hnl⟩ := hall L[j] (List.getElem_mem hj)
      have et : L.take (j + 1) = L.take j ++ [L[j]] := by
        rw [List.take_add_one, List.getElem?_eq_getElem hj]
        rfl
      refine ⟨rfl, _, rfl, L[j], n, rfl, hn, by omega, _, e, ?_, keep_upd sm hD, ?_⟩
      · rw [List.length_map, List.length_take]
        exact szlt (by omega)
      · rw [upd_same, et, List.map_append]
        simp only [List.map_cons, List.map_nil, hn, Option.getD_some]
    rintro H9 ⟨s9, e9⟩
    have s79 := s8.trans s9
    refine ⟨D, _, rfl, .inl ⟨SqL.at e9, fun t nt => ?_⟩⟩
    have s10 := s79.trans (same_upd (o := .tup ((L.take (L.map V.str).length).map fun y => V.int ((intText? y).getD 0))) nt)
    have et : (upd H9 t (.tup ((L.take (L.map V.str).length).map fun y => V.int ((intText? y).getD 0)))) t = some (.tup ((L.take (L.map V.str).length).map fun y => V.int ((intText? y).getD 0))) := upd_same
    have ntp : t ≠ p := (ne_of_none (s79 _ _ hp7) nt).symm
    refine ⟨.ref p, rfl, p, a.C_Level, dx, fs, rfl, s10 _ _ hp7, T.cl_Level, T.n_Level_entries, (by omega), ?_⟩
    refine qY _ ⟨dx, _, _, _, _, _, upd_same, lkN x6 (by decide +kernel), lkN x5 (by decide +kernel), lkN x4 (by decide +kernel), lkN x3 (by decide +kernel), lkN x2 (by decide +kernel), lkN x1 (by decide +kernel), lkP, (fun k hk => lkO (xo k hk) fun e => hk (e ▸ (by decide +kernel))), .inr (.inr ⟨c1, c2, t, rfl, ?_, fun y hy => ?_, rfl, rfl, rfl⟩)⟩ fun u o e ne => ?_
    · rw [upd_ne ntp, et, hL, List.length_map, List.take_length]
    · rw [hL] at hy
      obtain ⟨⟨n, hn⟩, _⟩ := hall y hy
      rw [hn]
      rfl
    · rw [upd_ne ne]
      exact s10 _ _ (hF7 u o e ne)
end

/-! ### the law's walk along a level -/
/-- where the ending that begins at b goes wrong -/
def endW (ps : List Str) (b : Nat) : Option Nat := if b = ps.length then none else match endE ((ps ++ [sNoP]).drop b) sEnding with
  | some j => some (b + j)
  | none => if b + 3 < ps.length then some (b + 3) else none
def lvlW (ps : List Str) (size : Option Nat) : Option Nat := match lvlE ps size with
  | .inl j => some j
  | .inr _ => none
def oV : Option Nat → V
  | none => .non
  | some j => .int (j : Int)
def szI : Option Nat → Int
  | none => 0
  | some s => (s : Int)
theorem nth_at {ps : List Str} {k : Nat} (hk : k < ps.length) : atI (ps.map V.str) ((k : Nat) : Int) = some (.str (nthS ps k)) := by
  have := nth_get (Nat.le_of_lt hk)
  rw [List.getElem?_append_left hk] at this
  exact atI_nat (by
    rw [List.getElem?_map, this]
    rfl)
theorem nth_mem {ps : List Str} {k : Nat} (hk : k < ps.length) : nthS ps k ∈ ps := by
  have := nth_get (Nat.le_of_lt hk)
  rw [List.getElem?_append_left hk] at this
  exact List.mem_of_getElem? this
theorem lvlW_list {ps : List Str} {n : Nat} (hh : hd ps = "list") : lvlW ps (some n) = if 1 + cntN (lNums n) n ((ps ++ [sNoP]).drop 1) < n then some (1 + cntN (lNums n) n ((ps ++ [sNoP]).drop 1)) else
    if n < 1 + cntN (lNums n) n ((ps ++ [sNoP]).drop 1) then (match endE ((ps ++ [sNoP]).drop (1 + cntN (lNums n) n ((ps ++ [sNoP]).drop 1))) sEnding with
      | some j => some (1 + cntN (lNums n) n ((ps ++ [sNoP]).drop 1) + j)
      | none => if 1 + cntN (lNums n) n ((ps ++ [sNoP]).drop 1) + 3 < ps.length then some (1 + cntN (lNums n) n ((ps ++ [sNoP]).drop 1) + 3) else none)
    else if 1 + cntN (lNums n) n ((ps ++ [sNoP]).drop 1) < ps.length then some (1 + cntN (lNums n) n ((ps ++ [sNoP]).drop 1)) else none := by
  have hbd : bodyE ps (some n) = if 1 + cntN (lNums n) n ((ps ++ [sNoP]).drop 1) < n then .inl (1 + cntN (lNums n) n ((ps ++ [sNoP]).drop 1)) else .inr (1 + cntN (lNums n) n ((ps ++ [sNoP]).drop 1)) := by
    unfold bodyE
    rw [hh, if_neg (by decide +kernel), if_neg (by decide +kernel)]
    exact if_pos rfl
  have hgo : ∀ b, goesOn ps (some n) b = decide (n < b) := fun b => by
    unfold goesOn
    rw [if_pos hh]
    rfl
  unfold lvlW lvlE
  rw [hbd]
  generalize 1 + cntN (lNums n) n ((ps ++ [sNoP]).drop 1) = b
  by_cases c1 : b < n
  · rw [if_pos c1, if_pos c1]
  · rw [if_neg c1, if_neg c1]
    dsimp only
    rw [hgo]
    by_cases c2 : n < b
    · rw [decide_eq_true c2, if_pos rfl, if_pos c2]
      cases endE ((ps ++ [sNoP]).drop b) sEnding with
      | some j => rfl
      | none =>
        dsimp only
        by_cases c3 : b + 3 < ps.length
        · rw [if_pos c3, if_pos c3]
        · rw [if_neg c3, if_neg c3]
    · rw [decide_eq_false c2, if_neg (by decide), if_neg c2]
      by_cases c3 : b < ps.length
      · rw [if_pos c3, if_pos c3]
      · rw [if_neg c3, if_neg c3]
theorem lvlW_other {ps : List Str} {size : Option Nat} {b : Nat} (hh : hd ps ≠ "list") (hb : bodyE ps size = .inr b) (hle : b ≤ ps.length) : lvlW ps size = endW ps b := by
  have hgo : goesOn ps size b = decide (b < ps.length) := by
    unfold goesOn
    rw [if_neg hh]
  unfold lvlW lvlE endW
  rw [hb]
  dsimp only
  rw [hgo]
  by_cases c : b = ps.length
  · rw [if_pos c, decide_eq_false (by omega), if_neg (by decide), if_neg (by omega)]
  · rw [if_neg c, decide_eq_true (by omega), if_pos rfl]
    cases endE ((ps ++ [sNoP]).drop b) sEnding with
    | some j => rfl
    | none =>
      dsimp only
      by_cases c3 : b + 3 < ps.length
      · rw [if_pos c3, if_pos c3]
      · rw [if_neg c3, if_neg c3]
theorem lvlW_inl {ps : List Str} {size : Option Nat} {b : Nat} (hb : bodyE ps size = .inl b) : lvlW ps size = some b := by
  unfold lvlW lvlE
  rw [hb]
theorem FS_nums : ∀ z ∈ FS, inV (.str z) (nums.map V.str) = figM fronts2 z := by decide +kernel
def rLen2 (K : PySem.W.Frag) : List V → Hp → VK → Prop := fun xs H_1 Q => ∃ p ys, xs = [V.ref p] ∧ (SqL K H_1 p ys ∨ SqT K H_1 p ys) ∧ Q (V.int ↑ys.length) H_1
section
variable {P : Program} {w : World} {K : PySem.W.Frag} {mg : Str → Option Value} {base : Heap} {a : Ad}
def spEndingWrong : Sp := fun vs H Q _ => ∃ (p : Addr) (ps : List Str) (b : Nat), vs = [.ref p, .int (b : Int)] ∧ H p = some (.lst (ps.map V.str)) ∧ b ≤ ps.length ∧ ps.length ≤ 500 ∧ ∀ H', Same H H' → Q (oV (endW ps b)) H'
theorem ok__law_ending_wrong (T : Tx w K mg a) : FnOk P w K mg base CX0 1 a.f__law_ending_wrong a.d__law_ending_wrong ["parts", "at"] spEndingWrong := by
  refine T.F__law_ending_wrong.ok sc__law_ending_wrong (fun vs H Q E h => ?_) (fun cdv A outer s H vs Q E hr h => ?_)
  · obtain ⟨p, ps, b, rfl, _⟩ := h
    rfl
  · obtain ⟨p, ps, b, rfl, hp, hb, hl, q⟩ := h
    refine ⟨_, 
(pss_cons (ps_if (pt_cmpR op_eq (pv 1) (pe_callB call_len_seq (by rfl) T.z_len PySem.boot_len (pa_cons (pv 0) pa_nil)) (nomark _))
  (pss_one (ps_ret pe_non))
  pss_nil)
  (pss_cons (ps_for PassesOwn.never rfl (pi_tup (pe_tup (pa_cons pe_str (pa_cons pe_str (pa_cons pe_str pa_nil))))) (pg_name (i := 2) sc__law_ending_wrong.nd rfl (.inl rfl))
  (pss_cons (ps_if (pt_cmpR op_ge (pv 1) (pe_callB call_len_seq (by rfl) T.z_len PySem.boot_len (pa_cons (pv 0) pa_nil)) (nomark _))
  (pss_one (ps_ret (pe_callB call_len_seq (by rfl) T.z_len PySem.boot_len (pa_cons (pv 0) pa_nil))))
  pss_nil)
  (pss_cons (ps_if (pt_cmpR op_ne (pe_ix ix_list (pv 0) (pv 1) (fun _ _ => rfl)) (pv 2) (nomark _))
  (pss_one (ps_ret (pv 1)))
  pss_nil)
  (pss_one (ps_set (i := 1) sc__law_ending_wrong.nd rfl (.inl rfl) (pe_op op_add (pv 1) pe_int))))))
  (pss_one (ps_ret (pe_ifExp (pt_cmpR op_eq (pv 1) (pe_callB call_len_seq (by rfl) T.z_len PySem.boot_len (pa_cons (pv 0) pa_nil)) (nomark _)) pe_non (pv 1)))))), ?_⟩
    have hpl : (ps.map V.str).length = ps.length := List.length_map ..
    unfold endW at q
    -- if at == len(parts)
    refine ⟨_, rfl, _, rfl, p, _, rfl, .inl (SqL.at hp), rfl, _, rfl, ?_⟩
    rw [hpl]
    by_cases c0 : b = ps.length
    · rw [decide_eq_true (show V.int (b : Int) = V.int (ps.length : Int) by rw [c0])]
      rw [if_pos c0] at q
      exact iteT (q H (Same.refl H))
    rw [decide_eq_false (show ¬ V.int (b : Int) = V.int (ps.length : Int) from fun e => c0 (by have := V.int.inj e; omega))]
    rw [if_neg c0] at q
    refine iteF ⟨sz (show 3 ≤ 100000 by decide), fun t nt => ⟨t, rfl, ⟨_, SqT.at upd_same⟩, ?_⟩⟩
    have s1 := same_upd (o := .tup [V.str "to", V.str "the", V.str "end"]) nt
    have et : (upd H t (.tup [V.str "to", V.str "the", V.str "end"])) t = some (.tup (sEnding.map V.str)) := upd_same
    have hp1 := s1 _ _ hp
    generalize upd H t (.tup [V.str "to", V.str "the", V.str "end"]) = H1 at s1 et hp1 ⊢
    refine for_it (walk_tup (xs := sEnding.map V.str)) (fun j σ H3 => (∃ y, σ = [some (.ref p), some (.int ((b + j : Nat) : Int)), y]) ∧ Same H1 H3 ∧ b + j ≤ ps.length ∧ endE ((ps ++ [sNoP]).drop b) sEnding = (endE ((ps ++ [sNoP]).drop (b + j)) (sEnding.drop j)).map (· + j)) ?h0 ?hG ?hs ?hd
    case h0 => exact ⟨⟨none, rfl⟩, Same.refl _, hb, by simp⟩
    case hG =>
      rintro j σ H3 hj ⟨⟨y, rfl⟩, s3, _⟩
      exact SqT.at (s3 _ _ et)
    case hs =>
      rintro j v σ H3 H4 hj ⟨⟨y, rfl⟩, s3, hij, hch⟩ ⟨rfl, ev⟩
      have hjk : j < sEnding.length := hj
      rw [List.getElem?_map, List.getElem?_eq_getElem hjk] at ev
      cases ev
      have hp3 := s3 _ _ hp1
      have hst : endE ((ps ++ [sNoP]).drop (b + j)) (sEnding.drop j) = if nthS ps (b + j) = sEnding[j] then (endE ((ps ++ [sNoP]).drop (b + (j + 1))) (sEnding.drop (j + 1))).map (· + 1) else some 0 := by
        obtain ⟨h1, e1⟩ := List.getElem?_eq_some_iff.mp (nth_get hij)
        rw [List.drop_eq_getElem_cons h1, List.drop_eq_getElem_cons hjk, e1]
        rfl
      have stop : nthS ps (b + j) ≠ sEnding[j] → Q (.int ((b + j : Nat) : Int)) H4 := fun ne => by
        rw [if_neg ne] at hst
        have hin : endE ((ps ++ [sNoP]).drop b) sEnding = some j := by
          rw [hch, hst]
          show some (0 + j) = some j
          rw [Nat.zero_add]
        rw [hin] at q
        exact q H4 (s1.trans s3)
      refine ⟨_, rfl, _, rfl, p, _, rfl, .inl (SqL.at hp3), _, _, rfl, rfl, _, rfl, ?_⟩
      rw [hpl]
      rcases Nat.lt_or_ge (b + j) ps.length with hlt | hge
      rotate_left
      · have e : b + j = ps.length := by omega
        rw [decide_eq_true (show (ps.length : Int) ≤ ((b + j : Nat) : Int) by omega)]
        refine iteT ⟨_, rfl, p, _, rfl, .inl (SqL.at hp3), ?_⟩
        rw [hpl, ← e]
        refine stop ?_
        rw [e, nth_end]
        exact fun z => (by decide +kernel : ∀ z ∈ sEnding, z ≠ sNoP) _ (List.getElem_mem hjk) z.symm
      rw [decide_eq_false (show ¬ (ps.length : Int) ≤ ((b + j : Nat) : Int) by omega)]
      refine iteF ⟨_, rfl, _, rfl, p, _, _, _, rfl, rfl, SqL.at hp3, nth_at hlt, _, rfl, rfl, _, rfl, ?_⟩
      by_cases hpt : nthS ps (b + j) = sEnding[j]
      · rw [if_pos hpt] at hst
        refine iteNS (by rw [hpt]) ⟨_, rfl, _, 1, rfl, rfl, ⟨_, rfl⟩, s3, by omega, ?_⟩
        rw [hch, hst, Option.map_map]
        congr 1
        funext n
        show n + 1 + j = n + (j + 1)
        omega
      · have e : decide (V.str (nthS ps (b + j)) = V.str sEnding[j]) = false := decide_eq_false fun e => hpt (V.str.inj e)
        rw [e]
        exact iteT ⟨_, rfl, stop hpt⟩
    case hd =>
      rintro σ H3 ⟨⟨y, rfl⟩, s3, hij, hch⟩
      have hl3 : (sEnding.map V.str).length = 3 := by decide +kernel
      rw [hl3] at hij hch ⊢
      have en : ∀ l, endE l [] = none := fun l => by cases l <;> rfl
      have hno : endE ((ps ++ [sNoP]).drop b) sEnding = none := by
        rw [hch]
        show Option.map _ (endE _ []) = none
        rw [en]
        rfl
      rw [hno] at q
      dsimp only at q
      have hp3 := s3 _ _ hp1
      have q := q H3 (s1.trans s3)
      refine ⟨_, rfl, _, rfl, p, _, rfl, .inl (SqL.at hp3), rfl, _, rfl, ?_⟩
      rw [hpl]
      by_cases hc : b + 3 < ps.length
      · rw [if_pos hc] at q
        rw [decide_eq_false (show ¬ V.int ((b + 3 : Nat) : Int) = V.int (ps.length : Int) from fun e => by have := V.int.inj e; omega)]
        exact iteF ⟨_, rfl, q⟩
      · rw [if_neg hc] at q
        rw [decide_eq_true (show V.int ((b + 3 : Nat) : Int) = V.int (ps.length : Int) by rw [show b + 3 = ps.length by omega])]
        exact iteT q
def spListWrong : Sp := fun vs H Q _ => ∃ (p : Addr) (ps : List Str) (s : Nat), vs = [.ref p, .int (s : Int)] ∧ H p = some (.lst (ps.map V.str)) ∧ hd ps = "list" ∧ 1 ≤ ps.length ∧ ps.length ≤ 500 ∧ 2 ≤ s ∧ s ≤ 12 ∧ ∀ H', Same H H' → Q (oV (lvlW ps (some s))) H'
theorem ok__law_list_wrong (T : Tx w K mg a) : FnOk P w K mg base CX0 2 a.f__law_list_wrong a.d__law_list_wrong ["parts", "size"] spListWrong := by
  refine T.F__law_list_wrong.ok sc__law_list_wrong (fun vs H Q E h => ?_) (fun cdv A outer s H vs Q E hr h => ?_)
  · obtain ⟨p, ps, b, rfl, _⟩ := h
    rfl
  · obtain ⟨p, ps, n, rfl, hp, hh, h1, hl, n2, n12, q⟩ := h
    refine ⟨_, 
(pss_cons (ps_setLc (i := 2) (own := [("k", 4)]) (g := gName 4) rfl sc__law_list_wrong.nd rfl rfl (sw_true rfl rfl rfl (by decide +kernel)) (pi_range1 (by rfl) T.z_range (pa_cons (pe_op op_sub (pv 1) pe_int) pa_nil)) (blkOk_by (own := [("k", 4)]) (N := ["parts", "size", "allowed", "at", "k"]) (sc := defScope s__law_list_wrong) (by decide +kernel)) (fun _ _ _ _ _ => pg_name (i := 4) sc__law_list_wrong.nd rfl (Or.inl rfl)) (fun _ _ _ _ _ => pts_nil) (fun _ _ _ _ _ => (pe_callTy call_str_int (by rfl) T.z_str (by decide +kernel) (pa_cons (pv 4) pa_nil))))
  (pss_cons (ps_for PassesOwn.never rfl (pi_range2 (by rfl) T.z_range (pa_cons pe_int (pa_cons (pe_op op_add (pv 1) pe_int) pa_nil))) (pg_name (i := 3) sc__law_list_wrong.nd rfl (.inl rfl))
  (C8.pss_cut (ps_if (PW.pt (pw_and (pt_cmpR op_eq (pv 3) (pv 1) (nomark _)) (pw_and1 (pt_cmpR op_eq (pv 3) (pe_callB call_len_seq (by rfl) T.z_len PySem.boot_len (pa_cons (pv 0) pa_nil)) (nomark _)))))
  (pss_one (ps_ret pe_non))
  pss_nil)
  (pss_cons (ps_if (pt_cmpR op_ge (pv 3) (pe_callB call_len_seq (by rfl) T.z_len PySem.boot_len (pa_cons (pv 0) pa_nil)) (nomark _))
  (pss_one (ps_ret (pe_callB call_len_seq (by rfl) T.z_len PySem.boot_len (pa_cons (pv 0) pa_nil))))
  pss_nil)
  (pss_one (ps_if (pt_cmpR op_notIn_seq (pe_ix ix_list (pv 0) (pv 3) (fun _ _ => rfl)) (pv 2) (by rfl))
  (pss_one (ps_ret (pv 3)))
  pss_nil)))))
  (pss_one (ps_ret (pe_ifExp (pt_cmpR op_eq (pe_callB call_len_seq (by rfl) T.z_len PySem.boot_len (pa_cons (pv 0) pa_nil)) (pe_op op_add (pv 1) pe_int) (nomark _)) (pe_callB call_len_seq (by rfl) T.z_len PySem.boot_len (pa_cons (pv 0) pa_nil)) (pe_call (ok__law_ending_wrong T) hr (by rfl) T.m__law_ending_wrong T.F__law_ending_wrong.kp T.b__law_ending_wrong .nil pass0 (pa_cons (pv 0) (pa_cons (pe_op op_add (pv 1) pe_int) pa_nil)))))))), ?_⟩
    refine ⟨_, rfl, _, _, rfl, rfl, _, rfl, by omega, by omega, fun o no => ?_⟩
    refine lc_range (lo := 0) (n := ((n : Int) - 1).toNat) (fun l H' => Same H H' ∧ H' o = some (.lst (((List.range l).map sN).map V.str))) ?c0 ?cs ?cd
    case c0 => exact ⟨same_upd no, upd_same⟩
    case cs =>
      rintro l H' hl ⟨sm, e⟩
      refine ⟨rfl, _, rfl, _, rfl, lg _ (by omega) (by omega), _, e, ?_, keep_upd sm no, ?_⟩
      · rw [List.length_map, List.length_map, List.length_range]
        exact szlt (by omega)
      · rw [upd_same, List.range_succ, List.map_append, List.map_append, show (0 : Int) + (l : Nat) = (l : Int) by omega]
        rfl
    rintro H1 ⟨s1, e1⟩
    have e1 : H1 o = some (.lst ((lNums n).map V.str)) := by
      rw [e1, show ((n : Int) - 1).toNat = n - 1 by omega]
      rfl
    have hp1 := s1 _ _ hp
    have hpl : (ps.map V.str).length = ps.length := List.length_map ..
    have hno := lNums_no n12
    have hq : ∀ H', Same H1 H' → Q (oV (lvlW ps (some n))) H' := fun H' s' => q H' (s1.trans s')
    rw [lvlW_list hh] at hq
    clear q
    refine ⟨_, rfl, _, 1, rfl, rfl, 1, (n : Int) + 1, rfl, ⟨by decide, by decide, by omega, by omega⟩, ?_⟩
    refine for_range (lo := 1) (n := ((n : Int) + 1 - 1).toNat) (fun i σ H3 => ∃ y3, σ = [some (.ref p), some (.int (n : Int)), some (.ref o), y3, none] ∧ H3 = H1 ∧ 1 + i ≤ ps.length ∧ cntN (lNums n) n ((ps ++ [sNoP]).drop 1) = i + cntN (lNums n) (n - i) ((ps ++ [sNoP]).drop (1 + i))) ?_ ?_ ?_
    · exact ⟨none, rfl, rfl, h1, by simp⟩
    · rintro i σ H3 hi ⟨y3, rfl, rfl, hil, hc⟩
      have hin : i < n := by omega
      have stop : cntN (lNums n) (n - i) ((ps ++ [sNoP]).drop (1 + i)) = 0 → (1 + i < ps.length ∨ 1 + i < n) → Q (.int ((1 + i : Nat) : Int)) H3 := fun h0 hlt => by
        rw [h0] at hc
        rw [show 1 + cntN (lNums n) n ((ps ++ [sNoP]).drop 1) = 1 + i by omega] at hq
        by_cases c : 1 + i < n
        · rw [if_pos c] at hq
          exact hq H3 (Same.refl _)
        · rw [if_neg c, if_neg (by omega), if_pos (by omega)] at hq
          exact hq H3 (Same.refl _)
      have hst : cntN (lNums n) (n - i) ((ps ++ [sNoP]).drop (1 + i)) = if nthS ps (1 + i) ∈ lNums n then cntN (lNums n) (n - (i + 1)) ((ps ++ [sNoP]).drop (1 + (i + 1))) + 1 else 0 := by
        obtain ⟨h1, e1⟩ := List.getElem?_eq_some_iff.mp (nth_get hil)
        rw [List.drop_eq_getElem_cons h1, e1, show n - i = (n - (i + 1)) + 1 by omega]
        rfl
      rw [show (1 : Int) + (i : Int) = ((1 + i : Nat) : Int) by omega]
      -- if at == size and at == len(parts)
      refine ⟨fun σ' H' => σ' = [some (.ref p), some (.int (n : Int)), some (.ref o), some (.int ((1 + i : Nat) : Int)), none] ∧ H' = H3 ∧ ¬ (1 + i = n ∧ 1 + i = ps.length), ?_, ?_⟩
      rotate_left
      · rintro σ' H' ⟨rfl, rfl, hne⟩
        refine ⟨_, rfl, _, rfl, p, _, rfl, .inl (SqL.at hp1), _, _, rfl, rfl, _, rfl, ?_⟩
        rw [hpl]
        rcases Nat.lt_or_ge (1 + i) ps.length with hlt | hge
        rotate_left
        · rw [decide_eq_true (show (ps.length : Int) ≤ ((1 + i : Nat) : Int) by omega)]
          refine iteT ⟨_, rfl, p, _, rfl, .inl (SqL.at hp1), ?_⟩
          rw [hpl, show ps.length = 1 + i by omega]
          refine stop ?_ (.inr (by omega))
          rw [hst, show 1 + i = ps.length by omega, nth_end, if_neg hno]
        rw [decide_eq_false (show ¬ (ps.length : Int) ≤ ((1 + i : Nat) : Int) by omega)]
        refine iteF ⟨_, rfl, _, rfl, p, _, _, _, rfl, rfl, SqL.at hp1, nth_at hlt, _, rfl, o, _, rfl, .inl (SqL.at e1), rfl, flatS _, _, rfl, ?_⟩
        rw [inV_strs]
        by_cases hm : nthS ps (1 + i) ∈ lNums n
        · rw [decide_eq_true hm]
          rw [if_pos hm] at hst
          refine iteF ⟨_, rfl, rfl, by omega, ?_⟩
          rw [hc, hst]
          omega
        · rw [decide_eq_false hm]
          rw [if_neg hm] at hst
          exact iteT ⟨_, rfl, stop hst (.inl hlt)⟩
      refine ⟨_, rfl, _, rfl, rfl, _, rfl, ?_⟩
      by_cases c1 : 1 + i = n
      rotate_left
      · rw [decide_eq_false (show ¬ V.int ((1 + i : Nat) : Int) = V.int (n : Int) from fun e => c1 (by have := V.int.inj e; omega))]
        exact ⟨rfl, rfl, fun h => c1 h.1⟩
      rw [decide_eq_true (show V.int ((1 + i : Nat) : Int) = V.int (n : Int) by rw [c1])]
      refine ⟨_, rfl, _, rfl, p, _, rfl, .inl (SqL.at hp1), rfl, _, rfl, ?_⟩
      rw [hpl]
      by_cases c2 : 1 + i = ps.length
      rotate_left
      · rw [decide_eq_false (show ¬ V.int ((1 + i : Nat) : Int) = V.int (ps.length : Int) from fun e => c2 (by have := V.int.inj e; omega))]
        exact ⟨rfl, rfl, fun h => c2 h.2⟩
      rw [decide_eq_true (show V.int ((1 + i : Nat) : Int) = V.int (ps.length : Int) by rw [c2])]
      have h0 : cntN (lNums n) (n - i) ((ps ++ [sNoP]).drop (1 + i)) = 0 := by rw [hst, c2, nth_end, if_neg hno]
      rw [h0] at hc
      rw [show 1 + cntN (lNums n) n ((ps ++ [sNoP]).drop 1) = n by omega, if_neg (by omega), if_neg (by omega), if_neg (by omega)] at hq
      exact hq H3 (Same.refl _)
    · rintro σ H3 ⟨y3, rfl, rfl, hil, hc⟩
      have en : ((n : Int) + 1 - 1).toNat = n := by omega
      rw [en] at hil hc
      rw [Nat.sub_self, show cntN (lNums n) 0 ((ps ++ [sNoP]).drop (1 + n)) = 0 from by cases (ps ++ [sNoP]).drop (1 + n) <;> rfl] at hc
      rw [show 1 + cntN (lNums n) n ((ps ++ [sNoP]).drop 1) = n + 1 by omega, if_neg (by omega), if_pos (by omega)] at hq
      refine ⟨_, rfl, p, _, rfl, .inl (SqL.at hp1), _, rfl, _, _, rfl, rfl, rfl, _, rfl, ?_⟩
      rw [hpl]
      by_cases c : ps.length = n + 1
      · rw [decide_eq_true (show V.int (ps.length : Int) = V.int ((n : Int) + 1) by rw [c]; rfl)]
        refine iteT ⟨_, rfl, p, _, rfl, .inl (SqL.at hp1), ?_⟩
        rw [hpl]
        have e0 : endE ((ps ++ [sNoP]).drop (n + 1)) sEnding = some 0 := by
          rw [← c, List.drop_left]
          decide +kernel
        rw [e0] at hq
        have := hq H3 (Same.refl _)
        rw [show (ps.length : Int) = ((n + 1 + 0 : Nat) : Int) by omega]
        exact this
      · rw [decide_eq_false (show ¬ V.int (ps.length : Int) = V.int ((n : Int) + 1) from fun e => c (by have := V.int.inj e; omega))]
        refine iteF ⟨_, rfl, _, rfl, _, _, rfl, rfl, p, ps, n + 1, rfl, hp1, by omega, hl, fun H' s' => ?_⟩
        have e : endW ps (n + 1) = (match endE ((ps ++ [sNoP]).drop (n + 1)) sEnding with
          | some j => some (n + 1 + j)
          | none => if n + 1 + 3 < ps.length then some (n + 1 + 3) else none) := if_neg (fun z => c z.symm)
        rw [e]
        exact hq H' s'
def spLevelWrong : Sp := fun vs H Q _ => ∃ (p : Addr) (ps : List Str) (size : Option Nat), vs = [.ref p, .int (szI size)] ∧ H p = some (.lst (ps.map V.str)) ∧ 1 ≤ ps.length ∧ ps.length ≤ 500 ∧ (∀ z ∈ ps, z ∈ FS) ∧ SizeOk size ∧ ∀ H', Same H H' → Q (oV (lvlW ps size)) H'
theorem ok__law_level_wrong (T : Tx w K mg a) : FnOk P w K mg base CX0 5 a.f__law_level_wrong a.d__law_level_wrong ["parts", "size"] spLevelWrong := by
  refine T.F__law_level_wrong.ok sc__law_level_wrong (fun vs H Q E h => ?_) (fun cdv A outer s H vs Q E hr h => ?_)
  · obtain ⟨p, ps, b, rfl, _⟩ := h
    rfl
  · obtain ⟨p, ps, size, rfl, hp, h1, hl, hF, hsz, q⟩ := h
    refine ⟨_, 
(pss_cons (ps_if (pt_cmpR op_eq (pe_ix ix_list (pv 0) pe_int (fun _ _ => rfl)) pe_str (nomark _))
  (pss_cons (ps_set (i := 2) sc__law_level_wrong.nd rfl (.inl rfl) (pe_call (ok__law_moves_end T) hr (by rfl) T.m__law_moves_end T.F__law_moves_end.kp T.b__law_moves_end .nil pass0 (pa_cons (pv 0) (pa_cons pe_int pa_nil))))
  (pss_one (ps_ret (pe_ifExp (pt_val (pe_callB call_isi (by rfl) T.z_isinstance (by decide +kernel) (pa_cons (pv 2) (pa_cons (pe_bltn (v := .ty "tuple") (by rfl) T.z_tuple (by decide +kernel) rfl) pa_nil)))) (pe_ix ix_tup (pv 2) pe_int (fun _ _ => rfl)) (pe_call (ok__law_ending_wrong T) (hr.mono (by decide)) (by rfl) T.m__law_ending_wrong T.F__law_ending_wrong.kp T.b__law_ending_wrong .nil pass0 (pa_cons (pv 0) (pa_cons (pv 2) pa_nil)))))))
  pss_nil)
  (pss_cons (ps_if (pt_cmpR op_eq (pe_ix ix_list (pv 0) pe_int (fun _ _ => rfl)) pe_str (nomark _))
  (pss_cons (ps_if (PW.pt (pw_or (pt_cmpR op_lt (pe_callB call_len_seq (by rfl) T.z_len PySem.boot_len (pa_cons (pv 0) pa_nil)) pe_int (nomark _)) (pw_or1 (pt_cmpR op_notIn_seq (pe_ix ix_list (pv 0) pe_int (fun _ _ => rfl)) (pe_call0 (ok__law_numbers T) (hr.mono (by decide)) (by rfl) T.m__law_numbers T.F__law_numbers.kp T.b__law_numbers .nil pass0) (by rfl)))))
  (pss_one (ps_ret pe_int))
  pss_nil)
  (pss_cons (ps_if (PW.pt (pw_or (pt_cmpR op_lt (pe_callB call_len_seq (by rfl) T.z_len PySem.boot_len (pa_cons (pv 0) pa_nil)) pe_int (nomark _)) (pw_or1 (pt_cmpR op_notIn_seq (pe_ix ix_list (pv 0) pe_int (fun _ _ => rfl)) (pe_call0 (ok__law_places T) (hr.mono (by decide)) (by rfl) T.m__law_places T.F__law_places.kp T.b__law_places .nil pass0) (by rfl)))))
  (pss_one (ps_ret pe_int))
  pss_nil)
  (pss_one (ps_ret (pe_call (ok__law_ending_wrong T) (hr.mono (by decide)) (by rfl) T.m__law_ending_wrong T.F__law_ending_wrong.kp T.b__law_ending_wrong .nil pass0 (pa_cons (pv 0) (pa_cons pe_int pa_nil)))))))
  pss_nil)
  (pss_one (ps_ret (pe_ifExp (PW.pt (pw_and (pt_cmpR op_eq (pe_ix ix_list (pv 0) pe_int (fun _ _ => rfl)) pe_str (nomark _)) (pw_and1 (pt_cmpR op_gt (pv 1) pe_int (nomark _))))) (pe_call (ok__law_list_wrong T) (hr.mono (by decide)) (by rfl) T.m__law_list_wrong T.F__law_list_wrong.kp T.b__law_list_wrong .nil pass0 (pa_cons (pv 0) (pa_cons (pv 1) pa_nil))) pe_int))))), ?_⟩
    have hpl : (ps.map V.str).length = ps.length := List.length_map ..
    have g0 : atI (ps.map V.str) 0 = some (.str (hd ps)) := nth_at h1
    -- if parts[0] == 'same'
    refine ⟨_, rfl, p, _, _, _, rfl, rfl, SqL.at hp, g0, rfl, _, rfl, ?_⟩
    by_cases c1 : hd ps = "same"
    · rw [decide_eq_true (show V.str (hd ps) = V.str "same" by rw [c1])]
      have hbd : ∀ r, mvsE 4 ((ps ++ [sNoP]).drop 1) true = r → bodyE ps size = (match r with
        | .inl j => .inl (1 + j)
        | .inr q => .inr (1 + q.2)) := fun r e => by
        unfold bodyE
        rw [if_pos c1, e]
        all_goals (cases r <;> rfl)
      refine iteT ⟨_, rfl, p, ps, 1, rfl, hp, h1, hl, hF, fun j hj o H1 no eo s1 => ?_, fun ms c hm H1 s1 => ?_⟩
      · refine ⟨_, rfl, _, _, _, _, true, rfl, .ty "tuple", .base (.tup eo), kit_ty (by decide +kernel), true, rfl, iteT ⟨_, rfl, o, _, 0, _, rfl, rfl, SqT.at eo, rfl, ?_⟩⟩
        rw [lvlW_inl (hbd _ hj)] at q
        exact q H1 s1
      · refine ⟨_, rfl, _, _, _, _, false, rfl, .ty "tuple", .base (.int _), kit_ty (by decide +kernel), false, rfl, iteF ⟨_, rfl, _, rfl, p, ps, 1 + c, rfl, s1 _ _ hp, (mvsE_le h1 hm).1, hl, fun H' s' => ?_⟩⟩
        rw [lvlW_other (by rw [c1]; decide +kernel) (hbd _ hm) (mvsE_le h1 hm).1] at q
        exact q H' (s1.trans s')
    rw [decide_eq_false (show ¬ V.str (hd ps) = V.str "same" from fun e => c1 (V.str.inj e))]
    refine iteF ⟨_, rfl, p, _, _, _, rfl, rfl, SqL.at hp, g0, rfl, _, rfl, ?_⟩
    by_cases c2 : hd ps = "along"
    · rw [decide_eq_true (show V.str (hd ps) = V.str "along" by rw [c2])]
      have hbd : bodyE ps size = (if figM fronts2 (nthS ps 1) = true then (if ipM (nthS ps 2) = true then .inr 3 else .inl 2) else .inl 1) := by
        unfold bodyE
        rw [if_neg c1, if_pos c2]
      have no1 : figM fronts2 sNoP = false := by decide +kernel
      have no2 : ipM sNoP = false := by decide +kernel
      refine iteT ⟨_, rfl, p, _, rfl, .inl (SqL.at hp), _, 2, rfl, rfl, _, rfl, ?_⟩
      rw [hpl]
      rcases Nat.lt_or_ge 1 ps.length with hl2 | hl2
      rotate_left
      · rw [decide_eq_true (show (ps.length : Int) < 2 by omega)]
        have e1 : nthS ps 1 = sNoP := by rw [show 1 = ps.length by omega, nth_end]
        rw [e1, no1, if_neg (by decide)] at hbd
        rw [lvlW_inl hbd] at q
        exact iteT (q H (Same.refl H))
      rw [decide_eq_false (show ¬ (ps.length : Int) < 2 by omega)]
      refine ⟨_, rfl, p, _, _, _, rfl, rfl, SqL.at hp, nth_at hl2, rfl, fun o1 H1 no1 e1 s1 => ⟨o1, _, rfl, .inl (SqL.at e1), rfl, flat_strs _, _, rfl, ?_⟩⟩
      rw [FS_nums _ (hF _ (nth_mem hl2))]
      have hp1 := s1 _ _ hp
      cases f1 : figM fronts2 (nthS ps 1) with
      | false =>
        rw [f1, if_neg (by decide)] at hbd
        rw [lvlW_inl hbd] at q
        exact iteT (q H1 s1)
      | true =>
      rw [f1, if_pos rfl] at hbd
      refine iteF ⟨_, rfl, p, _, rfl, .inl (SqL.at hp1), _, 3, rfl, rfl, _, rfl, ?_⟩
      rw [hpl]
      rcases Nat.lt_or_ge 2 ps.length with hl3 | hl3
      rotate_left
      · rw [decide_eq_true (show (ps.length : Int) < 3 by omega)]
        have e1 : nthS ps 2 = sNoP := by rw [show 2 = ps.length by omega, nth_end]
        rw [e1, no2, if_neg (by decide)] at hbd
        rw [lvlW_inl hbd] at q
        exact iteT (q H1 s1)
      rw [decide_eq_false (show ¬ (ps.length : Int) < 3 by omega)]
      refine ⟨_, rfl, p, _, _, _, rfl, rfl, SqL.at hp1, nth_at hl3, rfl, fun o2 H2 no2 e2 s2 => ⟨o2, _, rfl, .inl (SqL.at e2), rfl, flat_strs _, _, rfl, ?_⟩⟩
      rw [(FS_chk (hF _ (nth_mem hl3))).1]
      have s12 := s1.trans s2
      cases f2 : ipM (nthS ps 2) with
      | false =>
        rw [f2, if_neg (by decide)] at hbd
        rw [lvlW_inl hbd] at q
        exact iteT (q H2 s12)
      | true =>
      rw [f2, if_pos rfl] at hbd
      rw [lvlW_other (by rw [c2]; decide +kernel) hbd hl3] at q
      exact iteF ⟨_, rfl, p, ps, 3, rfl, s2 _ _ hp1, hl3, hl, fun H' s' => q H' (s12.trans s')⟩
    rw [decide_eq_false (show ¬ V.str (hd ps) = V.str "along" from fun e => c2 (V.str.inj e))]
    have hbd : bodyE ps size = (match size with
      | none => .inl 0
      | some s => if hd ps = "list" then (if 1 + cntN (lNums s) s ((ps ++ [sNoP]).drop 1) < s then .inl (1 + cntN (lNums s) s ((ps ++ [sNoP]).drop 1)) else .inr (1 + cntN (lNums s) s ((ps ++ [sNoP]).drop 1))) else .inl 0) := by
      unfold bodyE
      rw [if_neg c1, if_neg c2]
      cases size <;> rfl
    refine iteF ⟨_, rfl, p, _, _, _, rfl, rfl, SqL.at hp, g0, rfl, _, rfl, ?_⟩
    by_cases c3 : hd ps = "list"
    rotate_left
    · rw [decide_eq_false (show ¬ V.str (hd ps) = V.str "list" from fun e => c3 (V.str.inj e))]
      have hb0 : bodyE ps size = .inl 0 := by
        rw [hbd]
        cases size with
        | none => rfl
        | some s => exact if_neg c3
      rw [lvlW_inl hb0] at q
      exact iteF (q H (Same.refl H))
    rw [decide_eq_true (show V.str (hd ps) = V.str "list" by rw [c3])]
    refine ⟨_, rfl, _, _, rfl, rfl, _, rfl, ?_⟩
    cases size with
    | none =>
      rw [lvlW_inl hbd] at q
      rw [decide_eq_false (show ¬ (0 : Int) < szI none by decide)]
      exact iteF (q H (Same.refl H))
    | some s =>
      have hs2 := hsz.1
      rw [decide_eq_true (show (0 : Int) < szI (some s) by show (0 : Int) < (s : Int); omega)]
      exact iteT ⟨_, rfl, _, rfl, p, ps, s, rfl, hp, c3, h1, hl, hs2, hsz.2, q⟩
end

/-! ### the text of a list of ints, whatever stands on the stack -/
theorem listText_le {ts : List Str} (h : ∀ t ∈ ts, t.length ≤ 98) : (listText ts).length ≤ ts.length * 100 + 10 := by
  have hp : ∀ us : List Str, (∀ t ∈ us, t.length ≤ 98) → piled us ≤ us.length * 100 := by
    intro us
    induction us with
    | nil => intro _; exact Nat.le_refl _
    | cons t r ih =>
      intro hu
      rw [piled_cons, List.length_cons]
      have := ih fun y hy => hu y (List.mem_cons_of_mem _ hy)
      have := hu t (List.mem_cons_self ..)
      omega
  cases ts with
  | nil => decide +kernel
  | cons t r =>
    show (textFrom 1 ((Str.ofString "[" ++ Str.ofString "") ++ t) r ++ Str.ofString "]").length ≤ _
    rw [strLen_append, textFrom_length_pos _ _ _ (by decide), strLen_append, strLen_append]
    have h1 := hp r fun y hy => h y (List.mem_cons_of_mem _ hy)
    have h2 := h t (List.mem_cons_self ..)
    have e1 : (Str.ofString "[").length = 1 := by decide +kernel
    have e2 : (Str.ofString "").length = 0 := by decide +kernel
    have e3 : (Str.ofString "]").length = 1 := by decide +kernel
    rw [e1, e2, e3, List.length_cons]
    omega
section
theorem list_repr_headU {M : Model} {A : Around} {E : Value → Shared → Prop} {s : Shared} {Q : Fin → Shared → Prop} {a : Addr} {o : Obj} {x : Value} {l : List Value} {n} {b : Nat}
    (hget : s.heap.get? a = some o) (hd : o.data = .seq (x :: l).toArray n)
    (h1 : wpAny M A (do again (.builtin "list.__repr__.loop" ⟨[.ref a, rawInt 0, ← newList [], rawInt b], []⟩)) Q E s)
    (h2 : Q (.done (.ret (.str "[...]" s.toks))) { s with toks := s.toks + 1 }) : wpAny M A (Builtin.listReprAt b ⟨[.ref a], []⟩) Q E s := by
  intro Γ p hΓ
  have h1 := h1 Γ p hΓ
  unfold Builtin.listReprAt
  simp [slotArgs, Builtin.List.listItems, seqItems?, Sem.wp_load_of (h := hget), hd, PySem.stack, PySem.rule, PySem.retStr, PySem.ret]
  show Sem.wp M Γ (if (Γ.below.any _) = true then _ else _) _ _ p s
  split
  · exact h2
  · exact h1
variable {prog : Program} {w : World} {A : Around} {E : Value → Shared → Prop} {s : Shared} {a : Addr} {oa : Obj} {x : Value} {l : List Value} {na : Nat} {ts : List Str}
theorem list_repr_finU {R : Result → Shared → Prop}
    (ha : s.heap.get? a = some oa) (hda : oa.data = .seq (x :: l).toArray na) (hlen : ts.length = (x :: l).toArray.size)
    (hT : ∀ (i : Nat) (y : Value), (x :: l).toArray[i]? = some y → ∃ t, ts[i]? = some t ∧ ReprIs prog w y t)
    (hR : ∀ h' z u tk, (z = listText ts ∨ z = "[...]") → (∀ b o, s.heap.get? b = some o → h'.get? b = some o) → R (.ok (.ret (.str z u))) { s with heap := h', toks := tk })
    (hsz : (listText ts).length ≤ sizeLine) :
    wpAny (model prog w) A.in1 (Builtin.listReprAt 0 ⟨[.ref a], []⟩)
      (fun fin s' => match fin with | .done f => R (.ok f) s' | .again c' => c'.quiet = true ∧ codeAny (model prog w) A c' R s') (fun e s' => R (.error e) s') s := by
  refine list_repr_headU (A := A.in1) ha hda ?_ ?_
  · refine wpAny_bind (m := newList []) (wpAny_newObj_type ?_)
    refine wpAny_pure ⟨F.quiet_list_repr_loop _, ?_⟩
    refine codeAny_list_repr_start (P := s.heap.objs.size) (Nat.ne_of_lt (Heap.lt_size ha)) hlen hT (Heap.get?_push_of_some _ ha) hda (Heap.get?_push_size _ rfl) (fun h' u tk hk => ?_) (by omega)
    exact hR h' _ u tk (.inl rfl) fun b o e => hk b o (Nat.ne_of_lt (Heap.lt_size e)) (Heap.get?_push_of_some _ e)
  · exact hR s.heap _ _ _ (.inr rfl) fun _ _ e => e
theorem call_list_reprU {Q : Value → Shared → Prop} (hTy : s.TypeIs (.ref a) "list")
    (ha : s.heap.get? a = some oa) (hda : oa.data = .seq (x :: l).toArray na) (hlen : ts.length = (x :: l).toArray.size)
    (hT : ∀ (i : Nat) (y : Value), (x :: l).toArray[i]? = some y → ∃ t, ts[i]? = some t ∧ ReprIs prog w y t)
    (hQ : ∀ h' z u tk, (z = listText ts ∨ z = "[...]") → (∀ b o, s.heap.get? b = some o → h'.get? b = some o) → Q (.str z u) { s with heap := h', toks := tk })
    (hsz : (listText ts).length ≤ sizeLine) :
    wpAny (model prog w) A (call (.builtin "list.__repr__") [.ref a]) Q E s :=
  wpAny_call (codeAny_call_builtin F.slot_list_repr.plain F.entry_list_repr (F.slot_list_repr.check _ _ _ _ _ _ _ _ hTy (F.args_list_repr_1 _)
    (list_repr_finU (R := fun r s' => match r with | .ok (.ret v) => Q v s' | .ok _ => False | .error e => E e s') ha hda hlen hT hQ hsz)))
theorem str_listU {Q : Value → Shared → Prop} {h₀ : Heap} (h1 : h₀.get? a = some oa) (h2 : oa.cls = .type "list") (hda : oa.data = .seq (x :: l).toArray na) (hlen : ts.length = (x :: l).toArray.size)
    (hT : ∀ (prog : Program) (w : World) (i : Nat) (y : Value), (x :: l).toArray[i]? = some y → ∃ t, ts[i]? = some t ∧ ReprIs prog w y t)
    (hu : A.units + 4 < cLine) (hk0 : ∀ b o, h₀.get? b = some o → s.heap.get? b = some o)
    (hQ : ∀ h' z u tk, (z = listText ts ∨ z = "[...]") → (∀ b o, s.heap.get? b = some o → h'.get? b = some o) → Q (.str z u) { s with heap := h', toks := tk })
    (hsz : (listText ts).length ≤ sizeLine) : wpAny (model prog w) A (call (.type "str") [.ref a]) Q E s :=
  callType_new F.called_str (by decide) (F.typeCall_str_1 _) (F.newCall_str_1 _) (fun obj => F.args_object_init_2 obj _) F.entry_str_new
    (meets_str_new (S := fun A' R s' => A'.units + 3 < cLine ∧ (∀ b o, h₀.get? b = some o → s'.heap.get? b = some o) ∧
        ∀ h' z u tk, (z = listText ts ∨ z = "[...]") → (∀ b o, s'.heap.get? b = some o → h'.get? b = some o) → R (.ok (.ret (.str z u))) { s' with heap := h', toks := tk })
      fun prog' w' A' R s' h => wpAny_strOf_slot (A := A'.in1) rfl (by show A'.units + 1 + 1 < cLine; have := h.1; omega) ⟨oa, h.2.1 _ _ h1, h2⟩ F.slot_list_str F.slot_list_repr.toG
        (call_list_reprU (prog := prog') (w := w') ⟨oa, h.2.1 _ _ h1, h2⟩ (h.2.1 _ _ h1) hda hlen (hT prog' w') (fun h' z u tk hz hk => ⟨_, _, rfl, h.2.2 h' z u tk hz hk⟩) hsz))
    ⟨by show A.units + 1 + 3 < cLine; omega, hk0, fun h' z u tk hz hk => ⟨typeIs_str _ _ _, hQ h' z u tk hz hk⟩⟩
end
section
variable {X : Cx}
theorem ints_reprs {h : Heap} : ∀ {vs : List Value} {ns : List Int} {as : List Addr}, ReadsAll h vs (ns.map PyData.int) as → vs.length = ns.length ∧ ∀ (i : Nat) (y : Value), vs[i]? = some y → ∃ n t, ns[i]? = some n ∧ y = .int n t
  | [], [], _, _ => ⟨rfl, fun i y e => by simp at e⟩
  | [], _ :: _, _, r => nomatch r
  | _ :: _, [], _, r => nomatch r
  | v :: vs, n :: ns, _, r => by
    cases r with
    | cons r1 r2 =>
      obtain ⟨e1, e2⟩ := ints_reprs r2
      refine ⟨by rw [List.length_cons, List.length_cons, e1], fun i y e => ?_⟩
      cases i with
      | zero =>
        cases e
        cases r1 with
        | int _ t => exact ⟨n, t, rfl, rfl⟩
      | succ i =>
        obtain ⟨m, t, h1, h2⟩ := e2 i y (by simpa using e)
        exact ⟨m, t, by simpa using h1, h2⟩
/-- str of an int, a text, None, or a list of some small ints -/
def rStrA (K : PySem.W.Frag) : List V → Hp → VK → Prop := fun xs H Q => ∃ x, xs = [x] ∧ ((∃ i : Int, x = .int i ∧ i.natAbs.log2 < 1920 ∧ Q (.str (toString i)) H) ∨ (∃ a, x = .str a ∧ Q (.str a) H) ∨ (x = .non ∧ Q (.str "None") H) ∨
  (∃ (p : Addr) (ns : List Int), x = .ref p ∧ SqL K H p (ns.map V.int) ∧ ns ≠ [] ∧ ns.length ≤ 100 ∧ (∀ n ∈ ns, 0 ≤ n ∧ n < 40) ∧ ∀ z : Str, z.length ≤ 10010 → Q (.str z) H))
theorem call_strA (hu : X.A.units + 65 < cLine) : CallR X (.type "str") (rStrA X.K) := by
  intro pins s σ H xs us Q I r h
  obtain ⟨x, rfl, h⟩ := h
  obtain ⟨u, rfl, r1⟩ := vals1 r
  rcases h with ⟨i, rfl, hz, q⟩ | ⟨z, rfl, q⟩ | ⟨rfl, q⟩ | ⟨p, ns, rfl, hp, hne, hl, hb, q⟩
  · obtain ⟨t, rfl⟩ := r1
    exact PySem.P.str_of_int hz ⟨.str _, H, I.tok _, ⟨_, rfl⟩, q⟩
  · obtain ⟨t, rfl⟩ := r1
    exact PySem.P.str_of_str ⟨.str z, H, I, ⟨t, rfl⟩, q⟩
  · cases r1
    exact PySem.P.str_of_none ⟨.str _, H, I.tok _, ⟨_, rfl⟩, q⟩
  · have dp : Dp X.K H (.ref p) (.list (ns.map PyData.int)) := by
      refine .lst hp ?_
      clear hp hne hl hb q
      induction ns with
      | nil => exact .nil
      | cons n r ih => exact .cons (.int n) ih
    cases r1
    obtain ⟨as, rd⟩ := Dp.reads I _ _ _ dp rfl
    cases rd with
    | list g1 g2 g3 g4 =>
      rename_i o vs m as'
      obtain ⟨e1, e2⟩ := ints_reprs g4
      obtain ⟨l⟩ := vs
      cases l with
      | nil => exact absurd (List.length_eq_zero_iff.mp e1.symm) hne
      | cons v l =>
        have hT : ∀ t ∈ (ns.map fun n => Str.ofString (toString n)), t.length ≤ 98 := by
          intro t ht
          obtain ⟨n, hn, rfl⟩ := List.mem_map.mp ht
          obtain ⟨h0, h1⟩ := hb n hn
          have := num_len ⟨n.toNat, by omega⟩
          rw [show ((⟨n.toNat, by omega⟩ : Fin 40).val : Int) = n by show ((n.toNat : Nat) : Int) = n; omega] at this
          omega
        have hll := listText_le hT
        rw [List.length_map] at hll
        refine str_listU (ts := ns.map fun n => Str.ofString (toString n)) g1 g2 g3 (by rw [List.length_map]; exact e1.symm) (fun prog w i y e => ?_) (by omega) (fun _ _ e => e) (fun h' z u tk hz hk => ⟨.str z, H, I.kept hk, ⟨u, rfl⟩, q z ?_⟩) (by have h5 : (100000 : Nat) ≤ sizeLine := (by decide); omega)
        · obtain ⟨n, t, h1, rfl⟩ := e2 i y (by simpa using e)
          refine ⟨Str.ofString (toString n), by rw [List.getElem?_map, h1]; rfl, ReprIs.int t ?_⟩
          obtain ⟨b0, b1⟩ := hb n (List.mem_of_getElem? h1)
          exact lg n b0 b1
        · rcases hz with rfl | rfl
          · omega
          · decide +kernel
end

/-! ### a word's own parts are read as its moves -/
theorem mvE_ok {m : Mv} (h : m.ok) {may : Bool} (hm : m = .turn → may = true) (rest : List Str) : mvE (m.parts ++ rest) may = .inr m.parts := by
  have pw : ∀ {z : Str}, z ∈ wt → ptM z "place" = true := fun hz => (wt_chk hz).2.2.2.1
  have aw : ∀ {z : Str}, z ∈ am → ptM z "amount" = true := fun hz => (am_chk hz).2.2.1
  have ce : ∀ (z k : Str) (zs ks : List Str), chkP (z :: zs) (k :: ks) = if ptM z k = true then (chkP zs ks).map (· + 1) else some 0 := fun _ _ _ _ => rfl
  have c0 : ∀ zs, chkP zs [] = none := fun zs => by unfold chkP; rfl
  cases m with
  | turn =>
    show mvE (("turn" : Str) :: rest) may = _
    rw [mvE_cons, show shp ("turn" : Str) = some [] from by decide +kernel, hm rfl]
    simp only [c0]
    rfl
  | exch x y =>
    show mvE (("exchange" : Str) :: x :: y :: rest) may = _
    rw [mvE_cons, show shp ("exchange" : Str) = some [("place" : Str), "place"] from by decide +kernel]
    have e : (decide (("exchange" : Str) = "turn") && !may) = false := by
      rw [show decide (("exchange" : Str) = "turn") = false from by decide +kernel]
      rfl
    simp only [e, ce, c0, pw h.1, pw h.2]
    rfl
  | roll x y c =>
    show mvE (("roll" : Str) :: x :: y :: c :: rest) may = _
    rw [mvE_cons, show shp ("roll" : Str) = some [("place" : Str), "place", "amount"] from by decide +kernel]
    have e : (decide (("roll" : Str) = "turn") && !may) = false := by
      rw [show decide (("roll" : Str) = "turn") = false from by decide +kernel]
      rfl
    simp only [e, ce, c0, pw h.1, pw h.2.1, aw h.2.2]
    rfl
theorem mvsE_ok : ∀ {ms : List Mv} {n : Nat} {may : Bool}, ms ≠ [] → ms.length ≤ n → (∀ m ∈ ms, m.ok) → oneTurn ms → (Mv.turn ∈ ms → may = true) → mvsE n (wp ms ++ [sNoP]) may = .inr (ms.map Mv.parts, (wp ms).length)
  | [], _, _, h, _, _, _, _ => absurd rfl h
  | _ :: _, 0, _, _, h, _, _, _ => by simp at h
  | [m], n + 1, may, _, _, hok, _, ht => by
    have hm := mvE_ok (hok m (List.mem_cons_self ..)) (may := may) (fun e => ht (e ▸ List.mem_cons_self ..)) [sNoP]
    rw [mvsE_succ, show wp [m] = m.parts from rfl, hm]
    dsimp only
    rw [List.drop_left, if_pos (.inr (by show some sNoP ≠ _; decide +kernel))]
    rfl
  | m :: m2 :: r, n + 1, may, _, hl, hok, h1, ht => by
    have e : wp (m :: m2 :: r) ++ [sNoP] = m.parts ++ (sThen :: (wp (m2 :: r) ++ [sNoP])) := by
      show (m.parts ++ sThen :: wp (m2 :: r)) ++ [sNoP] = _
      rw [List.append_assoc]
      rfl
    have hm := mvE_ok (hok m (List.mem_cons_self ..)) (may := may) (fun q => ht (q ▸ List.mem_cons_self ..)) (sThen :: (wp (m2 :: r) ++ [sNoP]))
    simp only [List.length_cons] at hl
    rw [mvsE_succ, e, hm]
    dsimp only
    rw [List.drop_left, if_neg (fun h => h.elim (by omega) fun h => h rfl)]
    have ih := mvsE_ok (ms := m2 :: r) (n := n) (may := may && !decide (m.parts = [("turn" : Str)])) (by simp) (by simp only [List.length_cons]; omega) (fun x hx => hok x (List.mem_cons_of_mem _ hx)) ?_ ?_
    · rw [List.drop_succ_cons, List.drop_zero, ih]
      dsimp only
      congr 1
      congr 1
      show _ = (m.parts ++ sThen :: wp (m2 :: r)).length
      rw [List.length_append, List.length_cons]
      omega
    · intro pre x post ex hx
      have := h1 (m :: pre) x post (by rw [ex]; rfl) hx
      exact fun z => this (List.mem_cons_of_mem _ z)
    · intro hmem
      have hmay := ht (List.mem_cons_of_mem _ hmem)
      have hne : ¬ m.parts = [("turn" : Str)] := fun q => by
        have hmt : m = .turn := Mv.inj.mp q
        obtain ⟨pre, post, ex⟩ := List.append_of_mem hmem
        exact h1 (m :: pre) .turn post (by rw [ex]; rfl) rfl (hmt ▸ List.mem_cons_self ..)
      rw [hmay]
      simp [hne]
theorem wrdE_ok {ms : List Mv} (h : WordOk ms) : wrdE (wp ms) = .inr (ms.map Mv.parts) := by
  unfold wrdE
  rw [mvsE_ok h.ne h.l4 h.ok h.one (fun _ => rfl)]
  dsimp only
  rw [if_neg (Nat.lt_irrefl _)]
theorem wp_FS {ms : List Mv} (h : ∀ m ∈ ms, m.ok) : ∀ z ∈ wp ms, z ∈ FS := by
  have kx : ∀ z ∈ FSx, z ∈ FS := fun z hz => List.mem_append_right _ (List.mem_append_right _ hz)
  have kw : ∀ z ∈ wt, z ∈ FS := fun z hz => List.mem_append_left _ hz
  have ka : ∀ z ∈ am, z ∈ FS := fun z hz => List.mem_append_right _ (List.mem_append_left _ hz)
  have k1 : ("turn" : Str) ∈ FS := kx _ (by decide +kernel)
  have k2 : ("exchange" : Str) ∈ FS := kx _ (by decide +kernel)
  have k3 : ("roll" : Str) ∈ FS := kx _ (by decide +kernel)
  have k4 : sThen ∈ FS := kx _ (by decide +kernel)
  have one : ∀ {m : Mv}, m.ok → ∀ z ∈ m.parts, z ∈ FS := fun {m} hm z hz => by
    cases m with
    | turn =>
      rw [show Mv.turn.parts = [("turn" : Str)] from rfl, List.mem_singleton] at hz
      rw [hz]
      exact k1
    | exch x y =>
      rw [show (Mv.exch x y).parts = [("exchange" : Str), x, y] from rfl] at hz
      simp only [List.mem_cons, List.not_mem_nil, or_false] at hz
      rcases hz with rfl | rfl | rfl
      · exact k2
      · exact kw _ hm.1
      · exact kw _ hm.2
    | roll x y c =>
      rw [show (Mv.roll x y c).parts = [("roll" : Str), x, y, c] from rfl] at hz
      simp only [List.mem_cons, List.not_mem_nil, or_false] at hz
      rcases hz with rfl | rfl | rfl | rfl
      · exact k3
      · exact kw _ hm.1
      · exact kw _ hm.2.1
      · exact ka _ hm.2.2
  intro z hz
  induction ms with
  | nil => cases hz
  | cons m r ih =>
    cases r with
    | nil => exact one (h m (List.mem_cons_self ..)) z hz
    | cons m2 r =>
      rcases List.mem_append.mp hz with q | q
      · exact one (h m (List.mem_cons_self ..)) z q
      · rcases List.mem_cons.mp q with q | q
        · rw [q]
          exact k4
        · exact ih (fun x hx => h x (List.mem_cons_of_mem _ hx)) q
theorem joinL_wpS (S t : List Nat) (et : TL.tl sThen = t) : ∀ ms : List (List Str), (∀ m ∈ ms, m ≠ []) → TL.joinL (S ++ (t ++ S)) (ms.map fun m => TL.joinL S (m.map TL.tl)) = TL.joinL S ((wpS ms).map TL.tl)
  | [], _ => rfl
  | [m], _ => rfl
  | m :: n :: r, h => by
    have ih := joinL_wpS S t et (n :: r) fun x hx => h x (List.mem_cons_of_mem _ hx)
    show TL.joinL S (m.map TL.tl) ++ ((S ++ (t ++ S)) ++ TL.joinL (S ++ (t ++ S)) ((n :: r).map fun m => TL.joinL S (m.map TL.tl))) = TL.joinL S ((m ++ sThen :: wpS (n :: r)).map TL.tl)
    rw [ih, List.map_append, List.map_cons, et]
    have hm : m.map TL.tl ≠ [] := fun z => h m (List.mem_cons_self ..) (List.map_eq_nil_iff.mp z)
    have hw : (wpS (n :: r)).map TL.tl ≠ [] := by
      intro z
      have z := List.map_eq_nil_iff.mp z
      cases r with
      | nil => exact h n (by simp) z
      | cons a b => exact absurd z (by simp [wpS])
    rw [joinL_append hm (by simp), show t :: (wpS (n :: r)).map TL.tl = [t] ++ (wpS (n :: r)).map TL.tl from rfl, joinL_append (by simp) hw]
    show _ ++ (S ++ (t ++ S) ++ _) = _ ++ (S ++ (t ++ (S ++ _)))
    simp only [List.append_assoc]
theorem join_wpS (ms : List (List Str)) (h : ∀ m ∈ ms, m ≠ []) : Txt.join " then " (ms.map fun m => Txt.join " " m) = Txt.join " " (wpS ms) := by
  refine TL.ext_tl ?_
  rw [TL.join_eq, TL.tl_join, TL.join_eq, TL.tl_join, List.map_map]
  have e := joinL_wpS (TL.tl " ") (TL.tl sThen) rfl ms h
  rw [← e]
  have e2 : TL.tl " then " = TL.tl " " ++ (TL.tl sThen ++ TL.tl " ") := by decide +kernel
  rw [e2]
  refine congrArg _ (List.map_congr_left fun m _ => ?_)
  show TL.tl (Txt.join " " m) = _
  rw [TL.join_eq, TL.tl_join]
theorem mvsE_ne : ∀ {n : Nat} {ps : List Str} {k : Nat} {may : Bool} {ms : List (List Str)} {c : Nat}, k ≤ ps.length → mvsE n ((ps ++ [sNoP]).drop k) may = .inr (ms, c) → ∀ m ∈ ms, m ≠ [] ∧ m.length ≤ ps.length ∧ ∀ z ∈ m, z ∈ ps
  | 0, ps, k, may, ms, c, _, h => by cases h
  | n + 1, ps, k, may, ms, c, hk, h => by
    rw [mvsE_succ] at h
    cases hm : mvE ((ps ++ [sNoP]).drop k) may with
    | inl j =>
      rw [hm] at h
      cases h
    | inr m =>
      rw [hm] at h
      dsimp only at h
      obtain ⟨m1, m2, m3⟩ := mvE_inr hk hm
      have one : m ≠ [] ∧ m.length ≤ ps.length ∧ ∀ z ∈ m, z ∈ ps := by
        refine ⟨fun e => by rw [e] at m3; simp at m3, by omega, fun z hz => ?_⟩
        rw [← m2] at hz
        exact List.mem_of_mem_drop (List.mem_of_mem_take hz)
      by_cases hc : n = 0 ∨ (((ps ++ [sNoP]).drop k).drop m.length).head? ≠ some ("then" : Str)
      · rw [if_pos hc] at h
        cases h
        intro x hx
        rw [List.mem_singleton] at hx
        rw [hx]
        exact one
      · rw [if_neg hc] at h
        rw [List.drop_drop, List.drop_drop] at h
        have hth : (((ps ++ [sNoP]).drop k).drop m.length).head? = some ("then" : Str) := Classical.byContradiction fun z => hc (.inr z)
        rw [List.drop_drop, List.head?_drop] at hth
        have hlt : k + m.length < ps.length := by
          rcases Nat.lt_or_ge (k + m.length) ps.length with q | q
          · exact q
          · have e : k + m.length = ps.length := by omega
            rw [e, List.getElem?_append_right (Nat.le_refl _), Nat.sub_self] at hth
            have e2 := Option.some.inj hth
            exact absurd e2 (by decide +kernel)
        cases hr : mvsE n ((ps ++ [sNoP]).drop (k + (m.length + 1))) (may && !decide (m = [("turn" : Str)])) with
        | inl j =>
          rw [hr] at h
          cases h
        | inr q =>
          obtain ⟨ms', c'⟩ := q
          rw [hr] at h
          cases h
          have ih := mvsE_ne (by omega) hr
          intro x hx
          rcases List.mem_cons.mp hx with e | e
          · rw [e]
            exact one
          · exact ih x e
theorem wrdE_ne {ps : List Str} {ms : List (List Str)} (h : wrdE ps = .inr ms) : ∀ m ∈ ms, m ≠ [] ∧ m.length ≤ ps.length ∧ ∀ z ∈ m, z ∈ ps := by
  unfold wrdE at h
  cases hm : mvsE 4 (ps ++ [sNoP]) true with
  | inl j =>
    rw [hm] at h
    cases h
  | inr q =>
    obtain ⟨ms', c⟩ := q
    rw [hm] at h
    dsimp only at h
    by_cases hc : c < ps.length
    · rw [if_pos hc] at h
      cases h
    · rw [if_neg hc] at h
      cases h
      exact mvsE_ne (k := 0) (Nat.zero_le _) hm
theorem made2 {H : Hp} {x dx C : Addr} (hx : H x = none) (hd : H dx = none) (ne : dx ≠ x) : Same H (upd (upd H dx (.own x)) x (.ins C dx [])) ∧ (upd (upd H dx (.own x)) x (.ins C dx [])) x = some (.ins C dx []) :=
  ⟨(same_upd hd).trans (same_upd (by rw [upd_ne ne.symm]; exact hx)), upd_same⟩

/-! ### levels as the law writes them -/
inductive Lv where
  | same (ms : List Mv)
  | along (k : Int) (z : Str)
  | list (ns : List Int)
def Lv.body : Lv → List Str
  | .same ms => "same" :: wp ms
  | .along k z => ["along", toStr k, z]
  | .list ns => "list" :: ns.map toStr
def lvP (lv : Lv) (e : Bool) : List Str := lv.body ++ (if e = true then sEnding else [])
def Lv.base : Lv → Str
  | .same ms => Str.append "same " (wtext ms)
  | .along k z => Str.append (Str.append (Str.append "along " (toStr k)) " ") z
  | .list ns => Str.append "list " (Txt.join " " (ns.map toStr))
def lvText (lv : Lv) (e : Bool) : Str := Str.append lv.base (if e = true then " to the end" else "")
def LvOk (size : Option Nat) (e : Bool) : Lv → Prop
  | .same ms => WordOk ms
  | .along k z => toStr k ∈ nums ∧ z ∈ places ∧ -9 ≤ k ∧ k ≤ 9
  | .list ns => ∃ s, size = some s ∧ ns.length = (if e = true then s else s - 1) ∧ ∀ n ∈ ns, 0 ≤ n ∧ n < (s : Int) - 1
def LvT (H : Hp) (o : Addr) (e : Bool) : Lv → Prop
  | .same ms => ∃ m ps, H o = some (.tup [.str "same", .ref m, .non, .bl e]) ∧ H m = some (.lst (ps.map V.ref)) ∧ HeldL H ps ms
  | .along k z => H o = some (.tup [.str "along", .int k, .str z, .bl e])
  | .list ns => ∃ m, H o = some (.tup [.str "list", .ref m, .non, .bl e]) ∧ H m = some (.lst (ns.map V.int))
theorem join_cons {x : Str} {R : List Str} (h : R ≠ []) : Txt.join " " (x :: R) = Str.append (Str.append x " ") (Txt.join " " R) := by
  apply TL.ext_tl
  show _ = TL.tl ((x ++ Str.ofString " ") ++ Txt.join (Str.ofString " ") R)
  rw [TL.join_eq, TL.tl_join, TL.tl_append, TL.tl_append, TL.join_eq, TL.tl_join]
  cases R with
  | nil => exact absurd rfl h
  | cons y r =>
    show TL.tl x ++ (TL.tl " " ++ TL.joinL (TL.tl " ") ((y :: r).map TL.tl)) = _
    rw [List.append_assoc]
theorem join_end {P : List Str} (h : P ≠ []) : Txt.join " " (P ++ sEnding) = Str.append (Txt.join " " P) " to the end" := by
  apply TL.ext_tl
  show _ = TL.tl (Txt.join (Str.ofString " ") P ++ Str.ofString " to the end")
  rw [TL.join_eq, TL.tl_join, TL.tl_append, TL.join_eq, TL.tl_join, List.map_append, joinL_append (fun e => h (List.map_eq_nil_iff.mp e)) (by decide +kernel)]
  congr 1
theorem append_none (x : Str) : Str.append x "" = x := by
  apply TL.ext_tl
  show TL.tl (x ++ Str.ofString "") = _
  rw [TL.tl_append, show TL.tl (Str.ofString "") = [] from by decide +kernel, List.append_nil]
theorem nums_ne {size : Option Nat} {e : Bool} {ns : List Int} (hs : SizeOk size) (h : LvOk size e (.list ns)) : ns ≠ [] := by
  obtain ⟨s, rfl, hl, _⟩ := h
  have := hs.1
  intro z
  rw [z] at hl
  cases e with
  | true => rw [if_pos rfl] at hl; simp at hl; omega
  | false => rw [if_neg (by decide)] at hl; simp at hl; omega
theorem base_join {size : Option Nat} {e : Bool} {lv : Lv} (hs : SizeOk size) (h : LvOk size e lv) : lv.base = Txt.join " " lv.body := by
  cases lv with
  | same ms =>
    show Str.append "same " (Txt.join " " (wp ms)) = Txt.join " " ("same" :: wp ms)
    rw [join_cons (wp_ne h.ne), show Str.append (Str.ofString "same") (Str.ofString " ") = Str.ofString "same " from by decide +kernel]
  | along k z =>
    show Str.append (Str.append (Str.append "along " (toStr k)) " ") z = Txt.join " " [("along" : Str), toStr k, z]
    rw [join_cons (by simp), join_cons (by simp), show Str.append (Str.ofString "along") (Str.ofString " ") = Str.ofString "along " from by decide +kernel]
    have e1 : Txt.join " " [z] = z := by
      apply TL.ext_tl
      rw [TL.join_eq, TL.tl_join]
      rfl
    rw [e1]
    apply TL.ext_tl
    show TL.tl (((Str.ofString "along " ++ toStr k) ++ Str.ofString " ") ++ z) = TL.tl (Str.ofString "along " ++ ((toStr k ++ Str.ofString " ") ++ z))
    simp only [TL.tl_append, List.append_assoc]
  | list ns =>
    show Str.append "list " (Txt.join " " (ns.map toStr)) = Txt.join " " ("list" :: ns.map toStr)
    rw [join_cons (fun z => nums_ne hs h (List.map_eq_nil_iff.mp z)), show Str.append (Str.ofString "list") (Str.ofString " ") = Str.ofString "list " from by decide +kernel]
theorem body_ne (lv : Lv) : lv.body ≠ [] := by cases lv <;> simp [Lv.body]
theorem lvText_eq {size : Option Nat} {e : Bool} {lv : Lv} (hs : SizeOk size) (h : LvOk size e lv) : lvText lv e = Txt.join " " (lvP lv e) := by
  unfold lvText lvP
  rw [base_join hs h]
  cases e with
  | true => rw [if_pos rfl, if_pos rfl, join_end (body_ne lv)]
  | false => rw [if_neg (by decide), if_neg (by decide), List.append_nil, append_none]
theorem FS_more : ("same" : Str) ∈ FS ∧ ("along" : Str) ∈ FS ∧ ("list" : Str) ∈ FS ∧ ∀ z ∈ sEnding, z ∈ FS := by decide +kernel
theorem nums_FS : (∀ z ∈ nums, z ∈ FS ∧ figM fronts2 z = true) ∧ (∀ z ∈ places, z ∈ FS ∧ ipM z = true) := by decide +kernel
theorem toStr_FS : ∀ i : Fin 12, toStr ((i.val : Nat) : Int) ∈ FS := by decide +kernel
theorem lvP_FS {size : Option Nat} {e : Bool} {lv : Lv} (hs : SizeOk size) (h : LvOk size e lv) : ∀ z ∈ lvP lv e, z ∈ FS := by
  obtain ⟨f1, f2, f3, f4⟩ := FS_more
  intro z hz
  unfold lvP at hz
  rcases List.mem_append.mp hz with hz | hz
  · cases lv with
    | same ms =>
      rcases List.mem_cons.mp hz with rfl | hz
      · exact f1
      · exact wp_FS h.ok z hz
    | along k y =>
      have hz : z ∈ [("along" : Str), toStr k, y] := hz
      simp only [List.mem_cons, List.not_mem_nil, or_false] at hz
      rcases hz with rfl | rfl | rfl
      · exact f2
      · exact (nums_FS.1 _ h.1).1
      · exact (nums_FS.2 _ h.2.1).1
    | list ns =>
      obtain ⟨s, rfl, hl, hn⟩ := h
      rcases List.mem_cons.mp hz with rfl | hz
      · exact f3
      · obtain ⟨n, hn', rfl⟩ := List.mem_map.mp hz
        obtain ⟨h0, h1⟩ := hn n hn'
        have := hs.2
        have k := toStr_FS ⟨n.toNat, by omega⟩
        rw [show ((n.toNat : Nat) : Int) = n by omega] at k
        exact k
  · cases e with
    | true => exact f4 z hz
    | false => cases hz
theorem lvP_len {size : Option Nat} {e : Bool} {lv : Lv} (hs : SizeOk size) (h : LvOk size e lv) : 1 ≤ (lvP lv e).length ∧ (lvP lv e).length ≤ 30 := by
  have he : (if e = true then sEnding else []).length ≤ 3 := by cases e <;> decide +kernel
  unfold lvP
  rw [List.length_append]
  cases lv with
  | same ms =>
    have := wp_len ms
    have := h.l4
    show 1 ≤ ((wp ms).length + 1) + _ ∧ ((wp ms).length + 1) + _ ≤ 30
    omega
  | along k z =>
    show 1 ≤ 3 + _ ∧ 3 + _ ≤ 30
    omega
  | list ns =>
    obtain ⟨s, rfl, hl, _⟩ := h
    have h2 := hs.2
    have : (Lv.list ns).body.length = ns.length + 1 := by
      show (ns.map toStr).length + 1 = _
      rw [List.length_map]
    rw [this]
    have : ns.length ≤ 12 := by
      rw [hl]
      split <;> omega
    omega
theorem endW_ok (B : List Str) (e : Bool) : endW (B ++ (if e = true then sEnding else [])) B.length = none := by
  unfold endW
  have h3 : sEnding.length = 3 := by decide +kernel
  cases e with
  | false =>
    have e0 : (if false = true then sEnding else []) = ([] : List Str) := rfl
    rw [e0, List.append_nil, if_pos rfl]
  | true =>
    rw [if_pos rfl, List.length_append, h3, if_neg (by omega), List.append_assoc, List.drop_left]
    rw [show endE (sEnding ++ [sNoP]) sEnding = none from by decide +kernel]
    exact if_neg (Nat.lt_irrefl _)
theorem cntN_ok {N : List Str} : ∀ {L : List Str} {n : Nat} {r : List Str}, (∀ z ∈ L, z ∈ N) → L.length ≤ n → cntN N n (L ++ r) = L.length + cntN N (n - L.length) r
  | [], n, r, _, _ => by simp
  | z :: L, 0, r, _, h => by simp at h
  | z :: L, n + 1, r, hm, h => by
    have e : cntN N (n + 1) (z :: L ++ r) = if z ∈ N then cntN N n (L ++ r) + 1 else 0 := rfl
    rw [e, if_pos (hm z (List.mem_cons_self ..)), cntN_ok (fun y hy => hm y (List.mem_cons_of_mem _ hy)) (by simpa using h), List.length_cons, Nat.add_sub_add_right]
    omega
theorem lvP_right {size : Option Nat} {e : Bool} {lv : Lv} (hs : SizeOk size) (h : LvOk size e lv) : lvlW (lvP lv e) size = none := by
  have hE : ((if e = true then sEnding else []) ++ [sNoP]).head? ≠ some ("then" : Str) := by cases e <;> decide +kernel
  have hend := endW_ok lv.body e
  have hle : lv.body.length ≤ (lvP lv e).length := by unfold lvP; rw [List.length_append]; omega
  cases lv with
  | same ms =>
    have hh : hd (lvP (.same ms) e) = "same" := rfl
    have hm := mvsE_ok (n := 4) h.ne h.l4 h.ok h.one (fun _ => (rfl : true = true))
    have ew := (wrdE_inr (wrdE_ok h)).1
    have hm2 := mvsE_tail hE (ps := wp ms) (k := 0) (Nat.zero_le _) hm
    rw [← ew] at hm2
    have hb : bodyE (lvP (.same ms) e) size = .inr (1 + (wp ms).length) := by
      unfold bodyE
      rw [if_pos hh]
      have ed : (lvP (.same ms) e ++ [sNoP]).drop 1 = wp ms ++ ((if e = true then sEnding else []) ++ [sNoP]) := by
        show (wp ms ++ (if e = true then sEnding else [])) ++ [sNoP] = _
        rw [List.append_assoc]
      rw [ed, hm2]
    have hbl : (Lv.same ms).body.length = 1 + (wp ms).length := by
      show (wp ms).length + 1 = _
      omega
    rw [lvlW_other (by rw [hh]; decide +kernel) hb (by rw [← hbl]; exact hle), ← hbl]
    exact hend
  | along k z =>
    have hh : hd (lvP (.along k z) e) = "along" := rfl
    have hb : bodyE (lvP (.along k z) e) size = .inr 3 := by
      unfold bodyE
      rw [if_neg (by rw [hh]; decide +kernel), if_pos hh, show nthS (lvP (.along k z) e) 1 = toStr k from rfl, show nthS (lvP (.along k z) e) 2 = z from rfl, if_pos (nums_FS.1 _ h.1).2, if_pos (nums_FS.2 _ h.2.1).2]
    rw [lvlW_other (by rw [hh]; decide +kernel) hb hle]
    exact hend
  | list ns =>
    obtain ⟨s, rfl, hl, hn⟩ := h
    have hs2 := hs.1
    have hh : hd (lvP (.list ns) e) = "list" := rfl
    rw [lvlW_list hh]
    have ed : (lvP (.list ns) e ++ [sNoP]).drop 1 = ns.map toStr ++ ((if e = true then sEnding else []) ++ [sNoP]) := by
      show (ns.map toStr ++ (if e = true then sEnding else [])) ++ [sNoP] = _
      rw [List.append_assoc]
    have hmem : ∀ z ∈ ns.map toStr, z ∈ lNums s := fun z hz => by
      obtain ⟨n, hn', rfl⟩ := List.mem_map.mp hz
      obtain ⟨h0, h1⟩ := hn n hn'
      refine List.mem_map.mpr ⟨n.toNat, List.mem_range.mpr (by omega), ?_⟩
      show toStr ((n.toNat : Nat) : Int) = toStr n
      rw [show ((n.toNat : Nat) : Int) = n by omega]
    have hll : (ns.map toStr).length = ns.length := List.length_map ..
    have hbl : (Lv.list ns).body.length = 1 + ns.length := by
      show (ns.map toStr).length + 1 = _
      omega
    cases e with
    | true =>
      rw [if_pos rfl] at hl
      have hc : cntN (lNums s) s ((lvP (.list ns) true ++ [sNoP]).drop 1) = s := by
        rw [ed, cntN_ok hmem (by omega), hll, hl, Nat.sub_self]
        rfl
      rw [hc, if_neg (by omega), if_pos (by omega)]
      have hlen : (lvP (.list ns) true).length = 1 + s + 3 := by
        unfold lvP
        rw [List.length_append, hbl, hl]
        rfl
      unfold endW at hend
      rw [hbl, hl] at hend
      change (if 1 + s = (lvP (.list ns) true).length then none else match endE ((lvP (.list ns) true ++ [sNoP]).drop (1 + s)) sEnding with
        | some j => some (1 + s + j)
        | none => if 1 + s + 3 < (lvP (.list ns) true).length then some (1 + s + 3) else none) = none at hend
      rw [if_neg (by omega)] at hend
      exact hend
    | false =>
      rw [if_neg (by decide)] at hl
      have hc : cntN (lNums s) s ((lvP (.list ns) false ++ [sNoP]).drop 1) = s - 1 := by
        rw [ed, cntN_ok hmem (by omega), hll, hl, show s - (s - 1) = 1 by omega]
        show s - 1 + cntN (lNums s) 1 [sNoP] = s - 1
        have : cntN (lNums s) 1 [sNoP] = if sNoP ∈ lNums s then cntN (lNums s) 0 [] + 1 else 0 := rfl
        rw [this, if_neg (lNums_no hs.2)]
        rfl
      have hlen : (lvP (.list ns) false).length = s := by
        unfold lvP
        rw [List.length_append, hbl, hl]
        show 1 + (s - 1) + 0 = s
        omega
      rw [hc, if_neg (by omega), if_neg (by omega), if_neg (by omega)]
section
variable {P : Program} {w : World} {K : PySem.W.Frag} {mg : Str → Option Value} {base : Heap} {a : Ad}
theorem lgA {k : Int} (h1 : -9 ≤ k) (h2 : k ≤ 9) : k.natAbs.log2 < 1920 := by
  by_cases h : 0 ≤ k
  · exact lg k h (by omega)
  · rw [← Int.natAbs_neg]
    exact lg _ (by omega) (by omega)
theorem wt_places : ∀ z ∈ wt, z ∈ places := by decide +kernel
theorem pos_nums : ∀ i : Fin 9, toStr (((i.val : Nat) : Int) + 1) ∈ nums := by decide +kernel
theorem neg_nums : ∀ i : Fin 9, toStr (-1 - ((i.val : Nat) : Int)) ∈ nums := by decide +kernel
def spLawLevel : Sp := fun vs H Q _ => ∃ (d c : Addr) (n : Nat) (size : Option Nat), vs = [.ref d, .int (szI size)] ∧ Pen H d c n ∧ n + 400 < 2 ^ 40 ∧ SizeOk size ∧
  ∀ o lv e H', H o = none → LvT H' o e lv → LvOk size e lv → Pen H' d c (n + 200) → But d H H' → Q (.ref o) H'
theorem ok__law_level (T : Tx w K mg a) : FnOk P w K mg base CX0 5 a.f__law_level a.d__law_level ["pen", "size"] spLawLevel := by
  refine T.F__law_level.ok sc__law_level (fun vs H Q E h => ?_) (fun cdv A outer s H vs Q E hr h => ?_)
  · obtain ⟨d, c, n, size, rfl, _⟩ := h
    rfl
  · obtain ⟨d, c, n, size, rfl, hp, hn, hsz, q⟩ := h
    refine ⟨_, 
(pss_cons (ps_set (i := 2) sc__law_level.nd rfl (.inl rfl) (pe_cmpR op_eq (pe_call (ok__law_draw T) (hr.mono (by decide)) (by rfl) T.m__law_draw T.F__law_draw.kp T.b__law_draw .nil pass0 (pa_cons (pv 0) (pa_cons pe_int pa_nil))) pe_int (nomark _)))
  (C8.pss_cut (ps_set (i := 3) sc__law_level.nd rfl (.inl rfl) (pe_call (ok__law_draw T) (hr.mono (by decide)) (by rfl) T.m__law_draw T.F__law_draw.kp T.b__law_draw .nil pass0 (pa_cons (pv 0) (pa_cons (pe_ifExp (pt_cmpR op_gt (pv 1) pe_int (nomark _)) pe_int pe_int) pa_nil))))
  (pss_cons (ps_if (pt_cmpR op_lt (pv 3) pe_int (nomark _))
  (pss_one (ps_ret (pe_tup (pa_cons pe_str (pa_cons (pe_call (ok__law_moves T) hr (by rfl) T.m__law_moves T.F__law_moves.kp T.b__law_moves .nil pass0 (pa_cons (pv 0) pa_nil)) (pa_cons pe_non (pa_cons (pv 2) pa_nil)))))))
  pss_nil)
  (pss_cons (ps_if (pt_cmpR op_lt (pv 3) pe_int (nomark _))
  (pss_cons (ps_set (i := 4) sc__law_level.nd rfl (.inl rfl) (pe_call (ok__law_draw T) (hr.mono (by decide)) (by rfl) T.m__law_draw T.F__law_draw.kp T.b__law_draw .nil pass0 (pa_cons (pv 0) (pa_cons pe_int pa_nil))))
  (pss_one (ps_ret (pe_tup (pa_cons pe_str (pa_cons (pe_ifExp (pt_cmpR op_lt (pv 4) pe_int (nomark _)) (pe_op op_add (pv 4) pe_int) (pe_op op_sub pe_int (pv 4))) (pa_cons (pe_call (ok__law_place_word T) (hr.mono (by decide)) (by rfl) T.m__law_place_word T.F__law_place_word.kp T.b__law_place_word .nil pass0 (pa_cons (pv 0) pa_nil)) (pa_cons (pv 2) pa_nil))))))))
  pss_nil)
  (pss_one (ps_ret (pe_tup (pa_cons pe_str (pa_cons (pe_lc (own := [("k", 4)]) (g := gName 4) rfl sc__law_level.nd (pi_range1 (by rfl) T.z_range (pa_cons (pe_ifExp (pt_val (pv 2)) (pv 1) (pe_op op_sub (pv 1) pe_int)) pa_nil)) (blkOk_by (own := [("k", 4)]) (N := ["pen", "size", "end", "way", "k"]) (sc := defScope s__law_level) (by decide +kernel)) (fun _ _ _ _ _ => pg_name (i := 4) sc__law_level.nd rfl (Or.inl rfl)) (fun _ _ _ _ _ => pts_nil) (fun _ _ _ _ _ => (pe_call (ok__law_draw T) (hr.mono (by decide)) (by rfl) T.m__law_draw T.F__law_draw.kp T.b__law_draw .nil pass0 (pa_cons (pv 0) (pa_cons (pe_op op_sub (pv 1) pe_int) pa_nil))))) (pa_cons pe_non (pa_cons (pv 2) pa_nil))))))))))), ?_⟩
    -- end = _law_draw(pen, 3) == 0
    refine ⟨_, rfl, d, c, n, 3, rfl, hp, by omega, by decide, by decide, fun u H1 _ _ hp1 b1 => ⟨rfl, ?_⟩⟩
    generalize decide (V.int u = V.int 0) = e
    -- way = _law_draw(pen, 7 if size > 0 else 5)
    refine ⟨fun σ' H' => ∃ v : Int, σ' = [some (.ref d), some (.int (szI size)), some (.bl e), some (.int v), none] ∧ (5 ≤ v → ∃ s, size = some s) ∧ 0 ≤ v ∧ Pen H' d c (n + 2) ∧ But d H H', ?_, ?_⟩
    · refine ⟨_, rfl, _, rfl, _, 0, rfl, rfl, _, rfl, ?_⟩
      cases size with
      | none =>
        rw [decide_eq_false (show ¬ (0 : Int) < szI none by decide)]
        exact iteF ⟨d, c, n + 1, 5, rfl, hp1, by omega, by decide, by decide, fun v H2 v0 v1 hp2 b2 => ⟨v, rfl, fun h => absurd h (by omega), v0, hp2, b1.trans b2⟩⟩
      | some s =>
        have hs2 := hsz.1
        rw [decide_eq_true (show (0 : Int) < szI (some s) by show (0 : Int) < (s : Int); omega)]
        exact iteT ⟨d, c, n + 1, 7, rfl, hp1, by omega, by decide, by decide, fun v H2 v0 v1 hp2 b2 => ⟨v, rfl, fun _ => ⟨s, rfl⟩, v0, hp2, b1.trans b2⟩⟩
    rintro σ' H2 ⟨v, rfl, h5, v0, hp2, b02⟩
    refine ⟨_, rfl, _, 3, rfl, rfl, _, rfl, ite2 (fun hlt => ?_) (fun hge => ?_)⟩
    · refine ⟨_, rfl, d, c, n + 2, rfl, hp2, by omega, fun o ps ms H3 hw no eo hh nps hp3 b3 => ⟨_, rfl, sz (show 4 ≤ 100000 by decide), fun t nt => ?_⟩⟩
      have s4 := same_upd (o := .tup [.str "same", .ref o, .non, .bl e]) nt
      have b23 := b02.trans b3
      exact q t (.same ms) e _ (b23.free hp3 nt) ⟨o, ps, upd_same, s4 _ _ eo, hh.same s4⟩ hw ((hp3.same s4).up (by omega)) (b23.trans (but_same s4))
    refine ⟨_, rfl, _, 5, rfl, rfl, _, rfl, ite2 (fun hlt => ?_) (fun hge5 => ?_)⟩
    · refine ⟨_, rfl, d, c, n + 2, 18, rfl, hp2, by omega, by decide, by decide, fun k H3 k0 k1 hp3 b3 => ?_⟩
      have fin : ∀ (kk : Int) (z : Str) (H5 : Hp) (t : Addr), toStr kk ∈ nums → (-9 ≤ kk ∧ kk ≤ 9) → z ∈ wt → Pen H5 d c (n + 2 + 1 + 1) → But d H H5 → H5 t = none → Q (.ref t) (upd H5 t (.tup [.str "along", .int kk, .str z, .bl e])) := fun kk z H5 t h1 h2 hz hp5 b5 nt => by
        have s4 := same_upd (o := .tup [.str "along", .int kk, .str z, .bl e]) nt
        exact q t (.along kk z) e _ (b5.free hp5 nt) upd_same ⟨h1, wt_places z hz, h2⟩ ((hp5.same s4).up (by omega)) (b5.trans (but_same s4))
      have b23 := b02.trans b3
      refine ⟨_, rfl, _, 9, rfl, rfl, _, rfl, ite2 (fun hk => ?_) (fun hk => ?_)⟩
      · have hk9 : k < 9 := of_decide_eq_true hk
        refine ⟨_, rfl, _, 1, rfl, rfl, _, rfl, d, c, n + 2 + 1, rfl, hp3, by omega, fun z H5 hz hp5 b5 => ⟨_, rfl, sz (show 4 ≤ 100000 by decide), fun t nt => fin (k + 1) z H5 t ?_ ?_ hz hp5 (b23.trans b5) nt⟩⟩
        · have := pos_nums ⟨k.toNat, by omega⟩
          rw [show (((⟨k.toNat, by omega⟩ : Fin 9).val : Nat) : Int) + 1 = k + 1 by show ((k.toNat : Nat) : Int) + 1 = _; omega] at this
          exact this
        · omega
      · have hk9 : ¬ k < 9 := fun z => hk (decide_eq_true z)
        refine ⟨_, rfl, 8, _, rfl, rfl, _, rfl, d, c, n + 2 + 1, rfl, hp3, by omega, fun z H5 hz hp5 b5 => ⟨_, rfl, sz (show 4 ≤ 100000 by decide), fun t nt => fin (8 - k) z H5 t ?_ ?_ hz hp5 (b23.trans b5) nt⟩⟩
        · have := neg_nums ⟨(k - 9).toNat, by omega⟩
          rw [show -1 - (((⟨(k - 9).toNat, by omega⟩ : Fin 9).val : Nat) : Int) = 8 - k by show -1 - (((k - 9).toNat : Nat) : Int) = _; omega] at this
          exact this
        · omega
    have hv5 : 5 ≤ v := by
      have : ¬ v < 5 := fun z => hge5 (decide_eq_true z)
      omega
    obtain ⟨s, rfl⟩ := h5 hv5
    have hs2 := hsz.1
    have hs12 := hsz.2
    have fin : ∀ (ns : List Int) (D t : Addr) (H5 : Hp), ns.length = (if e = true then s else s - 1) → (∀ x ∈ ns, 0 ≤ x ∧ x < (s : Int) - 1) → H5 D = some (.lst (ns.map V.int)) → Pen H5 d c (n + 2 + 12) → But d H H5 → H5 t = none → Q (.ref t) (upd H5 t (.tup [.str "list", .ref D, .non, .bl e])) := fun ns D t H5 h1 h2 hD hp5 b5 nt => by
      have s4 := same_upd (o := .tup [.str "list", .ref D, .non, .bl e]) nt
      exact q t (.list ns) e _ (b5.free hp5 nt) ⟨D, upd_same, s4 _ _ hD⟩ ⟨s, rfl, h1, h2⟩ ((hp5.same s4).up (by omega)) (b5.trans (but_same s4))
    have gen : ∀ (m : Nat), m = (if e = true then s else s - 1) → ∀ D, H2 D = none → ∀ H5, (∃ ns : List Int, ns.length = m ∧ (∀ x ∈ ns, 0 ≤ x ∧ x < (s : Int) - 1) ∧ H5 D = some (.lst (ns.map V.int)) ∧ Pen H5 d c (n + 2 + m) ∧ But d H H5) → ∀ t, H5 t = none → Q (.ref t) (upd H5 t (.tup [.str "list", .ref D, .non, .bl e])) := fun m hm D hD H5 h t nt => by
      obtain ⟨ns, h1, h2, h3, h4, h6⟩ := h
      have : m ≤ 12 := by
        rw [hm]
        split <;> omega
      exact fin ns D t H5 (h1.trans hm) h2 h3 (h4.up (by omega)) h6 nt
    have step : ∀ (m : Nat), m ≤ 12 → ∀ D, H2 D = none → ∀ (l : Nat) (H' : Hp), l < m → (∃ ns : List Int, ns.length = l ∧ (∀ x ∈ ns, 0 ≤ x ∧ x < (s : Int) - 1) ∧ H' D = some (.lst (ns.map V.int)) ∧ Pen H' d c (n + 2 + l) ∧ But d H H') →
        spDraw [.ref d, .int ((s : Int) - 1)] H' (fun y H4 => ∃ acc, H4 D = some (.lst acc) ∧ acc.length < sizeLine ∧ (∃ ns : List Int, ns.length = l + 1 ∧ (∀ x ∈ ns, 0 ≤ x ∧ x < (s : Int) - 1) ∧ (upd H4 D (.lst (acc ++ [y]))) D = some (.lst (ns.map V.int)) ∧ Pen (upd H4 D (.lst (acc ++ [y]))) d c (n + 2 + (l + 1)) ∧ But d H (upd H4 D (.lst (acc ++ [y]))))) E0 := fun m hm D hD l H' hl h => by
      obtain ⟨ns, h1, h2, h3, h4, h6⟩ := h
      have nD : H D = none := b02.free hp2 hD
      obtain ⟨_, hd2⟩ := hp2.dict
      obtain ⟨_, hc2⟩ := hp2.cells
      obtain ⟨_, hd'⟩ := h4.dict
      refine ⟨d, c, n + 2 + l, (s : Int) - 1, rfl, h4, by omega, by omega, ?_, fun x H4 x0 x1 hp4 b4 => ⟨ns.map V.int, b4.list hd' h3, szlt (by rw [List.length_map]; omega), ns ++ [x], by rw [List.length_append, h1]; rfl, fun y hy => ?_, ?_, (hp4.mut (ne_of_none hd2 hD) (ne_of_none hc2 hD)).up (by omega), (h6.trans b4).mut nD⟩⟩
      · have : ((100000 : Nat) : Int) < 2 ^ 200 := by decide
        omega
      · rcases List.mem_append.mp hy with z | z
        · exact h2 y z
        · rw [List.mem_singleton.mp z]
          exact ⟨x0, x1⟩
      · rw [upd_same, List.map_append]
        rfl
    have start : ∀ D, H2 D = none → (∃ ns : List Int, ns.length = 0 ∧ (∀ x ∈ ns, 0 ≤ x ∧ x < (s : Int) - 1) ∧ (upd H2 D (.lst [])) D = some (.lst (ns.map V.int)) ∧ Pen (upd H2 D (.lst [])) d c (n + 2 + 0) ∧ But d H (upd H2 D (.lst []))) := fun D hD =>
      ⟨[], rfl, fun x hx => (by cases hx), upd_same, hp2.same (same_upd hD), b02.trans (but_same (same_upd hD))⟩
    clear fin
    cases e with
    | true =>
      refine ⟨_, rfl, _, rfl, iteT ⟨_, rfl, _, rfl, by show (-2 ^ 62 : Int) ≤ (s : Int); omega, by show (s : Int) < 2 ^ 62; omega, fun D hD => ?_⟩⟩
      refine lc_range (lo := 0) (n := ((s : Nat) : Int).toNat) (fun l H' => ∃ ns : List Int, ns.length = l ∧ (∀ x ∈ ns, 0 ≤ x ∧ x < (s : Int) - 1) ∧ H' D = some (.lst (ns.map V.int)) ∧ Pen H' d c (n + 2 + l) ∧ But d H H') ?c0 ?cs ?cd
      case c0 => exact start D hD
      case cs =>
        rintro l H' hl h
        exact ⟨rfl, _, rfl, _, rfl, _, 1, rfl, rfl, step s (by omega) D hD l H' (by omega) h⟩
      rintro H5 h
      rw [show ((s : Nat) : Int).toNat = s from rfl] at h
      exact ⟨_, rfl, sz (show 4 ≤ 100000 by decide), fun t nt => gen s rfl D hD H5 h t nt⟩
    | false =>
      refine ⟨_, rfl, _, rfl, iteF ⟨_, rfl, _, 1, rfl, rfl, _, rfl, by show (-2 ^ 62 : Int) ≤ (s : Int) - 1; omega, by show (s : Int) - 1 < 2 ^ 62; omega, fun D hD => ?_⟩⟩
      refine lc_range (lo := 0) (n := ((s : Int) - 1).toNat) (fun l H' => ∃ ns : List Int, ns.length = l ∧ (∀ x ∈ ns, 0 ≤ x ∧ x < (s : Int) - 1) ∧ H' D = some (.lst (ns.map V.int)) ∧ Pen H' d c (n + 2 + l) ∧ But d H H') ?d0 ?ds ?dd
      case d0 => exact start D hD
      case ds =>
        rintro l H' hl h
        exact ⟨rfl, _, rfl, _, rfl, _, 1, rfl, rfl, step s (by omega) D hD l H' (by omega) h⟩
      rintro H5 h
      rw [show ((s : Int) - 1).toNat = s - 1 by omega] at h
      exact ⟨_, rfl, sz (show 4 ≤ 100000 by decide), fun t nt => gen (s - 1) rfl D hD H5 h t nt⟩
def spLevelText : Sp := fun vs H Q _ => ∃ (o : Addr) (size : Option Nat) (lv : Lv) (e : Bool), vs = [.ref o] ∧ LvT H o e lv ∧ SizeOk size ∧ LvOk size e lv ∧ ∀ H', Same H H' → Q (.str (lvText lv e)) H'
theorem ok__law_level_text (T : Tx w K mg a) : FnOk P w K mg base CX0 2 a.f__law_level_text a.d__law_level_text ["level"] spLevelText := by
  refine T.F__law_level_text.ok sc__law_level_text (fun vs H Q E h => ?_) (fun cdv A outer s H vs Q E hr h => ?_)
  · obtain ⟨o, size, lv, e, rfl, _⟩ := h
    rfl
  · obtain ⟨o, size, lv, e, rfl, hT, hsz, hok, q⟩ := h
    refine ⟨_, 
(pss_cons (ps_asg (pv 0) (pg_tup rfl (pgs_cons (pg_name (i := 1) sc__law_level_text.nd rfl (.inl rfl)) (pgs_cons (pg_name (i := 2) sc__law_level_text.nd rfl (.inl rfl)) (pgs_cons (pg_name (i := 3) sc__law_level_text.nd rfl (.inl rfl)) (pgs_cons (pg_name (i := 4) sc__law_level_text.nd rfl (.inl rfl)) pgs_nil))))))
  (pss_cons (ps_set (i := 5) sc__law_level_text.nd rfl (.inl rfl) (pe_ifExp (pt_cmpR op_eq (pv 1) pe_str (nomark _)) (pe_op op_add_str pe_str (pe_call (ok__law_word_text T) hr (by rfl) T.m__law_word_text T.F__law_word_text.kp T.b__law_word_text .nil pass0 (pa_cons (pv 2) pa_nil))) (pe_op op_add_str (pe_op op_add_str (pe_op op_add_str pe_str (pe_callTy (call_strA (room65 hr)) (by rfl) T.z_str (by decide +kernel) (pa_cons (pv 2) pa_nil))) pe_str) (pe_callTy (call_strA (room65 hr)) (by rfl) T.z_str (by decide +kernel) (pa_cons (pv 3) pa_nil)))))
  (pss_cons (ps_if (pt_cmpR op_eq (pv 1) pe_str (nomark _))
  (pss_one (ps_set (i := 5) sc__law_level_text.nd rfl (.inl rfl) (pe_op op_add_str pe_str (pe_join pe_str (pe_lc (own := [("place", 6)]) (g := gName 6) rfl sc__law_level_text.nd (pi_list (pv 2)) (blkOk_by (own := [("place", 6)]) (N := ["level", "kind", "one", "other", "end", "text", "place"]) (sc := defScope s__law_level_text) (by decide +kernel)) (fun _ _ _ _ _ => pg_name (i := 6) sc__law_level_text.nd rfl (Or.inl rfl)) (fun _ _ _ _ _ => pts_nil) (fun _ _ _ _ _ => (pe_callTy call_str_int (by rfl) T.z_str (by decide +kernel) (pa_cons (pv 6) pa_nil))))))))
  pss_nil)
  (pss_one (ps_ret (pe_op op_add_str (pv 5) (pe_ifExp (pt_val (pv 4)) pe_str pe_str))))))), ?_⟩
    have l1 : (Str.ofString " to the end").length = 11 := by decide +kernel
    have l2 : (Str.ofString "").length = 0 := by decide +kernel
    have l3 : (Str.ofString "same ").length = 5 := by decide +kernel
    have l4 : (Str.ofString "along ").length = 6 := by decide +kernel
    have l5 : (Str.ofString "list ").length = 5 := by decide +kernel
    have l6 : (Str.ofString " ").length = 1 := by decide +kernel
    have d1 : ¬ V.str "same" = V.str "list" := fun e => absurd (V.str.inj e) (by decide +kernel)
    have d2 : ¬ V.str "along" = V.str "same" := fun e => absurd (V.str.inj e) (by decide +kernel)
    have d3 : ¬ V.str "along" = V.str "list" := fun e => absurd (V.str.inj e) (by decide +kernel)
    have d4 : ¬ V.str "list" = V.str "same" := fun e => absurd (V.str.inj e) (by decide +kernel)
    cases lv with
    | same ms =>
      obtain ⟨m, ps, h1, h2, h3⟩ := hT
      refine ⟨_, rfl, o, [.str "same", .ref m, .non, .bl e], rfl, SqT.at h1, rfl, _, [.ref m, .non, .bl e], rfl, _, [.non, .bl e], rfl, _, [.bl e], rfl, _, [], rfl, rfl, ?_⟩
      refine ⟨_, rfl, rfl, _, rfl, ?_⟩
      rw [decide_eq_true (show V.str "same" = V.str "same" from rfl)]
      have hl := wtext_len hok
      refine iteT ⟨_, rfl, m, ps, ms, rfl, SqL.at h2, h3, hok.l4, hok.ok, fun H1 s1 => ⟨_, _, rfl, rfl, sz (by rw [l3]; omega), ?_⟩⟩
      refine ⟨_, rfl, rfl, _, rfl, ?_⟩
      rw [decide_eq_false d1]
      refine iteF ⟨_, rfl, _, rfl, _, rfl, ?_⟩
      have hl2 : (Str.ofString "same " ++ wtext ms).length = 5 + (wtext ms).length := by rw [strLen_append, l3]
      cases e with
      | true => exact iteT ⟨_, _, rfl, rfl, sz (by rw [hl2, l1]; omega), q _ s1⟩
      | false => exact iteF ⟨_, _, rfl, rfl, sz (by rw [hl2, l2]; omega), q _ s1⟩
    | along k z =>
      refine ⟨_, rfl, o, [.str "along", .int k, .str z, .bl e], rfl, SqT.at hT, rfl, _, [.int k, .str z, .bl e], rfl, _, [.str z, .bl e], rfl, _, [.bl e], rfl, _, [], rfl, rfl, ?_⟩
      refine ⟨_, rfl, rfl, _, rfl, ?_⟩
      rw [decide_eq_false d2]
      have hk1 := (FS_chk (nums_FS.1 _ hok.1).1).2.2.1
      have hz1 := (FS_chk (nums_FS.2 _ hok.2.1).1).2.2.1
      have e1 : (Str.ofString "along " ++ toStr k).length = 6 + (toStr k).length := by rw [strLen_append, l4]
      have e2 : ((Str.ofString "along " ++ toStr k) ++ Str.ofString " ").length = 6 + (toStr k).length + 1 := by rw [strLen_append, e1, l6]
      have e3 : (((Str.ofString "along " ++ toStr k) ++ Str.ofString " ") ++ z).length = 6 + (toStr k).length + 1 + z.length := by rw [strLen_append, e2]
      refine iteF ⟨_, rfl, _, rfl, .inl ⟨k, rfl, lgA hok.2.2.1 hok.2.2.2, _, _, rfl, rfl, sz (show (Str.ofString "along ").length + (toStr k).length ≤ 100000 by rw [l4]; omega), _, _, rfl, rfl, sz (show (Str.ofString "along " ++ toStr k).length + (Str.ofString " ").length ≤ 100000 by rw [e1, l6]; omega), _, rfl, _, rfl, .inr (.inl ⟨z, rfl, _, _, rfl, rfl, sz (show ((Str.ofString "along " ++ toStr k) ++ Str.ofString " ").length + z.length ≤ 100000 by rw [e2]; omega), ?_⟩)⟩⟩
      refine ⟨_, rfl, rfl, _, rfl, ?_⟩
      rw [decide_eq_false d3]
      refine iteF ⟨_, rfl, _, rfl, _, rfl, ?_⟩
      cases e with
      | true => exact iteT ⟨_, _, rfl, rfl, sz (show (((Str.ofString "along " ++ toStr k) ++ Str.ofString " ") ++ z).length + (Str.ofString " to the end").length ≤ 100000 by rw [e3, l1]; omega), q _ (Same.refl H)⟩
      | false => exact iteF ⟨_, _, rfl, rfl, sz (show (((Str.ofString "along " ++ toStr k) ++ Str.ofString " ") ++ z).length + (Str.ofString "").length ≤ 100000 by rw [e3, l2]; omega), q _ (Same.refl H)⟩
    | list ns =>
      obtain ⟨m, h1, h2⟩ := hT
      have hne := nums_ne hsz hok
      obtain ⟨s, rfl, hl, hn⟩ := hok
      have hs2 := hsz.2
      have hl12 : ns.length ≤ 12 := by
        rw [hl]
        split <;> omega
      refine ⟨_, rfl, o, [.str "list", .ref m, .non, .bl e], rfl, SqT.at h1, rfl, _, [.ref m, .non, .bl e], rfl, _, [.non, .bl e], rfl, _, [.bl e], rfl, _, [], rfl, rfl, ?_⟩
      refine ⟨_, rfl, rfl, _, rfl, ?_⟩
      rw [decide_eq_false d4]
      refine iteF ⟨_, rfl, _, rfl, .inr (.inr (.inr ⟨m, ns, rfl, SqL.at h2, hne, by omega, fun x hx => ⟨(hn x hx).1, by have := (hn x hx).2; omega⟩, fun y hy => ?_⟩))⟩
      have e1 : (Str.ofString "along " ++ y).length = 6 + y.length := by rw [strLen_append, l4]
      have e2 : ((Str.ofString "along " ++ y) ++ Str.ofString " ").length = 6 + y.length + 1 := by rw [strLen_append, e1, l6]
      have l7 : (Str.ofString "None").length = 4 := by decide +kernel
      refine ⟨_, _, rfl, rfl, sz (by rw [l4]; omega), _, _, rfl, rfl, sz (by rw [e1, l6]; omega), _, rfl, _, rfl, .inr (.inr (.inl ⟨rfl, _, _, rfl, rfl, sz (by rw [e2, l7]; omega), ?_⟩))⟩
      refine ⟨_, rfl, rfl, _, rfl, ?_⟩
      rw [decide_eq_true (show V.str "list" = V.str "list" from rfl)]
      -- text = 'list ' + ' '.join([str(place) for place in one])
      refine iteT ⟨⟨_, rfl⟩, _, rfl, m, rfl, ⟨_, SqL.at h2⟩, fun D hD => ?_⟩
      refine lc_it (walk_list (xs := ns.map V.int)) (fun j H' => Same H H' ∧ H' D = some (.lst (((ns.map toStr).take j).map V.str))) ?h0 ?hG ?hs ?hd
      case h0 => exact ⟨same_upd hD, upd_same⟩
      case hG =>
        rintro j H9 _ ⟨sm, _⟩
        exact SqL.at (sm _ _ h2)
      case hs =>
        rintro j x H9 H10 hj ⟨sm, e9⟩ ⟨rfl, ex⟩
        rw [List.length_map] at hj
        rw [List.getElem?_map, List.getElem?_eq_getElem hj] at ex
        cases ex
        obtain ⟨b0, b1⟩ := hn ns[j] (List.getElem_mem hj)
        have et : (ns.map toStr).take (j + 1) = (ns.map toStr).take j ++ [toStr ns[j]] := by
          rw [List.take_add_one, List.getElem?_map, List.getElem?_eq_getElem hj]
          rfl
        refine ⟨rfl, _, rfl, ns[j], rfl, lg _ b0 (by omega), _, e9, ?_, keep_upd sm hD, ?_⟩
        · rw [List.length_map, List.length_take, List.length_map]
          exact szlt (by omega)
        · rw [upd_same, et, List.map_append]
          rfl
      rintro H9 ⟨s9, e9⟩
      rw [List.length_map, List.take_of_length_le (by rw [List.length_map]; omega)] at e9
      have hsl : ∀ y ∈ ns.map toStr, y.length ≤ 100 := fun y hy => by
        obtain ⟨x, hx, rfl⟩ := List.mem_map.mp hy
        obtain ⟨b0, b1⟩ := hn x hx
        have := toStr_FS ⟨x.toNat, by omega⟩
        rw [show (((⟨x.toNat, by omega⟩ : Fin 12).val : Nat) : Int) = x by show ((x.toNat : Nat) : Int) = x; omega] at this
        exact (FS_chk this).2.2.1
      have hjl := join_len hsl
      rw [List.length_map] at hjl
      have e4 : (Str.ofString "list " ++ Txt.join " " (ns.map toStr)).length = 5 + (Txt.join " " (ns.map toStr)).length := by rw [strLen_append, l5]
      refine ⟨" ", D, ns.map toStr, rfl, rfl, .inl (SqL.at e9), join_size hsl (by rw [List.length_map]; omega), _, _, rfl, rfl, sz (by rw [l5]; omega), ?_⟩
      refine ⟨_, rfl, _, rfl, _, rfl, ?_⟩
      cases e with
      | true => exact iteT ⟨_, _, rfl, rfl, sz (by rw [e4, l1]; omega), q _ s9⟩
      | false => exact iteF ⟨_, _, rfl, rfl, sz (by rw [e4, l2]; omega), q _ s9⟩
end

/-! ### levels and what they do -/
def Lv.kind : Lv → Str
  | .same _ => "same"
  | .along _ _ => "along"
  | .list _ => "list"
/-- the word, the factor, the place, the entries of a level -/
def LvHas (CW : Addr) (H : Hp) (w fa pl en : V) : Lv → Prop
  | .same ms => (∃ a, w = .ref a ∧ WordAt CW H a ms) ∧ fa = .non ∧ pl = .non ∧ en = .non
  | .along k z => w = .non ∧ fa = .int k ∧ pl = .str z ∧ en = .non
  | .list ns => w = .non ∧ fa = .non ∧ pl = .non ∧ ∃ t, en = .ref t ∧ H t = some (.tup (ns.map V.int))
/-- a level stands at p -/
def LevelL (C CW : Addr) (H : Hp) (p : Addr) (lv : Lv) (e : Bool) : Prop := ∃ dx fs w fa pl en, H p = some (.ins C dx fs) ∧ fs.lookup ("text" : Str) = some (.str (lvText lv e)) ∧ fs.lookup ("kind" : Str) = some (.str lv.kind) ∧ fs.lookup ("to_end" : Str) = some (.bl e) ∧
  fs.lookup ("word" : Str) = some w ∧ fs.lookup ("factor" : Str) = some fa ∧ fs.lookup ("place" : Str) = some pl ∧ fs.lookup ("entries" : Str) = some en ∧ (∀ k, k ∉ lvKeys → fs.lookup k = none) ∧ LvHas CW H w fa pl en lv
theorem LevelL.same {C CW : Addr} {H H' : Hp} {p : Addr} {lv : Lv} {e : Bool} (h : LevelL C CW H p lv e) (s : Same H H') : LevelL C CW H' p lv e := by
  obtain ⟨dx, fs, w, fa, pl, en, h1, h2, h3, h4, h5, h6, h7, h8, h0, h9⟩ := h
  refine ⟨dx, fs, w, fa, pl, en, s _ _ h1, h2, h3, h4, h5, h6, h7, h8, h0, ?_⟩
  cases lv with
  | same ms =>
    obtain ⟨⟨a, ha, hw⟩, hr⟩ := h9
    exact ⟨⟨a, ha, hw.same s⟩, hr⟩
  | along k z => exact h9
  | list ns =>
    obtain ⟨r1, r2, r3, t, ht, e⟩ := h9
    exact ⟨r1, r2, r3, t, ht, s _ _ e⟩
/-- how many steps a level does at size k, if it is one of that size -/
def lvMany (lv : Lv) (e : Bool) (k : Nat) : Option Nat := match lv with
  | .list ns => if ns.length = (if e = true then k else k - 1) then some (if e = true then k else k - 1) else none
  | _ => some (if e = true then k else k - 1)
/-- two promises of one def -/
theorem fn_or {P : Program} {w : World} {K : PySem.W.Frag} {mg : Str → Option Value} {base : Heap} {CX : CXT} {k : Nat} {f : Addr} {fd : FuncData} {ps : List Str} {sp sq : Sp} (F : FnOk P w K mg base CX k f fd ps sp) (G : FnOk P w K mg base CX k f fd ps sq) :
    FnOk P w K mg base CX k f fd ps (fun vs H Q E => sp vs H Q E ∨ sq vs H Q E) :=
  ⟨fun vs H Q E h => h.elim (F.len vs H Q E) (G.len vs H Q E), fun A outer s H args us vs Q E hr he hb hv h => h.elim (F.run A outer s H args us vs Q E hr he hb hv) (G.run A outer s H args us vs Q E hr he hb hv)⟩
section
variable {P : Program} {w : World} {K : PySem.W.Frag} {mg : Str → Option Value} {base : Heap} {a : Ad}
end

/-! ### a right level that is read is what was written -/
theorem lvlE_goes {ps : List Str} {size : Option Nat} {b : Nat} {g : Bool} (h : lvlE ps size = .inr (b, g)) : g = goesOn ps size b := by
  unfold lvlE at h
  cases hb : bodyE ps size with
  | inl j =>
    rw [hb] at h
    cases h
  | inr c =>
    rw [hb] at h
    dsimp only at h
    cases hg : goesOn ps size c with
    | true =>
      rw [hg, if_pos rfl] at h
      cases he : endE ((ps ++ [sNoP]).drop c) sEnding with
      | some j =>
        rw [he] at h
        cases h
      | none =>
        rw [he] at h
        dsimp only at h
        by_cases hc : c + 3 < ps.length
        · rw [if_pos hc] at h
          cases h
        · rw [if_neg hc] at h
          cases h
          exact hg.symm
    | false =>
      rw [hg, if_neg (by decide)] at h
      by_cases hc : c < ps.length
      · rw [if_pos hc] at h
        cases h
      · rw [if_neg hc] at h
        cases h
        exact hg.symm
theorem lvP_body {size : Option Nat} {e : Bool} {lv : Lv} (hs : SizeOk size) (h : LvOk size e lv) : bodyE (lvP lv e) size = .inr lv.body.length := by
  have hE : ((if e = true then sEnding else []) ++ [sNoP]).head? ≠ some ("then" : Str) := by cases e <;> decide +kernel
  cases lv with
  | same ms =>
    have hh : hd (lvP (.same ms) e) = "same" := rfl
    have hm := mvsE_ok (n := 4) h.ne h.l4 h.ok h.one (fun _ => (rfl : true = true))
    have ew := (wrdE_inr (wrdE_ok h)).1
    have hm2 := mvsE_tail hE (ps := wp ms) (k := 0) (Nat.zero_le _) hm
    rw [← ew] at hm2
    have hbl : (Lv.same ms).body.length = 1 + (wp ms).length := by
      show (wp ms).length + 1 = _
      omega
    rw [hbl]
    unfold bodyE
    rw [if_pos hh]
    have ed : (lvP (.same ms) e ++ [sNoP]).drop 1 = wp ms ++ ((if e = true then sEnding else []) ++ [sNoP]) := by
      show (wp ms ++ (if e = true then sEnding else [])) ++ [sNoP] = _
      rw [List.append_assoc]
    rw [ed, hm2]
  | along k z =>
    have hh : hd (lvP (.along k z) e) = "along" := rfl
    show bodyE (lvP (.along k z) e) size = .inr 3
    unfold bodyE
    rw [if_neg (by rw [hh]; decide +kernel), if_pos hh, show nthS (lvP (.along k z) e) 1 = toStr k from rfl, show nthS (lvP (.along k z) e) 2 = z from rfl, if_pos (nums_FS.1 _ h.1).2, if_pos (nums_FS.2 _ h.2.1).2]
  | list ns =>
    obtain ⟨s, rfl, hl, hn⟩ := h
    have hs2 := hs.1
    have hh : hd (lvP (.list ns) e) = "list" := rfl
    have ed : (lvP (.list ns) e ++ [sNoP]).drop 1 = ns.map toStr ++ ((if e = true then sEnding else []) ++ [sNoP]) := by
      show (ns.map toStr ++ (if e = true then sEnding else [])) ++ [sNoP] = _
      rw [List.append_assoc]
    have hmem : ∀ z ∈ ns.map toStr, z ∈ lNums s := fun z hz => by
      obtain ⟨n, hn', rfl⟩ := List.mem_map.mp hz
      obtain ⟨h0, h1⟩ := hn n hn'
      refine List.mem_map.mpr ⟨n.toNat, List.mem_range.mpr (by omega), ?_⟩
      show toStr ((n.toNat : Nat) : Int) = toStr n
      rw [show ((n.toNat : Nat) : Int) = n by omega]
    have hll : (ns.map toStr).length = ns.length := List.length_map ..
    have hbl : (Lv.list ns).body.length = 1 + ns.length := by
      show (ns.map toStr).length + 1 = _
      omega
    have hc : cntN (lNums s) s ((lvP (.list ns) e ++ [sNoP]).drop 1) = ns.length := by
      cases e with
      | true =>
        rw [if_pos rfl] at hl
        rw [ed, cntN_ok hmem (by omega), hll, hl, Nat.sub_self]
        rfl
      | false =>
        rw [if_neg (by decide)] at hl
        rw [ed, cntN_ok hmem (by omega), hll, hl, show s - (s - 1) = 1 by omega]
        show s - 1 + cntN (lNums s) 1 [sNoP] = s - 1
        have : cntN (lNums s) 1 [sNoP] = if sNoP ∈ lNums s then cntN (lNums s) 0 [] + 1 else 0 := rfl
        rw [this, if_neg (lNums_no hs.2)]
        rfl
    have hlt : ¬ 1 + ns.length < s := by
      rw [hl]
      split <;> omega
    rw [hbl]
    unfold bodyE
    rw [if_neg (by rw [hh]; decide +kernel), if_neg (by rw [hh]; decide +kernel)]
    dsimp only
    rw [if_pos hh, hc, if_neg hlt]
theorem lvP_goes {size : Option Nat} {e : Bool} {lv : Lv} (hs : SizeOk size) (h : LvOk size e lv) : goesOn (lvP lv e) size lv.body.length = e := by
  have h3 : sEnding.length = 3 := by decide +kernel
  have hlen : (lvP lv e).length = lv.body.length + (if e = true then 3 else 0) := by
    unfold lvP
    rw [List.length_append]
    cases e with
    | true => rw [if_pos rfl, if_pos rfl, h3]
    | false => rfl
  have gen : ¬ hd (lvP lv e) = "list" → goesOn (lvP lv e) size lv.body.length = e := fun hn => by
    unfold goesOn
    rw [if_neg hn, hlen]
    cases e <;> simp
  cases lv with
  | same ms => exact gen (show ¬ Str.ofString "same" = Str.ofString "list" by decide +kernel)
  | along k z => exact gen (show ¬ Str.ofString "along" = Str.ofString "list" by decide +kernel)
  | list ns =>
    obtain ⟨s, rfl, hl, hn⟩ := h
    have hs2 := hs.1
    have hh : hd (lvP (.list ns) e) = "list" := rfl
    unfold goesOn
    rw [if_pos hh]
    have hbl : (Lv.list ns).body.length = ns.length + 1 := by
      show (ns.map toStr).length + 1 = _
      rw [List.length_map]
    rw [hbl]
    show decide (s < ns.length + 1) = e
    cases e with
    | true =>
      rw [if_pos rfl] at hl
      exact decide_eq_true (by omega)
    | false =>
      rw [if_neg (by decide)] at hl
      exact decide_eq_false (by omega)
theorem num_back : (∀ i : Fin 19, intText? (toStr ((i.val : Nat) - 9 : Int)) = some ((i.val : Nat) - 9 : Int)) ∧ ∀ i : Fin 12, intText? (toStr ((i.val : Nat) : Int)) = some ((i.val : Nat) : Int) := by decide +kernel
theorem LevelF.lv {C CW : Addr} {H : Hp} {p : Addr} {size : Option Nat} {e : Bool} {lv : Lv} {b : Nat} {g : Bool} (hs : SizeOk size) (h : LvOk size e lv) (hr : lvlE (lvP lv e) size = .inr (b, g)) (hF : LevelF C CW H p (lvText lv e) (lvP lv e) b g) : LevelL C CW H p lv e := by
  have hb : b = lv.body.length := by
    have := lvlE_body hr
    rw [lvP_body hs h] at this
    exact (Sum.inr.inj this).symm
  have hg : g = e := by
    rw [lvlE_goes hr, hb]
    exact lvP_goes hs h
  subst hg
  obtain ⟨dx, fs, w, fa, pl, en, h1, h2, h3, h4, h5, h6, h7, h8, h0, h9⟩ := hF
  have hk : nthS (lvP lv g) 0 = lv.kind := by cases lv <;> rfl
  rw [hk] at h3
  refine ⟨dx, fs, w, fa, pl, en, h1, h2, h3, h4, h5, h6, h7, h8, h0, ?_⟩
  unfold LvIs at h9
  rw [hk] at h9
  cases lv with
  | same ms =>
    rcases h9 with ⟨_, a, ms2, c, hm, rfl, hw, rfl, rfl, rfl⟩ | ⟨hn, _⟩ | ⟨hn, _⟩
    · have hE : ((if g = true then sEnding else []) ++ [sNoP]).head? ≠ some ("then" : Str) := by cases g <;> decide +kernel
      have hm1 := mvsE_ok (n := 4) h.ne h.l4 h.ok h.one (fun _ => (rfl : true = true))
      have ew := (wrdE_inr (wrdE_ok h)).1
      have hm2 := mvsE_tail hE (ps := wp ms) (k := 0) (Nat.zero_le _) hm1
      rw [← ew] at hm2
      have ed : (lvP (.same ms) g ++ [sNoP]).drop 1 = wp ms ++ ((if g = true then sEnding else []) ++ [sNoP]) := by
        show (wp ms ++ (if g = true then sEnding else [])) ++ [sNoP] = _
        rw [List.append_assoc]
      rw [ed, hm2] at hm
      cases hm
      rw [← ew] at hw
      exact ⟨⟨a, rfl, hw.mv⟩, rfl, rfl, rfl⟩
    · exact absurd hn (show ¬ Str.ofString "same" = Str.ofString "along" by decide +kernel)
    · exact absurd rfl hn
  | along k z =>
    rcases h9 with ⟨hn, _⟩ | ⟨_, n, hn, rfl, rfl, rfl, rfl⟩ | ⟨_, hn, _⟩
    · exact absurd hn (show ¬ Str.ofString "along" = Str.ofString "same" by decide +kernel)
    · have hn : intText? (toStr k) = some n := hn
      have h1 := h.2.2.1
      have h2 := h.2.2.2
      have q := num_back.1 ⟨(k + 9).toNat, by omega⟩
      rw [show (((⟨(k + 9).toNat, by omega⟩ : Fin 19).val : Nat) - 9 : Int) = k by show (((k + 9).toNat : Nat) - 9 : Int) = k; omega] at q
      rw [q] at hn
      cases hn
      exact ⟨rfl, rfl, rfl, rfl⟩
    · exact absurd rfl hn
  | list ns =>
    rcases h9 with ⟨hn, _⟩ | ⟨hn, _⟩ | ⟨_, _, t, rfl, ht, _, rfl, rfl, rfl⟩
    · exact absurd hn (show ¬ Str.ofString "list" = Str.ofString "same" by decide +kernel)
    · exact absurd hn (show ¬ Str.ofString "list" = Str.ofString "along" by decide +kernel)
    · refine ⟨rfl, rfl, rfl, t, rfl, ?_⟩
      obtain ⟨s, rfl, hl, hn⟩ := h
      have hs2 := hs.2
      have e1 : ((lvP (.list ns) g).drop 1).take (b - 1) = ns.map toStr := by
        have hbl : (Lv.list ns).body.length = ns.length + 1 := by
          show (ns.map toStr).length + 1 = _
          rw [List.length_map]
        rw [hb, hbl]
        show (ns.map toStr ++ (if g = true then sEnding else [])).take (ns.length + 1 - 1) = _
        rw [Nat.add_sub_cancel, List.take_append_of_le_length (by rw [List.length_map]; exact Nat.le_refl _), List.take_of_length_le (by rw [List.length_map]; exact Nat.le_refl _)]
      rw [ht, e1, List.map_map]
      congr 2
      refine List.map_congr_left fun n hn' => ?_
      obtain ⟨z0, z1⟩ := hn n hn'
      have q := num_back.2 ⟨n.toNat, by omega⟩
      rw [show (((⟨n.toNat, by omega⟩ : Fin 12).val : Nat) : Int) = n by show ((n.toNat : Nat) : Int) = n; omega] at q
      show V.int ((intText? (toStr n)).getD 0) = V.int n
      rw [q]
      rfl

theorem LvT.same {H H' : Hp} {o : Addr} {e : Bool} {lv : Lv} (h : LvT H o e lv) (s : Same H H') : LvT H' o e lv := by
  cases lv with
  | same ms =>
    obtain ⟨m, ps, h1, h2, h3⟩ := h
    exact ⟨m, ps, s _ _ h1, s _ _ h2, h3.same s⟩
  | along k z => exact s _ _ h
  | list ns =>
    obtain ⟨m, h1, h2⟩ := h
    exact ⟨m, s _ _ h1, s _ _ h2⟩
section
variable {P : Program} {w : World} {K : PySem.W.Frag} {mg : Str → Option Value} {base : Heap} {a : Ad}
end

/-! ### levels are made again, and beside each other -/
theorem cut_pre (x y : Str) : cutS (Str.append x y) none (some ((x.length : Nat) : Int)) = x := by
  apply TL.ext_tl
  have e1 : TL.tl (Str.append x y) = TL.tl x ++ TL.tl y := TL.tl_append x y
  have e2 : (Str.append x y).length = (TL.tl x).length + (TL.tl y).length := by rw [TL.len_tl, e1, List.length_append]
  have e3 : x.length = (TL.tl x).length := TL.len_tl x
  unfold cutS
  rw [HT.sIx_none, HT.sIx_nat, e2, e3, Nat.min_eq_left (by omega)]
  show ((TL.tl (Str.append x y)).drop 0).take _ = _
  rw [e1, List.drop_zero, Nat.sub_zero, List.take_left]
theorem app_nil (x : Str) : Str.append x "" = x := by
  apply TL.ext_tl
  have e1 : TL.tl (Str.append x "") = TL.tl x ++ TL.tl "" := TL.tl_append x ""
  rw [e1, show TL.tl "" = [] from by decide +kernel, List.append_nil]
def sTo : Str := " to the end"
theorem text_true (lv : Lv) : lvText lv true = Str.append lv.base sTo := rfl
theorem text_false (lv : Lv) : lvText lv false = lv.base := app_nil _
theorem len_app (x y : Str) : (Str.append x y).length = x.length + y.length := by
  have e1 : TL.tl (Str.append x y) = TL.tl x ++ TL.tl y := TL.tl_append x y
  rw [TL.len_tl, e1, List.length_append, ← TL.len_tl, ← TL.len_tl]
theorem text_ne (lv : Lv) (e : Bool) : lvText lv e ≠ lvText lv (!e) := by
  have h : ∀ lv : Lv, lvText lv true ≠ lvText lv false := fun lv z => by
    rw [text_true, text_false] at z
    have := congrArg Str.length z
    rw [len_app, show sTo.length = 11 from by decide +kernel] at this
    omega
  cases e
  · exact fun z => h lv z.symm
  · exact h lv
theorem list_ne (ns : List Int) (e : Bool) : lvText (.list ns) e ≠ "same turn" := fun z => by
  have h : TL.tl (lvText (.list ns) e) = TL.tl "list " ++ (TL.tl (Txt.join " " (ns.map toStr)) ++ TL.tl (if e = true then " to the end" else "")) := by
    show TL.tl (Str.append (Str.append "list " (Txt.join " " (ns.map toStr))) _) = _
    rw [show ∀ x y : Str, TL.tl (Str.append x y) = TL.tl x ++ TL.tl y from TL.tl_append, show ∀ x y : Str, TL.tl (Str.append x y) = TL.tl x ++ TL.tl y from TL.tl_append, List.append_assoc]
  rw [z] at h
  have := congrArg (fun l => l.take 1) h
  revert this
  rw [show TL.tl "list " = [108, 105, 115, 116, 32] from by decide +kernel, show TL.tl "same turn" = [115, 97, 109, 101, 32, 116, 117, 114, 110] from by decide +kernel]
  simp
def Lv.notList : Lv → Bool
  | .list _ => false
  | _ => true
theorem lvOk_any {size size' : Option Nat} {e e' : Bool} {lv : Lv} (n : lv.notList = true) (h : LvOk size e lv) : LvOk size' e' lv := by
  cases lv with
  | same ms => exact h
  | along k z => exact h
  | list ns => cases n
def lvTurn : Lv := .same [.turn]
theorem turn_one : oneTurn [.turn] := fun pre m post h _ hm => by
  have := congrArg List.length h
  simp only [List.length_append, List.length_cons, List.length_nil] at this
  rw [List.eq_nil_of_length_eq_zero (show pre.length = 0 by omega)] at hm
  cases hm
theorem turn_ok (size : Option Nat) (e : Bool) : LvOk size e lvTurn := ⟨by simp, by decide, fun m hm => by simp at hm; subst hm; exact trivial, turn_one⟩
theorem turn_text : lvText lvTurn false = "same turn" := by decide +kernel
theorem lvText_len {size : Option Nat} {e : Bool} {lv : Lv} (hs : SizeOk size) (h : LvOk size e lv) : (lvText lv e).length ≤ 3030 := by
  have tl := join_len (zs := lvP lv e) fun z hz => (FS_chk (lvP_FS hs h z hz)).2.2.1
  rw [← lvText_eq hs h] at tl
  have := (lvP_len hs h).2
  omega
theorem lv_make {C CW0 CW CS : Addr} {H : Hp} {x dx : Addr} {size : Option Nat} {e : Bool} {lv : Lv} {z : Str} {sv : V} {R : VK} {E : XK} (hx : H x = none) (hdx : H dx = none) (ne : dx ≠ x) (hs : SizeOk size) (hok : LvOk size e lv) (hz : z = lvText lv e) (hsv : sv = oN size)
    (q : ∀ H', LevelL C CW0 H' x lv e → Same H H' → R .non H') : spLevelInit C CW0 CW CS [.ref x, .str z, sv] (upd (upd H dx (.own x)) x (.ins C dx [])) R E := by
  subst hz hsv
  obtain ⟨s1, ex⟩ := made2 (C := C) hx hdx ne
  generalize upd (upd H dx (.own x)) x (.ins C dx []) = H1 at s1 ex ⊢
  have pF := lvP_FS hs hok
  obtain ⟨p1, p2⟩ := lvP_len hs hok
  have pne : lvP lv e ≠ [] := fun z => by rw [z] at p1; exact absurd p1 (by decide)
  have tsp : Txt.split (lvText lv e) " " = lvP lv e := by
    rw [lvText_eq hs hok]
    exact split_FS pne pF
  have hr := lvP_right hs hok
  refine ⟨x, dx, lvText lv e, oN size, rfl, ex, .inl ⟨size, lvP lv e, rfl, hs, tsp, p1, by omega, pF, Nat.le_trans (lvText_len hs hok) (by decide), fun b g hb H' hF hk => ?_, fun j hj H' d s2 ed => ?_⟩⟩
  · exact q H' (hF.lv hs hok hb) fun b o e => hk b o (s1 b o e) (ne_of_none e hx)
  · exfalso
    unfold lvlW at hr
    rw [hj] at hr
    cases hr

/-! ### the lines of a program -/
theorem str_mk {x : Str} {l : List Nat} (h : x.cps.toList = l) : x = ⟨l.toArray⟩ := by
  cases x with
  | mk a => subst h; simp
theorem rem_app (a y : Str) : Txt.removeprefix (a ++ y) a = y := by
  have h := PySem.W.KT.starts_app a y
  have al := PySem.W.KT.app_list a y
  have e1 : (a ++ y).length = a.length + y.length := by
    show (a ++ y).cps.size = a.cps.size + y.cps.size
    rw [← Array.length_toList, al, List.length_append, Array.length_toList, Array.length_toList]
  unfold Txt.startswith at h
  rw [PySem.StrLaws.removeprefix_eq, if_pos (by simpa using h), al]
  have d : (a.cps.toList ++ y.cps.toList).drop a.length = y.cps.toList := by
    rw [List.drop_append_of_le_length (by rw [Array.length_toList]; exact Nat.le_refl _)]
    rw [List.drop_eq_nil_of_le (by rw [Array.length_toList]; exact Nat.le_refl _), List.nil_append]
  rw [d, e1, Nat.add_sub_cancel_left]
  have t : y.cps.toList.take y.length = y.cps.toList := List.take_of_length_le (by rw [Array.length_toList]; exact Nat.le_refl _)
  rw [t]
def perT (n : Int) : Str := Str.empty ++ "period " ++ toStr n
def rHead (k : Int) : Str := Str.empty ++ "rest " ++ toStr k ++ " "
def sHead (s : Int) : Str := Str.empty ++ "level " ++ toStr s ++ " "
theorem perT_inj : ∀ a b : Fin 7, perT ((a.val : Nat) : Int) = perT ((b.val : Nat) : Int) → a = b := by decide +kernel
theorem sHead_no : ∀ a b : Fin 13, a < b → 2 ≤ a.val → (sHead ((a.val : Nat) : Int)).length ≤ (sHead ((b.val : Nat) : Int)).length ∧ Txt.startswith (sHead ((b.val : Nat) : Int)) (sHead ((a.val : Nat) : Int)) = false := by decide +kernel
theorem head_len : ∀ a : Fin 13, (perT ((a.val : Nat) : Int)).length ≤ 30 ∧ (rHead ((a.val : Nat) : Int)).length ≤ 30 ∧ (sHead ((a.val : Nat) : Int)).length ≤ 30 ∧ 10 ∉ TL.tl (perT ((a.val : Nat) : Int)) ∧ 10 ∉ TL.tl (rHead ((a.val : Nat) : Int)) ∧ 10 ∉ TL.tl (sHead ((a.val : Nat) : Int)) := by decide +kernel
theorem perT_len {k : Nat} (h : k < 13) : (perT (k : Int)).length ≤ 30 := (head_len ⟨k, h⟩).1
theorem rHead_len {k : Nat} (h : k < 13) : (rHead (k : Int)).length ≤ 30 := (head_len ⟨k, h⟩).2.1
theorem sHead_len {k : Nat} (h : k < 13) : (sHead (k : Int)).length ≤ 30 := (head_len ⟨k, h⟩).2.2.1
theorem sl {n m : Nat} (h : n ≤ m) (hm : m ≤ 100000) : n ≤ sizeLine := sz (Nat.le_trans h hm)
theorem small_log {k : Nat} (h : k < 13) : ((k : Int)).natAbs.log2 < 1920 := by
  rw [Int.natAbs_natCast]
  have : k.log2 ≤ k := Nat.log2_le_self k
  omega
section
variable {P : Program} {w : World} {K : PySem.W.Frag} {mg : Str → Option Value} {base : Heap} {a : Ad}
def spReadPeriod : Sp := fun vs H Q _ => ∃ n : Nat, vs = [.str (perT (n : Int))] ∧ 1 ≤ n ∧ n ≤ 6 ∧ Q (.int (n : Int)) H
theorem ok_read_period (T : Tx w K mg a) : FnOk P w K mg base CX0 3 a.f_read_period a.d_read_period ["line"] spReadPeriod := by
  refine T.F_read_period.ok sc_read_period (fun vs H Q E h => ?_) (fun cdv A outer s H vs Q E hr h => ?_)
  · obtain ⟨n, rfl, _⟩ := h
    rfl
  · obtain ⟨n, rfl, n1, n6, q⟩ := h
    refine ⟨_, 
(pss_cons (ps_for PassesOwn.never rfl (pi_range2 (by rfl) T.z_range (pa_cons pe_int (pa_cons (pe_op op_add (pe_glob (v := .int 6) (by rfl) T.m_MOST_PERIOD.choose_spec ⟨_, rfl⟩) pe_int) pa_nil))) (pg_name (i := 1) sc_read_period.nd rfl (.inl rfl))
  (pss_one (ps_if (pt_cmpR op_eq (pv 0) (pe_joined (.cons pe_str (.cons (pe_fmt (pv 1)) .nil))) (nomark _))
  (pss_one (ps_ret (pv 1)))
  pss_nil)))
  (pss_one ps_never)), ?_⟩
    refine ⟨6, 1, rfl, rfl, 1, 7, rfl, by decide, ?_⟩
    refine for_range (lo := 1) (n := 6) (fun i σ H' => (∃ y1 : Option V, σ = [some (.str (perT (n : Int))), y1]) ∧ H' = H ∧ i < n) ?_ ?_ ?_
    · exact ⟨⟨none, rfl⟩, rfl, by omega⟩
    · rintro i σ H' hi ⟨⟨y1, rfl⟩, rfl, lt⟩
      rw [show (1 : Int) + (i : Int) = ((i + 1 : Nat) : Int) by omega]
      refine ⟨_, rfl, _, rfl, sl (m := 100) (by decide +kernel) (by decide), _, rfl, .inr ⟨((i + 1 : Nat) : Int), rfl, small_log (by omega), _, rfl, sl (perT_len (k := i + 1) (by omega)) (by decide), ?_⟩⟩
      refine ⟨rfl, _, rfl, ?_⟩
      show if decide (V.str (perT (n : Int)) = V.str (perT ((i + 1 : Nat) : Int))) = true then _ else _
      by_cases c : i + 1 = n
      · subst c
        rw [decide_eq_true rfl]
        exact iteT ⟨_, rfl, q⟩
      · rw [decide_eq_false (fun z => c (by
          have := perT_inj ⟨n, by omega⟩ ⟨i + 1, by omega⟩ (V.str.inj z)
          have := congrArg Fin.val this
          exact this.symm))]
        exact iteF ⟨⟨_, rfl⟩, rfl, by omega⟩
    · rintro σ H' ⟨_, _, lt⟩
      omega
def spReadLine (C CW : Addr) : Sp := fun vs H Q _ => ∃ (h : Str) (lv : Lv) (e : Bool) (size : Option Nat) (y : V), vs = [.str (h ++ lvText lv e), y, .str h, oN size] ∧ h.length ≤ 100 ∧ SizeOk size ∧ LvOk size e lv ∧ ∀ p H', LevelL C CW H' p lv e → Same H H' → Q (.ref p) H'
theorem ok_read_line (T : Tx w K mg a) : FnOk P w K mg base CX0 10 a.f_read_line a.d_read_line ["line", "number", "head", "size"] (spReadLine a.C_Level a.C_Word) := by
  refine T.F_read_line.ok sc_read_line (fun vs H Q E h => ?_) (fun cdv A outer s H vs Q E hr h => ?_)
  · obtain ⟨h, lv, e, size, y, rfl, _⟩ := h
    rfl
  · obtain ⟨h, lv, e, size, y, rfl, hh, hs, hok, q⟩ := h
    refine ⟨_, 
(pss_cons (ps_if (pt_not (pt_val (pe_bm PySem.F.plainAttrs_str PySem.F.slot_str_startswith PySem.F.type_str_startswith mt_startswith (pv 0) (pa_cons (pv 2) pa_nil))))
  (pss_one ps_never)
  pss_nil)
  (pss_one (ps_try_many rfl rfl takes0 (fun W pn xe tk po => (pss_one (ps_ret (pe_makeS T.mk_Level (ok_Level_init T) hr (by rfl) T.c_Level T.b_Level_init .nil tk (pa_cons (show PE _ _ (tBM K _ _ _ _) from pe_bm PySem.F.plainAttrs_str PySem.F.slot_str_removeprefix PySem.F.type_str_removeprefix mt_removeprefix (pv 0) (pa_cons (pv 2) pa_nil)) (pa_cons (pv 3) pa_nil))))))
  (.cons ⟨rfl, by decide, .inl T.c_BadWord⟩ (fun x oe cls d pn hz hf => (pss_one ps_never))
  .nil)))), ?_⟩
    refine ⟨_, rfl, rfl, _, rfl, _, _, rfl, rfl, _, rfl, ?_⟩
    rw [PySem.W.KT.starts_app]
    refine ⟨_, rfl, rfl, _, rfl, _, _, rfl, rfl, ?_, ?_⟩
    · have := lvText_len hs hok
      rw [show (h ++ lvText lv e).length = h.length + (lvText lv e).length from by
        show (h ++ lvText lv e).cps.size = h.cps.size + (lvText lv e).cps.size
        rw [← Array.length_toList, PySem.W.KT.app_list, List.length_append, Array.length_toList, Array.length_toList]]
      exact sz (by omega)
    rw [rem_app]
    exact ⟨_, rfl, fun x dx hx hdx ne => lv_make hx hdx ne hs hok rfl rfl fun H' hL s => ⟨rfl, q x H' hL s⟩⟩
end

theorem rest_len0 : ∀ a : Fin 13, (Str.empty ++ "rest " ++ toStr ((a.val : Nat) : Int)).length ≤ 30 ∧ (Str.empty ++ "level " ++ toStr ((a.val : Nat) : Int)).length ≤ 30 := by decide +kernel
theorem rest_len {k : Nat} (h : k < 13) : (Str.empty ++ "rest " ++ toStr (k : Int)).length ≤ 30 := (rest_len0 ⟨k, h⟩).1
theorem level_len {k : Nat} (h : k < 13) : (Str.empty ++ "level " ++ toStr (k : Int)).length ≤ 30 := (rest_len0 ⟨k, h⟩).2
/-- the lines of the rests, from rest k on -/
def restL : Nat → List (Lv × Bool) → List Str
  | _, [] => []
  | k, r :: rs => (rHead (k : Int) ++ lvText r.1 r.2) :: restL (k + 1) rs
theorem restL_len : ∀ (k : Nat) (rs : List (Lv × Bool)), (restL k rs).length = rs.length
  | _, [] => rfl
  | k, _ :: rs => congrArg (· + 1) (restL_len (k + 1) rs)
theorem restL_get : ∀ {rs : List (Lv × Bool)} {k i : Nat} {r : Lv × Bool}, rs[i]? = some r → (restL k rs)[i]? = some (rHead ((k + i : Nat) : Int) ++ lvText r.1 r.2)
  | q :: rs, k, 0, r, h => by
    cases h
    rfl
  | q :: rs, k, i + 1, r, h => by
    have := restL_get (rs := rs) (k := k + 1) (i := i) h
    show (restL (k + 1) rs)[i]? = _
    rw [this, show k + 1 + i = k + (i + 1) by omega]
def earlyT (s : Nat × Lv × Bool) : Str := sHead (s.1 : Int) ++ lvText s.2.1 s.2.2
def progL (rests : List (Lv × Bool)) (early : List (Nat × Lv × Bool)) : List Str := perT (rests.length : Int) :: (restL 0 rests ++ early.map earlyT)
structure ProgOk (rests : List (Lv × Bool)) (early : List (Nat × Lv × Bool)) : Prop where
  n1 : 1 ≤ rests.length
  n6 : rests.length ≤ 6
  rok : ∀ r ∈ rests, LvOk none r.2 r.1
  eok : ∀ s ∈ early, 2 ≤ s.1 ∧ s.1 ≤ 12 ∧ LvOk (some s.1) s.2.2 s.2.1
  up : early.Pairwise fun a b => a.1 < b.1
theorem ProgOk.elen {rests : List (Lv × Bool)} {early : List (Nat × Lv × Bool)} (h : ProgOk rests early) : early.length ≤ 11 := by
  have key : ∀ (l : List (Nat × Lv × Bool)) (lo : Nat), (∀ s ∈ l, lo ≤ s.1 ∧ s.1 ≤ 12) → l.Pairwise (fun a b => a.1 < b.1) → l.length + lo ≤ 13 ∨ l = [] := by
    intro l
    induction l with
    | nil => exact fun _ _ _ => .inr rfl
    | cons x r ih =>
      intro lo hb hp
      obtain ⟨p1, p2⟩ := List.pairwise_cons.mp hp
      have bx := hb x (List.mem_cons_self ..)
      rcases ih (x.1 + 1) (fun s hs => ⟨p1 s hs, (hb s (List.mem_cons_of_mem _ hs)).2⟩) p2 with h | h
      · left
        rw [List.length_cons]
        omega
      · left
        rw [h]
        show 1 + lo ≤ 13
        omega
  rcases key early 2 (fun s hs => ⟨(h.eok s hs).1, (h.eok s hs).2.1⟩) h.up with h | h
  · omega
  · rw [h]
    exact Nat.zero_le _
/-- levels, at their addresses -/
def LvsAt (C CW : Addr) (H : Hp) : List Addr → List (Lv × Bool) → Prop
  | [], [] => True
  | p :: ps, r :: rs => LevelL C CW H p r.1 r.2 ∧ LvsAt C CW H ps rs
  | _, _ => False
theorem LvsAt.len {C CW : Addr} {H : Hp} : ∀ {ps : List Addr} {rs : List (Lv × Bool)}, LvsAt C CW H ps rs → ps.length = rs.length
  | [], [], _ => rfl
  | _ :: _, _ :: _, h => congrArg (· + 1) h.2.len
theorem LvsAt.same {C CW : Addr} {H H' : Hp} (s : Same H H') : ∀ {ps : List Addr} {rs : List (Lv × Bool)}, LvsAt C CW H ps rs → LvsAt C CW H' ps rs
  | [], [], _ => trivial
  | _ :: _, _ :: _, h => ⟨h.1.same s, LvsAt.same s h.2⟩
theorem LvsAt.snoc {C CW : Addr} {H : Hp} {p : Addr} {r : Lv × Bool} (e : LevelL C CW H p r.1 r.2) : ∀ {ps : List Addr} {rs : List (Lv × Bool)}, LvsAt C CW H ps rs → LvsAt C CW H (ps ++ [p]) (rs ++ [r])
  | [], [], _ => ⟨e, trivial⟩
  | _ :: _, _ :: _, h => ⟨h.1, LvsAt.snoc e h.2⟩
theorem LvsAt.get {C CW : Addr} {H : Hp} : ∀ {ps : List Addr} {rs : List (Lv × Bool)}, LvsAt C CW H ps rs → ∀ {i : Nat} {r : Lv × Bool}, rs[i]? = some r → ∃ p, ps[i]? = some p ∧ LevelL C CW H p r.1 r.2
  | [], [], _, _, _, e => by cases e
  | p :: _, q :: _, h, 0, r, e => by
    cases e
    exact ⟨p, rfl, h.1⟩
  | _ :: _, _ :: _, h, i + 1, r, e => LvsAt.get h.2 (i := i) e
/-- a level stays if a list that stood elsewhere is changed -/
theorem LevelL.put {C CW : Addr} {H : Hp} {p o : Addr} {lv : Lv} {e : Bool} {xs : List V} {u : HO} (h : LevelL C CW H p lv e) (ho : H o = some (.lst xs) ∨ ∃ kvs, H o = some (.dK kvs)) : LevelL C CW (upd H o u) p lv e := by
  have nt : ∀ b ys, H b = some (.tup ys) → upd H o u b = some (.tup ys) := fun b ys e => by
    rw [upd_ne ?_]
    · exact e
    · intro z
      rw [z] at e
      rcases ho with ho | ⟨kvs, ho⟩ <;> rw [ho] at e <;> cases e
  have ni : ∀ b c d fs, H b = some (.ins c d fs) → upd H o u b = some (.ins c d fs) := fun b c d fs e => by
    rw [upd_ne ?_]
    · exact e
    · intro z
      rw [z] at e
      rcases ho with ho | ⟨kvs, ho⟩ <;> rw [ho] at e <;> cases e
  have hk : ∀ {rs : List Addr} {ms : List Mv}, Held H rs ms → Held (upd H o u) rs ms := by
    intro rs
    induction rs with
    | nil =>
      intro ms h
      cases ms with
      | nil => trivial
      | cons => exact h.elim
    | cons r rs ih =>
      intro ms h
      cases ms with
      | nil => exact h.elim
      | cons m ms => exact ⟨nt _ _ h.1, ih h.2⟩
  obtain ⟨dx, fs, w, fa, pl, en, h1, h2, h3, h4, h5, h6, h7, h8, h0, h9⟩ := h
  refine ⟨dx, fs, w, fa, pl, en, ni _ _ _ _ h1, h2, h3, h4, h5, h6, h7, h8, h0, ?_⟩
  cases lv with
  | same ms =>
    obtain ⟨⟨a, ha, d, t, rs, w1, w2, w3⟩, hr⟩ := h9
    exact ⟨⟨a, ha, d, t, rs, ni _ _ _ _ w1, nt _ _ w2, hk w3⟩, hr⟩
  | along k z => exact h9
  | list ns =>
    obtain ⟨r1, r2, r3, t, ht, e⟩ := h9
    exact ⟨r1, r2, r3, t, ht, nt _ _ e⟩
theorem LvsAt.put {C CW : Addr} {H : Hp} {o : Addr} {xs : List V} {u : HO} (ho : H o = some (.lst xs) ∨ ∃ kvs, H o = some (.dK kvs)) : ∀ {ps : List Addr} {rs : List (Lv × Bool)}, LvsAt C CW H ps rs → LvsAt C CW (upd H o u) ps rs
  | [], [], _ => trivial
  | _ :: _, _ :: _, h => ⟨h.1.put ho, LvsAt.put ho h.2⟩
section
variable {P : Program} {w : World} {K : PySem.W.Frag} {mg : Str → Option Value} {base : Heap} {a : Ad}
def spReadRests (K : PySem.W.Frag) (C CW : Addr) : Sp := fun vs H Q _ => ∃ (l : Addr) (rests : List (Lv × Bool)) (early : List (Nat × Lv × Bool)), vs = [.ref l, .int (rests.length : Int)] ∧ SqL K H l ((progL rests early).map V.str) ∧ ProgOk rests early ∧
  ∀ t ps H', H' t = some (.tup (ps.map V.ref)) → LvsAt C CW H' ps rests → Same H H' → Q (.ref t) H'
theorem ok_read_rests (T : Tx w K mg a) : FnOk P w K mg base CX0 11 a.f_read_rests a.d_read_rests ["lines", "period"] (spReadRests K a.C_Level a.C_Word) := by
  refine T.F_read_rests.ok sc_read_rests (fun vs H Q E h => ?_) (fun cdv A outer s H vs Q E hr h => ?_)
  · obtain ⟨l, rests, early, rfl, _⟩ := h
    rfl
  · obtain ⟨l, rests, early, rfl, hl, hok, q⟩ := h
    refine ⟨_, 
(pss_cons (ps_set (i := 2) sc_read_rests.nd rfl (.inl rfl) (pe_lst pa_nil))
  (pss_cons (ps_for PassesOwn.never rfl (pi_range1 (by rfl) T.z_range (pa_cons (pv 1) pa_nil)) (pg_name (i := 3) sc_read_rests.nd rfl (.inl rfl))
  (pss_cons (ps_if (pt_cmpR op_eq (pe_op op_add (pv 3) pe_int) (pe_callB call_len_seq (by rfl) T.z_len PySem.boot_len (pa_cons (pv 0) pa_nil)) (nomark _))
  (pss_one ps_never)
  pss_nil)
  (pss_one (ps_expr (pe_bm PySem.F.plainAttrs_list PySem.F.slot_list_append PySem.F.type_list_append mt_append (pv 2) (pa_cons (pe_call (ok_read_line T) hr (by rfl) T.m_read_line T.F_read_line.kp T.bd_read_line.choose_spec.2 T.bd_read_line.choose_spec.1 pass0 (pa_cons (pe_ix ix_list (pv 0) (pe_op op_add (pv 3) pe_int) (fun _ _ => rfl)) (pa_cons (pe_op op_add (pv 3) pe_int) (pa_cons (pe_joined (.cons pe_str (.cons (pe_fmt (pv 3)) (.cons pe_str .nil)))) pa_nil)))) pa_nil))))))
  (pss_one (ps_ret (pe_callTy call_tuple_of (by rfl) T.z_tuple (by decide +kernel) (pa_cons (pv 2) pa_nil)))))), ?_⟩
    have el := hok.elen
    have n6 := hok.n6
    have pl : ((progL rests early).map V.str).length = 1 + rests.length + early.length := by
      rw [List.length_map]
      show (restL 0 rests ++ early.map earlyT).length + 1 = _
      rw [List.length_append, restL_len, List.length_map]
      omega
    -- rests = []
    refine ⟨sz (show 0 ≤ 100000 by decide), fun o no => ?_⟩
    have s1 := same_upd (o := .lst []) no
    have eo : (upd H o (.lst [])) o = some (.lst (([] : List Addr).map V.ref)) := upd_same
    generalize upd H o (.lst []) = H1 at s1 eo ⊢
    -- for rest in range(period)
    refine ⟨_, rfl, _, rfl, by omega, by omega, ?_⟩
    refine for_range (lo := 0) (n := ((rests.length : Nat) : Int).toNat) (fun i σ H' => ∃ (y3 : Option V) (ps : List Addr), σ = [some (.ref l), some (.int (rests.length : Int)), some (.ref o), y3] ∧ Same H H' ∧ H' o = some (.lst (ps.map V.ref)) ∧ LvsAt a.C_Level a.C_Word H' ps (rests.take i)) ?_ ?_ ?_
    · exact ⟨none, [], rfl, s1, eo, trivial⟩
    · rintro i σ H' hi ⟨y3, ps, rfl, sm, eo', hps⟩
      rw [Int.toNat_natCast] at hi
      rw [show (0 : Int) + (i : Int) = (i : Int) from Int.zero_add _]
      refine ⟨_, rfl, _, 1, rfl, rfl, _, rfl, l, _, rfl, .inl (sm.seq hl), rfl, _, rfl, ?_⟩
      rw [pl, decide_eq_false (show ¬ V.int ((i : Int) + 1) = V.int ((1 + rests.length + early.length : Nat) : Int) from fun z => by
        have := V.int.inj z
        have := hok.n1
        omega)]
      refine iteF ?_
      have hr : rests[i]? = some rests[i] := List.getElem?_eq_getElem hi
      have hrok := hok.rok _ (List.getElem_mem hi)
      have htk : rests.take (i + 1) = rests.take i ++ [rests[i]] := by
        rw [List.take_succ, hr]
        rfl
      rw [htk]
      generalize rests[i] = rr at hr hrok
      have hln : atI ((progL rests early).map V.str) ((i : Int) + 1) = some (.str (rHead (i : Int) ++ lvText rr.1 rr.2)) := by
        rw [show (i : Int) + 1 = ((i + 1 : Nat) : Int) by omega]
        refine atI_nat ?_
        rw [List.getElem?_map]
        show Option.map V.str ((restL 0 rests ++ early.map earlyT)[i]?) = _
        rw [List.getElem?_append_left (by rw [restL_len]; exact hi), restL_get hr, Nat.zero_add]
        rfl
      refine ⟨.ref o, rfl, .inl ⟨rfl, _, SqL.at eo'⟩, _, rfl, _, rfl, _, 1, rfl, rfl, l, _, _, _, rfl, rfl, sm.seq hl, hln, _, rfl, _, 2, rfl, rfl, ?_⟩
      refine ⟨_, rfl, sl (m := 100) (by decide +kernel) (by decide), _, rfl, .inr ⟨(i : Int), rfl, small_log (by omega), _, rfl, sl (m := 130) (Nat.le_trans (rest_len (k := i) (by omega)) (by decide)) (by decide), _, rfl, sl (rHead_len (k := i) (by omega)) (by decide), ?_⟩⟩
      refine ⟨rHead (i : Int), rr.1, rr.2, none, _, rfl, Nat.le_trans (rHead_len (k := i) (by omega)) (by decide), trivial, hrok, fun p H2 hL s2 => ?_⟩
      have pn := hps.len
      rw [List.length_take] at pn
      refine ⟨o, _, _, rfl, rfl, s2 _ _ eo', szlt (by rw [List.length_map]; omega), ?_⟩
      refine ⟨_, ps ++ [p], rfl, keep_upd (sm.trans s2) no, by rw [upd_same, List.map_append]; rfl, ?_⟩
      exact (LvsAt.snoc hL (hps.same s2)).put (.inl (s2 _ _ eo'))
    · rintro σ H' ⟨y3, ps, rfl, sm, eo', hps⟩
      rw [Int.toNat_natCast, List.take_length] at hps
      refine ⟨_, rfl, o, _, rfl, .inl ⟨SqL.at eo', fun t nt => ?_⟩⟩
      have s2 := same_upd (o := .tup (ps.map V.ref)) nt
      exact q t ps _ upd_same (hps.same s2) (sm.trans s2)
end

theorem str_len_app (a y : Str) : (a ++ y).length = a.length + y.length := by
  show (a ++ y).cps.size = a.cps.size + y.cps.size
  rw [← Array.length_toList, PySem.W.KT.app_list, List.length_append, Array.length_toList, Array.length_toList]
theorem head_false {s z : Nat} (t : Str) (h2 : 2 ≤ z) (h : z < s) (h12 : s ≤ 12) : Txt.startswith (sHead (s : Int) ++ t) (sHead (z : Int)) = false := by
  obtain ⟨a, b⟩ := sHead_no ⟨z, by omega⟩ ⟨s, by omega⟩ h h2
  rw [PySem.W.KAf.starts_left a]
  exact b
/-- singles by their sizes -/
def kvE : List Addr → List (Nat × Lv × Bool) → List (Key × V)
  | p :: ps, s :: r => (.inl (s.1 : Int), .ref p) :: kvE ps r
  | _, _ => []
theorem kvE_snoc {p : Addr} {s : Nat × Lv × Bool} : ∀ {ps : List Addr} {r : List (Nat × Lv × Bool)}, ps.length = r.length → kvE (ps ++ [p]) (r ++ [s]) = kvE ps r ++ [(.inl (s.1 : Int), .ref p)]
  | [], [], _ => rfl
  | q :: ps, x :: r, h => by
    show _ :: kvE (ps ++ [p]) (r ++ [s]) = _ :: (kvE ps r ++ _)
    rw [kvE_snoc (by simpa using h)]
theorem kvE_len : ∀ {ps : List Addr} {r : List (Nat × Lv × Bool)}, ps.length = r.length → (kvE ps r).length = r.length
  | [], [], _ => rfl
  | q :: ps, x :: r, h => congrArg (· + 1) (kvE_len (by simpa using h))
theorem kvE_key {k : Key} {v : V} : ∀ {ps : List Addr} {r : List (Nat × Lv × Bool)}, (k, v) ∈ kvE ps r → ∃ s ∈ r, k = .inl (s.1 : Int)
  | q :: ps, x :: r, h => by
    rcases List.mem_cons.mp h with h | h
    · cases h
      exact ⟨x, List.mem_cons_self .., rfl⟩
    · obtain ⟨s, hs, e⟩ := kvE_key h
      exact ⟨s, List.mem_cons_of_mem _ hs, e⟩
theorem kvE_put {s : Nat × Lv × Bool} {p : Addr} {ps : List Addr} {r : List (Nat × Lv × Bool)} (hl : ps.length = r.length) (h : ∀ x ∈ r, x.1 < s.1) : putK (kvE ps r) (.inl (s.1 : Int)) (.ref p) = kvE (ps ++ [p]) (r ++ [s]) := by
  unfold putK
  rw [if_neg, kvE_snoc hl]
  intro q
  obtain ⟨⟨k, v⟩, hp, e⟩ := List.any_eq_true.mp q
  obtain ⟨x, hx, e2⟩ := kvE_key hp
  have e := of_decide_eq_true e
  have e3 : (Sum.inl (x.1 : Int) : Key) = .inl (s.1 : Int) := e2.symm.trans e
  have := Sum.inl.inj e3
  have := h x hx
  omega
section
variable {P : Program} {w : World} {K : PySem.W.Frag} {mg : Str → Option Value} {base : Heap} {a : Ad}
def spReadSize : Sp := fun vs H Q _ => ∃ (s low : Nat) (t : Str) (y : V), vs = [.str (sHead (s : Int) ++ t), y, .int (low : Int)] ∧ 2 ≤ low ∧ low ≤ s ∧ s ≤ 12 ∧ Q (.int (s : Int)) H
theorem ok_read_size (T : Tx w K mg a) : FnOk P w K mg base CX0 3 a.f_read_size a.d_read_size ["line", "number", "low"] spReadSize := by
  refine T.F_read_size.ok sc_read_size (fun vs H Q E h => ?_) (fun cdv A outer s H vs Q E hr h => ?_)
  · obtain ⟨s, low, t, y, rfl, _⟩ := h
    rfl
  · obtain ⟨s, low, t, y, rfl, l2, ls, s12, q⟩ := h
    refine ⟨_, 
(pss_cons (ps_for PassesOwn.never rfl (pi_range2 (by rfl) T.z_range (pa_cons (pv 2) (pa_cons (pe_op op_add (pe_glob (v := .int 12) (by rfl) T.m_MOST_SINGLE.choose_spec ⟨_, rfl⟩) pe_int) pa_nil))) (pg_name (i := 3) sc_read_size.nd rfl (.inl rfl))
  (pss_one (ps_if (pt_val (pe_bm PySem.F.plainAttrs_str PySem.F.slot_str_startswith PySem.F.type_str_startswith mt_startswith (pv 0) (pa_cons (pe_joined (.cons pe_str (.cons (pe_fmt (pv 3)) (.cons pe_str .nil)))) pa_nil)))
  (pss_one (ps_ret (pv 3)))
  pss_nil)))
  (pss_one ps_never)), ?_⟩
    refine ⟨_, rfl, 12, 1, rfl, rfl, (low : Int), 13, rfl, by omega, ?_⟩
    refine for_range (lo := (low : Int)) (n := (13 - (low : Int)).toNat) (fun i σ H' => (∃ y4 : Option V, σ = [some (.str (sHead (s : Int) ++ t)), some y, some (.int (low : Int)), y4]) ∧ H' = H ∧ low + i ≤ s) ?_ ?_ ?_
    · exact ⟨⟨none, rfl⟩, rfl, by omega⟩
    · rintro i σ H' hi ⟨⟨y4, rfl⟩, rfl, le⟩
      rw [show (low : Int) + (i : Int) = ((low + i : Nat) : Int) by omega]
      refine ⟨_, rfl, rfl, ?_⟩
      refine ⟨_, rfl, sl (m := 100) (by decide +kernel) (by decide), _, rfl, .inr ⟨((low + i : Nat) : Int), rfl, small_log (by omega), _, rfl, sl (m := 130) (Nat.le_trans (level_len (k := low + i) (by omega)) (by decide)) (by decide), _, rfl, sl (sHead_len (k := low + i) (by omega)) (by decide), ?_⟩⟩
      refine ⟨_, _, rfl, rfl, _, rfl, ?_⟩
      show if Txt.startswith (sHead (s : Int) ++ t) (sHead ((low + i : Nat) : Int)) = true then _ else _
      by_cases c : low + i = s
      · rw [c, PySem.W.KT.starts_app]
        exact iteT ⟨_, rfl, q⟩
      · rw [head_false t (by omega) (by omega) s12]
        exact iteF ⟨⟨_, rfl⟩, rfl, by omega⟩
    · rintro σ H' ⟨_, _, le⟩
      omega
def spReadSingles (K : PySem.W.Frag) (C CW : Addr) : Sp := fun vs H Q _ => ∃ (l : Addr) (rests : List (Lv × Bool)) (early : List (Nat × Lv × Bool)), vs = [.ref l, .int ((rests.length : Int) + 1)] ∧ SqL K H l ((progL rests early).map V.str) ∧ ProgOk rests early ∧
  ∀ d ps H', H' d = some (.dK (kvE ps early)) → LvsAt C CW H' ps (early.map (·.2)) → Same H H' → Q (.ref d) H'
theorem ok_read_singles (T : Tx w K mg a) : FnOk P w K mg base CX0 11 a.f_read_singles a.d_read_singles ["lines", "first"] (spReadSingles K a.C_Level a.C_Word) := by
  refine T.F_read_singles.ok sc_read_singles (fun vs H Q E h => ?_) (fun cdv A outer s H vs Q E hr h => ?_)
  · obtain ⟨l, rests, early, rfl, _⟩ := h
    rfl
  · obtain ⟨l, rests, early, rfl, hl, hok, q⟩ := h
    have hu := hu_of hr
    refine ⟨_, 
(pss_cons (ps_set (i := 2) sc_read_singles.nd rfl (.inl rfl) pe_dnewK)
  (pss_cons (ps_set (i := 3) sc_read_singles.nd rfl (.inl rfl) (pe_glob (v := .int 2) (by rfl) T.m_LEAST_SINGLE.choose_spec ⟨_, rfl⟩))
  (pss_cons (ps_for PassesOwn.never rfl (pi_range2 (by rfl) T.z_range (pa_cons (pv 1) (pa_cons (pe_callB call_len_seq (by rfl) T.z_len PySem.boot_len (pa_cons (pv 0) pa_nil)) pa_nil))) (pg_name (i := 4) sc_read_singles.nd rfl (.inl rfl))
  (pss_cons (ps_set (i := 5) sc_read_singles.nd rfl (.inl rfl) (pe_call (ok_read_size T) (hr.mono (by decide)) (by rfl) T.m_read_size T.F_read_size.kp T.b_read_size .nil pass0 (pa_cons (pe_ix ix_list (pv 0) (pv 4) (fun _ _ => rfl)) (pa_cons (pe_op op_add (pv 4) pe_int) (pa_cons (pv 3) pa_nil)))))
  (pss_cons (ps_dput hu (pv 2) (pv 5) (pe_call (ok_read_line T) hr (by rfl) T.m_read_line T.F_read_line.kp T.b_read_line .nil pass0 (pa_cons (pe_ix ix_list (pv 0) (pv 4) (fun _ _ => rfl)) (pa_cons (pe_op op_add (pv 4) pe_int) (pa_cons (pe_joined (.cons pe_str (.cons (pe_fmt (pv 5)) (.cons pe_str .nil)))) (pa_cons (pv 5) pa_nil))))) rfl)
  (pss_one (ps_set (i := 3) sc_read_singles.nd rfl (.inl rfl) (pe_op op_add (pv 5) pe_int))))))
  (pss_one (ps_ret (pv 2)))))), ?_⟩
    have el := hok.elen
    have n6 := hok.n6
    have pl : ((progL rests early).map V.str).length = 1 + rests.length + early.length := by
      rw [List.length_map]
      show (restL 0 rests ++ early.map earlyT).length + 1 = _
      rw [List.length_append, restL_len, List.length_map]
      omega
    refine fun D nD => ?_
    have s1 := same_upd (o := .dK []) nD
    have eD1 : (upd H D (.dK [])) D = some (.dK (kvE [] [])) := upd_same
    generalize upd H D (.dK []) = H1 at s1 eD1 ⊢
    -- for index in range(first, len(lines))
    refine ⟨_, rfl, _, rfl, l, _, rfl, .inl (s1.seq hl), (rests.length : Int) + 1, _, rfl, by rw [pl]; omega, ?_⟩
    rw [pl, show (((1 + rests.length + early.length : Nat) : Int) - ((rests.length : Int) + 1)).toNat = early.length by omega]
    refine for_range (lo := (rests.length : Int) + 1) (n := early.length) (fun i σ H' => ∃ (y4 y5 : Option V) (low : Nat) (ps : List Addr), σ = [some (.ref l), some (.int ((rests.length : Int) + 1)), some (.ref D), some (.int (low : Int)), y4, y5] ∧ Same H H' ∧ H' D = some (.dK (kvE ps (early.take i))) ∧ LvsAt a.C_Level a.C_Word H' ps ((early.take i).map (·.2)) ∧ 2 ≤ low ∧ ∀ x ∈ early.drop i, low ≤ x.1) ?_ ?_ ?_
    · exact ⟨none, none, 2, [], rfl, s1, eD1, trivial, Nat.le_refl _, fun x hx => (hok.eok x hx).1⟩
    · rintro i σ H' hi ⟨y4, y5, low, ps, rfl, sm, eD, hps, l2, hlow⟩
      have hr : early[i]? = some early[i] := List.getElem?_eq_getElem hi
      obtain ⟨e2, e12, eok⟩ := hok.eok _ (List.getElem_mem hi)
      have dr : early.drop i = early[i] :: early.drop (i + 1) := List.drop_eq_getElem_cons hi
      have lows := hlow early[i] (by rw [dr]; exact List.mem_cons_self ..)
      have ups : ∀ x ∈ early.drop (i + 1), early[i].1 < x.1 := by
        have p := hok.up.drop (i := i)
        rw [dr] at p
        exact (List.pairwise_cons.mp p).1
      have dns : ∀ x ∈ early.take i, x.1 < early[i].1 := fun x hx => by
        obtain ⟨j, hj, e⟩ := List.getElem_of_mem hx
        rw [List.length_take] at hj
        rw [List.getElem_take] at e
        have := List.pairwise_iff_getElem.mp hok.up j i (by omega) hi (by omega)
        rw [← e]
        exact this
      have htk : early.take (i + 1) = early.take i ++ [early[i]] := by
        rw [List.take_succ, hr]
        rfl
      rw [htk]
      have ln : ps.length = (early.take i).length := by
        have := hps.len
        rw [List.length_map] at this
        exact this
      generalize early[i] = sg at hr e2 e12 eok lows ups dns
      have hln : atI ((progL rests early).map V.str) ((rests.length : Int) + 1 + (i : Int)) = some (.str (sHead (sg.1 : Int) ++ lvText sg.2.1 sg.2.2)) := by
        rw [show (rests.length : Int) + 1 + (i : Int) = ((rests.length + i + 1 : Nat) : Int) by omega]
        refine atI_nat ?_
        rw [List.getElem?_map]
        show Option.map V.str ((restL 0 rests ++ early.map earlyT)[rests.length + i]?) = _
        rw [List.getElem?_append_right (by rw [restL_len]; omega), restL_len, Nat.add_sub_cancel_left, List.getElem?_map, hr]
        rfl
      refine ⟨_, rfl, _, rfl, l, _, _, _, rfl, rfl, sm.seq hl, hln, _, rfl, _, 1, rfl, rfl, _, rfl, sg.1, low, lvText sg.2.1 sg.2.2, _, rfl, l2, lows, e12, ?_⟩
      refine ⟨_, rfl, _, rfl, l, _, _, _, rfl, rfl, sm.seq hl, hln, _, rfl, _, 1, rfl, rfl, ?_⟩
      refine ⟨_, rfl, sl (m := 100) (by decide +kernel) (by decide), _, rfl, .inr ⟨(sg.1 : Int), rfl, small_log (by omega), _, rfl, sl (m := 130) (Nat.le_trans (level_len (k := sg.1) (by omega)) (by decide)) (by decide), _, rfl, sl (sHead_len (k := sg.1) (by omega)) (by decide), ?_⟩⟩
      refine ⟨_, rfl, sHead (sg.1 : Int), sg.2.1, sg.2.2, some sg.1, _, rfl, Nat.le_trans (sHead_len (k := sg.1) (by omega)) (by decide), ⟨e2, e12⟩, eok, fun p H2 hL s2 => ?_⟩
      have eD2 := s2 _ _ eD
      refine ⟨_, rfl, _, rfl, D, _, rfl, DPut.k (k := .inl (sg.1 : Int)) eD2 (szlt (by rw [kvE_len ln, List.length_take]; omega)), ?_⟩
      refine ⟨_, rfl, _, 1, rfl, rfl, ?_⟩
      refine ⟨_, _, sg.1 + 1, ps ++ [p], rfl, keep_upd (sm.trans s2) nD, ?_, ?_, by omega, fun x hx => ups x hx⟩
      · rw [upd_same, kvE_put ln dns]
      · rw [List.map_append]
        exact (LvsAt.snoc (r := sg.2) hL (hps.same s2)).put (xs := []) (.inr ⟨_, eD2⟩)
    · rintro σ H' ⟨y4, y5, low, ps, rfl, sm, eD, hps, _, _⟩
      rw [List.take_length] at eD hps
      exact ⟨_, rfl, q D ps H' eD hps sm⟩
end

theorem LevelL.puts {C CW : Addr} {H : Hp} {p o : Addr} {lv : Lv} {e : Bool} {u : HO} (h : LevelL C CW H p lv e) (nt : ∀ b ys, H b = some (.tup ys) → b ≠ o) (ni : ∀ b c d fs, H b = some (.ins c d fs) → (fs.lookup ("kind" : Str) ≠ none ∨ fs.lookup ("moves" : Str) ≠ none) → b ≠ o) : LevelL C CW (upd H o u) p lv e := by
  have hk : ∀ {rs : List Addr} {ms : List Mv}, Held H rs ms → Held (upd H o u) rs ms := by
    intro rs
    induction rs with
    | nil =>
      intro ms h
      cases ms with
      | nil => trivial
      | cons => exact h.elim
    | cons r rs ih =>
      intro ms h
      cases ms with
      | nil => exact h.elim
      | cons m ms => exact ⟨by rw [upd_ne (nt _ _ h.1)]; exact h.1, ih h.2⟩
  obtain ⟨dx, fs, w, fa, pl, en, h1, h2, h3, h4, h5, h6, h7, h8, h0, h9⟩ := h
  refine ⟨dx, fs, w, fa, pl, en, by rw [upd_ne (ni _ _ _ _ h1 (.inl (by rw [h3]; simp)))]; exact h1, h2, h3, h4, h5, h6, h7, h8, h0, ?_⟩
  cases lv with
  | same ms =>
    obtain ⟨⟨a, ha, d, t, rs, w1, w2, w3⟩, hr⟩ := h9
    exact ⟨⟨a, ha, d, t, rs, by rw [upd_ne (ni _ _ _ _ w1 (.inr (by rw [flW_moves]; simp)))]; exact w1, by rw [upd_ne (nt _ _ w2)]; exact w2, hk w3⟩, hr⟩
  | along k z => exact h9
  | list ns =>
    obtain ⟨r1, r2, r3, t, ht, e⟩ := h9
    exact ⟨r1, r2, r3, t, ht, by rw [upd_ne (nt _ _ e)]; exact e⟩
theorem LvsAt.puts {C CW : Addr} {H : Hp} {o : Addr} {u : HO} (nt : ∀ b ys, H b = some (.tup ys) → b ≠ o) (ni : ∀ b c d fs, H b = some (.ins c d fs) → (fs.lookup ("kind" : Str) ≠ none ∨ fs.lookup ("moves" : Str) ≠ none) → b ≠ o) : ∀ {ps : List Addr} {rs : List (Lv × Bool)}, LvsAt C CW H ps rs → LvsAt C CW (upd H o u) ps rs
  | [], [], _ => trivial
  | _ :: _, _ :: _, h => ⟨h.1.puts nt ni, LvsAt.puts nt ni h.2⟩
theorem fld_step {H H1 : Hp} {p : Addr} {o' : HO} (k : ∀ b u, H b = some u → b ≠ p → H1 b = some u) : ∀ b u, H b = some u → b ≠ p → (upd H1 p o') b = some u := fun b u e z => by
  rw [upd_ne z]
  exact k b u e z
/-- a new tower stands at t -/
def Tow1 (CT : Addr) (H : Hp) (t ls ld ll : Addr) : Prop := ∃ (dt : Addr) (ft : List (Str × V)) (a1 a4 b1 : Addr), H t = some (.ins CT dt ft) ∧ FsK ["wrong", "lasts", "doings", "stages"] [.non, .ref ll, .ref ld, .ref ls] 4 ft ∧ H ls = some (.lst [.non, .non]) ∧ H ld = some (.lst [.ref a1, .ref a4]) ∧ H ll = some (.lst [.ref b1, .ref b1]) ∧ H a1 = some (.lst []) ∧ H a4 = some (.lst [.int 0]) ∧ ld ≠ ll
theorem Tow1.same {CT : Addr} {H H' : Hp} {t ls ld ll : Addr} (h : Tow1 CT H t ls ld ll) (s : ∀ b o, H b = some o → (∀ xs, o = .lst xs → H' b = some o) ∧ (b = t → H' b = some o)) : Tow1 CT H' t ls ld ll := by
  obtain ⟨dt, ft, a1, a4, b1, h1, h2, h3, h4, h5, h6, h7, h8⟩ := h
  exact ⟨dt, ft, a1, a4, b1, (s _ _ h1).2 rfl, h2, (s _ _ h3).1 _ rfl, (s _ _ h4).1 _ rfl, (s _ _ h5).1 _ rfl, (s _ _ h6).1 _ rfl, (s _ _ h7).1 _ rfl, h8⟩
section
variable {P : Program} {w : World} {K : PySem.W.Frag} {mg : Str → Option Value} {base : Heap} {a : Ad}
def spTowerInit (C : Addr) : Sp := fun vs H Q _ => ∃ (p dx : Addr), vs = [.ref p, .int 1] ∧ H p = some (.ins C dx []) ∧
  ∀ H' ls ld ll, Tow1 C H' p ls ld ll → H ls = none → H ld = none → H ll = none → (∀ b o, H b = some o → b ≠ p → H' b = some o) → Q .non H'
theorem ok_Tower_init (T : Tx w K mg a) : FnOk P w K mg base CX0 1 a.f_Tower_init a.d_Tower_init ["self", "stop"] (spTowerInit a.C_Tower) := by
  refine T.F_Tower_init.ok sc_Tower_init (fun vs H Q E h => ?_) (fun cdv A outer s H vs Q E hr h => ?_)
  · obtain ⟨p, dx, rfl, _⟩ := h
    rfl
  · obtain ⟨p, dx, rfl, hp, k⟩ := h
    refine ⟨_, 
(pss_cons (ps_fld (pv 0) (pe_op op_rep (pe_lst (pa_cons pe_non pa_nil)) (pe_op op_add (pv 1) pe_int)) rfl)
  (pss_cons (ps_fld (pv 0) (pe_op op_cat (pe_op op_rep (pe_lst (pa_cons (pe_lst pa_nil) pa_nil)) (pv 1)) (pe_lst (pa_cons (pe_listRg rfl (by rfl) T.z_list (prg_1 (by rfl) T.z_range (pv 1))) pa_nil))) rfl)
  (pss_cons (ps_fld (pv 0) (pe_op op_rep (pe_lst (pa_cons (pe_tup pa_nil) pa_nil)) (pe_op op_add (pv 1) pe_int)) rfl)
  (pss_one (ps_fld (pv 0) pe_non rfl))))), ?_⟩
    -- self.stages = [None] * (stop + 1)
    refine ⟨sz (show 1 ≤ 100000 by decide), fun p0 hp0 => ⟨_, rfl, _, 1, rfl, rfl, p0, _, _, rfl, rfl, upd_same, by omega, by omega, sz (by simp), fun o1 no1 => ?_⟩⟩
    have s1 := (same_upd (o := .lst [V.non]) hp0).trans (same_upd (o := .lst (List.replicate ((1 : Int) + 1).toNat [V.non]).flatten) no1)
    have e1 := s1 _ _ hp
    have els1 : (upd (upd H p0 (.lst [V.non])) o1 (.lst (List.replicate ((1 : Int) + 1).toNat [V.non]).flatten)) o1 = some (.lst [.non, .non]) := upd_same
    have no1 := (same_upd hp0).free no1
    generalize upd (upd H p0 (.lst [V.non])) o1 (.lst (List.replicate ((1 : Int) + 1).toNat [V.non]).flatten) = H1 at s1 e1 els1 ⊢
    have np1 : o1 ≠ p := ne_of els1 e1 (by intro z; cases z)
    refine ⟨.ref p, rfl, p, a.C_Tower, dx, [], rfl, e1, T.cl_Tower, T.n_Tower_stages, (show 0 < 1000 by decide), ?_⟩
    have k2 := fld_step (o' := .ins a.C_Tower dx (putF "stages" (.ref o1) [])) (p := p) (fun b u e _ => s1 b u e : ∀ b u, H b = some u → b ≠ p → H1 b = some u)
    have e2 : (upd H1 p (.ins a.C_Tower dx (putF "stages" (.ref o1) []))) p = some (.ins a.C_Tower dx (putF "stages" (.ref o1) [])) := upd_same
    have els2 : (upd H1 p (.ins a.C_Tower dx (putF "stages" (.ref o1) []))) o1 = some (.lst [.non, .non]) := by
      rw [upd_ne np1]
      exact els1
    have g1 := FsK.nil.put "stages" (.ref o1) (by decide +kernel)
    generalize upd H1 p (.ins a.C_Tower dx (putF "stages" (.ref o1) [])) = H2 at k2 e2 els2 ⊢
    -- self.doings = [[]] * stop + [list(range(stop))]
    refine ⟨sz (show 0 ≤ 100000 by decide), fun a1 m1 => ⟨sz (show 1 ≤ 100000 by decide), fun a2 m2 => ⟨_, rfl, a2, _, _, rfl, rfl, upd_same, by omega, by omega, sz (by simp), fun a3 m3 => ?_⟩⟩⟩
    refine ⟨_, rfl, _, rfl, RgOk.of_le (by decide) (by decide) (by decide) (by decide), fun a4 m4 => ⟨sz (show 1 ≤ 100000 by decide), fun a5 m5 => ⟨a3, a5, (List.replicate (1 : Int).toNat [V.ref a1]).flatten, [V.ref a4], rfl, rfl, ?_, upd_same, ?_, fun a6 m6 => ?_⟩⟩⟩
    · exact same_upd m5 _ _ (same_upd m4 _ _ upd_same)
    · exact sz (by simp)
    have s3 := (same_upd (o := .lst []) m1).trans ((same_upd (o := .lst [.ref a1]) m2).trans ((same_upd (o := .lst (List.replicate (1 : Int).toNat [V.ref a1]).flatten) m3).trans ((same_upd (o := .lst (rgV 0 1)) m4).trans ((same_upd (o := .lst [.ref a4]) m5).trans (same_upd (o := .lst ((List.replicate (1 : Int).toNat [V.ref a1]).flatten ++ [V.ref a4])) m6)))))
    have k3 : ∀ b u, H b = some u → b ≠ p → _ := fun b u e z => s3 b u (k2 b u e z)
    have e3 := s3 _ _ e2
    have els3 := s3 _ _ els2
    have ea1 := same_upd (o := .lst ((List.replicate (1 : Int).toNat [V.ref a1]).flatten ++ [V.ref a4])) m6 _ _ (same_upd (o := .lst [.ref a4]) m5 _ _ (same_upd (o := .lst (rgV 0 1)) m4 _ _ (same_upd (o := .lst (List.replicate (1 : Int).toNat [V.ref a1]).flatten) m3 _ _ (same_upd (o := .lst [.ref a1]) m2 _ _ (upd_same (H := H2) (a := a1) (o := .lst []))))))
    have ea4 := same_upd (o := .lst ((List.replicate (1 : Int).toNat [V.ref a1]).flatten ++ [V.ref a4])) m6 _ _ (same_upd (o := .lst [.ref a4]) m5 _ _ (upd_same (H := upd (upd (upd H2 a1 (.lst [])) a2 (.lst [.ref a1])) a3 (.lst (List.replicate (1 : Int).toNat [V.ref a1]).flatten)) (a := a4) (o := .lst (rgV 0 1))))
    have eld3 : (upd (upd (upd (upd (upd (upd H2 a1 (.lst [])) a2 (.lst [.ref a1])) a3 (.lst (List.replicate (1 : Int).toNat [V.ref a1]).flatten)) a4 (.lst (rgV 0 1))) a5 (.lst [.ref a4])) a6 (.lst ((List.replicate (1 : Int).toNat [V.ref a1]).flatten ++ [V.ref a4]))) a6 = some (.lst [.ref a1, .ref a4]) := upd_same
    have nld2 : H2 a6 = none := (same_upd m1).free ((same_upd m2).free ((same_upd m3).free ((same_upd m4).free ((same_upd m5).free m6))))
    generalize upd (upd (upd (upd (upd (upd H2 a1 (.lst [])) a2 (.lst [.ref a1])) a3 (.lst (List.replicate (1 : Int).toNat [V.ref a1]).flatten)) a4 (.lst (rgV 0 1))) a5 (.lst [.ref a4])) a6 (.lst ((List.replicate (1 : Int).toNat [V.ref a1]).flatten ++ [V.ref a4])) = H3 at k3 e3 els3 ea1 ea4 eld3 ⊢
    have npd : a6 ≠ p := ne_of eld3 e3 (by intro z; cases z)
    have nld0 : H a6 = none := by
      cases hh : H a6 with
      | none => rfl
      | some u =>
        have := k2 _ _ hh npd
        rw [nld2] at this
        cases this
    have l1 := putF_le "stages" (.ref o1) []
    generalize putF "stages" (.ref o1) [] = f1 at e3 l1 g1
    have l1 : f1.length ≤ 1 := l1
    refine ⟨.ref p, rfl, p, a.C_Tower, dx, _, rfl, e3, T.cl_Tower, T.n_Tower_doings, by omega, ?_⟩
    have g2 := g1.put "doings" (.ref a6) (by decide +kernel)
    have upL4 : ∀ {b xs}, H3 b = some (.lst xs) → (upd H3 p (.ins a.C_Tower dx (putF "doings" (.ref a6) f1))) b = some (.lst xs) := fun e => by
      rw [upd_ne (ne_of e e3 (by intro z; cases z))]
      exact e
    have els4 := upL4 els3
    have ea14 := upL4 ea1
    have ea44 := upL4 ea4
    have eld4 := upL4 eld3
    have k4 := fld_step (o' := .ins a.C_Tower dx (putF "doings" (.ref a6) f1)) k3
    have e4 : (upd H3 p (.ins a.C_Tower dx (putF "doings" (.ref a6) f1))) p = some (.ins a.C_Tower dx (putF "doings" (.ref a6) f1)) := upd_same
    have l2 := putF_le "doings" (.ref a6) f1
    change tSeq _ _ _ _ (upd H3 p (.ins a.C_Tower dx (putF "doings" (.ref a6) f1)))
    generalize upd H3 p (.ins a.C_Tower dx (putF "doings" (.ref a6) f1)) = H4 at k4 e4 els4 ea14 ea44 eld4 ⊢
    generalize putF "doings" (.ref a6) f1 = f2 at e4 l2 g2
    -- self.lasts = [()] * (stop + 1)
    refine ⟨sz (show 0 ≤ 100000 by decide), fun b1 r1 => ⟨sz (show 1 ≤ 100000 by decide), fun b2 r2 => ⟨_, rfl, _, 1, rfl, rfl, b2, _, _, rfl, rfl, upd_same, by omega, by omega, sz (by simp), fun b3 r3 => ?_⟩⟩⟩
    have s5 := (same_upd (o := .tup []) r1).trans ((same_upd (o := .lst [.ref b1]) r2).trans (same_upd (o := .lst (List.replicate ((1 : Int) + 1).toNat [V.ref b1]).flatten) r3))
    have k5 : ∀ b u, H b = some u → b ≠ p → _ := fun b u e z => s5 b u (k4 b u e z)
    have e5 := s5 _ _ e4
    have els5 := s5 _ _ els4
    have ea15 := s5 _ _ ea14
    have ea45 := s5 _ _ ea44
    have eld5 := s5 _ _ eld4
    have ell5 : (upd (upd (upd H4 b1 (.tup [])) b2 (.lst [.ref b1])) b3 (.lst (List.replicate ((1 : Int) + 1).toNat [V.ref b1]).flatten)) b3 = some (.lst [.ref b1, .ref b1]) := upd_same
    have nll4 : H4 b3 = none := (same_upd r1).free ((same_upd r2).free r3)
    have ndl : a6 ≠ b3 := ne_of_none eld4 nll4
    generalize upd (upd (upd H4 b1 (.tup [])) b2 (.lst [.ref b1])) b3 (.lst (List.replicate ((1 : Int) + 1).toNat [V.ref b1]).flatten) = H5 at k5 e5 els5 ea15 ea45 eld5 ell5 ⊢
    have npl : b3 ≠ p := ne_of ell5 e5 (by intro z; cases z)
    have nll0 : H b3 = none := by
      cases hh : H b3 with
      | none => rfl
      | some u =>
        have := k4 _ _ hh npl
        rw [nll4] at this
        cases this
    refine ⟨.ref p, rfl, p, a.C_Tower, dx, _, rfl, e5, T.cl_Tower, T.n_Tower_lasts, by omega, ?_⟩
    have g3 := g2.put "lasts" (.ref b3) (by decide +kernel)
    have upL6 : ∀ {b xs}, H5 b = some (.lst xs) → (upd H5 p (.ins a.C_Tower dx (putF "lasts" (.ref b3) f2))) b = some (.lst xs) := fun e => by
      rw [upd_ne (ne_of e e5 (by intro z; cases z))]
      exact e
    have els6 := upL6 els5
    have ea16 := upL6 ea15
    have ea46 := upL6 ea45
    have eld6 := upL6 eld5
    have ell6 := upL6 ell5
    have k6 := fld_step (o' := .ins a.C_Tower dx (putF "lasts" (.ref b3) f2)) k5
    have e6 : (upd H5 p (.ins a.C_Tower dx (putF "lasts" (.ref b3) f2))) p = some (.ins a.C_Tower dx (putF "lasts" (.ref b3) f2)) := upd_same
    have l3 := putF_le "lasts" (.ref b3) f2
    generalize upd H5 p (.ins a.C_Tower dx (putF "lasts" (.ref b3) f2)) = H6 at k6 e6 els6 ea16 ea46 eld6 ell6 ⊢
    generalize putF "lasts" (.ref b3) f2 = f3 at e6 l3 g3
    -- self.wrong = None
    refine ⟨.ref p, rfl, p, a.C_Tower, dx, _, rfl, e6, T.cl_Tower, T.n_Tower_wrong, by omega, ?_⟩
    have upL7 : ∀ {b xs}, H6 b = some (.lst xs) → (upd H6 p (.ins a.C_Tower dx (putF "wrong" .non f3))) b = some (.lst xs) := fun e => by
      rw [upd_ne (ne_of e e6 (by intro z; cases z))]
      exact e
    exact k _ o1 a6 b3 ⟨dx, _, a1, a4, b1, upd_same, g3.put "wrong" .non (by decide +kernel), upL7 els6, upL7 eld6, upL7 ell6, upL7 ea16, upL7 ea46, ndl⟩ no1 nld0 nll0 (fld_step k6)
end

/-! ### the text of a program, read back -/
theorem FS_nl : FS.all (fun z => decide (10 ∉ TL.tl z)) = true := by decide +kernel
theorem joinL_not {c : Nat} {S : List Nat} (hS : c ∉ S) : ∀ ps : List (List Nat), (∀ p ∈ ps, c ∉ p) → c ∉ TL.joinL S ps
  | [], _ => fun h => by cases h
  | [p], h => h p (List.mem_cons_self ..)
  | p :: q :: r, h => by
    show c ∉ p ++ (S ++ TL.joinL S (q :: r))
    intro m
    rcases List.mem_append.mp m with m | m
    · exact h p (List.mem_cons_self ..) m
    · rcases List.mem_append.mp m with m | m
      · exact hS m
      · exact joinL_not hS (q :: r) (fun z hz => h z (List.mem_cons_of_mem _ hz)) m
theorem sum_leP {B : Nat} : ∀ {zs : List Str}, (∀ z ∈ zs, z.length ≤ B) → (zs.map (·.length)).sum ≤ zs.length * B
  | [], _ => by simp
  | z :: r, h => by
    have h1 := h z (List.mem_cons_self ..)
    have h2 := sum_leP (zs := r) fun y hy => h y (List.mem_cons_of_mem _ hy)
    rw [List.map_cons, List.sum_cons, List.length_cons, Nat.add_mul]
    omega
theorem join_nl_len {B : Nat} {zs : List Str} (h : ∀ z ∈ zs, z.length ≤ B) : (Txt.join "\n" zs).length ≤ zs.length * (B + 1) := by
  rw [TL.len_tl, TL.join_eq, TL.tl_join]
  have h1 := joinL_len (TL.tl "\n") (zs.map TL.tl)
  have h2 := sum_leP h
  have e1 : ((zs.map TL.tl).map List.length).sum = (zs.map (·.length)).sum := by
    rw [List.map_map]
    exact congrArg List.sum (List.map_congr_left fun z _ => (TL.len_tl z).symm)
  have e2 : (TL.tl "\n").length = 1 := by decide +kernel
  rw [e1, e2, List.length_map] at h1
  rw [Nat.mul_add]
  omega
theorem text_nl {size : Option Nat} {e : Bool} {lv : Lv} (hs : SizeOk size) (h : LvOk size e lv) : 10 ∉ TL.tl (lvText lv e) := by
  rw [lvText_eq hs h, TL.join_eq, TL.tl_join]
  refine joinL_not (by decide +kernel) _ fun q hq => ?_
  obtain ⟨z, hz, rfl⟩ := List.mem_map.mp hq
  exact of_decide_eq_true (List.all_eq_true.mp FS_nl z (lvP_FS hs h z hz))
theorem tl_app (a y : Str) : TL.tl (a ++ y) = TL.tl a ++ TL.tl y := TL.tl_append a y
theorem restL_mem {z : Str} : ∀ {rs : List (Lv × Bool)} {k : Nat}, z ∈ restL k rs → ∃ i r, i < rs.length ∧ r ∈ rs ∧ z = rHead ((k + i : Nat) : Int) ++ lvText r.1 r.2
  | q :: rs, k, h => by
    rcases List.mem_cons.mp h with rfl | h
    · exact ⟨0, q, Nat.succ_pos _, List.mem_cons_self .., rfl⟩
    · obtain ⟨i, r, hi, hr, e⟩ := restL_mem h
      exact ⟨i + 1, r, Nat.succ_lt_succ hi, List.mem_cons_of_mem _ hr, by rw [e, show k + 1 + i = k + (i + 1) by omega]⟩
theorem progL_ok {rests : List (Lv × Bool)} {early : List (Nat × Lv × Bool)} (hok : ProgOk rests early) {z : Str} (hz : z ∈ progL rests early) : 10 ∉ TL.tl z ∧ z.length ≤ 3100 := by
  have n6 := hok.n6
  rcases List.mem_cons.mp hz with rfl | hz
  · exact ⟨(head_len ⟨rests.length, by omega⟩).2.2.2.1, Nat.le_trans (perT_len (k := rests.length) (by omega)) (by decide)⟩
  · rcases List.mem_append.mp hz with hz | hz
    · obtain ⟨i, r, hi, hr, rfl⟩ := restL_mem hz
      have lk := hok.rok r hr
      have l1 := lvText_len (size := none) trivial lk
      have l2 := rHead_len (k := 0 + i) (by omega)
      refine ⟨?_, by rw [str_len_app]; omega⟩
      rw [tl_app]
      intro m
      rcases List.mem_append.mp m with m | m
      · exact (head_len ⟨0 + i, by omega⟩).2.2.2.2.1 m
      · exact text_nl (size := none) trivial lk m
    · obtain ⟨s, hs, rfl⟩ := List.mem_map.mp hz
      obtain ⟨e2, e12, lk⟩ := hok.eok s hs
      have l1 := lvText_len (size := some s.1) ⟨e2, e12⟩ lk
      have l2 := sHead_len (k := s.1) (by omega)
      refine ⟨?_, by unfold earlyT; rw [str_len_app]; omega⟩
      unfold earlyT
      rw [tl_app]
      intro m
      rcases List.mem_append.mp m with m | m
      · exact (head_len ⟨s.1, by omega⟩).2.2.2.2.2 m
      · exact text_nl (size := some s.1) ⟨e2, e12⟩ lk m
theorem progL_len (rests : List (Lv × Bool)) (early : List (Nat × Lv × Bool)) : (progL rests early).length = 1 + rests.length + early.length := by
  show (restL 0 rests ++ early.map earlyT).length + 1 = _
  rw [List.length_append, restL_len, List.length_map]
  omega
theorem prog_split {rests : List (Lv × Bool)} {early : List (Nat × Lv × Bool)} (hok : ProgOk rests early) : Txt.split (Txt.join "\n" (progL rests early)) "\n" = progL rests early :=
  TL.split_join (s := 10) (S := []) (by decide +kernel) (by decide +kernel) (fun h => by cases h) fun _ hz => (progL_ok hok hz).1
theorem prog_text_len {rests : List (Lv × Bool)} {early : List (Nat × Lv × Bool)} (hok : ProgOk rests early) : (Txt.join "\n" (progL rests early)).length ≤ 90000 := by
  have h := join_nl_len (B := 3100) fun z hz => (progL_ok hok hz).2
  have := hok.n6
  have := hok.elen
  rw [progL_len] at h
  omega
theorem prog_nt {C p dx : Addr} {H : Hp} {f : List (Str × V)} (e : H p = some (.ins C dx f)) : ∀ b ys, H b = some (.tup ys) → b ≠ p := fun b ys h => ne_of h e (by intro z; cases z)
theorem prog_ni {C p dx : Addr} {H : Hp} {f : List (Str × V)} (e : H p = some (.ins C dx f)) (h1 : f.lookup ("kind" : Str) = none) (h2 : f.lookup ("moves" : Str) = none) : ∀ b c d fs, H b = some (.ins c d fs) → (fs.lookup ("kind" : Str) ≠ none ∨ fs.lookup ("moves" : Str) ≠ none) → b ≠ p := fun b c d fs h n z => by
  rw [z, e] at h
  cases h
  rcases n with n | n
  · exact n h1
  · exact n h2
def progKeys : List Str := ["tower", "sizes", "_singles", "rests", "period", "text"]
/-- a program stands at p -/
def ProgAt (C CL CW : Addr) (H : Hp) (p : Addr) (rests : List (Lv × Bool)) (early : List (Nat × Lv × Bool)) : Prop := ∃ dx fs t d u tw ps qs, H p = some (.ins C dx fs) ∧ FsK progKeys [tw, .ref u, .ref d, .ref t, .int (rests.length : Int), .str (Txt.join "\n" (progL rests early))] 6 fs ∧
  H t = some (.tup (ps.map V.ref)) ∧ LvsAt CL CW H ps rests ∧ H d = some (.dK (kvE qs early)) ∧ LvsAt CL CW H qs (early.map (·.2)) ∧ H u = some (.tup (early.map fun s => V.int (s.1 : Int)))
theorem kvE_keys : ∀ {ps : List Addr} {r : List (Nat × Lv × Bool)}, ps.length = r.length → ((kvE ps r).map fun kv => kV kv.1) = r.map fun s => V.int (s.1 : Int)
  | [], [], _ => rfl
  | q :: ps, x :: r, h => by
    show _ :: _ = _ :: _
    rw [kvE_keys (by simpa using h)]
    rfl
section
variable {P : Program} {w : World} {K : PySem.W.Frag} {mg : Str → Option Value} {base : Heap} {a : Ad}
/-- the tower of a new program -/
def TwOf (CP CT : Addr) (H0 H : Hp) (p t ls ld ll : Addr) : Prop := (∃ dx fs, H p = some (.ins CP dx fs) ∧ fs.lookup ("tower" : Str) = some (.ref t)) ∧ Tow1 CT H t ls ld ll ∧ H0 t = none ∧ H0 ls = none ∧ H0 ld = none ∧ H0 ll = none
def spProgInit (C CL CW CT : Addr) : Sp := fun vs H Q _ => ∃ (p dx : Addr) (rests : List (Lv × Bool)) (early : List (Nat × Lv × Bool)), vs = [.ref p, .str (Txt.join "\n" (progL rests early))] ∧ H p = some (.ins C dx []) ∧ ProgOk rests early ∧
  ∀ H' t ls ld ll, ProgAt C CL CW H' p rests early → TwOf C CT H H' p t ls ld ll → (∀ b o, H b = some o → b ≠ p → H' b = some o) → Q .non H'
theorem ok_Program_init (T : Tx w K mg a) : FnOk P w K mg base CX0 12 a.f_Program_init a.d_Program_init ["self", "text"] (spProgInit a.C_Program a.C_Level a.C_Word a.C_Tower) := by
  refine T.F_Program_init.ok sc_Program_init (fun vs H Q E h => ?_) (fun cdv A outer s H vs Q E hr h => ?_)
  · obtain ⟨p, dx, rests, early, rfl, _⟩ := h
    rfl
  · obtain ⟨p, dx, rests, early, rfl, hp, hok, k⟩ := h
    refine ⟨_, 
(pss_cons (ps_set (i := 2) sc_Program_init.nd rfl (.inl rfl) (pe_split (pv 1) pe_str))
  (pss_cons (ps_fld (pv 0) (pv 1) rfl)
  (pss_cons (ps_fld (pv 0) (pe_call (ok_read_period T) (hr.mono (by decide)) (by rfl) T.m_read_period T.F_read_period.kp T.b_read_period .nil pass0 (pa_cons (pe_ix ix_list (pv 2) pe_int (fun _ _ => rfl)) pa_nil)) rfl)
  (pss_cons (ps_fld (pv 0) (pe_call (ok_read_rests T) hr (by rfl) T.m_read_rests T.F_read_rests.kp T.b_read_rests .nil pass0 (pa_cons (pv 2) (pa_cons (pe_fld (pv 0) rfl) pa_nil))) rfl)
  (pss_cons (ps_fld (pv 0) (pe_call (ok_read_singles T) hr (by rfl) T.m_read_singles T.F_read_singles.kp T.b_read_singles .nil pass0 (pa_cons (pv 2) (pa_cons (pe_op op_add (pe_fld (pv 0) rfl) pe_int) pa_nil))) rfl)
  (pss_cons (ps_fld (pv 0) (pe_callTy (call_tuple_dK rfl) (by rfl) T.z_tuple (by decide +kernel) (pa_cons (pe_fld (pv 0) rfl) pa_nil)) rfl)
  (pss_one (ps_fld (pv 0) (pe_make0 T.mk_Tower (ok_Tower_init T) (hr.mono (by decide)) (by rfl) T.c_Tower T.bd_Tower_init.choose_spec.2 T.bd_Tower_init.choose_spec.1 pass0) rfl)))))))), ?_⟩
    have tl := prog_text_len hok
    have sp := prog_split hok
    generalize hz : Txt.join "\n" (progL rests early) = z at tl sp
    -- lines = text.split('\n')
    refine ⟨.str z, rfl, ⟨_, rfl⟩, z, "\n", rfl, rfl, by decide +kernel, sz (by omega), fun l nl => ?_⟩
    rw [sp]
    have s1 := same_upd (o := .lst ((progL rests early).map V.str)) nl
    have hl1 : (upd H l (.lst ((progL rests early).map V.str))) l = some (.lst ((progL rests early).map V.str)) := upd_same
    have hp1 := s1 _ _ hp
    generalize upd H l (.lst ((progL rests early).map V.str)) = H1 at s1 hl1 hp1 ⊢
    have npl : l ≠ p := ne_of hl1 hp1 (by intro z; cases z)
    -- self.text = text
    refine ⟨.str z, rfl, .ref p, rfl, p, a.C_Program, dx, [], rfl, hp1, T.cl_Program, T.n_Program_text, (show 0 < 1000 by decide), ?_⟩
    have k1 := FsK.nil.put "text" (.str z) (by decide +kernel)
    have kp2 := fld_step (o' := .ins a.C_Program dx (putF "text" (.str z) [])) (p := p) (fun b u e _ => s1 b u e : ∀ b u, H b = some u → b ≠ p → H1 b = some u)
    have e2 : (upd H1 p (.ins a.C_Program dx (putF "text" (.str z) []))) p = some (.ins a.C_Program dx (putF "text" (.str z) [])) := upd_same
    have hl2 : (upd H1 p (.ins a.C_Program dx (putF "text" (.str z) []))) l = some (.lst ((progL rests early).map V.str)) := by
      rw [upd_ne npl]
      exact hl1
    generalize upd H1 p (.ins a.C_Program dx (putF "text" (.str z) [])) = H2 at kp2 e2 hl2 ⊢
    generalize putF "text" (.str z) [] = f1 at k1 e2
    -- self.period = read_period(lines[0])
    have g0 : atI ((progL rests early).map V.str) 0 = some (.str (perT (rests.length : Int))) := atI_nat (j := 0) rfl
    refine ⟨_, rfl, l, _, _, _, rfl, rfl, SqL.at hl2, g0, rests.length, rfl, hok.n1, hok.n6, ?_⟩
    refine ⟨.ref p, rfl, p, a.C_Program, dx, _, rfl, e2, T.cl_Program, T.n_Program_period, by have := k1.1; omega, ?_⟩
    have hr1 := k1
    have k2 := k1.put "period" (.int (rests.length : Int)) (by decide +kernel)
    have kp3 := fld_step (o' := .ins a.C_Program dx (putF "period" (.int (rests.length : Int)) f1)) kp2
    have e3 : (upd H2 p (.ins a.C_Program dx (putF "period" (.int (rests.length : Int)) f1))) p = some (.ins a.C_Program dx (putF "period" (.int (rests.length : Int)) f1)) := upd_same
    have hl3 : (upd H2 p (.ins a.C_Program dx (putF "period" (.int (rests.length : Int)) f1))) l = some (.lst ((progL rests early).map V.str)) := by
      rw [upd_ne npl]
      exact hl2
    change tSeq _ _ _ _ (upd H2 p (.ins a.C_Program dx (putF "period" (.int (rests.length : Int)) f1)))
    generalize upd H2 p (.ins a.C_Program dx (putF "period" (.int (rests.length : Int)) f1)) = H3 at kp3 e3 hl3 ⊢
    generalize putF "period" (.int (rests.length : Int)) f1 = f2 at k2 e3
    have per2 : f2.lookup ("period" : Str) = some (.int (rests.length : Int)) := k2.2.1 0 _ _ rfl rfl
    -- self.rests = read_rests(lines, self.period)
    refine ⟨_, rfl, .ref p, rfl, p, a.C_Program, dx, f2, _, rfl, e3, T.cl_Program, T.n_Program_period, per2, l, rests, early, rfl, SqL.at hl3, hok, fun t ps H4 et hps s4 => ?_⟩
    have e4 := s4 _ _ e3
    have hl4 := s4 _ _ hl3
    have kp4 : ∀ b u, H b = some u → b ≠ p → H4 b = some u := fun b u e z => s4 b u (kp3 b u e z)
    refine ⟨.ref p, rfl, p, a.C_Program, dx, f2, rfl, e4, T.cl_Program, T.n_Program_rests, by have := k2.1; omega, ?_⟩
    have k3 := k2.put "rests" (.ref t) (by decide +kernel)
    have kp5 := fld_step (o' := .ins a.C_Program dx (putF "rests" (.ref t) f2)) kp4
    have e5 : (upd H4 p (.ins a.C_Program dx (putF "rests" (.ref t) f2))) p = some (.ins a.C_Program dx (putF "rests" (.ref t) f2)) := upd_same
    have hl5 : (upd H4 p (.ins a.C_Program dx (putF "rests" (.ref t) f2))) l = some (.lst ((progL rests early).map V.str)) := by
      rw [upd_ne npl]
      exact hl4
    have et5 : (upd H4 p (.ins a.C_Program dx (putF "rests" (.ref t) f2))) t = some (.tup (ps.map V.ref)) := by
      rw [upd_ne (ne_of et e4 (by intro z; cases z))]
      exact et
    have hps5 := hps.puts (u := .ins a.C_Program dx (putF "rests" (.ref t) f2)) (prog_nt e4) (prog_ni e4 (k2.2.2 _ (by decide +kernel)) (k2.2.2 _ (by decide +kernel)))
    change tSeq _ _ _ _ (upd H4 p (.ins a.C_Program dx (putF "rests" (.ref t) f2)))
    generalize upd H4 p (.ins a.C_Program dx (putF "rests" (.ref t) f2)) = H5 at kp5 e5 hl5 et5 hps5 ⊢
    generalize putF "rests" (.ref t) f2 = f3 at k3 e5
    have per3 : f3.lookup ("period" : Str) = some (.int (rests.length : Int)) := k3.2.1 1 _ _ rfl rfl
    -- self._singles = read_singles(lines, self.period + 1)
    refine ⟨_, rfl, .ref p, rfl, p, a.C_Program, dx, f3, _, rfl, e5, T.cl_Program, T.n_Program_period, per3, _, 1, rfl, rfl, l, rests, early, rfl, SqL.at hl5, hok, fun d qs H6 ed hqs s6 => ?_⟩
    have e6 := s6 _ _ e5
    have kp6 : ∀ b u, H b = some u → b ≠ p → H6 b = some u := fun b u e z => s6 b u (kp5 b u e z)
    refine ⟨.ref p, rfl, p, a.C_Program, dx, f3, rfl, e6, T.cl_Program, T.n_Program__singles, by have := k3.1; omega, ?_⟩
    have k4 := k3.put "_singles" (.ref d) (by decide +kernel)
    have kp7 := fld_step (o' := .ins a.C_Program dx (putF "_singles" (.ref d) f3)) kp6
    have e7 : (upd H6 p (.ins a.C_Program dx (putF "_singles" (.ref d) f3))) p = some (.ins a.C_Program dx (putF "_singles" (.ref d) f3)) := upd_same
    have et7 : (upd H6 p (.ins a.C_Program dx (putF "_singles" (.ref d) f3))) t = some (.tup (ps.map V.ref)) := by
      rw [upd_ne (ne_of (s6 _ _ et5) e6 (by intro z; cases z))]
      exact s6 _ _ et5
    have ed7 : (upd H6 p (.ins a.C_Program dx (putF "_singles" (.ref d) f3))) d = some (.dK (kvE qs early)) := by
      rw [upd_ne (ne_of ed e6 (by intro z; cases z))]
      exact ed
    have nk3 := k3.2.2 "kind" (by decide +kernel)
    have nm3 := k3.2.2 "moves" (by decide +kernel)
    have hps7 := (hps5.same s6).puts (u := .ins a.C_Program dx (putF "_singles" (.ref d) f3)) (prog_nt e6) (prog_ni e6 nk3 nm3)
    have hqs7 := hqs.puts (u := .ins a.C_Program dx (putF "_singles" (.ref d) f3)) (prog_nt e6) (prog_ni e6 nk3 nm3)
    change tSeq _ _ _ _ (upd H6 p (.ins a.C_Program dx (putF "_singles" (.ref d) f3)))
    generalize upd H6 p (.ins a.C_Program dx (putF "_singles" (.ref d) f3)) = H7 at kp7 e7 et7 ed7 hps7 hqs7 ⊢
    generalize putF "_singles" (.ref d) f3 = f4 at k4 e7
    have sin4 : f4.lookup ("_singles" : Str) = some (.ref d) := k4.2.1 0 _ _ rfl rfl
    have qle : qs.length = early.length := by
      have := hqs7.len
      rw [List.length_map] at this
      exact this
    -- self.sizes = tuple(self._singles)
    refine ⟨.ref p, rfl, p, a.C_Program, dx, f4, _, rfl, e7, T.cl_Program, T.n_Program__singles, sin4, d, _, rfl, ed7, fun u nu => ?_⟩
    rw [kvE_keys qle]
    have s8 := same_upd (o := .tup (early.map fun s => V.int (s.1 : Int))) nu
    have eu8 : (upd H7 u (.tup (early.map fun s => V.int (s.1 : Int)))) u = some (.tup (early.map fun s => V.int (s.1 : Int))) := upd_same
    generalize upd H7 u (.tup (early.map fun s => V.int (s.1 : Int))) = H8 at s8 eu8 ⊢
    have e8 := s8 _ _ e7
    have kp8 : ∀ b u, H b = some u → b ≠ p → H8 b = some u := fun b u e z => s8 b u (kp7 b u e z)
    refine ⟨.ref p, rfl, p, a.C_Program, dx, f4, rfl, e8, T.cl_Program, T.n_Program_sizes, by have := k4.1; omega, ?_⟩
    have k5 := k4.put "sizes" (.ref u) (by decide +kernel)
    have nk4 := k4.2.2 "kind" (by decide +kernel)
    have nm4 := k4.2.2 "moves" (by decide +kernel)
    have kp9 := fld_step (o' := .ins a.C_Program dx (putF "sizes" (.ref u) f4)) kp8
    have e9 : (upd H8 p (.ins a.C_Program dx (putF "sizes" (.ref u) f4))) p = some (.ins a.C_Program dx (putF "sizes" (.ref u) f4)) := upd_same
    have off : ∀ b o, H8 b = some o → (∀ c d fs, o ≠ .ins c d fs) → (upd H8 p (.ins a.C_Program dx (putF "sizes" (.ref u) f4))) b = some o := fun b o e n => by
      rw [upd_ne (fun z => by
        rw [z, e8] at e
        exact n _ _ _ (Option.some.inj e).symm)]
      exact e
    have et9 := off _ _ (s8 _ _ et7) (fun _ _ _ z => by cases z)
    have ed9 := off _ _ (s8 _ _ ed7) (fun _ _ _ z => by cases z)
    have eu9 := off _ _ eu8 (fun _ _ _ z => by cases z)
    have hps9 := (hps7.same s8).puts (u := .ins a.C_Program dx (putF "sizes" (.ref u) f4)) (prog_nt e8) (prog_ni e8 nk4 nm4)
    have hqs9 := (hqs7.same s8).puts (u := .ins a.C_Program dx (putF "sizes" (.ref u) f4)) (prog_nt e8) (prog_ni e8 nk4 nm4)
    clear off
    generalize upd H8 p (.ins a.C_Program dx (putF "sizes" (.ref u) f4)) = H9 at kp9 e9 et9 ed9 eu9 hps9 hqs9 ⊢
    generalize putF "sizes" (.ref u) f4 = f5 at k5 e9
    -- self.tower = Tower()
    refine fun x dx2 hx hdx ne => ?_
    refine ⟨x, dx2, rfl, upd_same, fun H10 ls ld ll hTw nls nld nll k10 => ⟨rfl, ?_⟩⟩
    have s10 : Same H9 H10 := fun b u e => k10 b u (by
      rw [upd_ne (ne_of_none e hx), upd_ne (ne_of_none e hdx)]
      exact e) (ne_of_none e hx)
    have e10 := s10 _ _ e9
    have kp10 : ∀ b u, H b = some u → b ≠ p → H10 b = some u := fun b u e z => s10 b u (kp9 b u e z)
    refine ⟨.ref p, rfl, p, a.C_Program, dx, f5, rfl, e10, T.cl_Program, T.n_Program_tower, by have := k5.1; omega, ?_⟩
    have k6 := k5.put "tower" (.ref x) (by decide +kernel)
    have nk5 := k5.2.2 "kind" (by decide +kernel)
    have nm5 := k5.2.2 "moves" (by decide +kernel)
    have off : ∀ b o, H10 b = some o → (∀ c d fs, o ≠ .ins c d fs) → (upd H10 p (.ins a.C_Program dx (putF "tower" (.ref x) f5))) b = some o := fun b o e n => by
      rw [upd_ne (fun z => by
        rw [z, e10] at e
        exact n _ _ _ (Option.some.inj e).symm)]
      exact e
    have n9 : ∀ b, H9 b = none → b ≠ p → H b = none := fun b e n => by
      cases hh : H b with
      | none => rfl
      | some u =>
        have := kp9 _ _ hh n
        rw [e] at this
        cases this
    have nb : ∀ {b}, upd (upd H9 dx2 (.own x)) x (.ins a.C_Tower dx2 []) b = none → H9 b = none := fun {b} e => by
      cases hh : H9 b with
      | none => rfl
      | some u =>
        rw [upd_ne (ne_of_none hh hx), upd_ne (ne_of_none hh hdx), hh] at e
        cases e
    have e9n : ∀ {b}, H9 b = none → b ≠ p := fun {b} e z => by
      rw [z, e9] at e
      cases e
    have off2 : ∀ {b o}, H10 b = some o → b ≠ p → (upd H10 p (.ins a.C_Program dx (putF "tower" (.ref x) f5))) b = some o := fun e n => by
      rw [upd_ne n]
      exact e
    refine k _ x ls ld ll ⟨dx, _, t, d, u, .ref x, ps, qs, upd_same, hz ▸ k6, off _ _ (s10 _ _ et9) (fun _ _ _ z => by cases z), (hps9.same s10).puts (prog_nt e10) (prog_ni e10 nk5 nm5), off _ _ (s10 _ _ ed9) (fun _ _ _ z => by cases z),
      (hqs9.same s10).puts (prog_nt e10) (prog_ni e10 nk5 nm5), off _ _ (s10 _ _ eu9) (fun _ _ _ z => by cases z)⟩ ⟨⟨dx, _, upd_same, k6.2.1 0 _ _ rfl rfl⟩, hTw.same fun b o e => ⟨fun xs h => off2 e (ne_of (h ▸ e) e10 (by intro z; cases z)), fun h => off2 e (by rw [h]; exact e9n hx)⟩, n9 _ hx (e9n hx), n9 _ (nb nls) (e9n (nb nls)), n9 _ (nb nld) (e9n (nb nld)), n9 _ (nb nll) (e9n (nb nll))⟩ (fld_step kp10)
end

/-- the level of size k -/
def lvAt (rests : List (Lv × Bool)) (early : List (Nat × Lv × Bool)) (k : Nat) : Lv × Bool := match early.find? fun s => decide (s.1 = k) with
  | some s => s.2
  | none => rests.getD (k % rests.length) (.same [], false)
theorem kvE_find {C CW : Addr} {H : Hp} {k : Nat} : ∀ {qs : List Addr} {r : List (Nat × Lv × Bool)}, LvsAt C CW H qs (r.map (·.2)) → match r.find? fun s => decide (s.1 = k) with
    | some s => ∃ q, valV (kvE qs r) (.inl (k : Int)) = some (.ref q) ∧ LevelL C CW H q s.2.1 s.2.2
    | none => valV (kvE qs r) (.inl (k : Int)) = none
  | [], [], _ => rfl
  | q :: qs, s :: r, h => by
    by_cases c : s.1 = k
    · rw [List.find?_cons, decide_eq_true c]
      refine ⟨q, ?_, h.1⟩
      show valV ((.inl (s.1 : Int), .ref q) :: kvE qs r) _ = _
      exact valV_pos (by rw [c])
    · have ih := kvE_find (k := k) (qs := qs) (r := r) h.2
      rw [List.find?_cons, decide_eq_false c]
      have e : valV (kvE (q :: qs) (s :: r)) (.inl (k : Int)) = valV (kvE qs r) (.inl (k : Int)) := by
        show valV ((.inl (s.1 : Int), .ref q) :: kvE qs r) _ = _
        exact valV_neg fun z => c (by
          have := Sum.inl.inj z
          omega)
      rw [e]
      exact ih
section
variable {P : Program} {w : World} {K : PySem.W.Frag} {mg : Str → Option Value} {base : Heap} {a : Ad}
def spProgLevel (C CL CW CS : Addr) : Sp := fun vs H Q E => ∃ (p : Addr) (rests : List (Lv × Bool)) (early : List (Nat × Lv × Bool)) (y : V) (ib : Bool), vs = [.ref p, y] ∧ ProgAt C CL CW H p rests early ∧ ProgOk rests early ∧ IsI H y ib ∧
  ((∃ k : Nat, y = .int (k : Int) ∧ 2 ≤ k ∧ ∀ q, LevelL CL CW H q (lvAt rests early k).1 (lvAt rests early k).2 → Q (.ref q) H) ∨ (frM 2 y = false ∧ ∀ H' d, Same H H' → H' d = some (.xd [("size", y)]) → E (.ref CS) (some d) H'))
theorem ok_Program_level (T : Tx w K mg a) : FnOk P w K mg base (L2.CX P w) 3 a.f_Program_level a.d_Program_level ["self", "k"] (spProgLevel a.C_Program a.C_Level a.C_Word a.C_BadSize) := by
  refine T.F_Program_level.okX sc_Program_level (fun vs H Q E h => ?_) (fun cdv A outer s H vs Q E hr h => ?_)
  · obtain ⟨p, rests, early, y, ib, rfl, _⟩ := h
    rfl
  · obtain ⟨p, rests, early, y, ib, rfl, ⟨dx, fs, t, d, u, tw, ps, qs, hp, fk, et, hps, ed, hqs, eu⟩, hok, hI, h⟩ := h
    have hu := hu_of hr
    refine ⟨_, 
(pss_cons (ps_if (pt_not (pt_val (pe_call (ok_is_from T) hr (by rfl) T.m_is_from T.F_is_from.kp T.b_is_from .nil pass0 (pa_cons (pv 1) (pa_cons pe_int pa_nil)))))
  (pss_one (ps_raise rfl (takes_of rfl rfl rfl rfl) (pmk_oex T.ox_BadSize.o T.ox_BadSize.ini T.ox_BadSize.tin (ok_BadSize_init T) hr T.b_BadSize_init .nil pass0 (by rfl) T.c_BadSize (pa_cons (pv 1) pa_nil))))
  pss_nil)
  (pss_cons (ps_if (pt_cmpR (op_inDk hu) (pv 1) (pe_fld (pv 0) rfl) (by rfl))
  (pss_one (ps_ret (pe_dget hu (pe_fld (pv 0) rfl) (pv 1) (fun _ _ => rfl))))
  pss_nil)
  (pss_one (ps_ret (pe_ix ix_tup (pe_fld (pv 0) rfl) (pe_op op_modN (pv 1) (pe_fld (pv 0) rfl)) (fun _ _ => rfl)))))), ?_⟩
    have f1 : fs.lookup ("_singles" : Str) = some (.ref d) := fk.2.1 2 _ _ rfl rfl
    have f2 : fs.lookup ("rests" : Str) = some (.ref t) := fk.2.1 3 _ _ rfl rfl
    have f3 : fs.lookup ("period" : Str) = some (.int (rests.length : Int)) := fk.2.1 4 _ _ rfl rfl
    refine ⟨_, rfl, y, ib, 2, rfl, hI, _, rfl, ?_⟩
    rcases h with ⟨k, rfl, k2, q⟩ | ⟨hb, hE⟩
    rotate_left
    · rw [hb]
      exact iteT ⟨_, rfl, (by decide : 1 ≤ 1000), err_end (Same.refl H) hE⟩
    rw [show frM 2 (.int (k : Int)) = true from by simp only [frM, decide_eq_true_eq]; omega]
    refine iteF ⟨_, rfl, .ref p, rfl, p, a.C_Program, dx, fs, _, rfl, hp, T.cl_Program, T.n_Program__singles, f1, d, _, rfl, DGet.k (k := .inl (k : Int)) ed, _, rfl, ?_⟩
    have fd := kvE_find (k := k) hqs
    unfold lvAt at q
    cases hf : early.find? fun s => decide (s.1 = k) with
    | some s =>
      rw [hf] at fd q
      obtain ⟨qq, e1, hL⟩ := fd
      rw [e1]
      exact iteT ⟨.ref p, rfl, p, a.C_Program, dx, fs, _, rfl, hp, T.cl_Program, T.n_Program__singles, f1, _, rfl, d, _, rfl, e1 ▸ DGet.k (k := .inl (k : Int)) ed, q qq hL⟩
    | none =>
      rw [hf] at fd q
      rw [show valV (kvE qs early) (.inl (k : Int)) = none from fd]
      have n0 : (rests.length : Int) ≠ 0 := by
        have := hok.n1
        omega
      have ml : k % rests.length < rests.length := Nat.mod_lt _ hok.n1
      have hg : rests[k % rests.length]? = some (rests.getD (k % rests.length) (.same [], false)) := by
        rw [List.getD_eq_getElem?_getD, List.getElem?_eq_getElem ml]
        rfl
      obtain ⟨qq, e1, hL⟩ := hps.get hg
      refine iteF ⟨.ref p, rfl, p, a.C_Program, dx, fs, _, rfl, hp, T.cl_Program, T.n_Program_rests, f2, _, rfl, .ref p, rfl, p, a.C_Program, dx, fs, _, rfl, hp, T.cl_Program, T.n_Program_period, f3, _, _, rfl, rfl, n0, t, _, _, _, rfl, rfl, SqT.at et, ?_, q qq hL⟩
      rw [Int.fmod_eq_emod_of_nonneg _ (by omega)]
      show atI (ps.map V.ref) ((k % rests.length : Nat) : Int) = _
      exact atI_nat (by rw [List.getElem?_map, e1]; rfl)
end

/-! ### a drawn program -/
theorem LvT.klt {H H' : Hp} {o : Addr} {e : Bool} {lv : Lv} (h : LvT H o e lv) (s : KLT H H') : LvT H' o e lv := by
  cases lv with
  | same ms =>
    obtain ⟨m, ps, h1, h2, h3⟩ := h
    exact ⟨m, ps, s.tup h1, s.lst h2, h3.mono fun _ _ _ _ e => s.lst e⟩
  | along k z => exact s.tup h
  | list ns =>
    obtain ⟨m, h1, h2⟩ := h
    exact ⟨m, s.tup h1, s.lst h2⟩
theorem heldL_list {H : Hp} : ∀ {ps : List Addr} {ms : List Mv}, HeldL H ps ms → ∀ p ∈ ps, ∃ m : Mv, H p = some (.lst (strsV m.parts))
  | q :: ps, m :: ms, h, p, hp => by
    rcases List.mem_cons.mp hp with rfl | hp
    · exact ⟨m, h.1⟩
    · exact heldL_list h.2 p hp
theorem refs_inj : ∀ {rs ps : List Addr}, rs.map V.ref = ps.map V.ref → rs = ps
  | [], [], _ => rfl
  | _ :: _, _ :: _, h => by
    have h := List.cons.inj h
    rw [V.ref.inj h.1, refs_inj h.2]
  | [], _ :: _, h => by cases h
  | _ :: _, [], h => by cases h
theorem strs_ne (m : Mv) : strsV m.parts ≠ [] := by
  cases m <;> simp [Mv.parts, strsV]
/-- a level's tuple stays if a list of tuples is changed -/
theorem LvT.putD {H : Hp} {o D : Addr} {e : Bool} {lv : Lv} {size : Option Nat} {rs : List Addr} {u : HO} (h : LvT H o e lv) (hok : LvOk size e lv) (hs : SizeOk size) (hD : H D = some (.lst (rs.map V.ref))) (hrs : ∀ r ∈ rs, ∃ ys, H r = some (.tup ys)) : LvT (upd H D u) o e lv := by
  have nt : ∀ b ys, H b = some (.tup ys) → upd H D u b = some (.tup ys) := fun b ys e => by
    rw [upd_ne (ne_of e hD (by intro z; cases z))]
    exact e
  have nl : ∀ b (m : Mv), H b = some (.lst (strsV m.parts)) → b ≠ D := fun b m e z => by
    rw [z, hD] at e
    have e := HO.lst.inj (Option.some.inj e)
    cases rs with
    | nil => exact strs_ne m e.symm
    | cons r rs =>
      have := congrArg List.head? e
      cases m <;> simp [Mv.parts, strsV] at this
  cases lv with
  | same ms =>
    obtain ⟨m, ps, h1, h2, h3⟩ := h
    refine ⟨m, ps, nt _ _ h1, ?_, h3.mono fun p _ q _ e => ?_⟩
    · rw [upd_ne (fun z => ?_)]
      · exact h2
      · rw [z, hD] at h2
        have h2 := HO.lst.inj (Option.some.inj h2)
        have e2 : rs = ps := refs_inj h2
        subst e2
        cases rs with
        | nil =>
          have : ms ≠ [] := hok.ne
          cases ms with
          | nil => exact this rfl
          | cons => exact h3.elim
        | cons r rs =>
          obtain ⟨ys, e3⟩ := hrs r (List.mem_cons_self ..)
          obtain ⟨m', e4⟩ := heldL_list h3 r (List.mem_cons_self ..)
          rw [e3] at e4
          cases e4
    · rw [upd_ne (nl p q e)]
      exact e
  | along k z => exact nt _ _ h
  | list ns =>
    obtain ⟨m, h1, h2⟩ := h
    refine ⟨m, nt _ _ h1, ?_⟩
    rw [upd_ne (fun z => ?_)]
    · exact h2
    · rw [z, hD] at h2
      have h2 := HO.lst.inj (Option.some.inj h2)
      obtain ⟨s, rfl, hl, _⟩ := hok
      have hs2 := hs.1
      cases ns with
      | nil =>
        have hl : 0 = if e = true then s else s - 1 := hl
        split at hl <;> omega
      | cons a ns =>
        cases rs with
        | nil => cases h2
        | cons r rs =>
          have := congrArg List.head? h2
          simp at this
/-- drawn levels, at their addresses -/
def LvTs (H : Hp) : List Addr → List (Lv × Bool) → Prop
  | [], [] => True
  | o :: os, r :: rs => LvT H o r.2 r.1 ∧ LvTs H os rs
  | _, _ => False
theorem LvTs.len {H : Hp} : ∀ {os : List Addr} {rs : List (Lv × Bool)}, LvTs H os rs → os.length = rs.length
  | [], [], _ => rfl
  | _ :: _, _ :: _, h => congrArg (· + 1) h.2.len
theorem LvTs.klt {H H' : Hp} (s : KLT H H') : ∀ {os : List Addr} {rs : List (Lv × Bool)}, LvTs H os rs → LvTs H' os rs
  | [], [], _ => trivial
  | _ :: _, _ :: _, h => ⟨h.1.klt s, LvTs.klt s h.2⟩
theorem LvTs.snoc {H : Hp} {o : Addr} {r : Lv × Bool} (e : LvT H o r.2 r.1) : ∀ {os : List Addr} {rs : List (Lv × Bool)}, LvTs H os rs → LvTs H (os ++ [o]) (rs ++ [r])
  | [], [], _ => ⟨e, trivial⟩
  | _ :: _, _ :: _, h => ⟨h.1, LvTs.snoc e h.2⟩
theorem LvTs.get {H : Hp} : ∀ {os : List Addr} {rs : List (Lv × Bool)}, LvTs H os rs → ∀ {i : Nat} {r : Lv × Bool}, rs[i]? = some r → ∃ o, os[i]? = some o ∧ LvT H o r.2 r.1
  | [], [], _, _, _, e => by cases e
  | o :: _, q :: _, h, 0, r, e => by
    cases e
    exact ⟨o, rfl, h.1⟩
  | _ :: _, _ :: _, h, i + 1, r, e => LvTs.get h.2 (i := i) e
theorem LvTs.putD {H : Hp} {D : Addr} {ds : List Addr} {u : HO} (hD : H D = some (.lst (ds.map V.ref))) (hrs : ∀ r ∈ ds, ∃ ys, H r = some (.tup ys)) : ∀ {os : List Addr} {rs : List (Lv × Bool)}, (∀ r ∈ rs, ∃ size, SizeOk size ∧ LvOk size r.2 r.1) → LvTs H os rs → LvTs (upd H D u) os rs
  | [], [], _, _ => trivial
  | _ :: _, r :: _, hok, h => by
    obtain ⟨size, hs, ho⟩ := hok r (List.mem_cons_self ..)
    exact ⟨h.1.putD ho hs hD hrs, LvTs.putD hD hrs (fun q hq => hok q (List.mem_cons_of_mem _ hq)) h.2⟩
theorem LvT.isT {H : Hp} {o : Addr} {e : Bool} {lv : Lv} (h : LvT H o e lv) : ∃ ys, H o = some (.tup ys) := by
  cases lv with
  | same ms =>
    obtain ⟨m, ps, h1, _⟩ := h
    exact ⟨_, h1⟩
  | along k z => exact ⟨_, h⟩
  | list ns =>
    obtain ⟨m, h1, _⟩ := h
    exact ⟨_, h1⟩
theorem LvTs.tups {H : Hp} : ∀ {os : List Addr} {rs : List (Lv × Bool)}, LvTs H os rs → ∀ o ∈ os, ∃ ys, H o = some (.tup ys)
  | q :: os, r :: rs, h, o, ho => by
    rcases List.mem_cons.mp ho with rfl | ho
    · exact h.1.isT
    · exact LvTs.tups h.2 o ho
/-- drawn single levels: tuples (size, level) -/
def EarT (H : Hp) : List Addr → List (Nat × Lv × Bool) → Prop
  | [], [] => True
  | x :: xs, s :: r => (∃ q, H x = some (.tup [.int (s.1 : Int), .ref q]) ∧ LvT H q s.2.2 s.2.1) ∧ EarT H xs r
  | _, _ => False
theorem EarT.len {H : Hp} : ∀ {xs : List Addr} {r : List (Nat × Lv × Bool)}, EarT H xs r → xs.length = r.length
  | [], [], _ => rfl
  | _ :: _, _ :: _, h => congrArg (· + 1) h.2.len
theorem EarT.klt {H H' : Hp} (s : KLT H H') : ∀ {xs : List Addr} {r : List (Nat × Lv × Bool)}, EarT H xs r → EarT H' xs r
  | [], [], _ => trivial
  | _ :: _, _ :: _, h => ⟨h.1.elim fun q e => ⟨q, s.tup e.1, e.2.klt s⟩, EarT.klt s h.2⟩
theorem EarT.snoc {H : Hp} {x q : Addr} {s : Nat × Lv × Bool} (e : H x = some (.tup [.int (s.1 : Int), .ref q])) (e2 : LvT H q s.2.2 s.2.1) : ∀ {xs : List Addr} {r : List (Nat × Lv × Bool)}, EarT H xs r → EarT H (xs ++ [x]) (r ++ [s])
  | [], [], _ => ⟨⟨q, e, e2⟩, trivial⟩
  | _ :: _, _ :: _, h => ⟨h.1, EarT.snoc e e2 h.2⟩
theorem EarT.get {H : Hp} : ∀ {xs : List Addr} {r : List (Nat × Lv × Bool)}, EarT H xs r → ∀ {i : Nat} {s : Nat × Lv × Bool}, r[i]? = some s → ∃ x q, xs[i]? = some x ∧ H x = some (.tup [.int (s.1 : Int), .ref q]) ∧ LvT H q s.2.2 s.2.1
  | [], [], _, _, _, e => by cases e
  | x :: _, t :: _, h, 0, s, e => by
    cases e
    obtain ⟨q, e1, e2⟩ := h.1
    exact ⟨x, q, rfl, e1, e2⟩
  | _ :: _, _ :: _, h, i + 1, s, e => EarT.get h.2 (i := i) e
theorem EarT.tups {H : Hp} : ∀ {xs : List Addr} {r : List (Nat × Lv × Bool)}, EarT H xs r → ∀ x ∈ xs, ∃ ys, H x = some (.tup ys)
  | y :: xs, s :: r, h, x, hx => by
    rcases List.mem_cons.mp hx with rfl | hx
    · obtain ⟨q, e, _⟩ := h.1
      exact ⟨_, e⟩
    · exact EarT.tups h.2 x hx
theorem EarT.putD {H : Hp} {D : Addr} {ds : List Addr} {u : HO} (hD : H D = some (.lst (ds.map V.ref))) (hrs : ∀ r ∈ ds, ∃ ys, H r = some (.tup ys)) : ∀ {xs : List Addr} {r : List (Nat × Lv × Bool)}, (∀ s ∈ r, 2 ≤ s.1 ∧ s.1 ≤ 12 ∧ LvOk (some s.1) s.2.2 s.2.1) → EarT H xs r → EarT (upd H D u) xs r
  | [], [], _, _ => trivial
  | _ :: _, s :: _, hok, h => by
    obtain ⟨q, e1, e2⟩ := h.1
    obtain ⟨a, b, ho⟩ := hok s (List.mem_cons_self ..)
    refine ⟨⟨q, ?_, e2.putD ho ⟨a, b⟩ hD hrs⟩, EarT.putD hD hrs (fun q hq => hok q (List.mem_cons_of_mem _ hq)) h.2⟩
    rw [upd_ne (ne_of e1 hD (by intro z; cases z))]
    exact e1
/-- a drawn program stands at o -/
def ProgT (H : Hp) (o : Addr) (rests : List (Lv × Bool)) (early : List (Nat × Lv × Bool)) : Prop := ∃ (r e : Addr) (os es : List Addr), H o = some (.tup [.ref r, .ref e]) ∧ H r = some (.lst (os.map V.ref)) ∧ LvTs H os rests ∧ H e = some (.lst (es.map V.ref)) ∧ EarT H es early

section
variable {P : Program} {w : World} {K : PySem.W.Frag} {mg : Str → Option Value} {base : Heap} {a : Ad}
def spLawProgram : Sp := fun vs H Q _ => ∃ (d c : Addr) (n : Nat), vs = [.ref d] ∧ Pen H d c n ∧ n + 8000 < 2 ^ 40 ∧ ∀ o rests early H', ProgT H' o rests early → ProgOk rests early → Pen H' d c (n + 4000) → But d H H' → Q (.ref o) H'
theorem ok__law_program (T : Tx w K mg a) : FnOk P w K mg base CX0 6 a.f__law_program a.d__law_program ["pen"] spLawProgram := by
  refine T.F__law_program.ok sc__law_program (fun vs H Q E h => ?_) (fun cdv A outer s H vs Q E hr h => ?_)
  · obtain ⟨d, c, n, rfl, _⟩ := h
    rfl
  · obtain ⟨d, c, n, rfl, hp, hn, q⟩ := h
    refine ⟨_, 
(pss_cons (ps_setLc (i := 1) (own := [("rest", 3)]) (g := gName 3) rfl sc__law_program.nd rfl rfl (sw_true rfl rfl rfl (by decide +kernel)) (pi_range1 (by rfl) T.z_range (pa_cons (pe_op op_add pe_int (pe_call (ok__law_draw T) (hr.mono (by decide)) (by rfl) T.m__law_draw T.F__law_draw.kp T.b__law_draw .nil pass0 (pa_cons (pv 0) (pa_cons pe_int pa_nil)))) pa_nil)) (blkOk_by (own := [("rest", 3)]) (N := ["pen", "rests", "sizes", "rest", "size"]) (sc := defScope s__law_program) (by decide +kernel)) (fun _ _ _ _ _ => pg_name (i := 3) sc__law_program.nd rfl (Or.inl rfl)) (fun _ _ _ _ _ => pts_nil) (fun _ _ _ _ _ => (pe_call (ok__law_level T) hr (by rfl) T.m__law_level T.F__law_level.kp T.b__law_level .nil pass0 (pa_cons (pv 0) (pa_cons pe_int pa_nil)))))
  (pss_cons (ps_setLc (i := 2) (own := [("size", 4)]) (g := gName 4) rfl sc__law_program.nd rfl rfl (sw_true rfl rfl rfl (by decide +kernel)) (pi_range2 (by rfl) T.z_range (pa_cons pe_int (pa_cons pe_int pa_nil))) (blkOk_by (own := [("size", 4)]) (N := ["pen", "rests", "sizes", "rest", "size"]) (sc := defScope s__law_program) (by decide +kernel)) (fun _ _ _ _ _ => pg_name (i := 4) sc__law_program.nd rfl (Or.inl rfl)) (fun _ _ _ _ _ => (pts_one (pt_cmpR op_eq (pe_call (ok__law_draw T) (hr.mono (by decide)) (by rfl) T.m__law_draw T.F__law_draw.kp T.b__law_draw .nil pass0 (pa_cons (pv 0) (pa_cons pe_int pa_nil))) pe_int (nomark _)))) (fun _ _ _ _ _ => (pv 4)))
  (pss_one (ps_ret (pe_tup (pa_cons (pv 1) (pa_cons (pe_lc (own := [("size", 4)]) (g := gName 4) rfl sc__law_program.nd (pi_list (pv 2)) (blkOk_by (own := [("size", 4)]) (N := ["pen", "rests", "sizes", "rest", "size"]) (sc := defScope s__law_program) (by decide +kernel)) (fun _ _ _ _ _ => pg_name (i := 4) sc__law_program.nd rfl (Or.inl rfl)) (fun _ _ _ _ _ => pts_nil) (fun _ _ _ _ _ => (pe_tup (pa_cons (pv 4) (pa_cons (pe_call (ok__law_level T) hr (by rfl) T.m__law_level T.F__law_level.kp T.b__law_level .nil pass0 (pa_cons (pv 0) (pa_cons (pv 4) pa_nil))) pa_nil))))) pa_nil))))))), ?_⟩
    -- rests = [_law_level(pen, 0) for rest in range(1 + _law_draw(pen, 6))]
    refine ⟨_, rfl, d, c, n, 6, rfl, hp, by omega, by decide, by decide, fun v H1 v0 v1 hp1 b1 => ⟨1, v, rfl, rfl, _, rfl, by omega, by omega, fun D nD => ?_⟩⟩
    obtain ⟨m, em, m1, m6⟩ : ∃ m : Nat, 1 + v = (m : Int) ∧ 1 ≤ m ∧ m ≤ 6 := ⟨(1 + v).toNat, by omega, by omega, by omega⟩
    have tm : (1 + v).toNat = m := by omega
    rw [tm]
    obtain ⟨_, hd1⟩ := hp1.dict
    obtain ⟨_, hc1⟩ := hp1.cells
    have dD : d ≠ D := ne_of_none hd1 nD
    have cD : c ≠ D := ne_of_none hc1 nD
    refine lc_range (lo := 0) (n := m) (fun j H' => ∃ (os : List Addr) (rs : List (Lv × Bool)), H' D = some (.lst (os.map V.ref)) ∧ LvTs H' os rs ∧ rs.length = j ∧ (∀ r ∈ rs, LvOk none r.2 r.1) ∧ Pen H' d c (n + 1 + 200 * j) ∧ But d H1 H') ?h0 ?hs ?hd
    case h0 => exact ⟨[], [], upd_same, trivial, rfl, fun r hr => (by cases hr), (hp1.same (same_upd nD)).up (by omega), but_same (same_upd nD)⟩
    case hs =>
      rintro j H2 hj ⟨os, rs, eD, hos, lj, hok, hp2, bt⟩
      refine ⟨rfl, _, rfl, d, c, _, none, rfl, hp2, by omega, trivial, fun o lv e H3 no hT hok3 hp3 b3 => ?_⟩
      obtain ⟨_, hd2⟩ := hp2.dict
      have eD3 := b3.list hd2 eD
      have hos3 := hos.klt (klt_but b3 hd2)
      have ll := hos.len
      have tup := hos3.tups
      refine ⟨os.map V.ref, eD3, szlt (by rw [List.length_map]; omega), os ++ [o], rs ++ [(lv, e)], by rw [upd_same, List.map_append]; rfl, ?_, by rw [List.length_append]; show rs.length + 1 = j + 1; omega, ?_, ?_, (bt.trans b3).mut nD⟩
      · refine LvTs.snoc (r := (lv, e)) (hT.putD hok3 trivial eD3 tup) (hos3.putD eD3 tup fun r hr => ⟨none, trivial, hok r hr⟩)
      · intro r hr
        rcases List.mem_append.mp hr with hr | hr
        · exact hok r hr
        · rw [List.mem_singleton] at hr
          subst hr
          exact hok3
      · rw [show n + 1 + 200 * (j + 1) = n + 1 + 200 * j + 200 by omega]
        exact hp3.mut dD cD
    case hd =>
    rintro H2 ⟨os, rs, eD, hos, lm, hok, hp2, bt2⟩
    -- sizes = [size for size in range(2, 13) if _law_draw(pen, 5) == 0]
    refine ⟨2, 13, rfl, by decide, fun D2 nD2 => ?_⟩
    obtain ⟨_, hd2⟩ := hp2.dict
    obtain ⟨_, hc2⟩ := hp2.cells
    have dD2 : d ≠ D2 := ne_of_none hd2 nD2
    have cD2 : c ≠ D2 := ne_of_none hc2 nD2
    refine lc_range (lo := 2) (n := 11) (fun j H' => ∃ ss : List Nat, H' D2 = some (.lst ((ss.map fun s : Nat => (s : Int)).map V.int)) ∧ ss.Pairwise (· < ·) ∧ (∀ s ∈ ss, 2 ≤ s ∧ s < 2 + j) ∧ Pen H' d c (n + 1 + 200 * m + j) ∧ But d H2 H' ∧ ss.length ≤ j) ?h0 ?hs ?hd
    case h0 => exact ⟨[], upd_same, .nil, fun s hs => (by cases hs), hp2.same (same_upd nD2), but_same (same_upd nD2), Nat.le_refl _⟩
    case hs =>
      rintro j H3 hj ⟨ss, eS, pw, bs, hp3, bt, sl⟩
      refine ⟨rfl, _, rfl, d, c, _, 5, rfl, hp3, by omega, by decide, by decide, fun w H4 _ _ hp4 b4 => ⟨rfl, _, rfl, ?_⟩⟩
      obtain ⟨_, hd3⟩ := hp3.dict
      have eS4 := b4.list hd3 eS
      generalize decide (V.int w = V.int 0) = bb
      cases bb with
      | false => exact iteF ⟨ss, eS4, pw, fun s hs => ⟨(bs s hs).1, by have := (bs s hs).2; omega⟩, by rw [show n + 1 + 200 * m + (j + 1) = n + 1 + 200 * m + j + 1 by omega]; exact hp4, bt.trans b4, by omega⟩
      | true =>
        refine iteT ⟨_, rfl, _, eS4, szlt (by rw [List.length_map, List.length_map]; omega), ss ++ [2 + j], ?_, ?_, ?_, ?_, (bt.trans b4).mut nD2, by rw [List.length_append]; show ss.length + 1 ≤ j + 1; omega⟩
        · rw [upd_same, List.map_append, List.map_append, show (2 : Int) + (j : Int) = ((2 + j : Nat) : Int) by omega]
          rfl
        · rw [List.pairwise_append]
          exact ⟨pw, List.pairwise_singleton .., fun x hx y hy => by
            rw [List.mem_singleton] at hy
            have := (bs x hx).2
            omega⟩
        · intro s hs
          rcases List.mem_append.mp hs with hs | hs
          · exact ⟨(bs s hs).1, by have := (bs s hs).2; omega⟩
          · rw [List.mem_singleton] at hs
            omega
        · rw [show n + 1 + 200 * m + (j + 1) = n + 1 + 200 * m + j + 1 by omega]
          exact hp4.mut dD2 cD2
    case hd =>
    rintro H3 ⟨ss, eS, pw, bs, hp3, bt3, sl⟩
    have k23 := klt_but bt3 hd2
    have eD3 := k23.lst eD
    have hos3 := hos.klt k23
    -- [(size, _law_level(pen, size)) for size in sizes]
    refine ⟨_, rfl, _, rfl, D2, rfl, ⟨_, SqL.at eS⟩, fun D3 nD3 => ?_⟩
    obtain ⟨_, hd3⟩ := hp3.dict
    obtain ⟨_, hc3⟩ := hp3.cells
    have dD3 : d ≠ D3 := ne_of_none hd3 nD3
    have cD3 : c ≠ D3 := ne_of_none hc3 nD3
    refine lc_it (walk_list (xs := (ss.map fun s : Nat => (s : Int)).map V.int)) (fun j H' => ∃ (es : List Addr) (early : List (Nat × Lv × Bool)), H' D3 = some (.lst (es.map V.ref)) ∧ EarT H' es early ∧ early.map (·.1) = ss.take j ∧ (∀ s ∈ early, 2 ≤ s.1 ∧ s.1 ≤ 12 ∧ LvOk (some s.1) s.2.2 s.2.1) ∧ Pen H' d c (n + 1 + 200 * m + 11 + 200 * j) ∧ But d H3 H') ?h0 ?hG ?hs ?hd
    case h0 => exact ⟨[], [], upd_same, trivial, rfl, fun s hs => (by cases hs), hp3.same (same_upd nD3), but_same (same_upd nD3)⟩
    case hG =>
      rintro j H' _ ⟨_, _, _, _, _, _, _, bt⟩
      exact SqL.at (bt.list hd3 eS)
    case hs =>
      rintro j y H4 H5 hj ⟨es, early, eE, her, emap, eok, hp4, bt⟩ ⟨rfl, ex⟩
      rw [List.length_map, List.length_map] at hj
      rw [List.getElem?_map, List.getElem?_map, List.getElem?_eq_getElem hj] at ex
      cases ex
      obtain ⟨s2, s12⟩ := bs _ (List.getElem_mem hj)
      refine ⟨rfl, _, rfl, _, rfl, _, rfl, d, c, _, some ss[j], rfl, hp4, by omega, ⟨s2, by omega⟩, fun o lv e H6 no hT hok3 hp6 b6 => ⟨sz (show 2 ≤ 100000 by decide), fun nt nnt => ?_⟩⟩
      obtain ⟨_, hd4⟩ := hp4.dict
      have k56 := klt_but b6 hd4
      have s7 := same_upd (o := .tup [.int ((ss[j] : Nat) : Int), .ref o]) nnt
      have et7 : (upd H6 nt (.tup [.int ((ss[j] : Nat) : Int), .ref o])) nt = some (.tup [.int ((ss[j] : Nat) : Int), .ref o]) := upd_same
      have k57 := k56.trans (klt_same s7)
      have eE7 := k57.lst eE
      have her7 := her.klt k57
      have tup := her7.tups
      have ll := her.len
      have le : early.length ≤ j := by
        have := congrArg List.length emap
        rw [List.length_map, List.length_take] at this
        omega
      have htk : ss.take (j + 1) = ss.take j ++ [ss[j]] := by
        rw [List.take_succ, List.getElem?_eq_getElem hj]
        rfl
      have hT7 := hT.klt (klt_same s7)
      have hp7 := hp6.same s7
      have bt7 := (bt.trans b6).trans (but_same s7)
      change ∃ acc, (upd H6 nt (.tup [.int ((ss[j] : Nat) : Int), .ref o])) D3 = some (.lst acc) ∧ _
      generalize upd H6 nt (.tup [.int ((ss[j] : Nat) : Int), .ref o]) = H7 at et7 eE7 her7 tup hT7 hp7 bt7 ⊢
      refine ⟨es.map V.ref, eE7, szlt (by rw [List.length_map]; omega), es ++ [nt], early ++ [(ss[j], lv, e)], by rw [upd_same, List.map_append]; rfl, ?_, by rw [List.map_append, emap, htk]; rfl, ?_, ?_, bt7.mut nD3⟩
      · refine EarT.snoc (q := o) ?_ (hT7.putD hok3 ⟨s2, by omega⟩ eE7 tup) (her7.putD eE7 tup eok)
        rw [upd_ne (ne_of et7 eE7 (by intro z; cases z))]
        exact et7
      · intro s hs
        rcases List.mem_append.mp hs with hs | hs
        · exact eok s hs
        · rw [List.mem_singleton] at hs
          subst hs
          exact ⟨s2, by show ss[j] ≤ 12; omega, hok3⟩
      · rw [show n + 1 + 200 * m + 11 + 200 * (j + 1) = n + 1 + 200 * m + 11 + 200 * j + 200 by omega]
        exact hp7.mut dD3 cD3
    case hd =>
    rintro H4 ⟨es, early, eE, her, emap, eok, hp4, bt⟩
    rw [List.length_map, List.length_map, List.take_length] at emap
    refine ⟨sz (show 2 ≤ 100000 by decide), fun o no => ?_⟩
    have s5 := same_upd (o := .tup [.ref D, .ref D3]) no
    have k34 := klt_but bt hd3
    have e5 : (upd H4 o (.tup [.ref D, .ref D3])) o = some (.tup [.ref D, .ref D3]) := upd_same
    refine q o rs early _ ⟨D, D3, os, es, e5, s5 _ _ (k34.lst eD3), (hos3.klt k34).klt (klt_same s5), s5 _ _ eE, her.klt (klt_same s5)⟩ ⟨by omega, by omega, hok, eok, ?_⟩ ((hp4.same s5).up ?_) ?_
    · have : (early.map (·.1)).Pairwise (· < ·) := by rw [emap]; exact pw
      exact List.pairwise_map.mp this
    · rw [List.length_map, List.length_map]
      omega
    · exact b1.trans (bt2.trans (bt3.trans (bt.trans (but_same s5))))
end

theorem perT_eq (n : Int) : perT n = Str.ofString "period " ++ toStr n := by
  unfold perT
  rw [PySem.W.KT.empty_app]
theorem rHead_eq (k : Int) : rHead k = Str.ofString "rest " ++ toStr k ++ Str.ofString " " := by
  unfold rHead
  rw [PySem.W.KT.empty_app]
theorem sHead_eq (k : Int) : sHead k = Str.ofString "level " ++ toStr k ++ Str.ofString " " := by
  unfold sHead
  rw [PySem.W.KT.empty_app]
theorem len_of {a b : Str} {n : Nat} (h : (a ++ b).length ≤ n) (hn : n ≤ 100000) : a.length + b.length ≤ sizeLine := by
  rw [← str_len_app]
  exact sl h hn
theorem rest_len2 {k : Nat} (h : k < 13) : (Str.ofString "rest " ++ toStr (k : Int)).length ≤ 30 := by
  have := rest_len h
  rw [PySem.W.KT.empty_app] at this
  exact this
theorem level_len2 {k : Nat} (h : k < 13) : (Str.ofString "level " ++ toStr (k : Int)).length ≤ 30 := by
  have := level_len h
  rw [PySem.W.KT.empty_app] at this
  exact this
section
variable {P : Program} {w : World} {K : PySem.W.Frag} {mg : Str → Option Value} {base : Heap} {a : Ad}
def spLawLines : Sp := fun vs H Q _ => ∃ (o : Addr) (rests : List (Lv × Bool)) (early : List (Nat × Lv × Bool)), vs = [.ref o] ∧ ProgT H o rests early ∧ ProgOk rests early ∧ ∀ l H', H' l = some (.lst ((progL rests early).map V.str)) → Same H H' → Q (.ref l) H'
theorem ok__law_program_lines (T : Tx w K mg a) : FnOk P w K mg base CX0 3 a.f__law_program_lines a.d__law_program_lines ["program"] spLawLines := by
  refine T.F__law_program_lines.ok sc__law_program_lines (fun vs H Q E h => ?_) (fun cdv A outer s H vs Q E hr h => ?_)
  · obtain ⟨o, rests, early, rfl, _⟩ := h
    rfl
  · obtain ⟨o, rests, early, rfl, ⟨r, e, os, es, ho, hr1, hos, he1, hes⟩, hok, q⟩ := h
    refine ⟨_, 
(pss_cons (ps_asg (pv 0) (pg_tup rfl (pgs_cons (pg_name (i := 1) sc__law_program_lines.nd rfl (.inr rfl)) (pgs_cons (pg_name (i := 2) sc__law_program_lines.nd rfl (.inl rfl)) pgs_nil))))
  (pss_cons (ps_set (i := 3) sc__law_program_lines.nd rfl (.inl rfl) (pe_lst (pa_cons (pe_op op_add_str pe_str (pe_callTy call_str_int (by rfl) T.z_str (by decide +kernel) (pa_cons (pe_callB call_len_seq (by rfl) T.z_len PySem.boot_len (pa_cons (pv 1) pa_nil)) pa_nil))) pa_nil)))
  (pss_cons (ps_set (i := 3) sc__law_program_lines.nd rfl (.inl rfl) (pe_op op_cat (pv 3) (pe_lc (own := [("k", 4)]) (g := gName 4) rfl sc__law_program_lines.nd (pi_range1 (by rfl) T.z_range (pa_cons (pe_callB call_len_seq (by rfl) T.z_len PySem.boot_len (pa_cons (pv 1) pa_nil)) pa_nil)) (blkOk_by (own := [("k", 4)]) (N := ["program", "rests", "early", "lines", "k", "size", "level"]) (sc := defScope s__law_program_lines) (by decide +kernel)) (fun _ _ _ _ _ => pg_name (i := 4) sc__law_program_lines.nd rfl (Or.inl rfl)) (fun _ _ _ _ _ => pts_nil) (fun _ _ _ _ _ => (pe_op op_add_str (pe_op op_add_str (pe_op op_add_str pe_str (pe_callTy call_str_int (by rfl) T.z_str (by decide +kernel) (pa_cons (pv 4) pa_nil))) pe_str) (pe_call (ok__law_level_text T) hr (by rfl) T.m__law_level_text T.F__law_level_text.kp T.b__law_level_text .nil pass0 (pa_cons (pe_ix (show IxR _ (rIxL K) from ix_list) (pv 1) (pv 4) (fun _ _ => rfl)) pa_nil)))))))
  (pss_one (ps_ret (pe_op op_cat (pv 3) (pe_lc (own := [("size", 5), ("level", 6)]) (g := gTup K 2 (gCons (gName 5) (gCons (gName 6) gNil))) rfl sc__law_program_lines.nd (pi_list (pv 2)) (blkOk_by (own := [("size", 5), ("level", 6)]) (N := ["program", "rests", "early", "lines", "k", "size", "level"]) (sc := defScope s__law_program_lines) (by decide +kernel)) (fun _ _ _ _ _ => pg_tup rfl (pgs_cons (pg_name (i := 5) sc__law_program_lines.nd rfl (Or.inl rfl)) (pgs_cons (pg_name (i := 6) sc__law_program_lines.nd rfl (Or.inl rfl)) pgs_nil))) (fun _ _ _ _ _ => pts_nil) (fun _ _ _ _ _ => (pe_op op_add_str (pe_op op_add_str (pe_op op_add_str pe_str (pe_callTy call_str_int (by rfl) T.z_str (by decide +kernel) (pa_cons (pv 5) pa_nil))) pe_str) (pe_call (ok__law_level_text T) hr (by rfl) T.m__law_level_text T.F__law_level_text.kp T.b__law_level_text .nil pass0 (pa_cons (pv 6) pa_nil))))))))))), ?_⟩
    -- rests, early = program
    refine ⟨_, rfl, o, [.ref r, .ref e], rfl, SqT.at ho, rfl, .ref r, [.ref e], rfl, .ref e, [], rfl, rfl, ?_⟩
    have n6 := hok.n6
    have el := hok.elen
    have ol := hos.len
    have per30 : (Str.ofString "period " ++ toStr (rests.length : Int)).length ≤ 30 := by
      rw [← perT_eq]
      exact perT_len (k := rests.length) (by omega)
    -- lines = ['period ' + str(len(rests))]
    refine ⟨_, rfl, r, _, rfl, .inl (SqL.at hr1), ?_⟩
    rw [List.length_map, ol]
    refine ⟨_, rfl, small_log (by omega), _, _, rfl, rfl, len_of (n := 30) per30 (by decide), sz (show 1 ≤ 100000 by decide), fun l1 nl1 => ?_⟩
    have s1 := same_upd (o := .lst [.str (Str.ofString "period " ++ toStr (rests.length : Int))]) nl1
    have e1 : (upd H l1 (.lst [.str (Str.ofString "period " ++ toStr (rests.length : Int))])) l1 = some (.lst [.str (perT (rests.length : Int))]) := by
      rw [upd_same, perT_eq]
    change tSeq _ _ _ _ (upd H l1 (.lst [.str (Str.ofString "period " ++ toStr (rests.length : Int))]))
    generalize upd H l1 (.lst [.str (Str.ofString "period " ++ toStr (rests.length : Int))]) = H1 at s1 e1 ⊢
    -- lines = lines + [..]
    refine ⟨_, rfl, _, rfl, r, _, rfl, .inl (SqL.at (s1 _ _ hr1)), _, rfl, ?_⟩
    rw [List.length_map, ol]
    refine ⟨by omega, by omega, fun D nD => ?_⟩
    refine lc_range (lo := 0) (n := ((rests.length : Nat) : Int).toNat) (fun j H' => Same H1 H' ∧ H' D = some (.lst (((restL 0 rests).take j).map V.str))) ?h0 ?hs ?hd
    case h0 => exact ⟨same_upd nD, upd_same⟩
    case hs =>
      rintro j H2 hj ⟨sm, eD⟩
      rw [Int.toNat_natCast] at hj
      rw [show (0 : Int) + (j : Int) = (j : Int) from Int.zero_add _]
      have sm1 := s1.trans sm
      have hg : rests[j]? = some rests[j] := List.getElem?_eq_getElem hj
      have rok := hok.rok _ (List.getElem_mem hj)
      have htk : (restL 0 rests).take (j + 1) = (restL 0 rests).take j ++ [rHead (j : Int) ++ lvText rests[j].1 rests[j].2] := by
        have := restL_get (k := 0) hg
        rw [Nat.zero_add] at this
        rw [List.take_succ, this]
        rfl
      rw [htk]
      obtain ⟨oo, hoo, hT⟩ := hos.get hg
      have tl : ((restL 0 rests).take j).length ≤ j := by rw [List.length_take]; omega
      generalize rests[j] = rr at rok hT ⊢
      generalize (restL 0 rests).take j = done at eD tl ⊢
      have rl := rHead_len (k := j) (by omega)
      rw [rHead_eq] at rl
      have tln := lvText_len (size := none) trivial rok
      have ha : atI (os.map V.ref) (j : Int) = some (.ref oo) := atI_nat (by rw [List.getElem?_map, hoo]; rfl)
      refine ⟨rfl, _, rfl, _, rfl, small_log (by omega), _, _, rfl, rfl, len_of (n := 30) (rest_len2 (k := j) (by omega)) (by decide), _, _, rfl, rfl, len_of (n := 30) rl (by decide), ?_⟩
      refine ⟨_, rfl, _, rfl, r, _, _, _, rfl, rfl, SqL.at (sm1 _ _ hr1), ha, oo, none, rr.1, rr.2, rfl, hT.same sm1, trivial, rok, fun H3 s3 => ?_⟩
      refine ⟨_, _, rfl, rfl, sz (Nat.le_trans (Nat.add_le_add rl tln) (by decide)), _, s3 _ _ eD, szlt (by rw [List.length_map]; omega), keep_upd (sm.trans s3) nD, ?_⟩
      rw [upd_same, List.map_append, rHead_eq]
      rfl
    case hd =>
    rintro H2 ⟨sm, eD⟩
    rw [Int.toNat_natCast, List.take_of_length_le (by rw [restL_len]; exact Nat.le_refl _)] at eD
    have s2 := s1.trans sm
    refine ⟨l1, D, _, _, rfl, rfl, sm _ _ e1, eD, sz (by rw [List.length_map, restL_len]; show 1 + _ ≤ _; omega), fun l2 nl2 => ?_⟩
    have s3 := same_upd (o := .lst ([.str (perT (rests.length : Int))] ++ (restL 0 rests).map V.str)) nl2
    have e3 : (upd H2 l2 (.lst ([.str (perT (rests.length : Int))] ++ (restL 0 rests).map V.str))) l2 = some (.lst ([.str (perT (rests.length : Int))] ++ (restL 0 rests).map V.str)) := upd_same
    generalize upd H2 l2 (.lst ([.str (perT (rests.length : Int))] ++ (restL 0 rests).map V.str)) = H3 at s3 e3 ⊢
    have s03 := s2.trans s3
    -- return lines + [..]
    refine ⟨_, rfl, _, rfl, e, rfl, ⟨_, SqL.at (s03 _ _ he1)⟩, fun D2 nD2 => ?_⟩
    refine lc_it (walk_list (xs := es.map V.ref)) (fun j H' => Same H3 H' ∧ H' D2 = some (.lst (((early.map earlyT).take j).map V.str))) ?h0 ?hG ?hs ?hd
    case h0 => exact ⟨same_upd nD2, upd_same⟩
    case hG =>
      rintro j H' _ ⟨sm4, _⟩
      exact SqL.at (sm4 _ _ (s03 _ _ he1))
    case hs =>
      rintro j y H4 H5 hj ⟨sm4, eD2⟩ ⟨rfl, ex⟩
      rw [List.length_map, hes.len] at hj
      have hg : early[j]? = some early[j] := List.getElem?_eq_getElem hj
      obtain ⟨xx, qq, hx, ht, hT⟩ := hes.get hg
      rw [List.getElem?_map, hx] at ex
      cases ex
      obtain ⟨s2', s12, sok⟩ := hok.eok _ (List.getElem_mem hj)
      have htk : (early.map earlyT).take (j + 1) = (early.map earlyT).take j ++ [earlyT early[j]] := by
        rw [List.take_succ, List.getElem?_map, hg]
        rfl
      rw [htk]
      have tl : ((early.map earlyT).take j).length ≤ j := by rw [List.length_take]; omega
      generalize early[j] = sg at s2' s12 sok ht hT ⊢
      generalize (early.map earlyT).take j = done at eD2 tl ⊢
      have rl := sHead_len (k := sg.1) (by omega)
      rw [sHead_eq] at rl
      have tln := lvText_len (size := some sg.1) ⟨s2', s12⟩ sok
      have sm5 := s03.trans sm4
      refine ⟨xx, [.int (sg.1 : Int), .ref qq], rfl, SqT.at (sm5 _ _ ht), rfl, .int (sg.1 : Int), [.ref qq], rfl, .ref qq, [], rfl, rfl, rfl, _, rfl, _, rfl, small_log (by omega), _, _, rfl, rfl, len_of (n := 30) (level_len2 (k := sg.1) (by omega)) (by decide), _, _, rfl, rfl, len_of (n := 30) rl (by decide), ?_⟩
      refine ⟨_, rfl, qq, some sg.1, sg.2.1, sg.2.2, rfl, hT.same sm5, ⟨s2', s12⟩, sok, fun H6 s6 => ?_⟩
      refine ⟨_, _, rfl, rfl, sz (Nat.le_trans (Nat.add_le_add rl tln) (by decide)), _, s6 _ _ eD2, szlt (by rw [List.length_map]; omega), keep_upd (sm4.trans s6) nD2, ?_⟩
      rw [upd_same, List.map_append]
      unfold earlyT
      rw [sHead_eq]
      rfl
    case hd =>
    rintro H4 ⟨sm4, eD2⟩
    rw [List.length_map, hes.len, List.take_of_length_le (by rw [List.length_map]; exact Nat.le_refl _)] at eD2
    refine ⟨l2, D2, _, _, rfl, rfl, sm4 _ _ e3, eD2, sz (by rw [List.length_append, List.length_map, List.length_map, List.length_map, restL_len]; show 1 + _ + _ ≤ _; omega), fun l3 nl3 => ?_⟩
    refine q l3 _ ?_ (s03.trans (sm4.trans (same_upd nl3)))
    rw [upd_same]
    show some (HO.lst _) = some (HO.lst ((perT (rests.length : Int) :: (restL 0 rests ++ early.map earlyT)).map V.str))
    rw [List.map_cons, List.map_append]
    rfl
end

section
variable {P : Program} {w : World} {K : PySem.W.Frag} {mg : Str → Option Value} {base : Heap} {a : Ad}
def spProgEq (C : Addr) : Sp := fun vs H Q _ => ∃ (p q dx dy : Addr) (fs gs : List (Str × V)) (t u : Str), vs = [.ref p, .ref q] ∧ H p = some (.ins C dx fs) ∧ fs.lookup ("text" : Str) = some (.str t) ∧ H q = some (.ins C dy gs) ∧ gs.lookup ("text" : Str) = some (.str u) ∧ Q (.bl (decide (t = u))) H
theorem ok_Program_eq (T : Tx w K mg a) : FnOk P w K mg base CX0 14 a.f_Program_eq a.d_Program_eq ["self", "other"] (spProgEq a.C_Program) := by
  refine T.F_Program_eq.ok sc_Program_eq (fun vs H Q E h => ?_) (fun cdv A outer s H vs Q E hr h => ?_)
  · obtain ⟨p, q, _, _, _, _, _, _, rfl, _⟩ := h
    rfl
  · obtain ⟨p, q, dx, dy, fs, gs, t, u, rfl, p1, p2, q1, q2, k⟩ := h
    refine ⟨_, 
(pss_one (ps_ret (pe_and (pe_callB call_isi (by rfl) T.z_isinstance (by decide +kernel) (pa_cons (pv 1) (pa_cons (pe_glob (v := .ref a.C_Program) (by rfl) T.c_Program rfl) pa_nil))) (pe_one (pe_cmpR op_eq (pe_fld (pv 0) rfl) (pe_fld (pv 1) rfl) (nomark _)))))), ?_⟩
    refine ⟨.ref q, rfl, .ref q, .ref a.C_Program, .ref a.C_Program, .ref a.C_Program, true, rfl, .own _, .base (.ins q1 T.cl_Program T.ow_Program.cls T.ow_Program.get T.ow_Program.tak T.ow_Program.mro), ?_, ?_⟩
    · unfold PySem.W.kitOne
      rw [if_pos (by simp)]
    exact ⟨true, rfl, .ref p, rfl, p, a.C_Program, dx, _, _, rfl, p1, T.cl_Program, T.n_Program_text, p2, .ref q, rfl, q, a.C_Program, dy, _, _, rfl, q1, T.cl_Program, T.n_Program_text, q2, eq_texts k⟩
end

/-! ### drawn levels as data; the level of a size, as the law finds it -/
def mvDL (m : Mv) : PyData := .list (m.parts.map PyData.str)
def lvD : Lv → Bool → PyData
  | .same ms, e => .tuple [.str "same", .list (ms.map mvDL), .none, .bool e]
  | .along k z, e => .tuple [.str "along", .int k, .str z, .bool e]
  | .list ns, e => .tuple [.str "list", .list (ns.map PyData.int), .none, .bool e]
theorem dp_mvsL {K : PySem.W.Frag} {H : Hp} : ∀ {ps : List Addr} {ms : List Mv}, HeldL H ps ms → DpAll K H (ps.map V.ref) (ms.map mvDL)
  | [], [], _ => .nil
  | _ :: _, _ :: _, h => .cons (.lst (SqL.at h.1) (dp_strs _)) (dp_mvsL h.2)
theorem LvT.dp {K : PySem.W.Frag} {H : Hp} {o : Addr} {e : Bool} {lv : Lv} (h : LvT H o e lv) : Dp K H (.ref o) (lvD lv e) := by
  cases lv with
  | same ms =>
    obtain ⟨m, ps, h1, h2, h3⟩ := h
    exact .tup (SqT.at h1) (.cons (.str _) (.cons (.lst (SqL.at h2) (dp_mvsL h3)) (.cons .non (.cons (.bl _) .nil))))
  | along k z => exact .tup (SqT.at h) (.cons (.str _) (.cons (.int _) (.cons (.str _) (.cons (.bl _) .nil))))
  | list ns =>
    obtain ⟨m, h1, h2⟩ := h
    exact .tup (SqT.at h1) (.cons (.str _) (.cons (.lst (SqL.at h2) (dp_all ns)) (.cons .non (.cons (.bl _) .nil))))
theorem lay_mvsL : ∀ {ms : List Mv}, (∀ m ∈ ms, m.ok) → PyData.canLayAll0 (ms.map mvDL) = true ∧ PyData.depthAll (ms.map mvDL) ≤ 3
  | [], _ => ⟨by simp [PyData.canLayAll0], by simp [PyData.depthAll]⟩
  | m :: r, h => by
    obtain ⟨a, b⟩ := lay_mvsL (ms := r) fun q hq => h q (List.mem_cons_of_mem _ hq)
    have c := lay_strs (zs := m.parts) fun z hz => (Mv.str_ok (h m (List.mem_cons_self ..)) z hz).1
    have d := deep_strs m.parts
    constructor
    · simp only [List.map_cons, PyData.canLayAll0, mvDL, PyData.canLay0, Bool.and_eq_true]
      exact ⟨c, a⟩
    · simp only [List.map_cons, PyData.depthAll, mvDL, PyData.depth] at b ⊢
      omega
theorem places_str : ∀ z ∈ places, PyData.strOk z = true := by decide +kernel
theorem lvD_lay {size : Option Nat} {e : Bool} {lv : Lv} (h : LvOk size e lv) : PyData.canLay0 (lvD lv e) = true ∧ PyData.depth (lvD lv e) ≤ 8 := by
  cases lv with
  | same ms =>
    obtain ⟨a, b⟩ := lay_mvsL h.ok
    have z : PyData.strOk "same" = true := by decide +kernel
    refine ⟨by simp [lvD, PyData.canLay0, PyData.canLayAll0, a, z], ?_⟩
    simp only [lvD, PyData.depth, PyData.depthAll]
    omega
  | along k z =>
    have y : PyData.strOk "along" = true := by decide +kernel
    have x := places_str z h.2.1
    refine ⟨by simp [lvD, PyData.canLay0, PyData.canLayAll0, x, y], ?_⟩
    simp only [lvD, PyData.depth, PyData.depthAll]
    omega
  | list ns =>
    have z : PyData.strOk "list" = true := by decide +kernel
    have a := lay_ints ns
    have b := deep_ints ns
    refine ⟨by simp [lvD, PyData.canLay0, PyData.canLayAll0, a, z], ?_⟩
    simp only [lvD, PyData.depth, PyData.depthAll]
    omega

theorem LvTs.dp {K : PySem.W.Frag} {H : Hp} : ∀ {os : List Addr} {rs : List (Lv × Bool)}, LvTs H os rs → DpAll K H (os.map V.ref) (rs.map fun r => lvD r.1 r.2)
  | [], [], _ => .nil
  | _ :: _, _ :: _, h => .cons h.1.dp (LvTs.dp h.2)
theorem lay_lvs : ∀ {rs : List (Lv × Bool)}, (∀ r ∈ rs, ∃ size, LvOk size r.2 r.1) → PyData.canLayAll0 (rs.map fun r => lvD r.1 r.2) = true ∧ PyData.depthAll (rs.map fun r => lvD r.1 r.2) ≤ 8
  | [], _ => ⟨by simp [PyData.canLayAll0], by simp [PyData.depthAll]⟩
  | r :: rs, h => by
    obtain ⟨a, b⟩ := lay_lvs (rs := rs) fun q hq => h q (List.mem_cons_of_mem _ hq)
    obtain ⟨s, hs⟩ := h r (List.mem_cons_self ..)
    obtain ⟨c, d⟩ := lvD_lay hs
    constructor
    · simp only [List.map_cons, PyData.canLayAll0, Bool.and_eq_true]
      exact ⟨c, a⟩
    · simp only [List.map_cons, PyData.depthAll]
      omega
theorem LvTs.same {H H' : Hp} (s : Same H H') : ∀ {os : List Addr} {rs : List (Lv × Bool)}, LvTs H os rs → LvTs H' os rs
  | [], [], _ => trivial
  | _ :: _, _ :: _, h => ⟨h.1.same s, LvTs.same s h.2⟩
theorem shaped_lvs {rs : List (Lv × Bool)} (h : ∀ r ∈ rs, ∃ size, LvOk size r.2 r.1) : SeqAt.shaped (.list (rs.map fun r => lvD r.1 r.2)) = true := by
  obtain ⟨a, b⟩ := lay_lvs h
  unfold SeqAt.shaped
  rw [Bool.and_eq_true, decide_eq_true_eq]
  refine ⟨by rw [PyData.canLay0]; exact a, ?_⟩
  simp only [PyData.depth]
  omega
theorem lay_nil : SeqAt.shaped (.list []) = true := by decide +kernel
section
variable {P : Program} {w : World} {K : PySem.W.Frag} {mg : Str → Option Value} {base : Heap} {a : Ad}
/-- what stands in H0 is handed back out of H0 -/
def spLevelAt : Sp := fun vs H Q _ => ∃ (o : Addr) (rests : List (Lv × Bool)) (early : List (Nat × Lv × Bool)) (k : Nat) (H0 : Hp), vs = [.ref o, .int (k : Int)] ∧ ProgT H0 o rests early ∧ Same H0 H ∧ ProgOk rests early ∧ k < 2 ^ 40 ∧ ∀ q H', LvT H0 q (lvAt rests early k).2 (lvAt rests early k).1 → Same H H' → Q (.ref q) H'
theorem ok__law_level_at (T : Tx w K mg a) : FnOk P w K mg base CX0 1 a.f__law_level_at a.d__law_level_at ["program", "k"] spLevelAt := by
  refine T.F__law_level_at.ok sc__law_level_at (fun vs H Q E h => ?_) (fun cdv A outer s H vs Q E hr h => ?_)
  · obtain ⟨o, rests, early, k, H0, rfl, _⟩ := h
    rfl
  · obtain ⟨o, rests, early, k, H0, rfl, ⟨r, e, os, es, ho0, hr0, hos, he0, hes⟩, s00, hok, hk, q⟩ := h
    have ho := s00 _ _ ho0
    have hr1 := s00 _ _ hr0
    have he1 := s00 _ _ he0
    refine ⟨_, 
(pss_cons (ps_asg (pv 0) (pg_tup rfl (pgs_cons (pg_name (i := 2) sc__law_level_at.nd rfl (.inl rfl)) (pgs_cons (pg_name (i := 3) sc__law_level_at.nd rfl (.inl rfl)) pgs_nil))))
  (pss_cons (ps_setLc (i := 4) (own := [("size", 5), ("level", 6)]) (g := gTup K 2 (gCons (gName 5) (gCons (gName 6) gNil))) rfl sc__law_level_at.nd rfl rfl (sw_true rfl rfl rfl (by decide +kernel)) (pi_list (pv 3)) (blkOk_by (own := [("size", 5), ("level", 6)]) (N := ["program", "k", "rests", "early", "own", "size", "level"]) (sc := defScope s__law_level_at) (by decide +kernel)) (fun _ _ _ _ _ => pg_tup rfl (pgs_cons (pg_name (i := 5) sc__law_level_at.nd rfl (Or.inl rfl)) (pgs_cons (pg_name (i := 6) sc__law_level_at.nd rfl (Or.inl rfl)) pgs_nil))) (fun _ _ _ _ _ => (pts_one (pt_cmpR op_eq (pv 5) (pv 1) (nomark _)))) (fun _ _ _ _ _ => (pv 6)))
  (pss_one (ps_ret (pe_ifExp (pt_cmpR (op_neD hr.units) (pv 4) (pe_lst pa_nil) (nomark _)) (pe_ix ix_list (pv 4) pe_int (fun _ _ => rfl)) (pe_ix ix_list (pv 2) (pe_op op_modN (pe_callTy call_int1 (by rfl) T.z_int (by decide +kernel) (pa_cons (pv 1) pa_nil)) (pe_callB call_len_seq (by rfl) T.z_len PySem.boot_len (pa_cons (pv 2) pa_nil))) (fun _ _ => rfl))))))), ?_⟩
    have n6 := hok.n6
    have el := hok.elen
    have ol := hos.len
    -- rests, early = program
    refine ⟨_, rfl, o, [.ref r, .ref e], rfl, SqT.at ho, rfl, .ref r, [.ref e], rfl, .ref e, [], rfl, rfl, ?_⟩
    -- own = [level for size, level in early if size == k]
    refine ⟨_, rfl, e, rfl, ⟨_, SqL.at he1⟩, fun D nD => ?_⟩
    refine lc_it (walk_list (xs := es.map V.ref)) (fun j H' => Same H H' ∧ ∃ qs, H' D = some (.lst (qs.map V.ref)) ∧ LvTs H0 qs (((early.take j).filter fun s => decide (s.1 = k)).map (·.2))) ?h0 ?hG ?hs ?hd
    case h0 => exact ⟨same_upd nD, [], upd_same, trivial⟩
    case hG =>
      rintro j H' _ ⟨sm, _⟩
      exact SqL.at (sm _ _ he1)
    case hs =>
      rintro j y H4 H5 hj ⟨sm, qs, eD, hqs⟩ ⟨rfl, ex⟩
      rw [List.length_map, hes.len] at hj
      have hg : early[j]? = some early[j] := List.getElem?_eq_getElem hj
      obtain ⟨xx, qq, hx, ht, hT⟩ := hes.get hg
      rw [List.getElem?_map, hx] at ex
      cases ex
      have htk : early.take (j + 1) = early.take j ++ [early[j]] := by
        rw [List.take_succ, hg]
        rfl
      rw [htk, List.filter_append]
      have ll : qs.length ≤ j := by
        have := hqs.len
        rw [List.length_map] at this
        have := List.length_filter_le (fun s : Nat × Lv × Bool => decide (s.1 = k)) (early.take j)
        rw [List.length_take] at this
        omega
      generalize early[j] = sg at ht hT ⊢
      have sm5 := s00.trans sm
      refine ⟨xx, [.int (sg.1 : Int), .ref qq], rfl, SqT.at (sm5 _ _ ht), rfl, .int (sg.1 : Int), [.ref qq], rfl, .ref qq, [], rfl, rfl, rfl, _, rfl, _, rfl, ?_⟩
      refine ⟨rfl, _, rfl, ?_⟩
      by_cases c : sg.1 = k
      · rw [show ([sg].filter fun s => decide (s.1 = k)) = [sg] by rw [List.filter_cons, decide_eq_true c]; rfl, decide_eq_true (show V.int (sg.1 : Int) = V.int (k : Int) by rw [c])]
        refine iteT ⟨_, rfl, _, eD, szlt (by rw [List.length_map]; omega), keep_upd sm nD, qs ++ [qq], by rw [upd_same, List.map_append]; rfl, ?_⟩
        rw [List.map_append]
        exact hqs.snoc (r := sg.2) hT
      · rw [show ([sg].filter fun s => decide (s.1 = k)) = [] by rw [List.filter_cons, decide_eq_false c]; rfl, List.append_nil, decide_eq_false (show V.int (sg.1 : Int) ≠ V.int (k : Int) from fun z => c (by have := V.int.inj z; omega))]
        exact iteF ⟨sm, qs, eD, hqs⟩
    case hd =>
    rintro H4 ⟨sm, qs, eD, hqs⟩
    rw [List.length_map, hes.len, List.take_length] at hqs
    have ok2 : ∀ r ∈ (early.filter fun s => decide (s.1 = k)).map (·.2), ∃ size, LvOk size r.2 r.1 := by
      intro r hr
      obtain ⟨s, hs, rfl⟩ := List.mem_map.mp hr
      exact ⟨_, (hok.eok s (List.mem_filter.mp hs).1).2.2⟩
    have lv0 : lvAt rests early k = (match (early.filter fun s => decide (s.1 = k)).head? with | some s => s.2 | none => rests.getD (k % rests.length) (.same [], false)) := by
      rw [List.head?_filter]
      rfl
    generalize hfe : (early.filter fun s => decide (s.1 = k)) = fs at hqs ok2 lv0
    -- return own[0] if own != [] else rests[int(k) % len(rests)]
    refine ⟨_, rfl, sz (show 0 ≤ 100000 by decide), fun z nz => ?_⟩
    have sz4 := same_upd (o := .lst []) nz
    have ez : (upd H4 z (.lst [])) z = some (.lst []) := upd_same
    refine ⟨_, _, .lst (SqL.at (sz4 _ _ eD)) ((LvTs.same (s00.trans (sm.trans sz4)) hqs).dp), .lst (SqL.at ez) .nil, shaped_lvs ok2, lay_nil, _, rfl, ?_⟩
    have sz' := sm.trans sz4
    rw [lv0] at q
    cases fs with
    | nil =>
      cases qs with
      | cons x xs => exact hqs.elim
      | nil =>
        rw [show (!PyData.eqv (.list (([] : List (Nat × Lv × Bool)).map (·.2) |>.map fun r => lvD r.1 r.2)) (.list [])) = false by decide +kernel]
        have n0 : (rests.length : Int) ≠ 0 := by
          have := hok.n1
          omega
        have ml : k % rests.length < rests.length := Nat.mod_lt _ hok.n1
        have hg : rests[k % rests.length]? = some (rests.getD (k % rests.length) (.same [], false)) := by
          rw [List.getD_eq_getElem?_getD, List.getElem?_eq_getElem ml]
          rfl
        obtain ⟨qq, e1, hL⟩ := hos.get hg
        refine iteF ⟨.ref r, rfl, .int (k : Int), rfl, .inl ⟨_, rfl, .ref r, rfl, r, _, rfl, .inl (SqL.at (sz' _ _ hr1)), _, _, rfl, rfl, ?_, r, _, _, .ref qq, rfl, rfl, SqL.at (sz' _ _ hr1), ?_, q qq _ hL sz'⟩⟩
        · rw [List.length_map, ol]
          exact n0
        · rw [List.length_map, ol, Int.fmod_eq_emod_of_nonneg _ (by omega)]
          show atI (os.map V.ref) ((k % rests.length : Nat) : Int) = _
          exact atI_nat (by rw [List.getElem?_map, e1]; rfl)
    | cons f fs =>
      cases qs with
      | nil => exact hqs.elim
      | cons x xs =>
        rw [show (!PyData.eqv (.list ((f :: fs).map (·.2) |>.map fun r => lvD r.1 r.2)) (.list [])) = true by simp [PyData.eqv, PyData.eqvAll]]
        exact iteT ⟨_, rfl, D, _, _, .ref x, rfl, rfl, SqL.at (sz4 _ _ eD), atI_nat (xs := (x :: xs).map V.ref) (j := 0) (v := .ref x) (by rfl), q x _ hqs.1 sz'⟩
end

/-! ### a program with another level -/
def putE (early : List (Nat × Lv × Bool)) (size : Nat) (l : Lv × Bool) : List (Nat × Lv × Bool) := (early.filter fun s => decide (s.1 < size)) ++ (size, l) :: early.filter fun s => decide (size < s.1)
theorem ProgOk.putR {rests : List (Lv × Bool)} {early : List (Nat × Lv × Bool)} (h : ProgOk rests early) {i : Nat} {l : Lv × Bool} (hl : LvOk none l.2 l.1) : ProgOk (rests.set i l) early :=
  ⟨by rw [List.length_set]; exact h.n1, by rw [List.length_set]; exact h.n6, fun r hr => by
    rcases List.mem_or_eq_of_mem_set hr with hr | rfl
    · exact h.rok r hr
    · exact hl, h.eok, h.up⟩
theorem ProgOk.putE {rests : List (Lv × Bool)} {early : List (Nat × Lv × Bool)} (h : ProgOk rests early) {size : Nat} {l : Lv × Bool} (h2 : 2 ≤ size) (h12 : size ≤ 12) (hl : LvOk (some size) l.2 l.1) : ProgOk rests (putE early size l) := by
  refine ⟨h.n1, h.n6, h.rok, fun s hs => ?_, ?_⟩
  · rcases List.mem_append.mp hs with hs | hs
    · exact h.eok s (List.mem_filter.mp hs).1
    · rcases List.mem_cons.mp hs with rfl | hs
      · exact ⟨h2, h12, hl⟩
      · exact h.eok s (List.mem_filter.mp hs).1
  · refine List.pairwise_append.mpr ⟨h.up.filter _, List.pairwise_cons.mpr ⟨fun s hs => of_decide_eq_true (List.mem_filter.mp hs).2, h.up.filter _⟩, fun x hx y hy => ?_⟩
    have hx := of_decide_eq_true (List.mem_filter.mp hx).2
    rcases List.mem_cons.mp hy with rfl | hy
    · exact hx
    · have := of_decide_eq_true (List.mem_filter.mp hy).2
      omega
theorem EarT.same {H H' : Hp} (s : Same H H') : ∀ {xs : List Addr} {r : List (Nat × Lv × Bool)}, EarT H xs r → EarT H' xs r
  | [], [], _ => trivial
  | _ :: _, _ :: _, h => ⟨h.1.elim fun q e => ⟨q, s _ _ e.1, e.2.same s⟩, EarT.same s h.2⟩
theorem EarT.append {H : Hp} : ∀ {xs ys : List Addr} {r t : List (Nat × Lv × Bool)}, EarT H xs r → EarT H ys t → EarT H (xs ++ ys) (r ++ t)
  | [], _, [], _, _, k => k
  | _ :: _, _, _ :: _, _, h, k => ⟨h.1, EarT.append h.2 k⟩
theorem LvTs.append {H : Hp} : ∀ {xs ys : List Addr} {r t : List (Lv × Bool)}, LvTs H xs r → LvTs H ys t → LvTs H (xs ++ ys) (r ++ t)
  | [], _, [], _, _, k => k
  | _ :: _, _, _ :: _, _, h, k => ⟨h.1, LvTs.append h.2 k⟩
theorem LvTs.set {H : Hp} {o : Addr} {l : Lv × Bool} (e : LvT H o l.2 l.1) : ∀ {xs : List Addr} {r : List (Lv × Bool)} {i : Nat}, LvTs H xs r → LvTs H (xs.set i o) (r.set i l)
  | [], [], _, _ => trivial
  | _ :: _, _ :: _, 0, h => ⟨e, h.2⟩
  | _ :: _, _ :: _, _ + 1, h => ⟨h.1, LvTs.set e h.2⟩
theorem op_first {op : R2} {x y : TE} {σ : L2.St} {H : Hp} {Q : VK} (h : x σ H fun u H1 => y σ H1 fun v H2 => op u v H2 Q) : tOp op x y σ H Q := h
theorem cons_first {x : TE} {y : TA} {σ : L2.St} {H : Hp} {Q : List V → Hp → Prop} (h : x σ H fun u H1 => y σ H1 fun us H2 => Q (u :: us) H2) : tCons x y σ H Q := h
/-- [row for row in early if row[0] .. size]: those that the test keeps -/
theorem lc_keep {K : PySem.W.Frag} {σ : L2.St} {H H0 : Hp} {Q : VK} {tx : TE} {rC : R2} {e : Addr} {es : List Addr} {early : List (Nat × Lv × Bool)} {z : Int} {f : Nat → Bool} (h1 : σ[1]? = some (some (.int z))) (h5 : 5 < σ.length) (hT : EarT H0 es early) (s0 : Same H0 H) (el : early.length ≤ 1000)
    (hC : ∀ (s : Nat) (H' : Hp) (Q' : VK), Q' (.bl (f s)) H' → rC (.int (s : Int)) (.int z) H' Q') (he : H e = some (.lst (es.map V.ref)))
    (q : ∀ D qs H', H D = none → H' D = some (.lst (qs.map V.ref)) → EarT H0 qs (early.filter fun s => f s.1) → Same H H' → Q (.ref D) H') (htx : ∀ R : VK, R (.ref e) H → tx σ H R) :
    tLc (iList K tx) (gName 5) (tTest (tOp rC (tOp (rIxT K) (tVar 5) (tC (V.int 0))) (tVar 1))) (tVar 5) [5] σ H Q := by
  refine htx _ ⟨e, rfl, ⟨_, SqL.at he⟩, fun D nD => ?_⟩
  refine lc_it (walk_list (xs := es.map V.ref)) (fun j H' => Same H H' ∧ ∃ qs, H' D = some (.lst (qs.map V.ref)) ∧ EarT H0 qs ((early.take j).filter fun s => f s.1)) ?h0 ?hG ?hs ?hd
  case h0 => exact ⟨same_upd nD, [], upd_same, trivial⟩
  case hG =>
    rintro j H' _ ⟨sm, _⟩
    exact SqL.at (sm _ _ he)
  case hd =>
    rintro H' ⟨sm, qs, eD, hqs⟩
    rw [List.length_map, hT.len, List.take_length] at hqs
    exact q D qs H' nD eD hqs sm
  case hs =>
    rintro j y H4 H5 hj ⟨sm, qs, eD, hqs⟩ ⟨rfl, ex⟩
    rw [List.length_map, hT.len] at hj
    have hg : early[j]? = some early[j] := List.getElem?_eq_getElem hj
    obtain ⟨xx, qq, hx, ht, hL⟩ := hT.get hg
    rw [List.getElem?_map, hx] at ex
    cases ex
    have htk : early.take (j + 1) = early.take j ++ [early[j]] := by
      rw [List.take_succ, hg]
      rfl
    rw [htk, List.filter_append]
    have ll : qs.length ≤ j := by
      have := hqs.len
      have := List.length_filter_le (fun s : Nat × Lv × Bool => f s.1) (early.take j)
      rw [List.length_take] at this
      omega
    generalize early[j] = sg at ht hL ⊢
    have g5 : ∀ v : Option V, ((σ.set 5 none).set 5 v)[5]? = some v := fun v => by
      rw [List.getElem?_set_self (by simp; exact h5)]
    refine ⟨?_, .ref xx, g5 _, xx, _, 0, .int (sg.1 : Int), rfl, rfl, SqT.at ((s0.trans sm) _ _ ht), rfl, .int z, ?_, hC sg.1 _ _ ⟨f sg.1, rfl, ?_⟩⟩
    · show ((σ.set 5 none).set 5 _).set 5 none = σ.set 5 none
      simp
    · show ((σ.set 5 none).set 5 _)[1]? = _
      rw [List.getElem?_set_ne (by decide), List.getElem?_set_ne (by decide)]
      exact h1
    · cases c : f sg.1 with
      | true =>
        rw [show ([sg].filter fun s => f s.1) = [sg] by rw [List.filter_cons, c]; rfl]
        exact iteT ⟨_, g5 _, _, eD, szlt (by rw [List.length_map]; omega), keep_upd sm nD, qs ++ [xx], by rw [upd_same, List.map_append]; rfl, hqs.snoc ht hL⟩
      | false =>
        rw [show ([sg].filter fun s => f s.1) = [] by rw [List.filter_cons, c]; rfl, List.append_nil]
        exact iteF ⟨sm, qs, eD, hqs⟩
section
variable {P : Program} {w : World} {K : PySem.W.Frag} {mg : Str → Option Value} {base : Heap} {a : Ad}
end

/-- k not in d -/
theorem op_notInDk {X : Cx} (hu : X.A.units + 1 < cLine) : OpR X (compareOp .NotIn) (fun x y H Q => ∃ (a : Addr) (o : Option V), y = .ref a ∧ DGet H a x o ∧ Q (.bl (!o.isSome)) H) := by
  intro pins s σ H x y v u Q I rx ry h
  obtain ⟨a, o, rfl, g, q⟩ := h
  obtain rfl : u = Value.ref a := ry
  exact d_notIn hu I g rx fun s' I' => ⟨.bl _, H, I', rfl, q⟩

/-! ### sorted(d): the keys of a dict, ints -/
section
variable {prog : Program} {w : World} {A : Around} {E : Value → Shared → Prop} {s : Shared} {T : String} {r d : Addr} {n : Nat} {Pk : Nat → Value → Prop} {OK : Heap → Prop}
/-- sorted over a source: what is met is laid into a new list, which is sorted -/
theorem sorted_from {Q₁ : Value → Shared → Prop} (src : PySem.W.KdlSrc prog w T r d n Pk OK) (quiet : A.handled = none) (now : OK s.heap) (few : n ≤ sizeLine)
    (go : ∀ (g : Heap) (tk : Nat) (its : List Value), (∀ b o, s.heap.get? b = some o → g.get? b = some o) → its.length = n → (∀ (j : Nat) (v : Value), its[j]? = some v → Pk j v) →
      wpAny (model prog w) A.in1 (call (.builtin "list.sort") [.ref g.objs.size]) (fun _ z => Q₁ (.ref g.objs.size) z) E { s with heap := g.push { cls := .type "list", data := .seq its.toArray }, toks := tk }) :
    wpAny (model prog w) A (call (.builtin "sorted") [.ref r]) Q₁ E s := by
  refine PySem.Calls.call_function_entry PyProof.Rows.kind_sorted PyProof.Rows.plain_sorted PyProof.Rows.entry_sorted (PyProof.Rows.args_sorted1 _) ?_
  unfold Builtin.«sorted»
  refine wpAny_bind (m := checkCount "sorted" 1 1 _) (wpAny_pure (wpAny_bind ?_))
  refine PySem.W.kdu_collect (A := A.in1) src quiet now few fun g tk met kept its => ?_
  have ln : met.toList.length = n := by rw [Array.length_toList, its.1]
  refine wpAny_bind (wpAny_newList (wpAny_bind (wpAny_holding (wpAny_mono (go g tk met.toList kept ln fun j v hv => its.2 j v (Array.getElem?_toList.symm.trans hv)) (fun _ z q => ?_) fun _ _ q => q))) (by rw [ln]; exact few))
  exact wpAny_pure ⟨_, rfl, q⟩
end
def rSortedDK : List V → Hp → VK → Prop := fun xs H Q => ∃ (p : Addr) (kvs : List (Key × V)) (ns : List Int), xs = [.ref p] ∧ H p = some (.dK kvs) ∧ (kvs.map fun kv => kV kv.1) = ns.map V.int ∧
  ∀ (ms : List Int) (q : Addr), ms.Perm ns → ms.Pairwise (· ≤ ·) → H q = none → Q (.ref q) (upd H q (.lst (ms.map V.int)))
theorem cr_sortedDK {X : Cx} (hc : X.calm = true) : CallR X (.builtin "sorted") rSortedDK := by
  intro pins s σ H xs us Q I r h
  obtain ⟨p, kvs, ns, e, hk, hn, q⟩ := h
  subst e
  obtain ⟨u, eu, rx⟩ := vals1 r
  subst eu
  obtain rfl : u = Value.ref p := rx
  obtain ⟨z, lo, vs, rk, hd⟩ := (show ObjOk X.prog X.w H s.heap p (.dK kvs) from I.hok p _ hk)
  obtain ⟨ep, hat⟩ := hd.dictAt
  have hl : kvs.length = vs.length := Paired.length rk
  have nl : ns.length = vs.length := by
    have := congrArg List.length hn
    rw [List.length_map, List.length_map] at this
    omega
  refine sorted_from (PySem.W.kdl_dict (knd := mixKind X.prog X.w) (kvs := vs) (ep := ep) lo) (I.ok.hd hc) hat (by rw [← hl]; exact z) fun g tk its kept li met => ?_
  have I1 : Inv X pins σ H { s with heap := g, toks := tk } := I.kept kept
  have rv : Vals (ns.map V.int) its := by
    refine vals_of_at (by rw [List.length_map, li, nl]) fun j x v h1 h2 => ?_
    obtain ⟨k, y, hky, hi⟩ := met j v h2
    have e1 : (kvs.map (·.1))[j]? = some k := by
      rw [KV.keys rk, List.getElem?_map, hky] <;> rfl
    have e2 : (kvs.map fun kv => kV kv.1)[j]? = some (kV k) := by
      have e3 : (kvs.map fun kv => kV kv.1) = (kvs.map (·.1)).map kV := by rw [List.map_map] <;> rfl
      rw [e3, List.getElem?_map, e1] <;> rfl
    rw [← hn, e2] at h1
    cases h1
    exact keyIs_rel hi
  have hi := rv.ints
  have at' : (g.push { cls := .type "list", data := .seq its.toArray }).get? g.objs.size = some (seqObj "list" its.toArray 0) := Heap.get?_push_size _ rfl
  have iz : its.length ≤ sizeLine := by rw [li, ← hl]; exact z
  refine wpAny_call_entry PyProof.Rows.slot_list_sort ⟨_, at', rfl⟩ PyProof.Rows.entry_list_sort (SrtO.list_sort_ord SrtO.swo_int at' iz (fun h2 => SrtO.ints_sortable hi h2) fun out h1 h2 => ⟨.none, rfl, ?_⟩) (PyProof.Rows.args_list_sort _)
  obtain ⟨k1, k2, k3⟩ := SrtO.ints_out hi h1 h2
  obtain ⟨e', he'⟩ := PyProof.Rows.sortedHeap_at (vs := its) (out := out.toArray) at'
  refine ⟨.ref g.objs.size, upd H g.objs.size (.lst ((out.map SrtO.iv).map V.int)), I1.laid (t' := tk) (fun b u e => ?_) (Nat.le_refl _) (show ObjOk X.prog X.w _ _ _ (.lst ((out.map SrtO.iv).map V.int)) from ⟨?_, out, e', vals_of_ints k1, he'⟩), rfl, q _ _ k2 k3 (I1.hok.fresh (Nat.le_refl _))⟩
  · have hb : b < g.objs.size := Heap.lt_size e
    rw [PyProof.Rows.sortedHeap_old (Nat.ne_of_lt hb) (by rw [size_push']; exact Nat.lt_succ_of_lt hb)]
    exact Heap.get?_push_of_some _ e
  · rw [List.length_map, k2.length_eq, nl, ← hl]
    exact z

/-! ### a program's text out of its levels -/
theorem sorted_one : ∀ {ms ns : List Int}, ms.Perm ns → ms.Pairwise (· ≤ ·) → ns.Pairwise (· < ·) → ms = ns
  | [], ns, h, _, _ => h.nil_eq
  | m :: ms, [], h, _, _ => by
    have := h.length_eq
    cases this
  | m :: ms, n :: ns, h, hm, hn => by
    have hm := List.pairwise_cons.mp hm
    have hn := List.pairwise_cons.mp hn
    have e : m = n := by
      have a := h.mem_iff.mp (List.mem_cons_self (a := m))
      have b := h.mem_iff.mpr (List.mem_cons_self (a := n))
      rcases List.mem_cons.mp a with a | a
      · exact a
      · rcases List.mem_cons.mp b with b | b
        · exact b.symm
        · have x := hm.1 _ b
          have y := hn.1 _ a
          omega
    subst e
    rw [sorted_one h.cons_inv hm.2 hn.2]
/-- the levels for single sizes stand in a dict, in any order -/
def SinglesAt (CL CW : Addr) (H : Hp) (d : Addr) (early : List (Nat × Lv × Bool)) : Prop := ∃ (kvs : List (Key × V)) (ns : List Int), H d = some (.dK kvs) ∧ (kvs.map fun kv => kV kv.1) = ns.map V.int ∧ ns.Perm (early.map fun s => (s.1 : Int)) ∧
  ∀ s ∈ early, ∃ q, valV kvs (.inl (s.1 : Int)) = some (.ref q) ∧ LevelL CL CW H q s.2.1 s.2.2
section
variable {P : Program} {w : World} {K : PySem.W.Frag} {mg : Str → Option Value} {base : Heap} {a : Ad}
def spTextOfT (CL CW : Addr) : Sp := fun vs H Q _ => ∃ (t d : Addr) (ps : List Addr) (rests : List (Lv × Bool)) (early : List (Nat × Lv × Bool)), vs = [.ref t, .ref d] ∧ H t = some (.tup (ps.map V.ref)) ∧ LvsAt CL CW H ps rests ∧ ProgOk rests early ∧ SinglesAt CL CW H d early ∧
  ∀ H', Same H H' → Q (.str (Txt.join "\n" (progL rests early))) H'
theorem ok_text_of_programT (T : Tx w K mg a) : FnOk P w K mg base CX0 1 a.f_text_of_program a.d_text_of_program ["rests", "singles"] (spTextOfT a.C_Level a.C_Word) := by
  refine T.F_text_of_program.ok sc_text_of_program (fun vs H Q E h => ?_) (fun cdv A outer s H vs Q E hr h => ?_)
  · obtain ⟨t, d, ps, rests, early, rfl, _⟩ := h
    rfl
  · obtain ⟨t, d, ps, rests, early, rfl, ht, hps, hok, ⟨kvs, ns, hd, hk, hn, hv⟩, q⟩ := h
    have hu := hu_of hr
    refine ⟨_, 
(pss_cons (ps_set (i := 2) sc_text_of_program.nd rfl (.inl rfl) (pe_lst (pa_cons (pe_joined (.cons pe_str (.cons (pe_fmt (pe_callB call_len_seq (by rfl) T.z_len PySem.boot_len (pa_cons (pv 0) pa_nil))) .nil))) pa_nil)))
  (pss_cons (ps_for PassesOwn.never rfl (pi_enumS (by rfl) T.z_enumerate (pa_cons (pv 0) pa_nil)) (pg_tup rfl (pgs_cons (pg_name (i := 3) sc_text_of_program.nd rfl (.inl rfl)) (pgs_cons (pg_name (i := 4) sc_text_of_program.nd rfl (.inl rfl)) pgs_nil)))
  (pss_one (ps_expr (pe_bm PySem.F.plainAttrs_list PySem.F.slot_list_append PySem.F.type_list_append mt_append (pv 2) (pa_cons (pe_joined (.cons pe_str (.cons (pe_fmt (pv 3)) (.cons pe_str (.cons (pe_fmt (pe_fld (pv 4) rfl)) .nil))))) pa_nil)))))
  (pss_cons (ps_for PassesOwn.never rfl (pi_list (pe_callB (cr_sortedDK rfl) (by rfl) T.z_sorted (by decide +kernel) (pa_cons (pv 1) pa_nil))) (pg_name (i := 5) sc_text_of_program.nd rfl (.inl rfl))
  (pss_one (ps_expr (pe_bm PySem.F.plainAttrs_list PySem.F.slot_list_append PySem.F.type_list_append mt_append (pv 2) (pa_cons (pe_joined (.cons pe_str (.cons (pe_fmt (pv 5)) (.cons pe_str (.cons (pe_fmt (pe_fld (pe_dget hu (pv 1) (pv 5) (fun _ _ => rfl)) rfl)) .nil))))) pa_nil)))))
  (pss_one (ps_ret (pe_join pe_str (pv 2))))))), ?_⟩
    have n6 := hok.n6
    have n1 := hok.n1
    have el := hok.elen
    have pl := hps.len
    have lm : (ps.map V.ref).length = rests.length := by rw [List.length_map, pl]
    -- lines = [f'period {len(rests)}']
    refine ⟨_, rfl, sl (m := 100) (by decide +kernel) (by decide), _, rfl, t, _, rfl, .inr (SqT.at ht), ?_⟩
    rw [lm]
    refine .inr ⟨(rests.length : Int), rfl, small_log (by omega), _, rfl, sl (perT_len (k := rests.length) (by omega)) (by decide), sz (show 1 ≤ 100000 by decide), fun l nl => ?_⟩
    have s1 := same_upd (o := .lst [.str (perT (rests.length : Int))]) nl
    have e1 : (upd H l (.lst [.str (perT (rests.length : Int))])) l = some (.lst ((perT (rests.length : Int) :: (restL 0 rests).take 0).map V.str)) := by
      rw [upd_same]
      rfl
    change tSeq _ _ _ _ (upd H l (.lst [.str (perT (rests.length : Int))]))
    generalize upd H l (.lst [.str (perT (rests.length : Int))]) = H1 at s1 e1 ⊢
    -- for rest, told in enumerate(rests)
    refine ⟨_, rfl, t, _, rfl, .inr ⟨SqT.at (s1 _ _ ht), ?_⟩⟩
    refine for_it (walk_enumT (xs := ps.map V.ref)) (fun i σ H' => (∃ y3 y4 : Option V, σ = [some (.ref t), some (.ref d), some (.ref l), y3, y4, none]) ∧ Same H H' ∧ H' l = some (.lst ((perT (rests.length : Int) :: (restL 0 rests).take i).map V.str))) ?a0 ?aG ?as ?ad
    case a0 => exact ⟨⟨none, none, rfl⟩, s1, e1⟩
    case aG =>
      rintro i σ H' _ ⟨_, sm, _⟩
      exact SqT.at (sm _ _ ht)
    case as =>
      rintro i v σ H2' H2 hi ⟨⟨y3, y4, rfl⟩, sm, e2⟩ ⟨tt, x1, x, rfl, nt, rfl, ex1, ex2⟩
      rw [lm] at hi
      cases ex1
      have hg : rests[i]? = some rests[i] := List.getElem?_eq_getElem hi
      have rok := hok.rok _ (List.getElem_mem hi)
      obtain ⟨p, hp, hL⟩ := hps.get hg
      have ex2 : (ps.map V.ref)[i]? = some x := ex2
      rw [List.getElem?_map, hp] at ex2
      cases ex2
      have htk : (restL 0 rests).take (i + 1) = (restL 0 rests).take i ++ [rHead (i : Int) ++ lvText rests[i].1 rests[i].2] := by
        have := restL_get (k := 0) hg
        rw [Nat.zero_add] at this
        rw [List.take_succ, this]
        rfl
      rw [htk]
      have tl : ((restL 0 rests).take i).length ≤ i := by rw [List.length_take]; omega
      generalize rests[i] = rr at rok hL ⊢
      generalize (restL 0 rests).take i = done at e2 tl ⊢
      have u1 := same_upd (o := .tup [.int (i : Nat), .ref p]) nt
      have e3 := u1 _ _ e2
      have s3 := sm.trans u1
      refine ⟨tt, [.int (i : Nat), .ref p], rfl, SqT.at upd_same, rfl, _, [.ref p], rfl, _, [], rfl, rfl, ?_⟩
      generalize upd H2' tt (.tup [.int (i : Nat), .ref p]) = H3 at e3 s3 ⊢
      have rl := rHead_len (k := i) (by omega)
      have tln := lvText_len (size := none) trivial rok
      obtain ⟨dx, fs, _, _, _, _, h1, h2, _⟩ := hL.same s3
      refine ⟨.ref l, rfl, .inl ⟨rfl, _, SqL.at e3⟩, _, rfl, sl (m := 100) (by decide +kernel) (by decide), _, rfl, .inr ⟨(i : Int), rfl, small_log (by omega), _, rfl, sl (m := 130) (Nat.le_trans (rest_len (k := i) (by omega)) (by decide)) (by decide), _, rfl, sl rl (by decide), ?_⟩⟩
      refine ⟨.ref p, rfl, p, a.C_Level, dx, fs, _, rfl, h1, T.cl_Level, T.n_Level_text, h2, .inl ⟨_, rfl, sz (Nat.le_trans tln (by decide)), _, rfl, ?_, ?_⟩⟩
      · show (rHead (i : Int) ++ lvText rr.1 rr.2).length ≤ sizeLine
        rw [str_len_app]
        exact sz (by omega)
      refine ⟨l, _, _, rfl, rfl, e3, szlt (by rw [List.length_map, List.length_cons]; omega), ⟨_, _, rfl⟩, keep_upd s3 nl, ?_⟩
      rw [upd_same, List.map_cons, List.map_cons, List.map_append]
      rfl
    case ad =>
    rintro σ H2 ⟨⟨y3, y4, rfl⟩, s2, e2⟩
    rw [lm, List.take_of_length_le (by rw [restL_len]; exact Nat.le_refl _)] at e2
    have lk : early.length ≤ 11 := el
    -- for size in sorted(singles)
    refine ⟨_, rfl, d, kvs, ns, rfl, s2 _ _ hd, hk, fun ms sl' pm pw nsl => ⟨sl', rfl, ⟨_, SqL.at upd_same⟩, ?_⟩⟩
    have em : ms = early.map fun s => (s.1 : Int) := sorted_one (pm.trans hn) pw (List.pairwise_map.mpr (hok.up.imp fun {x y} h => by omega))
    subst em
    have u2 := same_upd (o := .lst ((early.map fun s => (s.1 : Int)).map V.int)) nsl
    have s3 := s2.trans u2
    have e3 := u2 _ _ e2
    have esl : (upd H2 sl' (.lst ((early.map fun s => (s.1 : Int)).map V.int))) sl' = some (.lst ((early.map fun s => (s.1 : Int)).map V.int)) := upd_same
    have nsl0 : sl' ≠ l := fun z => by
      rw [z, e2] at nsl
      cases nsl
    generalize upd H2 sl' (.lst ((early.map fun s => (s.1 : Int)).map V.int)) = H3 at s3 e3 esl ⊢
    refine for_it (walk_list (xs := (early.map fun s => (s.1 : Int)).map V.int)) (fun i σ H' => (∃ y5 : Option V, σ = [some (.ref t), some (.ref d), some (.ref l), y3, y4, y5]) ∧ Same H H' ∧ H' sl' = some (.lst ((early.map fun s => (s.1 : Int)).map V.int)) ∧ H' l = some (.lst ((perT (rests.length : Int) :: (restL 0 rests ++ (early.map earlyT).take i)).map V.str))) ?b0 ?bG ?bs ?bd
    case b0 => exact ⟨⟨none, rfl⟩, s3, esl, by rw [List.take_zero, List.append_nil]; exact e3⟩
    case bG =>
      rintro i σ H' _ ⟨_, _, e, _⟩
      exact SqL.at e
    case bd =>
      rintro σ H4 ⟨⟨y5, rfl⟩, s4, _, e4⟩
      rw [List.length_map, List.length_map, List.take_of_length_le (by rw [List.length_map]; exact Nat.le_refl _)] at e4
      have ln := sum_leP (B := 3100) fun z hz => (progL_ok hok hz).2
      have l1 : (Str.ofString "\n").length = 1 := by decide +kernel
      rw [progL_len] at ln
      exact ⟨⟨_, rfl⟩, _, rfl, _, l, progL rests early, rfl, rfl, .inl (SqL.at e4), by rw [progL_len, l1]; omega, q H4 s4⟩
    case bs =>
    rintro i v σ H4' H4 hi ⟨⟨y5, rfl⟩, s4, esl4, e4⟩ ⟨rfl, ex⟩
    rw [List.length_map, List.length_map] at hi
    have hg : early[i]? = some early[i] := List.getElem?_eq_getElem hi
    obtain ⟨x2, x12, eok⟩ := hok.eok _ (List.getElem_mem hi)
    obtain ⟨p, hp, hL⟩ := hv _ (List.getElem_mem hi)
    have ex : ((early.map fun s => (s.1 : Int)).map V.int)[i]? = some v := ex
    rw [List.getElem?_map, List.getElem?_map, hg] at ex
    cases ex
    have htk : (early.map earlyT).take (i + 1) = (early.map earlyT).take i ++ [sHead (early[i].1 : Int) ++ lvText early[i].2.1 early[i].2.2] := by
      rw [List.take_succ, List.getElem?_map, hg]
      rfl
    rw [htk]
    have tl : ((early.map earlyT).take i).length ≤ i := by rw [List.length_take]; omega
    generalize early[i] = ss at x2 x12 eok hp hL ⊢
    generalize (early.map earlyT).take i = done at e4 tl ⊢
    have rl := sHead_len (k := ss.1) (by omega)
    have tln := lvText_len (size := some ss.1) ⟨x2, x12⟩ eok
    have hd4 := s4 _ _ hd
    obtain ⟨dx, fs, _, _, _, _, h1, h2, _⟩ := hL.same s4
    refine ⟨.ref l, rfl, .inl ⟨rfl, _, SqL.at e4⟩, _, rfl, sl (m := 100) (by decide +kernel) (by decide), _, rfl, .inr ⟨(ss.1 : Int), rfl, small_log (by omega), _, rfl, sl (m := 130) (Nat.le_trans (level_len (k := ss.1) (by omega)) (by decide)) (by decide), _, rfl, sl rl (by decide), ?_⟩⟩
    refine ⟨_, rfl, _, rfl, d, _, rfl, hp ▸ DGet.k (k := .inl (ss.1 : Int)) hd4, ?_⟩
    refine ⟨p, a.C_Level, dx, fs, _, rfl, h1, T.cl_Level, T.n_Level_text, h2, .inl ⟨_, rfl, sz (Nat.le_trans tln (by decide)), _, rfl, ?_, ?_⟩⟩
    · show (sHead (ss.1 : Int) ++ lvText ss.2.1 ss.2.2).length ≤ sizeLine
      rw [str_len_app]
      exact sz (by omega)
    refine ⟨l, _, _, rfl, rfl, e4, szlt (by rw [List.length_map, List.length_cons, List.length_append, restL_len]; omega), ⟨_, rfl⟩, keep_upd s4 nl, ?_, ?_⟩
    · rw [upd_ne nsl0]
      exact esl4
    · rw [upd_same, ← List.append_assoc, List.map_cons, List.map_cons, List.map_append (l₁ := restL 0 rests ++ done)]
      rfl
def spTextOfL (CL CW : Addr) : Sp := fun vs H Q _ => ∃ (t d : Addr) (ps : List Addr) (rests : List (Lv × Bool)) (early : List (Nat × Lv × Bool)), vs = [.ref t, .ref d] ∧ H t = some (.lst (ps.map V.ref)) ∧ LvsAt CL CW H ps rests ∧ ProgOk rests early ∧ SinglesAt CL CW H d early ∧
  ∀ H', Same H H' → Q (.str (Txt.join "\n" (progL rests early))) H'
theorem ok_text_of_programL (T : Tx w K mg a) : FnOk P w K mg base CX0 1 a.f_text_of_program a.d_text_of_program ["rests", "singles"] (spTextOfL a.C_Level a.C_Word) := by
  refine T.F_text_of_program.ok sc_text_of_program (fun vs H Q E h => ?_) (fun cdv A outer s H vs Q E hr h => ?_)
  · obtain ⟨t, d, ps, rests, early, rfl, _⟩ := h
    rfl
  · obtain ⟨t, d, ps, rests, early, rfl, ht, hps, hok, ⟨kvs, ns, hd, hk, hn, hv⟩, q⟩ := h
    have hu := hu_of hr
    refine ⟨_, 
(pss_cons (ps_set (i := 2) sc_text_of_program.nd rfl (.inl rfl) (pe_lst (pa_cons (pe_joined (.cons pe_str (.cons (pe_fmt (pe_callB call_len_seq (by rfl) T.z_len PySem.boot_len (pa_cons (pv 0) pa_nil))) .nil))) pa_nil)))
  (pss_cons (ps_for PassesOwn.never rfl (pi_enumS (by rfl) T.z_enumerate (pa_cons (pv 0) pa_nil)) (pg_tup rfl (pgs_cons (pg_name (i := 3) sc_text_of_program.nd rfl (.inl rfl)) (pgs_cons (pg_name (i := 4) sc_text_of_program.nd rfl (.inl rfl)) pgs_nil)))
  (pss_one (ps_expr (pe_bm PySem.F.plainAttrs_list PySem.F.slot_list_append PySem.F.type_list_append mt_append (pv 2) (pa_cons (pe_joined (.cons pe_str (.cons (pe_fmt (pv 3)) (.cons pe_str (.cons (pe_fmt (pe_fld (pv 4) rfl)) .nil))))) pa_nil)))))
  (pss_cons (ps_for PassesOwn.never rfl (pi_list (pe_callB (cr_sortedDK rfl) (by rfl) T.z_sorted (by decide +kernel) (pa_cons (pv 1) pa_nil))) (pg_name (i := 5) sc_text_of_program.nd rfl (.inl rfl))
  (pss_one (ps_expr (pe_bm PySem.F.plainAttrs_list PySem.F.slot_list_append PySem.F.type_list_append mt_append (pv 2) (pa_cons (pe_joined (.cons pe_str (.cons (pe_fmt (pv 5)) (.cons pe_str (.cons (pe_fmt (pe_fld (pe_dget hu (pv 1) (pv 5) (fun _ _ => rfl)) rfl)) .nil))))) pa_nil)))))
  (pss_one (ps_ret (pe_join pe_str (pv 2))))))), ?_⟩
    have n6 := hok.n6
    have n1 := hok.n1
    have el := hok.elen
    have pl := hps.len
    have lm : (ps.map V.ref).length = rests.length := by rw [List.length_map, pl]
    -- lines = [f'period {len(rests)}']
    refine ⟨_, rfl, sl (m := 100) (by decide +kernel) (by decide), _, rfl, t, _, rfl, .inl (SqL.at ht), ?_⟩
    rw [lm]
    refine .inr ⟨(rests.length : Int), rfl, small_log (by omega), _, rfl, sl (perT_len (k := rests.length) (by omega)) (by decide), sz (show 1 ≤ 100000 by decide), fun l nl => ?_⟩
    have s1 := same_upd (o := .lst [.str (perT (rests.length : Int))]) nl
    have e1 : (upd H l (.lst [.str (perT (rests.length : Int))])) l = some (.lst ((perT (rests.length : Int) :: (restL 0 rests).take 0).map V.str)) := by
      rw [upd_same]
      rfl
    change tSeq _ _ _ _ (upd H l (.lst [.str (perT (rests.length : Int))]))
    generalize upd H l (.lst [.str (perT (rests.length : Int))]) = H1 at s1 e1 ⊢
    -- for rest, told in enumerate(rests)
    refine ⟨_, rfl, t, _, rfl, .inl ⟨SqL.at (s1 _ _ ht), ?_⟩⟩
    refine for_it (walk_enum (xs := ps.map V.ref)) (fun i σ H' => (∃ y3 y4 : Option V, σ = [some (.ref t), some (.ref d), some (.ref l), y3, y4, none]) ∧ Same H H' ∧ H' l = some (.lst ((perT (rests.length : Int) :: (restL 0 rests).take i).map V.str))) ?a0 ?aG ?as ?ad
    case a0 => exact ⟨⟨none, none, rfl⟩, s1, e1⟩
    case aG =>
      rintro i σ H' _ ⟨_, sm, _⟩
      exact SqL.at (sm _ _ ht)
    case as =>
      rintro i v σ H2' H2 hi ⟨⟨y3, y4, rfl⟩, sm, e2⟩ ⟨tt, x1, x, rfl, nt, rfl, ex1, ex2⟩
      rw [lm] at hi
      cases ex1
      have hg : rests[i]? = some rests[i] := List.getElem?_eq_getElem hi
      have rok := hok.rok _ (List.getElem_mem hi)
      obtain ⟨p, hp, hL⟩ := hps.get hg
      have ex2 : (ps.map V.ref)[i]? = some x := ex2
      rw [List.getElem?_map, hp] at ex2
      cases ex2
      have htk : (restL 0 rests).take (i + 1) = (restL 0 rests).take i ++ [rHead (i : Int) ++ lvText rests[i].1 rests[i].2] := by
        have := restL_get (k := 0) hg
        rw [Nat.zero_add] at this
        rw [List.take_succ, this]
        rfl
      rw [htk]
      have tl : ((restL 0 rests).take i).length ≤ i := by rw [List.length_take]; omega
      generalize rests[i] = rr at rok hL ⊢
      generalize (restL 0 rests).take i = done at e2 tl ⊢
      have u1 := same_upd (o := .tup [.int (i : Nat), .ref p]) nt
      have e3 := u1 _ _ e2
      have s3 := sm.trans u1
      refine ⟨tt, [.int (i : Nat), .ref p], rfl, SqT.at upd_same, rfl, _, [.ref p], rfl, _, [], rfl, rfl, ?_⟩
      generalize upd H2' tt (.tup [.int (i : Nat), .ref p]) = H3 at e3 s3 ⊢
      have rl := rHead_len (k := i) (by omega)
      have tln := lvText_len (size := none) trivial rok
      obtain ⟨dx, fs, _, _, _, _, h1, h2, _⟩ := hL.same s3
      refine ⟨.ref l, rfl, .inl ⟨rfl, _, SqL.at e3⟩, _, rfl, sl (m := 100) (by decide +kernel) (by decide), _, rfl, .inr ⟨(i : Int), rfl, small_log (by omega), _, rfl, sl (m := 130) (Nat.le_trans (rest_len (k := i) (by omega)) (by decide)) (by decide), _, rfl, sl rl (by decide), ?_⟩⟩
      refine ⟨.ref p, rfl, p, a.C_Level, dx, fs, _, rfl, h1, T.cl_Level, T.n_Level_text, h2, .inl ⟨_, rfl, sz (Nat.le_trans tln (by decide)), _, rfl, ?_, ?_⟩⟩
      · show (rHead (i : Int) ++ lvText rr.1 rr.2).length ≤ sizeLine
        rw [str_len_app]
        exact sz (by omega)
      refine ⟨l, _, _, rfl, rfl, e3, szlt (by rw [List.length_map, List.length_cons]; omega), ⟨_, _, rfl⟩, keep_upd s3 nl, ?_⟩
      rw [upd_same, List.map_cons, List.map_cons, List.map_append]
      rfl
    case ad =>
    rintro σ H2 ⟨⟨y3, y4, rfl⟩, s2, e2⟩
    rw [lm, List.take_of_length_le (by rw [restL_len]; exact Nat.le_refl _)] at e2
    have lk : early.length ≤ 11 := el
    -- for size in sorted(singles)
    refine ⟨_, rfl, d, kvs, ns, rfl, s2 _ _ hd, hk, fun ms sl' pm pw nsl => ⟨sl', rfl, ⟨_, SqL.at upd_same⟩, ?_⟩⟩
    have em : ms = early.map fun s => (s.1 : Int) := sorted_one (pm.trans hn) pw (List.pairwise_map.mpr (hok.up.imp fun {x y} h => by omega))
    subst em
    have u2 := same_upd (o := .lst ((early.map fun s => (s.1 : Int)).map V.int)) nsl
    have s3 := s2.trans u2
    have e3 := u2 _ _ e2
    have esl : (upd H2 sl' (.lst ((early.map fun s => (s.1 : Int)).map V.int))) sl' = some (.lst ((early.map fun s => (s.1 : Int)).map V.int)) := upd_same
    have nsl0 : sl' ≠ l := fun z => by
      rw [z, e2] at nsl
      cases nsl
    generalize upd H2 sl' (.lst ((early.map fun s => (s.1 : Int)).map V.int)) = H3 at s3 e3 esl ⊢
    refine for_it (walk_list (xs := (early.map fun s => (s.1 : Int)).map V.int)) (fun i σ H' => (∃ y5 : Option V, σ = [some (.ref t), some (.ref d), some (.ref l), y3, y4, y5]) ∧ Same H H' ∧ H' sl' = some (.lst ((early.map fun s => (s.1 : Int)).map V.int)) ∧ H' l = some (.lst ((perT (rests.length : Int) :: (restL 0 rests ++ (early.map earlyT).take i)).map V.str))) ?b0 ?bG ?bs ?bd
    case b0 => exact ⟨⟨none, rfl⟩, s3, esl, by rw [List.take_zero, List.append_nil]; exact e3⟩
    case bG =>
      rintro i σ H' _ ⟨_, _, e, _⟩
      exact SqL.at e
    case bd =>
      rintro σ H4 ⟨⟨y5, rfl⟩, s4, _, e4⟩
      rw [List.length_map, List.length_map, List.take_of_length_le (by rw [List.length_map]; exact Nat.le_refl _)] at e4
      have ln := sum_leP (B := 3100) fun z hz => (progL_ok hok hz).2
      have l1 : (Str.ofString "\n").length = 1 := by decide +kernel
      rw [progL_len] at ln
      exact ⟨⟨_, rfl⟩, _, rfl, _, l, progL rests early, rfl, rfl, .inl (SqL.at e4), by rw [progL_len, l1]; omega, q H4 s4⟩
    case bs =>
    rintro i v σ H4' H4 hi ⟨⟨y5, rfl⟩, s4, esl4, e4⟩ ⟨rfl, ex⟩
    rw [List.length_map, List.length_map] at hi
    have hg : early[i]? = some early[i] := List.getElem?_eq_getElem hi
    obtain ⟨x2, x12, eok⟩ := hok.eok _ (List.getElem_mem hi)
    obtain ⟨p, hp, hL⟩ := hv _ (List.getElem_mem hi)
    have ex : ((early.map fun s => (s.1 : Int)).map V.int)[i]? = some v := ex
    rw [List.getElem?_map, List.getElem?_map, hg] at ex
    cases ex
    have htk : (early.map earlyT).take (i + 1) = (early.map earlyT).take i ++ [sHead (early[i].1 : Int) ++ lvText early[i].2.1 early[i].2.2] := by
      rw [List.take_succ, List.getElem?_map, hg]
      rfl
    rw [htk]
    have tl : ((early.map earlyT).take i).length ≤ i := by rw [List.length_take]; omega
    generalize early[i] = ss at x2 x12 eok hp hL ⊢
    generalize (early.map earlyT).take i = done at e4 tl ⊢
    have rl := sHead_len (k := ss.1) (by omega)
    have tln := lvText_len (size := some ss.1) ⟨x2, x12⟩ eok
    have hd4 := s4 _ _ hd
    obtain ⟨dx, fs, _, _, _, _, h1, h2, _⟩ := hL.same s4
    refine ⟨.ref l, rfl, .inl ⟨rfl, _, SqL.at e4⟩, _, rfl, sl (m := 100) (by decide +kernel) (by decide), _, rfl, .inr ⟨(ss.1 : Int), rfl, small_log (by omega), _, rfl, sl (m := 130) (Nat.le_trans (level_len (k := ss.1) (by omega)) (by decide)) (by decide), _, rfl, sl rl (by decide), ?_⟩⟩
    refine ⟨_, rfl, _, rfl, d, _, rfl, hp ▸ DGet.k (k := .inl (ss.1 : Int)) hd4, ?_⟩
    refine ⟨p, a.C_Level, dx, fs, _, rfl, h1, T.cl_Level, T.n_Level_text, h2, .inl ⟨_, rfl, sz (Nat.le_trans tln (by decide)), _, rfl, ?_, ?_⟩⟩
    · show (sHead (ss.1 : Int) ++ lvText ss.2.1 ss.2.2).length ≤ sizeLine
      rw [str_len_app]
      exact sz (by omega)
    refine ⟨l, _, _, rfl, rfl, e4, szlt (by rw [List.length_map, List.length_cons, List.length_append, restL_len]; omega), ⟨_, rfl⟩, keep_upd s4 nl, ?_, ?_⟩
    · rw [upd_ne nsl0]
      exact esl4
    · rw [upd_same, ← List.append_assoc, List.map_cons, List.map_cons, List.map_append (l₁ := restL 0 rests ++ done)]
      rfl
/-- rests in a tuple, or in a list -/
def spTextOf (CL CW : Addr) : Sp := fun vs H Q E => spTextOfT CL CW vs H Q E ∨ spTextOfL CL CW vs H Q E
theorem ok_text_of_program (T : Tx w K mg a) : FnOk P w K mg base CX0 1 a.f_text_of_program a.d_text_of_program ["rests", "singles"] (spTextOf a.C_Level a.C_Word) := fn_or (ok_text_of_programT T) (ok_text_of_programL T)
end

/-! ### a program with another level -/
theorem putE_mem {early : List (Nat × Lv × Bool)} {k : Nat} {l : Lv × Bool} {s : Nat × Lv × Bool} : s ∈ putE early k l ↔ s = (k, l) ∨ (s ∈ early ∧ s.1 ≠ k) := by
  unfold putE
  rw [List.mem_append, List.mem_cons, List.mem_filter, List.mem_filter, decide_eq_true_eq, decide_eq_true_eq]
  constructor
  · rintro (⟨a, b⟩ | a | ⟨a, b⟩)
    · exact .inr ⟨a, by omega⟩
    · exact .inl a
    · exact .inr ⟨a, by omega⟩
  · rintro (a | ⟨a, b⟩)
    · exact .inr (.inl a)
    · rcases Nat.lt_or_ge s.1 k with c | c
      · exact .inl ⟨a, c⟩
      · exact .inr (.inr ⟨a, by omega⟩)
theorem up_nodup {early : List (Nat × Lv × Bool)} (h : early.Pairwise fun a b => a.1 < b.1) : (early.map fun s => (s.1 : Int)).Nodup := List.pairwise_map.mpr (h.imp fun {x y} z e => by omega)
theorem find_up {s : Nat × Lv × Bool} : ∀ {early : List (Nat × Lv × Bool)}, (early.Pairwise fun a b => a.1 < b.1) → s ∈ early → early.find? (fun x => decide (x.1 = s.1)) = some s
  | x :: r, h, hs => by
    have h := List.pairwise_cons.mp h
    rcases List.mem_cons.mp hs with e | e
    · subst e
      rw [List.find?_cons, decide_eq_true rfl]
    · have := h.1 _ e
      rw [List.find?_cons, decide_eq_false (show ¬ x.1 = s.1 by omega)]
      exact find_up h.2 e
theorem singles_of {C CW : Addr} {H : Hp} {d : Addr} {qs : List Addr} {early : List (Nat × Lv × Bool)} (up : early.Pairwise fun a b => a.1 < b.1) (hd : H d = some (.dK (kvE qs early))) (hq : LvsAt C CW H qs (early.map (·.2))) : SinglesAt C CW H d early := by
  have ln : qs.length = early.length := by
    have := hq.len
    rw [List.length_map] at this
    exact this
  refine ⟨_, early.map fun s => (s.1 : Int), hd, by rw [kvE_keys ln, List.map_map]; rfl, List.Perm.refl _, fun s hs => ?_⟩
  have f := kvE_find (k := s.1) hq
  rw [find_up up hs] at f
  exact f
theorem kvs_any {n : Int} : ∀ {kvs : List (Key × V)} {ns : List Int}, (kvs.map fun kv => kV kv.1) = ns.map V.int → (kvs.any fun kv => decide (kv.1 = (.inl n : Key))) = decide (n ∈ ns)
  | [], [], _ => rfl
  | [], _ :: _, h => by cases h
  | _ :: _, [], h => by cases h
  | kv :: kvs, m :: ns, h => by
    have h := List.cons.inj h
    have ih := kvs_any (n := n) h.2
    have e : kv.1 = (.inl m : Key) := by
      have h1 : kV kv.1 = V.int m := h.1
      cases hk : kv.1 with
      | inl i =>
        rw [hk] at h1
        rw [V.int.inj h1]
      | inr x =>
        rw [hk] at h1
        cases h1
    rw [List.any_cons, ih, e]
    by_cases c : m = n
    · subst c
      rw [decide_eq_true rfl, decide_eq_true (List.mem_cons_self ..)]
      rfl
    · rw [decide_eq_false (show ¬ ((.inl m : Key) = .inl n) from fun z => c (Sum.inl.inj z)), Bool.false_or]
      refine decide_eq_decide.mpr ⟨fun z => List.mem_cons_of_mem _ z, fun z => (List.mem_cons.mp z).resolve_left (Ne.symm c)⟩
theorem keys_put {kvs : List (Key × V)} {ns : List Int} {n : Int} {v : V} (h : (kvs.map fun kv => kV kv.1) = ns.map V.int) : ((putK kvs (.inl n) v).map fun kv => kV kv.1) = (if n ∈ ns then ns else ns ++ [n]).map V.int := by
  unfold putK
  rw [kvs_any h]
  by_cases c : n ∈ ns
  · rw [if_pos c, decide_eq_true c, if_pos rfl, ← h, List.map_map]
    refine List.map_congr_left fun kv _ => ?_
    show kV (if kv.1 = .inl n then (kv.1, v) else kv).1 = kV kv.1
    split <;> rfl
  · rw [if_neg c, decide_eq_false c, if_neg (by decide), List.map_append, h, List.map_append]
    rfl
theorem SinglesAt.put {C CW : Addr} {H : Hp} {d q : Addr} {early : List (Nat × Lv × Bool)} {k : Nat} {l : Lv × Bool} {kvs : List (Key × V)} (up : early.Pairwise fun a b => a.1 < b.1) (up2 : (putE early k l).Pairwise fun a b => a.1 < b.1) (h : SinglesAt C CW H d early) (hd : H d = some (.dK kvs)) (hq : LevelL C CW H q l.1 l.2) : SinglesAt C CW (upd H d (.dK (putK kvs (.inl (k : Int)) (.ref q)))) d (putE early k l) := by
  obtain ⟨kvs', ns, hd', hk, hn, hv⟩ := h
  rw [hd] at hd'
  cases hd'
  refine ⟨_, _, upd_same, keys_put hk, ?_, fun s hs => ?_⟩
  · have nn : ns.Nodup := hn.nodup_iff.mpr (up_nodup up)
    refine (List.perm_ext_iff_of_nodup ?_ (up_nodup up2)).mpr fun x => ?_
    · by_cases c : (k : Int) ∈ ns
      · rw [if_pos c]
        exact nn
      · rw [if_neg c]
        refine List.nodup_append.mpr ⟨nn, by simp, fun x hx y hy e => c ?_⟩
        rw [List.mem_singleton.mp hy] at e
        rw [← e]
        exact hx
    · have e1 : x ∈ (if (k : Int) ∈ ns then ns else ns ++ [(k : Int)]) ↔ x ∈ ns ∨ x = (k : Int) := by
        by_cases c : (k : Int) ∈ ns
        · rw [if_pos c]
          exact ⟨.inl, fun z => z.elim id fun e => by rw [e]; exact c⟩
        · rw [if_neg c, List.mem_append, List.mem_singleton]
      rw [e1, hn.mem_iff]
      constructor
      · rintro (z | z)
        · obtain ⟨s, hs, e⟩ := List.mem_map.mp z
          by_cases c : s.1 = k
          · exact List.mem_map.mpr ⟨(k, l), putE_mem.mpr (.inl rfl), by rw [← e, c]⟩
          · exact List.mem_map.mpr ⟨s, putE_mem.mpr (.inr ⟨hs, c⟩), e⟩
        · exact List.mem_map.mpr ⟨(k, l), putE_mem.mpr (.inl rfl), z.symm⟩
      · intro z
        obtain ⟨s, hs, e⟩ := List.mem_map.mp z
        rcases putE_mem.mp hs with y | ⟨y, _⟩
        · subst y
          exact .inr e.symm
        · exact .inl (List.mem_map.mpr ⟨s, y, e⟩)
  · rw [valV_put]
    rcases putE_mem.mp hs with y | ⟨y, c⟩
    · subst y
      rw [if_pos rfl]
      exact ⟨q, rfl, hq.put (xs := []) (.inr ⟨_, hd⟩)⟩
    · rw [if_neg (fun z => c (by have := Sum.inl.inj z; omega))]
      obtain ⟨p, e1, e2⟩ := hv s y
      exact ⟨p, e1, e2.put (xs := []) (.inr ⟨_, hd⟩)⟩
section
variable {P : Program} {w : World} {K : PySem.W.Frag} {mg : Str → Option Value} {base : Heap} {a : Ad}
def spWithLevel (CP CL CW CT CS CB : Addr) : Sp := fun vs H Q E => ∃ (p : Addr) (y : V) (ib : Bool) (z : Str) (rests : List (Lv × Bool)) (early : List (Nat × Lv × Bool)), vs = [.ref p, y, .str z] ∧ IsI H y ib ∧
  ((btM 2 12 y = false ∧ ∀ H' d, Same H H' → H' d = some (.xd [("size", y)]) → E (.ref CS) (some d) H') ∨
   (ProgAt CP CL CW H p rests early ∧ ProgOk rests early ∧ ∃ k : Nat, y = .int (k : Int) ∧ 2 ≤ k ∧ k ≤ 12 ∧
    ((∃ lv e, z = lvText lv e ∧ LvOk (some k) e lv ∧ ∀ q H' t ls ld ll, H q = none → ProgAt CP CL CW H' q rests (putE early k (lv, e)) → TwOf CP CT H H' q t ls ld ll → Same H H' → Q (.ref q) H') ∨
     (∃ ps j, Txt.split z " " = ps ∧ 1 ≤ ps.length ∧ ps.length ≤ 500 ∧ (∀ y ∈ ps, y ∈ FS) ∧ z.length ≤ 90000 ∧ lvlE ps (some k) = .inl j ∧ ∀ H' d, Same H H' → H' d = some (.xd [("index", .int ((j : Nat) : Int))]) → E (.ref CB) (some d) H'))))
theorem ok_Program_with_level (T : Tx w K mg a) : FnOk P w K mg base (L2.CX P w) 14 a.f_Program_with_level a.d_Program_with_level ["self", "k", "text"] (spWithLevel a.C_Program a.C_Level a.C_Word a.C_Tower a.C_BadSize a.C_BadWord) := by
  refine T.F_Program_with_level.okX sc_Program_with_level (fun vs H Q E h => ?_) (fun cdv A outer s H vs Q E hr h => ?_)
  · obtain ⟨p, y, ib, z, rests, early, rfl, _⟩ := h
    rfl
  · obtain ⟨p, y, ib, z, rests, early, rfl, hI, h⟩ := h
    have hu := hu_of hr
    refine ⟨_, 
(pss_cons (ps_if (pt_not (pt_val (pe_call (ok_is_between T) (hr.mono (by decide)) (by rfl) T.m_is_between T.F_is_between.kp T.b_is_between .nil pass0 (pa_cons (pv 1) (pa_cons (pe_glob (v := .int 2) (by rfl) T.m_LEAST_SINGLE.choose_spec ⟨_, rfl⟩) (pa_cons (pe_glob (v := .int 12) (by rfl) T.m_MOST_SINGLE.choose_spec ⟨_, rfl⟩) pa_nil))))))
  (pss_one (ps_raise rfl (takes_of rfl rfl rfl rfl) (pmk_oex T.ox_BadSize.o T.ox_BadSize.ini T.ox_BadSize.tin (ok_BadSize_init T) (hr.mono (by decide)) T.b_BadSize_init .nil pass0 (by rfl) T.c_BadSize (pa_cons (pv 1) pa_nil))))
  pss_nil)
  (pss_cons (ps_set (i := 3) sc_Program_with_level.nd rfl (.inl rfl) (pe_callTy call_dictD (by rfl) T.z_dict (by decide +kernel) (pa_cons (pe_fld (pv 0) rfl) pa_nil)))
  (pss_cons (ps_dput hu (pv 3) (pv 1) (pe_makeS T.mk_Level (ok_Level_init T) (hr.mono (by decide)) (by rfl) T.c_Level T.b_Level_init .nil (takes_of rfl rfl rfl rfl) (pa_cons (pv 2) (pa_cons (pv 1) pa_nil))) rfl)
  (pss_one (ps_ret (pe_make T.mk_Program (ok_Program_init T) hr (by rfl) T.c_Program T.b_Program_init .nil pass0 (pa_cons (pe_call (ok_text_of_program T) (hr.mono (by decide)) (by rfl) T.m_text_of_program T.F_text_of_program.kp T.b_text_of_program .nil pass0 (pa_cons (pe_fld (pv 0) rfl) (pa_cons (pv 3) pa_nil))) pa_nil))))))), ?_⟩
    rcases h with ⟨hy, hE⟩ | ⟨hP, hok, k, rfl, k2, k12, h⟩
    · refine ⟨_, rfl, y, ib, 2, 12, rfl, hI, _, rfl, ?_⟩
      rw [hy]
      exact ⟨_, rfl, (by decide : 1 ≤ 1000), err_end (Same.refl H) hE⟩
    refine ⟨_, rfl, .int (k : Int), ib, 2, 12, rfl, hI, _, rfl, ?_⟩
    have e : btM 2 12 (.int (k : Int)) = true := by
      simp only [btM, Bool.and_eq_true, decide_eq_true_eq]
      omega
    rw [e]
    obtain ⟨dx, fs, t, d, u, tw, ps, qs, hp, fk, et, hps, ed, hqs, eu⟩ := hP
    have f1 : fs.lookup ("_singles" : Str) = some (.ref d) := fk.2.1 2 _ _ rfl rfl
    have f2 : fs.lookup ("rests" : Str) = some (.ref t) := fk.2.1 3 _ _ rfl rfl
    have hS := singles_of hok.up ed hqs
    have qn : qs.length = early.length := by
      have := hqs.len
      rw [List.length_map] at this
      exact this
    have el := hok.elen
    -- singles = dict(self._singles)
    refine ⟨.ref p, rfl, p, a.C_Program, dx, fs, _, rfl, hp, T.cl_Program, T.n_Program__singles, f1, d, _, rfl, .inl ed, fun o no => ?_⟩
    have s1 := same_upd (o := .dK (kvE qs early)) no
    have eo : (upd H o (.dK (kvE qs early))) o = some (.dK (kvE qs early)) := upd_same
    have hS1 : SinglesAt a.C_Level a.C_Word (upd H o (.dK (kvE qs early))) o early := by
      obtain ⟨kvs', ns, hd', hk, hn, hv⟩ := hS
      rw [ed] at hd'
      cases hd'
      refine ⟨_, ns, eo, hk, hn, fun s hs => ?_⟩
      obtain ⟨p, e1, e2⟩ := hv s hs
      exact ⟨p, e1, e2.same s1⟩
    generalize upd H o (.dK (kvE qs early)) = H1 at s1 eo hS1 ⊢
    -- singles[k] = Level(text, k)
    rcases h with ⟨lv, en, rfl, hlv, q⟩ | ⟨zs, j, hz, z1, z5, zF, zl, hj, hE⟩
    rotate_left
    · refine ⟨_, rfl, _, rfl, fun x dx hx hdx ne => ?_⟩
      obtain ⟨s2, ex⟩ := made2 (C := a.C_Level) hx hdx ne
      exact ⟨x, dx, z, _, rfl, ex, .inl ⟨some k, zs, rfl, ⟨k2, k12⟩, hz, z1, z5, zF, zl, fun b g hb => (by rw [hj] at hb; cases hb), fun j' hj' H' d' s' ed' => by
        rw [hj] at hj'
        cases hj'
        exact hE H' d' (s1.trans (s2.trans s')) ed'⟩⟩
    refine ⟨_, rfl, _, rfl, fun x dxx hx hdx ne => lv_make (size := some k) hx hdx ne ⟨k2, k12⟩ hlv rfl rfl fun H2 hL s2 => ?_⟩
    have eo2 := s2 _ _ eo
    have hS2 : SinglesAt a.C_Level a.C_Word H2 o early := by
      obtain ⟨kvs', ns, hd', hk, hn, hv⟩ := hS1
      refine ⟨kvs', ns, s2 _ _ hd', hk, hn, fun s hs => ?_⟩
      obtain ⟨p, e1, e2⟩ := hv s hs
      exact ⟨p, e1, e2.same s2⟩
    have hok2 := hok.putE k2 k12 (l := (lv, en)) hlv
    have hS3 := hS2.put (k := k) (l := (lv, en)) hok.up hok2.up eo2 hL
    refine ⟨rfl, _, rfl, _, rfl, o, _, rfl, DPut.k (k := .inl (k : Int)) eo2 (szlt (by rw [kvE_len qn]; omega)), ?_⟩
    have s02 := s1.trans s2
    have s3 : Same H (upd H2 o (.dK (putK (kvE qs early) (.inl (k : Int)) (.ref x)))) := keep_upd s02 no
    have hps3 : LvsAt a.C_Level a.C_Word (upd H2 o (.dK (putK (kvE qs early) (.inl (k : Int)) (.ref x)))) ps rests := (hps.same s02).put (xs := []) (.inr ⟨_, eo2⟩)
    generalize upd H2 o (.dK (putK (kvE qs early) (.inl (k : Int)) (.ref x))) = H3 at s3 hS3 hps3 ⊢
    -- return Program(text_of_program(self.rests, singles))
    refine ⟨.ref p, rfl, p, a.C_Program, dx, fs, _, rfl, s3 _ _ hp, T.cl_Program, T.n_Program_rests, f2, _, rfl, .inl ⟨t, o, ps, rests, putE early k (lv, en), rfl, s3 _ _ et, hps3, hok2, hS3, fun H4 s4 => ?_⟩⟩
    have s04 := s3.trans s4
    refine fun q' dq hq hdq neq => ⟨q', dq, rests, putE early k (lv, en), rfl, upd_same, hok2, fun H5 t' ls ld ll hPA hTw k5 => ⟨rfl, ?_⟩⟩
    have s45 : Same H4 H5 := fun b u e => k5 b u (by
      rw [upd_ne (ne_of_none e hq), upd_ne (ne_of_none e hdq)]
      exact e) (ne_of_none e hq)
    have fr : ∀ {b}, (upd (upd H4 dq (.own q')) q' (.ins a.C_Program dq [])) b = none → H b = none := fun {b} z => free_of s04 (free_of (fun b' u e => by
      rw [upd_ne (ne_of_none e hq), upd_ne (ne_of_none e hdq)]
      exact e) z)
    exact q q' H5 t' ls ld ll (free_of s04 hq) hPA ⟨hTw.1, hTw.2.1, fr hTw.2.2.1, fr hTw.2.2.2.1, fr hTw.2.2.2.2.1, fr hTw.2.2.2.2.2⟩ (s04.trans s45)
end

/-! ### a program without a level, or with another rest -/
theorem drop_keys {n : Int} : ∀ {kvs : List (Key × V)} {ns : List Int}, (kvs.map fun kv => kV kv.1) = ns.map V.int → ((dropK kvs (.inl n)).map fun kv => kV kv.1) = (ns.filter fun m => decide (m ≠ n)).map V.int
  | [], [], _ => rfl
  | [], _ :: _, h => by cases h
  | _ :: _, [], h => by cases h
  | kv :: kvs, m :: ns, h => by
    have h := List.cons.inj h
    have ih := drop_keys (n := n) h.2
    have e : kv.1 = (.inl m : Key) := by
      have h1 : kV kv.1 = V.int m := h.1
      cases hk : kv.1 with
      | inl i =>
        rw [hk] at h1
        rw [V.int.inj h1]
      | inr x =>
        rw [hk] at h1
        cases h1
    unfold dropK at ih ⊢
    by_cases c : m = n
    · subst c
      rw [List.filter_cons, if_neg (by rw [e]; simp), List.filter_cons, if_neg (by simp)]
      exact ih
    · rw [List.filter_cons, if_pos (by rw [e]; simpa using c), List.filter_cons, if_pos (by simpa using c), List.map_cons, List.map_cons, ih]
      rw [e]
      rfl
theorem valV_drop {kvs : List (Key × V)} {k j : Key} (n : j ≠ k) : valV (dropK kvs k) j = valV kvs j := by
  induction kvs with
  | nil => rfl
  | cons kv kvs ih =>
    unfold dropK valV at ih ⊢
    by_cases c : kv.1 = k
    · rw [List.filter_cons, if_neg (by simpa using c), List.find?_cons, decide_eq_false (show ¬ kv.1 = j from fun z => n (z.symm.trans c))]
      exact ih
    · rw [List.filter_cons, if_pos (by simpa using c), List.find?_cons, List.find?_cons]
      by_cases d : kv.1 = j
      · rw [decide_eq_true d]
      · rw [decide_eq_false d]
        exact ih
theorem SinglesAt.drop {C CW : Addr} {H : Hp} {d : Addr} {early : List (Nat × Lv × Bool)} {k : Nat} {kvs : List (Key × V)} (h : SinglesAt C CW H d early) (hd : H d = some (.dK kvs)) : SinglesAt C CW (upd H d (.dK (dropK kvs (.inl (k : Int))))) d (early.filter fun s => decide (s.1 ≠ k)) := by
  obtain ⟨kvs', ns, hd', hk, hn, hv⟩ := h
  rw [hd] at hd'
  cases hd'
  refine ⟨_, _, upd_same, drop_keys hk, ?_, fun s hs => ?_⟩
  · have := hn.filter (fun m => decide (m ≠ (k : Int)))
    rw [List.filter_map] at this
    refine this.trans (List.Perm.of_eq ?_)
    congr 1
    refine List.filter_congr fun s _ => ?_
    show decide ((s.1 : Int) ≠ (k : Int)) = decide (s.1 ≠ k)
    exact decide_eq_decide.mpr ⟨fun z w => z (by rw [w]), fun z w => z (by omega)⟩
  · rw [List.mem_filter, decide_eq_true_eq] at hs
    rw [valV_drop (fun z => hs.2 (by have := Sum.inl.inj z; omega))]
    obtain ⟨p, e1, e2⟩ := hv s hs.1
    exact ⟨p, e1, e2.put (xs := []) (.inr ⟨_, hd⟩)⟩
theorem ProgOk.dropE {rests : List (Lv × Bool)} {early : List (Nat × Lv × Bool)} (h : ProgOk rests early) (k : Nat) : ProgOk rests (early.filter fun s => decide (s.1 ≠ k)) :=
  ⟨h.n1, h.n6, h.rok, fun s hs => h.eok s (List.mem_filter.mp hs).1, h.up.filter _⟩
theorem LvsAt.set {C CW : Addr} {H : Hp} {p : Addr} {r : Lv × Bool} (e : LevelL C CW H p r.1 r.2) : ∀ {ps : List Addr} {rs : List (Lv × Bool)} {i : Nat}, LvsAt C CW H ps rs → LvsAt C CW H (ps.set i p) (rs.set i r)
  | [], [], _, _ => trivial
  | [], _ :: _, _, h => h.elim
  | _ :: _, [], _, h => h.elim
  | _ :: _, _ :: _, 0, h => ⟨e, h.2⟩
  | _ :: _, _ :: _, i + 1, h => ⟨h.1, LvsAt.set (i := i) e h.2⟩
theorem find_any {α : Type} {p : α → Bool} : ∀ l : List α, (l.find? p).isSome = l.any p
  | [] => rfl
  | a :: l => by
    rw [List.find?_cons, List.any_cons]
    cases p a with
    | true => rfl
    | false => exact find_any l
theorem kvs_none {n : Int} {kvs : List (Key × V)} {ns : List Int} (h : (kvs.map fun kv => kV kv.1) = ns.map V.int) : (valV kvs (.inl n)).isSome = decide (n ∈ ns) := by
  rw [← kvs_any (n := n) h, ← find_any]
  unfold valV
  rw [Option.isSome_map]
section
variable {P : Program} {w : World} {K : PySem.W.Frag} {mg : Str → Option Value} {base : Heap} {a : Ad}
def spWithout (CP CL CW CT CN : Addr) : Sp := fun vs H Q E => ∃ (p : Addr) (y : V) (ib : Bool) (rests : List (Lv × Bool)) (early : List (Nat × Lv × Bool)), vs = [.ref p, y] ∧ IsI H y ib ∧ ProgAt CP CL CW H p rests early ∧ ProgOk rests early ∧
  ((∃ k : Nat, y = .int (k : Int) ∧ (k : Int) ∈ (early.map fun s => (s.1 : Int)) ∧ ∀ q H' t ls ld ll, H q = none → ProgAt CP CL CW H' q rests (early.filter fun s => decide (s.1 ≠ k)) → TwOf CP CT H H' q t ls ld ll → Same H H' → Q (.ref q) H') ∨
   ((∀ i : Int, y = .int i → i ∉ early.map fun s => (s.1 : Int)) ∧ ∀ H' d, Same H H' → H' d = some (.xd [("size", y)]) → E (.ref CN) (some d) H'))
theorem ok_Program_without_level (T : Tx w K mg a) : FnOk P w K mg base (L2.CX P w) 14 a.f_Program_without_level a.d_Program_without_level ["self", "k"] (spWithout a.C_Program a.C_Level a.C_Word a.C_Tower a.C_NoLevel) := by
  refine T.F_Program_without_level.okX sc_Program_without_level (fun vs H Q E h => ?_) (fun cdv A outer s H vs Q E hr h => ?_)
  · obtain ⟨p, y, ib, rests, early, rfl, _⟩ := h
    rfl
  · obtain ⟨p, y, ib, rests, early, rfl, hI, hP, hok, h⟩ := h
    have hu := hu_of hr
    refine ⟨_, 
(pss_cons (ps_if (PW.pt (pw_or (pt_not (pt_val (pe_call (ok_is_integer T) (hr.mono (by decide)) (by rfl) T.m_is_integer T.F_is_integer.kp T.b_is_integer .nil pass0 (pa_cons (pv 1) pa_nil)))) (pw_or1 (pt_cmpR (op_notInDk hu) (pv 1) (pe_fld (pv 0) rfl) (by rfl)))))
  (pss_one (ps_raise rfl (takes_of rfl rfl rfl rfl) (pmk_oex T.ox_NoLevel.o T.ox_NoLevel.ini T.ox_NoLevel.tin (ok_NoLevel_init T) (hr.mono (by decide)) T.b_NoLevel_init .nil pass0 (by rfl) T.c_NoLevel (pa_cons (pv 1) pa_nil))))
  pss_nil)
  (pss_cons (ps_set (i := 2) sc_Program_without_level.nd rfl (.inl rfl) (pe_callTy call_dictD (by rfl) T.z_dict (by decide +kernel) (pa_cons (pe_fld (pv 0) rfl) pa_nil)))
  (pss_cons (ps_ddel (pv 2) (pv 1))
  (pss_one (ps_ret (pe_make T.mk_Program (ok_Program_init T) hr (by rfl) T.c_Program T.b_Program_init .nil pass0 (pa_cons (pe_call (ok_text_of_program T) (hr.mono (by decide)) (by rfl) T.m_text_of_program T.F_text_of_program.kp T.b_text_of_program .nil pass0 (pa_cons (pe_fld (pv 0) rfl) (pa_cons (pv 2) pa_nil))) pa_nil))))))), ?_⟩
    obtain ⟨dx, fs, t, d, u, tw, ps, qs, hp, fk, et, hps, ed, hqs, eu⟩ := hP
    have f1 : fs.lookup ("_singles" : Str) = some (.ref d) := fk.2.1 2 _ _ rfl rfl
    have f2 : fs.lookup ("rests" : Str) = some (.ref t) := fk.2.1 3 _ _ rfl rfl
    have hS := singles_of hok.up ed hqs
    have qn : qs.length = early.length := by
      have := hqs.len
      rw [List.length_map] at this
      exact this
    have kk : ((kvE qs early).map fun kv => kV kv.1) = (early.map fun s => (s.1 : Int)).map V.int := by rw [kvE_keys qn, List.map_map]; rfl
    refine ⟨_, rfl, y, ib, rfl, hI, _, rfl, ?_⟩
    rcases h with ⟨k, rfl, hk, q⟩ | ⟨hk, hE⟩
    rotate_left
    · cases ib with
      | false => exact iteT ⟨_, rfl, (by decide : 1 ≤ 1000), err_end (Same.refl H) hE⟩
      | true =>
        obtain ⟨i, rfl⟩ : ∃ i : Int, y = .int i := by cases hI with | int i => exact ⟨i, rfl⟩
        refine iteF ⟨_, rfl, .ref p, rfl, p, a.C_Program, dx, fs, _, rfl, hp, T.cl_Program, T.n_Program__singles, f1, d, _, rfl, DGet.k (k := .inl i) ed, _, rfl, ?_⟩
        rw [kvs_none kk, decide_eq_false (hk i rfl)]
        exact iteT ⟨_, rfl, (by decide : 1 ≤ 1000), err_end (Same.refl H) hE⟩
    cases hI
    refine iteF ⟨_, rfl, .ref p, rfl, p, a.C_Program, dx, fs, _, rfl, hp, T.cl_Program, T.n_Program__singles, f1, d, _, rfl, DGet.k (k := .inl (k : Int)) ed, _, rfl, ?_⟩
    rw [kvs_none kk, decide_eq_true hk]
    -- singles = dict(self._singles)
    refine iteF ⟨.ref p, rfl, p, a.C_Program, dx, fs, _, rfl, hp, T.cl_Program, T.n_Program__singles, f1, d, _, rfl, .inl ed, fun o no => ?_⟩
    have s1 := same_upd (o := .dK (kvE qs early)) no
    have eo : (upd H o (.dK (kvE qs early))) o = some (.dK (kvE qs early)) := upd_same
    have hS1 : SinglesAt a.C_Level a.C_Word (upd H o (.dK (kvE qs early))) o early := by
      obtain ⟨kvs', ns, hd', hk', hn, hv⟩ := hS
      rw [ed] at hd'
      cases hd'
      refine ⟨_, ns, eo, hk', hn, fun s hs => ?_⟩
      obtain ⟨p, e1, e2⟩ := hv s hs
      exact ⟨p, e1, e2.same s1⟩
    generalize upd H o (.dK (kvE qs early)) = H1 at s1 eo hS1 ⊢
    have hok2 := hok.dropE k
    have hS3 := hS1.drop (k := k) eo
    -- del singles[k]
    refine ⟨_, rfl, _, rfl, o, _, .inl (k : Int), rfl, eo, rfl, by rw [kvs_none kk, decide_eq_true hk], ?_⟩
    have s3 : Same H (upd H1 o (.dK (dropK (kvE qs early) (.inl (k : Int))))) := keep_upd s1 no
    have hps3 : LvsAt a.C_Level a.C_Word (upd H1 o (.dK (dropK (kvE qs early) (.inl (k : Int))))) ps rests := (hps.same s1).put (xs := []) (.inr ⟨_, eo⟩)
    generalize upd H1 o (.dK (dropK (kvE qs early) (.inl (k : Int)))) = H3 at s3 hS3 hps3 ⊢
    -- return Program(text_of_program(self.rests, singles))
    refine ⟨.ref p, rfl, p, a.C_Program, dx, fs, _, rfl, s3 _ _ hp, T.cl_Program, T.n_Program_rests, f2, _, rfl, .inl ⟨t, o, ps, rests, early.filter (fun s => decide (s.1 ≠ k)), rfl, s3 _ _ et, hps3, hok2, hS3, fun H4 s4 => ?_⟩⟩
    have s04 := s3.trans s4
    refine fun q' dq hq hdq neq => ⟨q', dq, rests, early.filter (fun s => decide (s.1 ≠ k)), rfl, upd_same, hok2, fun H5 t' ls ld ll hPA hTw k5 => ⟨rfl, ?_⟩⟩
    have s45 : Same H4 H5 := fun b u e => k5 b u (by
      rw [upd_ne (ne_of_none e hq), upd_ne (ne_of_none e hdq)]
      exact e) (ne_of_none e hq)
    have fr : ∀ {b}, (upd (upd H4 dq (.own q')) q' (.ins a.C_Program dq [])) b = none → H b = none := fun {b} z => free_of s04 (free_of (fun b' u e => by
      rw [upd_ne (ne_of_none e hq), upd_ne (ne_of_none e hdq)]
      exact e) z)
    exact q q' H5 t' ls ld ll (free_of s04 hq) hPA ⟨hTw.1, hTw.2.1, fr hTw.2.2.1, fr hTw.2.2.2.1, fr hTw.2.2.2.2.1, fr hTw.2.2.2.2.2⟩ (s04.trans s45)
def spWithRest (CP CL CW CT CN CB : Addr) : Sp := fun vs H Q E => ∃ (p : Addr) (y : V) (ib : Bool) (z : Str) (rests : List (Lv × Bool)) (early : List (Nat × Lv × Bool)), vs = [.ref p, y, .str z] ∧ IsI H y ib ∧ ProgAt CP CL CW H p rests early ∧ ProgOk rests early ∧
  ((btM 0 ((rests.length : Int) - 1) y = false ∧ ∀ H' d, Same H H' → H' d = some (.xd [("number", y)]) → E (.ref CN) (some d) H') ∨
   ∃ i : Nat, y = .int (i : Int) ∧ i < rests.length ∧
    ((∃ lv e, z = lvText lv e ∧ LvOk none e lv ∧ ∀ q H' t ls ld ll, H q = none → ProgAt CP CL CW H' q (rests.set i (lv, e)) early → TwOf CP CT H H' q t ls ld ll → Same H H' → Q (.ref q) H') ∨
     (∃ ps j, Txt.split z " " = ps ∧ 1 ≤ ps.length ∧ ps.length ≤ 500 ∧ (∀ y ∈ ps, y ∈ FS) ∧ z.length ≤ 90000 ∧ lvlE ps none = .inl j ∧ ∀ H' d, Same H H' → H' d = some (.xd [("index", .int ((j : Nat) : Int))]) → E (.ref CB) (some d) H')))
theorem ok_Program_with_rest (T : Tx w K mg a) : FnOk P w K mg base (L2.CX P w) 14 a.f_Program_with_rest a.d_Program_with_rest ["self", "r", "text"] (spWithRest a.C_Program a.C_Level a.C_Word a.C_Tower a.C_BadNumber a.C_BadWord) := by
  refine T.F_Program_with_rest.okX sc_Program_with_rest (fun vs H Q E h => ?_) (fun cdv A outer s H vs Q E hr h => ?_)
  · obtain ⟨p, y, ib, z, rests, early, rfl, _⟩ := h
    rfl
  · obtain ⟨p, y, ib, z, rests, early, rfl, hI, hP, hok, h⟩ := h
    have hu := hu_of hr
    refine ⟨_, 
(pss_cons (ps_if (pt_not (pt_val (pe_call (ok_is_between T) (hr.mono (by decide)) (by rfl) T.m_is_between T.F_is_between.kp T.b_is_between .nil pass0 (pa_cons (pv 1) (pa_cons pe_int (pa_cons (pe_op op_sub (pe_fld (pv 0) rfl) pe_int) pa_nil))))))
  (pss_one (ps_raise rfl (takes_of rfl rfl rfl rfl) (pmk_oex T.ox_BadNumber.o T.ox_BadNumber.ini T.ox_BadNumber.tin (ok_BadNumber_init T) (hr.mono (by decide)) T.b_BadNumber_init .nil pass0 (by rfl) T.c_BadNumber (pa_cons (pv 1) pa_nil))))
  pss_nil)
  (pss_cons (ps_set (i := 3) sc_Program_with_rest.nd rfl (.inl rfl) (pe_callTy call_list_of (by rfl) T.z_list (by decide +kernel) (pa_cons (pe_fld (pv 0) rfl) pa_nil)))
  (pss_cons (ps_asg (pe_makeS T.mk_Level (ok_Level_init T) (hr.mono (by decide)) (by rfl) T.c_Level T.bd_Level_init.choose_spec.2 T.bd_Level_init.choose_spec.1 (takes_of rfl rfl rfl rfl) (pa_cons (pv 2) pa_nil)) (pg_sub (pv 3) (pv 1) set_list))
  (pss_one (ps_ret (pe_make T.mk_Program (ok_Program_init T) hr (by rfl) T.c_Program T.b_Program_init .nil pass0 (pa_cons (pe_call (ok_text_of_program T) (hr.mono (by decide)) (by rfl) T.m_text_of_program T.F_text_of_program.kp T.b_text_of_program .nil pass0 (pa_cons (pv 3) (pa_cons (pe_fld (pv 0) rfl) pa_nil))) pa_nil))))))), ?_⟩
    obtain ⟨dx, fs, t, d, u, tw, ps, qs, hp, fk, et, hps, ed, hqs, eu⟩ := hP
    have f1 : fs.lookup ("_singles" : Str) = some (.ref d) := fk.2.1 2 _ _ rfl rfl
    have f2 : fs.lookup ("rests" : Str) = some (.ref t) := fk.2.1 3 _ _ rfl rfl
    have f3 : fs.lookup ("period" : Str) = some (.int (rests.length : Int)) := fk.2.1 4 _ _ rfl rfl
    have hS := singles_of hok.up ed hqs
    have pn := hps.len
    have n6 := hok.n6
    refine ⟨_, rfl, .ref p, rfl, p, a.C_Program, dx, fs, _, rfl, hp, T.cl_Program, T.n_Program_period, f3, _, 1, rfl, rfl, y, ib, 0, (rests.length : Int) - 1, rfl, hI, _, rfl, ?_⟩
    rcases h with ⟨hy, hE⟩ | ⟨i, rfl, hi, h⟩
    · rw [hy]
      exact ⟨_, rfl, (by decide : 1 ≤ 1000), err_end (Same.refl H) hE⟩
    have e : btM 0 ((rests.length : Int) - 1) (.int (i : Int)) = true := by
      simp only [btM, Bool.and_eq_true, decide_eq_true_eq]
      omega
    rw [e]
    -- rests = list(self.rests)
    refine ⟨.ref p, rfl, p, a.C_Program, dx, fs, _, rfl, hp, T.cl_Program, T.n_Program_rests, f2, t, _, rfl, .inr (SqT.at et), fun o no => ?_⟩
    have s1 := same_upd (o := .lst (ps.map V.ref)) no
    have eo : (upd H o (.lst (ps.map V.ref))) o = some (.lst (ps.map V.ref)) := upd_same
    generalize upd H o (.lst (ps.map V.ref)) = H1 at s1 eo ⊢
    -- rests[r] = Level(text)
    rcases h with ⟨lv, en, rfl, hlv, q⟩ | ⟨zs, j, hz, z1, z5, zF, zl, hj, hE⟩
    rotate_left
    · refine ⟨_, rfl, fun x dx hx hdx ne => ?_⟩
      obtain ⟨s2, ex⟩ := made2 (C := a.C_Level) hx hdx ne
      exact ⟨x, dx, z, _, rfl, ex, .inl ⟨none, zs, rfl, trivial, hz, z1, z5, zF, zl, fun b g hb => (by rw [hj] at hb; cases hb), fun j' hj' H' d' s' ed' => by
        rw [hj] at hj'
        cases hj'
        exact hE H' d' (s1.trans (s2.trans s')) ed'⟩⟩
    refine ⟨_, rfl, fun x dxx hx hdx ne => lv_make (size := none) hx hdx ne trivial hlv rfl rfl fun H2 hL s2 => ?_⟩
    have eo2 := s2 _ _ eo
    have s02 := s1.trans s2
    have hps2 := hps.same s02
    refine ⟨rfl, _, rfl, _, rfl, o, _, _, i, rfl, rfl, eo2, ?_, ?_⟩
    · rw [List.length_map, pn]
      have := ixN_nat (n := rests.length) (i := ((i : Nat) : Int)) (by omega) (by omega)
      rw [Int.toNat_natCast] at this
      exact this
    have ok2 : ProgOk (rests.set i (lv, en)) early := hok.putR hlv
    have s3 : Same H (upd H2 o (.lst ((ps.map V.ref).set i (.ref x)))) := keep_upd s02 no
    have e3 : (upd H2 o (.lst ((ps.map V.ref).set i (.ref x)))) o = some (.lst ((ps.set i x).map V.ref)) := by rw [upd_same, List.map_set]
    have hps3 : LvsAt a.C_Level a.C_Word (upd H2 o (.lst ((ps.map V.ref).set i (.ref x)))) (ps.set i x) (rests.set i (lv, en)) := LvsAt.put (.inl eo2) (LvsAt.set (r := (lv, en)) hL hps2)
    have hS3 : SinglesAt a.C_Level a.C_Word (upd H2 o (.lst ((ps.map V.ref).set i (.ref x)))) d early := by
      obtain ⟨kvs', ns, hd', hk', hn, hv⟩ := hS
      refine ⟨kvs', ns, s3 _ _ hd', hk', hn, fun s hs => ?_⟩
      obtain ⟨p, e1, e2⟩ := hv s hs
      exact ⟨p, e1, e2.same s3⟩
    generalize upd H2 o (.lst ((ps.map V.ref).set i (.ref x))) = H3 at s3 e3 hps3 hS3 ⊢
    -- return Program(text_of_program(rests, self._singles))
    refine ⟨_, rfl, .ref p, rfl, p, a.C_Program, dx, fs, _, rfl, s3 _ _ hp, T.cl_Program, T.n_Program__singles, f1, .inr ⟨o, d, ps.set i x, rests.set i (lv, en), early, rfl, e3, hps3, ok2, hS3, fun H4 s4 => ?_⟩⟩
    have s04 := s3.trans s4
    refine fun q' dq hq hdq neq => ⟨q', dq, rests.set i (lv, en), early, rfl, upd_same, ok2, fun H5 t' ls ld ll hPA hTw k5 => ⟨rfl, ?_⟩⟩
    have s45 : Same H4 H5 := fun b u e => k5 b u (by
      rw [upd_ne (ne_of_none e hq), upd_ne (ne_of_none e hdq)]
      exact e) (ne_of_none e hq)
    have fr : ∀ {b}, (upd (upd H4 dq (.own q')) q' (.ins a.C_Program dq [])) b = none → H b = none := fun {b} z => free_of s04 (free_of (fun b' u e => by
      rw [upd_ne (ne_of_none e hq), upd_ne (ne_of_none e hdq)]
      exact e) z)
    exact q q' H5 t' ls ld ll (free_of s04 hq) hPA ⟨hTw.1, hTw.2.1, fr hTw.2.2.1, fr hTw.2.2.2.1, fr hTw.2.2.2.2.1, fr hTw.2.2.2.2.2⟩ (s04.trans s45)
end

theorem asg_one {t : TE} {g : TG} {D : L2.Ends} {σ : L2.St} {H : Hp} (h : t σ H fun v H1 => g v σ H1 D.nx) : tAsg t g D σ H := h
theorem asg_first {t : TE} {g : TG} {u : TS} {D : L2.Ends} {σ : L2.St} {H : Hp} (h : t σ H fun v H1 => g v σ H1 (u D)) : tSeq (tAsg t g) u D σ H := h
/-! ### rows of early lines that are kept, whatever the slots -/
theorem lc_keepN {r c : Nat} {K : PySem.W.Frag} {σ : L2.St} {H H0 : Hp} {Q : VK} {tx : TE} {rC : R2} {e : Addr} {es : List Addr} {early : List (Nat × Lv × Bool)} {z : Int} {f : Nat → Bool} (h1 : σ[c]? = some (some (.int z))) (h5 : r < σ.length) (nrc : r ≠ c) (hT : EarT H0 es early) (s0 : Same H0 H) (el : early.length ≤ 1000)
    (hC : ∀ (s : Nat) (H' : Hp) (Q' : VK), Q' (.bl (f s)) H' → rC (.int (s : Int)) (.int z) H' Q') (he : H e = some (.lst (es.map V.ref)))
    (q : ∀ D qs H', H D = none → H' D = some (.lst (qs.map V.ref)) → EarT H0 qs (early.filter fun s => f s.1) → Same H H' → Q (.ref D) H') (htx : ∀ R : VK, R (.ref e) H → tx σ H R) :
    tLc (iList K tx) (gName r) (tTest (tOp rC (tOp (rIxT K) (tVar r) (tC (V.int 0))) (tVar c))) (tVar r) [r] σ H Q := by
  refine htx _ ⟨e, rfl, ⟨_, SqL.at he⟩, fun D nD => ?_⟩
  refine lc_it (walk_list (xs := es.map V.ref)) (fun j H' => Same H H' ∧ ∃ qs, H' D = some (.lst (qs.map V.ref)) ∧ EarT H0 qs ((early.take j).filter fun s => f s.1)) ?h0 ?hG ?hs ?hd
  case h0 => exact ⟨same_upd nD, [], upd_same, trivial⟩
  case hG =>
    rintro j H' _ ⟨sm, _⟩
    exact SqL.at (sm _ _ he)
  case hd =>
    rintro H' ⟨sm, qs, eD, hqs⟩
    rw [List.length_map, hT.len, List.take_length] at hqs
    exact q D qs H' nD eD hqs sm
  case hs =>
    rintro j y H4 H5 hj ⟨sm, qs, eD, hqs⟩ ⟨rfl, ex⟩
    rw [List.length_map, hT.len] at hj
    have hg : early[j]? = some early[j] := List.getElem?_eq_getElem hj
    obtain ⟨xx, qq, hx, ht, hL⟩ := hT.get hg
    rw [List.getElem?_map, hx] at ex
    cases ex
    have htk : early.take (j + 1) = early.take j ++ [early[j]] := by
      rw [List.take_succ, hg]
      rfl
    rw [htk, List.filter_append]
    have ll : qs.length ≤ j := by
      have := hqs.len
      have := List.length_filter_le (fun s : Nat × Lv × Bool => f s.1) (early.take j)
      rw [List.length_take] at this
      omega
    generalize early[j] = sg at ht hL ⊢
    have g5 : ∀ v : Option V, ((σ.set r none).set r v)[r]? = some v := fun v => by
      rw [List.getElem?_set_self (by simp; exact h5)]
    refine ⟨?_, .ref xx, g5 _, xx, _, 0, .int (sg.1 : Int), rfl, rfl, SqT.at ((s0.trans sm) _ _ ht), rfl, .int z, ?_, hC sg.1 _ _ ⟨f sg.1, rfl, ?_⟩⟩
    · show ((σ.set r none).set r _).set r none = σ.set r none
      simp
    · show ((σ.set r none).set r _)[c]? = _
      rw [List.getElem?_set_ne nrc, List.getElem?_set_ne nrc]
      exact h1
    · cases cc : f sg.1 with
      | true =>
        rw [show ([sg].filter fun s => f s.1) = [sg] by rw [List.filter_cons, cc]; rfl]
        exact iteT ⟨_, g5 _, _, eD, szlt (by rw [List.length_map]; omega), keep_upd sm nD, qs ++ [xx], by rw [upd_same, List.map_append]; rfl, hqs.snoc ht hL⟩
      | false =>
        rw [show ([sg].filter fun s => f s.1) = [] by rw [List.filter_cons, cc]; rfl, List.append_nil]
        exact iteF ⟨sm, qs, eD, hqs⟩
theorem merge_ite {wh : Bool} {A B : VK → Prop} {Q R : VK} (h1 : wh = true → ∀ Q : VK, (∀ v H', R v H' → Q v H') → A Q) (h2 : wh = false → ∀ Q : VK, (∀ v H', R v H' → Q v H') → B Q) (q : ∀ v H', R v H' → Q v H') : if wh = true then A Q else B Q := by
  cases wh with
  | true => exact h1 rfl Q q
  | false => exact h2 rfl Q q
/-- [row[0] for row in early]: the sizes -/
theorem lc_firstN {r : Nat} {K : PySem.W.Frag} {σ : L2.St} {H H0 : Hp} {Q : VK} {tx : TE} {e : Addr} {es : List Addr} {early : List (Nat × Lv × Bool)} (h5 : r < σ.length) (hT : EarT H0 es early) (s0 : Same H0 H) (el : early.length ≤ 1000) (he : H e = some (.lst (es.map V.ref)))
    (q : ∀ D H', H D = none → H' D = some (.lst ((early.map fun s => (s.1 : Int)).map V.int)) → Same H H' → Q (.ref D) H') (htx : ∀ R : VK, R (.ref e) H → tx σ H R) :
    tLc (iList K tx) (gName r) tYes (tOp (rIxT K) (tVar r) (tC (V.int 0))) [r] σ H Q := by
  refine htx _ ⟨e, rfl, ⟨_, SqL.at he⟩, fun D nD => ?_⟩
  refine lc_it (walk_list (xs := es.map V.ref)) (fun j H' => Same H H' ∧ H' D = some (.lst (((early.take j).map fun s => (s.1 : Int)).map V.int))) ?h0 ?hG ?hs ?hd
  case h0 => exact ⟨same_upd nD, upd_same⟩
  case hG =>
    rintro j H' _ ⟨sm, _⟩
    exact SqL.at (sm _ _ he)
  case hd =>
    rintro H' ⟨sm, eD⟩
    rw [List.length_map, hT.len, List.take_length] at eD
    exact q D H' nD eD sm
  case hs =>
    rintro j y H4 H5 hj ⟨sm, eD⟩ ⟨rfl, ex⟩
    rw [List.length_map, hT.len] at hj
    have hg : early[j]? = some early[j] := List.getElem?_eq_getElem hj
    obtain ⟨xx, qq, hx, ht, hL⟩ := hT.get hg
    rw [List.getElem?_map, hx] at ex
    cases ex
    have htk : early.take (j + 1) = early.take j ++ [early[j]] := by
      rw [List.take_succ, hg]
      rfl
    have g5 : ∀ v : Option V, ((σ.set r none).set r v)[r]? = some v := fun v => by
      rw [List.getElem?_set_self (by simp; exact h5)]
    refine ⟨?_, .ref xx, g5 _, xx, _, 0, .int (early[j].1 : Int), rfl, rfl, SqT.at ((s0.trans sm) _ _ ht), rfl, _, eD, szlt (by rw [List.length_map, List.length_map, List.length_take]; omega), keep_upd sm nD, ?_⟩
    · show ((σ.set r none).set r _).set r none = σ.set r none
      simp
    · rw [upd_same, htk, List.map_append, List.map_append]
      rfl
theorem cutR_take (ns : List Addr) (k : Nat) : cutV (ns.map V.ref) none (some (k : Int)) = (ns.take k).map V.ref := by
  unfold cutV
  rw [show HT.sIx (ns.map V.ref).length (ns.map V.ref).length (some (k : Int)) = min k (ns.map V.ref).length from HT.sIx_nat _ _ k, HT.sIx_none, List.drop_zero, Nat.sub_zero, List.map_take, List.take_eq_take_iff]
  omega
theorem cutR_drop (ns : List Addr) {k : Nat} (h : k ≤ ns.length) : cutV (ns.map V.ref) (some (k : Int)) none = (ns.drop k).map V.ref := by
  unfold cutV
  have e : HT.sIx (ns.map V.ref).length 0 (some (k : Int)) = k := by
    rw [HT.sIx_nat, List.length_map]
    omega
  rw [e, HT.sIx_none, List.length_map, ← List.map_drop, List.take_of_length_le (by rw [List.length_map, List.length_drop]; exact Nat.le_refl _)]

/-! ### the law's own: what a call tells, a program in other words -/
/-- an error as a tuple, or the text of the program that is told -/
def spMetT (P : Program) (w : World) (K : PySem.W.Frag) (mg : Str → Option Value) (base : Heap) (k : Nat) (CP : Addr) (rs : List (Addr × Str × Str)) : Sp := fun vs H Q _ => ∃ (f : Addr) (sp : Hp → VK → XK → Prop), vs = [.ref f] ∧ Thk P w K mg base k H f sp ∧
  ∀ (Q' : VK) (E' : XK), (∀ v H', (∃ (p dx : Addr) (fs : List (Str × V)) (z : Str), v = .ref p ∧ H' p = some (.ins CP dx fs) ∧ fs.lookup ("text" : Str) = some (.str z) ∧ Q (.str z) H') → Q' v H') → (∀ cls d H', MetX rs Q cls d H' → E' cls d H') → sp H Q' E'
section
variable {P : Program} {w : World} {K : PySem.W.Frag} {mg : Str → Option Value} {base : Heap} {a : Ad}
def rs12 (a : Ad) : List (Addr × Str × Str) := [(a.C_BadWord, "word", "index"), (a.C_BadSize, "size", "size"), (a.C_BadNumber, "number", "number"), (a.C_NoLevel, "none", "size")]
theorem ok__law_met (T : Tx w K mg a) : FnOk P w K mg base CX0 17 a.f__law_met a.d__law_met ["call"] (spMetT P w K mg base (17 - 1) a.C_Program (rs12 a)) := by
  refine T.F__law_met.ok sc__law_met (fun vs H Q E h => ?_) (fun cdv A outer s H vs Q E hr h => ?_)
  · obtain ⟨f, sp, rfl, _⟩ := h
    rfl
  · obtain ⟨f, sp, rfl, hT, hsp⟩ := h
    refine ⟨_, 
(pss_one (ps_try_manyAs rfl rfl sc__law_met.nd takes0 (fun W pn xe tk po => (pss_one (ps_ret (show PE _ _ (tFld K _ _) from pe_fld (show PE _ _ (rThk P w K mg base _ 0 W) from pe_thk (i := 0) rfl (.inl rfl) hr tk) rfl))))
  (.cons (i := 1) rfl rfl ⟨rfl, by decide, .inl T.c_BadWord⟩ (fun x oe cls d pn hz hf => (pss_one (ps_ret (pe_tup (pa_cons pe_str (pa_cons (pe_xf T.ox_BadWord.x T.ox_BadWord.no hz hf (pv 1)) (pa_cons (pe_callB (call_isD T.ox_BadWord.i hz hf) (by rfl) T.z_isinstance (by decide +kernel) (pa_cons (pv 1) (pa_cons (pe_glob (v := .ref a.C_EveryError) (by rfl) T.c_EveryError rfl) pa_nil))) pa_nil)))))))
  (.cons (i := 1) rfl rfl ⟨rfl, by decide, .inl T.c_BadSize⟩ (fun x oe cls d pn hz hf => (pss_one (ps_ret (pe_tup (pa_cons pe_str (pa_cons (pe_xf T.ox_BadSize.x T.ox_BadSize.no hz hf (pv 1)) (pa_cons (pe_callB (call_isD T.ox_BadSize.i hz hf) (by rfl) T.z_isinstance (by decide +kernel) (pa_cons (pv 1) (pa_cons (pe_glob (v := .ref a.C_EveryError) (by rfl) T.c_EveryError rfl) pa_nil))) pa_nil)))))))
  (.cons (i := 1) rfl rfl ⟨rfl, by decide, .inl T.c_BadNumber⟩ (fun x oe cls d pn hz hf => (pss_one (ps_ret (pe_tup (pa_cons pe_str (pa_cons (pe_xf T.ox_BadNumber.x T.ox_BadNumber.no hz hf (pv 1)) (pa_cons (pe_callB (call_isD T.ox_BadNumber.i hz hf) (by rfl) T.z_isinstance (by decide +kernel) (pa_cons (pv 1) (pa_cons (pe_glob (v := .ref a.C_EveryError) (by rfl) T.c_EveryError rfl) pa_nil))) pa_nil)))))))
  (.cons (i := 1) rfl rfl ⟨rfl, by decide, .inl T.c_NoLevel⟩ (fun x oe cls d pn hz hf => (pss_one (ps_ret (pe_tup (pa_cons pe_str (pa_cons (pe_xf T.ox_NoLevel.x T.ox_NoLevel.no hz hf (pv 1)) (pa_cons (pe_callB (call_isD T.ox_NoLevel.i hz hf) (by rfl) T.z_isinstance (by decide +kernel) (pa_cons (pv 1) (pa_cons (pe_glob (v := .ref a.C_EveryError) (by rfl) T.c_EveryError rfl) pa_nil))) pa_nil)))))))
  .nil)))))), ?_⟩
    refine ⟨f, sp, rfl, hT, hsp _ _ (fun v H' q => ?_) (fun cls d H' hx => ?_)⟩
    · obtain ⟨p, dx, fs, z, rfl, hp, hz, q⟩ := q
      exact ⟨p, a.C_Program, dx, fs, _, rfl, hp, T.cl_Program, T.n_Program_text, hz, q⟩
    · obtain ⟨C, tag, fld, dd, v, hm, rfl, rfl, hd, q⟩ := hx
      have hm : (C, tag, fld) = (a.C_BadWord, Str.ofString "word", Str.ofString "index") ∨ (C, tag, fld) = (a.C_BadSize, Str.ofString "size", Str.ofString "size") ∨ (C, tag, fld) = (a.C_BadNumber, Str.ofString "number", Str.ofString "number") ∨ (C, tag, fld) = (a.C_NoLevel, Str.ofString "none", Str.ofString "size") := by simpa [rs12] using hm
      rcases hm with e | e | e | e
      · cases e
        refine ⟨true, T.em_BadWord_BadWord, fun _ x hx => ?_, fun q => Bool.noConfusion q⟩
        exact ⟨.ref x, rfl, rfl, rfl, dd, _, _, rfl, hd, rfl, .ref x, rfl, dd, _, .ref a.C_EveryError, .ref a.C_EveryError, true, rfl, rfl, hd, rfl, fun u r => r, T.kt_BadWord_EveryError, sz (show 3 ≤ 100000 by decide), fun o no => q o no⟩
      · cases e
        refine ⟨false, T.em_BadSize_BadWord, fun q => Bool.noConfusion q, fun _ => ⟨true, T.em_BadSize_BadSize, fun _ x hx => ?_, fun q => Bool.noConfusion q⟩⟩
        exact ⟨.ref x, rfl, rfl, rfl, dd, _, _, rfl, hd, rfl, .ref x, rfl, dd, _, .ref a.C_EveryError, .ref a.C_EveryError, true, rfl, rfl, hd, rfl, fun u r => r, T.kt_BadSize_EveryError, sz (show 3 ≤ 100000 by decide), fun o no => q o no⟩
      · cases e
        refine ⟨false, T.em_BadNumber_BadWord, fun q => Bool.noConfusion q, fun _ => ⟨false, T.em_BadNumber_BadSize, fun q => Bool.noConfusion q, fun _ => ⟨true, T.em_BadNumber_BadNumber, fun _ x hx => ?_, fun q => Bool.noConfusion q⟩⟩⟩
        exact ⟨.ref x, rfl, rfl, rfl, dd, _, _, rfl, hd, rfl, .ref x, rfl, dd, _, .ref a.C_EveryError, .ref a.C_EveryError, true, rfl, rfl, hd, rfl, fun u r => r, T.kt_BadNumber_EveryError, sz (show 3 ≤ 100000 by decide), fun o no => q o no⟩
      · cases e
        refine ⟨false, T.em_NoLevel_BadWord, fun q => Bool.noConfusion q, fun _ => ⟨false, T.em_NoLevel_BadSize, fun q => Bool.noConfusion q, fun _ => ⟨false, T.em_NoLevel_BadNumber, fun q => Bool.noConfusion q, fun _ => ⟨true, T.em_NoLevel_NoLevel, fun _ x hx => ?_, fun q => Bool.noConfusion q⟩⟩⟩⟩
        exact ⟨.ref x, rfl, rfl, rfl, dd, _, _, rfl, hd, rfl, .ref x, rfl, dd, _, .ref a.C_EveryError, .ref a.C_EveryError, true, rfl, rfl, hd, rfl, fun u r => r, T.kt_NoLevel_EveryError, sz (show 3 ≤ 100000 by decide), fun o no => q o no⟩
def spProgText : Sp := fun vs H Q _ => ∃ (o : Addr) (rests : List (Lv × Bool)) (early : List (Nat × Lv × Bool)), vs = [.ref o] ∧ ProgT H o rests early ∧ ProgOk rests early ∧ ∀ H', Same H H' → Q (.str (Txt.join "\n" (progL rests early))) H'
theorem ok__law_text (T : Tx w K mg a) : FnOk P w K mg base CX0 4 a.f__law_text a.d__law_text ["program"] spProgText := by
  refine T.F__law_text.ok sc__law_text (fun vs H Q E h => ?_) (fun cdv A outer s H vs Q E hr h => ?_)
  · obtain ⟨o, rests, early, rfl, _⟩ := h
    rfl
  · obtain ⟨o, rests, early, rfl, hT, hok, q⟩ := h
    refine ⟨_, 
(pss_one (ps_ret (pe_join pe_str (pe_call (ok__law_program_lines T) hr (by rfl) T.m__law_program_lines T.F__law_program_lines.kp T.b__law_program_lines .nil pass0 (pa_cons (pv 0) pa_nil))))), ?_⟩
    have ln := sum_leP (B := 3100) fun z hz => (progL_ok hok hz).2
    have l1 : (Str.ofString "\n").length = 1 := by decide +kernel
    have := hok.n6
    have := hok.elen
    rw [progL_len] at ln
    refine ⟨⟨_, rfl⟩, _, rfl, o, rests, early, rfl, hT, hok, fun l H' el s => ⟨_, l, progL rests early, rfl, rfl, .inl (SqL.at el), by rw [progL_len, l1]; omega, q H' s⟩⟩
/-- with this level at a size, or without any -/
def wthE (early : List (Nat × Lv × Bool)) (size : Nat) : Option (Lv × Bool) → List (Nat × Lv × Bool)
  | some l => putE early size l
  | none => early.filter fun s => decide (s.1 ≠ size)
def spWith12 : Sp := fun vs H Q _ => ∃ (o : Addr) (size : Nat) (y : V) (l : Option (Lv × Bool)) (rests : List (Lv × Bool)) (early : List (Nat × Lv × Bool)), vs = [.ref o, .int (size : Int), y] ∧ ProgT H o rests early ∧ ProgOk rests early ∧ ((l = none ∧ y = .non) ∨ ∃ la lv, l = some lv ∧ y = .ref la ∧ LvT H la lv.2 lv.1) ∧
  ∀ q H', ProgT H' q rests (wthE early size l) → Same H H' → Q (.ref q) H'
theorem wth_parts (early : List (Nat × Lv × Bool)) (size : Nat) (up : early.Pairwise fun a b => a.1 < b.1) : (early.filter fun s => decide (s.1 ≠ size)) = (early.filter fun s => decide ((s.1 : Int) < (size : Int))) ++ early.filter fun s => decide ((size : Int) < (s.1 : Int)) := by
  induction early with
  | nil => rfl
  | cons s r ih =>
    have up := List.pairwise_cons.mp up
    have ih := ih up.2
    rcases Nat.lt_trichotomy s.1 size with c | c | c
    · rw [List.filter_cons, if_pos (decide_eq_true (by omega)), List.filter_cons, if_pos (decide_eq_true (by omega)), List.filter_cons, if_neg (by simp; omega), ih]
      rfl
    · rw [List.filter_cons, if_neg (by simp; omega), List.filter_cons, if_neg (by simp; omega), List.filter_cons, if_neg (by simp; omega), ih]
    · have none_ : (r.filter fun s => decide ((s.1 : Int) < (size : Int))) = [] := List.filter_eq_nil_iff.mpr fun x hx => by
        have := up.1 x hx
        simp
        omega
      rw [none_, List.nil_append] at ih
      rw [List.filter_cons, if_pos (decide_eq_true (by omega)), List.filter_cons, if_neg (by simp; omega), List.filter_cons, if_pos (decide_eq_true (by omega)), ih, none_]
      rfl
theorem ok__law_with (T : Tx w K mg a) : FnOk P w K mg base CX0 1 a.f__law_with a.d__law_with ["program", "size", "level"] spWith12 := by
  refine T.F__law_with.ok sc__law_with (fun vs H Q E h => ?_) (fun cdv A outer s H vs Q E hr h => ?_)
  · obtain ⟨o, size, y, l, rests, early, rfl, _⟩ := h
    rfl
  · obtain ⟨o, size, y, l, rests, early, rfl, ⟨r, e, os, es, ho, hr1, hos, he1, hes⟩, hok, hl, q⟩ := h
    refine ⟨_, 
(pss_cons (ps_asg (pv 0) (pg_tup rfl (pgs_cons (pg_name (i := 3) sc__law_with.nd rfl (.inl rfl)) (pgs_cons (pg_name (i := 4) sc__law_with.nd rfl (.inl rfl)) pgs_nil))))
  (pss_cons (ps_set (i := 5) sc__law_with.nd rfl (.inl rfl) (pe_op op_cat (pe_lc (own := [("row", 6)]) (g := gName 6) rfl sc__law_with.nd (pi_list (pv 4)) (blkOk_by (own := [("row", 6)]) (N := ["program", "size", "level", "rests", "early", "rows", "row"]) (sc := defScope s__law_with) (by decide +kernel)) (fun _ _ _ _ _ => pg_name (i := 6) sc__law_with.nd rfl (Or.inl rfl)) (fun _ _ _ _ _ => (pts_one (pt_cmpR op_lt (pe_ix (show IxR _ (rIxT K) from ix_tup) (pv 6) pe_int (fun _ _ => rfl)) (pv 1) (nomark _)))) (fun _ _ _ _ _ => (pv 6))) (pe_ifExp (pt_cmpR op_notN (pv 2) pe_non (nomark _)) (pe_lst (pa_cons (pe_tup (pa_cons (pv 1) (pa_cons (pv 2) pa_nil))) pa_nil)) (pe_lst pa_nil))))
  (pss_one (ps_ret (pe_tup (pa_cons (pv 3) (pa_cons (pe_op op_cat (pv 5) (pe_lc (own := [("row", 6)]) (g := gName 6) rfl sc__law_with.nd (pi_list (pv 4)) (blkOk_by (own := [("row", 6)]) (N := ["program", "size", "level", "rests", "early", "rows", "row"]) (sc := defScope s__law_with) (by decide +kernel)) (fun _ _ _ _ _ => pg_name (i := 6) sc__law_with.nd rfl (Or.inl rfl)) (fun _ _ _ _ _ => (pts_one (pt_cmpR op_gt (pe_ix (show IxR _ (rIxT K) from ix_tup) (pv 6) pe_int (fun _ _ => rfl)) (pv 1) (nomark _)))) (fun _ _ _ _ _ => (pv 6)))) pa_nil))))))), ?_⟩
    have el := hok.elen
    -- rests, early = program
    refine ⟨_, rfl, o, [.ref r, .ref e], rfl, SqT.at ho, rfl, .ref r, [.ref e], rfl, .ref e, [], rfl, rfl, ?_⟩
    -- rows = [row for row in early if row[0] < size] + (..)
    dsimp only
    refine asg_first (op_first ?_)
    refine lc_keepN (r := 6) (c := 1) (z := (size : Int)) (f := fun s => decide ((s : Int) < (size : Int))) rfl (show 6 < 7 by decide) (by decide) hes (Same.refl H) (by omega) (fun s H' Q' qq => ⟨_, _, rfl, rfl, qq⟩) he1 (fun D1 q1 H3 n3 e3 hq1 s3 => ?_) fun R rr => ⟨_, rfl, rr⟩
    have pl1 := hq1.len
    have ll1 := List.length_filter_le (fun s : Nat × Lv × Bool => decide ((s.1 : Int) < (size : Int))) early
    -- + ([(size, level)] if level is not None else [])
    have mid : ∃ ms : List (Nat × Lv × Bool), wthE early size l = (early.filter fun s => decide ((s.1 : Int) < (size : Int))) ++ ms ++ (early.filter fun s => decide ((size : Int) < (s.1 : Int))) ∧ ms.length ≤ 1 ∧ ((l = none ∧ y = .non ∧ ms = []) ∨ ∃ la lv, l = some lv ∧ y = .ref la ∧ LvT H la lv.2 lv.1 ∧ ms = [(size, lv)]) := by
      rcases hl with ⟨rfl, rfl⟩ | ⟨la, lv, rfl, rfl, hT⟩
      · exact ⟨[], by rw [List.append_nil]; exact wth_parts early size hok.up, Nat.zero_le _, .inl ⟨rfl, rfl, rfl⟩⟩
      · refine ⟨[(size, lv)], ?_, Nat.le_refl _, .inr ⟨la, lv, rfl, rfl, hT, rfl⟩⟩
        show putE early size lv = _
        unfold putE
        rw [List.append_assoc]
        congr 1
        · exact List.filter_congr fun s _ => decide_eq_decide.mpr ⟨fun z => by omega, fun z => by omega⟩
        · show _ :: _ = _ :: _
          congr 1
          exact List.filter_congr fun s _ => decide_eq_decide.mpr ⟨fun z => by omega, fun z => by omega⟩
    obtain ⟨ms, ew, lms, hl⟩ := mid
    refine ⟨y, rfl, rfl, !decide (y = V.non), rfl, ?_⟩
    refine merge_ite (R := fun v H' => ∃ (p1 : Addr) (qs1 : List Addr), v = .ref p1 ∧ H' p1 = some (.lst (qs1.map V.ref)) ∧ EarT H' qs1 ms ∧ Same H3 H') (fun cc Q' qq => ?_) (fun cc Q' qq => ?_) ?_
    · rcases hl with ⟨rfl, rfl, rfl⟩ | ⟨la, lv, rfl, rfl, hLv, rfl⟩
      · simp at cc
      · refine ⟨_, rfl, _, rfl, sz (show 2 ≤ 100000 by decide), fun t1 nt1 => ⟨sz (show 1 ≤ 100000 by decide), fun p1 np1 => ?_⟩⟩
        have s4 := same_upd (o := .tup [.int (size : Int), .ref la]) nt1
        have s5 := same_upd (o := .lst [.ref t1]) np1
        exact qq _ _ ⟨p1, [t1], rfl, upd_same, ⟨⟨la, s5 _ _ upd_same, hLv.same (s3.trans (s4.trans s5))⟩, trivial⟩, s4.trans s5⟩
    · rcases hl with ⟨rfl, rfl, rfl⟩ | ⟨la, lv, rfl, rfl, hLv, rfl⟩
      · exact ⟨sz (Nat.zero_le _), fun p1 np1 => qq _ _ ⟨p1, [], rfl, upd_same, trivial, same_upd np1⟩⟩
      · simp at cc
    rintro _ H5 ⟨p1, qs1, rfl, ep, hqs1, s45⟩
    have lp1 := hqs1.len
    refine ⟨D1, p1, _, _, rfl, rfl, s45 _ _ e3, ep, ?_, fun c1 nc1 => ?_⟩
    · rw [List.length_map, List.length_map]
      exact Nat.le_trans (show q1.length + qs1.length ≤ 2000 by omega) (by decide)
    rw [← List.map_append]
    have s6 := same_upd (o := .lst ((q1 ++ qs1).map V.ref)) nc1
    have ec : (upd H5 c1 (.lst ((q1 ++ qs1).map V.ref))) c1 = some (.lst ((q1 ++ qs1).map V.ref)) := upd_same
    generalize upd H5 c1 (.lst ((q1 ++ qs1).map V.ref)) = H6 at s6 ec ⊢
    have s36 := s45.trans s6
    refine ⟨_, rfl, _, rfl, ?_⟩
    refine lc_keepN (r := 6) (c := 1) (z := (size : Int)) (f := fun s => decide ((size : Int) < (s : Int))) rfl (show 6 < 7 by decide) (by decide) hes (s3.trans s36) (by omega) (fun s H' Q' qq => ⟨_, _, rfl, rfl, qq⟩) (s36 _ _ (s3 _ _ he1)) (fun D2 q2 H7 n7 e7 hq2 s7 => ?_) fun R rr => ⟨_, rfl, rr⟩
    have l3 := hq2.len
    have l4 := List.length_filter_le (fun s : Nat × Lv × Bool => decide ((size : Int) < (s.1 : Int))) early
    refine ⟨c1, D2, _, _, rfl, rfl, s7 _ _ ec, e7, ?_, fun c2 nc2 => ?_⟩
    · rw [List.length_map, List.length_map, List.length_append]
      exact Nat.le_trans (show q1.length + qs1.length + q2.length ≤ 4000 by omega) (by decide)
    rw [← List.map_append]
    have s8 := same_upd (o := .lst ((q1 ++ qs1 ++ q2).map V.ref)) nc2
    have ec2 : (upd H7 c2 (.lst ((q1 ++ qs1 ++ q2).map V.ref))) c2 = some (.lst ((q1 ++ qs1 ++ q2).map V.ref)) := upd_same
    generalize upd H7 c2 (.lst ((q1 ++ qs1 ++ q2).map V.ref)) = H8 at s8 ec2 ⊢
    refine ⟨sz (show 2 ≤ 100000 by decide), fun t nt => ?_⟩
    have s9 := same_upd (o := .tup [.ref r, .ref c2]) nt
    have s39 := s36.trans (s7.trans (s8.trans s9))
    refine q t _ ⟨r, c2, os, q1 ++ qs1 ++ q2, upd_same, (s3.trans s39) _ _ hr1, LvTs.same (s3.trans s39) hos, s9 _ _ ec2, ?_⟩ (s3.trans s39)
    rw [ew]
    exact (EarT.append (EarT.append (hq1.same (s3.trans s39)) (hqs1.same (s6.trans (s7.trans (s8.trans s9))))) (hq2.same (s3.trans s39)))
end

/-! ### what of programs stands behind draws, lambdas and calls -/
def KpO (o : HO) : Prop := ((∃ xs, o = .lst xs ∨ o = .tup xs) ∨ ∃ C dx fs, o = .ins C dx fs) ∨ ∃ kvs : List (Key × V), o = .dK kvs ∧ ∀ q ∈ kvs, ∃ i : Int, q.1 = .inl i
def KP (H H' : Hp) : Prop := ∀ b o, H b = some o → KpO o → H' b = some o
theorem KP.refl {H : Hp} : KP H H := fun _ _ e _ => e
theorem KP.trans {H H1 H2 : Hp} (x : KP H H1) (y : KP H1 H2) : KP H H2 := fun b o e h => y b o (x b o e h) h
theorem kp_same {H H' : Hp} (s : Same H H') : KP H H' := fun b o e _ => s b o e
theorem kp_but {d c : Addr} {n : Nat} {H H' : Hp} (p : Pen H d c n) (s : But d H H') : KP H H' := fun b o e h => by
  obtain ⟨ns, t, l, q, _⟩ := p
  refine s b o e (ne_of e q.dc ?_)
  unfold penD
  rcases h with (⟨xs, rfl | rfl⟩ | ⟨_, _, _, rfl⟩) | ⟨kvs, rfl, hk⟩
  · intro z; cases z
  · intro z; cases z
  · intro z; cases z
  · intro z
    cases z
    obtain ⟨i, hi⟩ := hk _ (List.mem_cons_self ..)
    cases hi
theorem kp_ext {H H' : Hp} (s : LamX.ExtN H H') : KP H H' := fun b o e h => s b o e fun ps z => by rcases h with (⟨xs, rfl | rfl⟩ | ⟨_, _, _, rfl⟩) | ⟨kvs, rfl, hk⟩ <;> cases z
theorem KP.lst {H H' : Hp} (k : KP H H') {b : Addr} {xs : List V} (e : H b = some (.lst xs)) : H' b = some (.lst xs) := k _ _ e (.inl (.inl ⟨_, .inl rfl⟩))
theorem KP.tup {H H' : Hp} (k : KP H H') {b : Addr} {xs : List V} (e : H b = some (.tup xs)) : H' b = some (.tup xs) := k _ _ e (.inl (.inl ⟨_, .inr rfl⟩))
theorem KP.ins {H H' : Hp} (k : KP H H') {b C dx : Addr} {fs : List (Str × V)} (e : H b = some (.ins C dx fs)) : H' b = some (.ins C dx fs) := k _ _ e (.inl (.inr ⟨_, _, _, rfl⟩))
theorem KP.klt {H H' : Hp} (k : KP H H') : KLT H H' := fun b o e ⟨xs, h⟩ => k b o e (.inl (.inl ⟨xs, h⟩))
theorem Held.kp {H H' : Hp} (e : KP H H') : ∀ {rs : List Addr} {ms : List Mv}, Held H rs ms → Held H' rs ms
  | [], [], _ => trivial
  | _ :: _, _ :: _, h => ⟨e.tup h.1, Held.kp e h.2⟩
theorem WordAt.kp {C : Addr} {H H' : Hp} {p : Addr} {ms : List Mv} (h : WordAt C H p ms) (e : KP H H') : WordAt C H' p ms := by
  obtain ⟨dx, t, rs, h1, h2, h3⟩ := h
  exact ⟨dx, t, rs, e.ins h1, e.tup h2, h3.kp e⟩
theorem LevelL.kp {C CW : Addr} {H H' : Hp} {p : Addr} {lv : Lv} {e : Bool} (h : LevelL C CW H p lv e) (s : KP H H') : LevelL C CW H' p lv e := by
  obtain ⟨dx, fs, w, fa, pl, en, h1, h2, h3, h4, h5, h6, h7, h8, h0, h9⟩ := h
  refine ⟨dx, fs, w, fa, pl, en, s.ins h1, h2, h3, h4, h5, h6, h7, h8, h0, ?_⟩
  cases lv with
  | same ms =>
    obtain ⟨⟨a, ha, hw⟩, hr⟩ := h9
    exact ⟨⟨a, ha, hw.kp s⟩, hr⟩
  | along k z => exact h9
  | list ns =>
    obtain ⟨r1, r2, r3, t, ht, e⟩ := h9
    exact ⟨r1, r2, r3, t, ht, s.tup e⟩
theorem LvsAt.kp {C CW : Addr} {H H' : Hp} (s : KP H H') : ∀ {ps : List Addr} {rs : List (Lv × Bool)}, LvsAt C CW H ps rs → LvsAt C CW H' ps rs
  | [], [], _ => trivial
  | _ :: _, _ :: _, h => ⟨h.1.kp s, LvsAt.kp s h.2⟩
theorem ProgAt.kp {C CL CW : Addr} {H H' : Hp} {p : Addr} {rests : List (Lv × Bool)} {early : List (Nat × Lv × Bool)} (h : ProgAt C CL CW H p rests early) (s : KP H H') : ProgAt C CL CW H' p rests early := by
  obtain ⟨dx, fs, t, d, u, tw, ps, qs, h1, h2, h3, h4, h5, h6, h7⟩ := h
  refine ⟨dx, fs, t, d, u, tw, ps, qs, s.ins h1, h2, s.tup h3, h4.kp s, s d _ h5 (.inr ⟨_, rfl, fun ⟨k, v⟩ hq => ?_⟩), h6.kp s, s.tup h7⟩
  obtain ⟨x, _, e⟩ := kvE_key hq
  exact ⟨_, e⟩
theorem ProgT.kp {H H' : Hp} {o : Addr} {rests : List (Lv × Bool)} {early : List (Nat × Lv × Bool)} (h : ProgT H o rests early) (s : KP H H') : ProgT H' o rests early := by
  obtain ⟨r, e, os, es, h1, h2, h3, h4, h5⟩ := h
  exact ⟨r, e, os, es, s.tup h1, s.lst h2, h3.klt s.klt, s.lst h4, h5.klt s.klt⟩

theorem ProgAt.kpD {CP CL CW : Addr} {H H' : Hp} {p : Addr} {rests : List (Lv × Bool)} {early : List (Nat × Lv × Bool)} (h : ProgAt CP CL CW H p rests early) (s : ∀ b o, H b = some o → (∀ ob, o ≠ celF ob) → H' b = some o) : ProgAt CP CL CW H' p rests early :=
  h.kp fun b o e k => s b o e fun ob z => by
    unfold celF at z
    rcases k with (⟨xs, rfl | rfl⟩ | ⟨_, _, _, rfl⟩) | ⟨kvs, rfl, hk⟩ <;> cases z

/-! ### a change of a program, and what it comes to -/
abbrev Out12 := (List (Lv × Bool) × List (Nat × Lv × Bool)) ⊕ (Addr × Str × Str × Nat)
/-- what the call tells: another program, or an error -/
def tells (CP CL CW : Addr) (out : Out12) (G : Hp) (Q : VK) (E : XK) : Prop := match out with
  | .inl (r, e) => ∀ q G', Same G G' → ProgAt CP CL CW G' q r e → Q (.ref q) G'
  | .inr (C, _, fld, x) => ∀ G' d, Same G G' → G' d = some (.xd [(fld, .int (x : Int))]) → E (.ref C) (some d) G'
def spChg (CP CL CW p : Addr) (rests : List (Lv × Bool)) (early : List (Nat × Lv × Bool)) (g : Hp → Prop) (out : Out12) : Hp → VK → XK → Prop := fun G Q E => ProgAt CP CL CW G p rests early ∧ g G ∧ tells CP CL CW out G Q E
theorem chgD {CP CL CW p : Addr} {rests : List (Lv × Bool)} {early : List (Nat × Lv × Bool)} {g : Hp → Prop} {out : Out12} {t' : XK → TE} {σ : L2.St} (gk : ∀ G G', KP G G' → g G → g G') (hq : ∀ (H0 : Hp) (E' : XK) (Q' : VK), ProgAt CP CL CW H0 p rests early → g H0 → tells CP CL CW out H0 Q' E' → t' E' σ H0 Q') :
    ∀ G Q E, spChg CP CL CW p rests early g out G Q E → spD t' σ G Q E := fun G Q E ⟨hP, hg, ht⟩ H0 R th hR => by
  have kp : KP G H0 := fun b o e k => th b o e fun ob z => by
    unfold celF at z
    rcases k with (⟨xs, rfl | rfl⟩ | ⟨_, _, _, rfl⟩) | ⟨kvs, rfl, hk⟩ <;> cases z
  refine hq H0 _ _ (hP.kp kp) (gk _ _ kp hg) ?_
  match out, ht with
  | .inl (r, e), ht => exact fun q H' s hA => hR _ _ s fun G' sG up => ht q G' sG (hA.kp (kp_same up))
  | .inr (C, tag, fld, x), ht => exact fun H' d s ed => hR _ _ s fun G' sG up => ht G' d sG (up _ _ ed)
/-- what is due -/
def DueA (rs : List (Addr × Str × Str)) (H : Hp) (u : Addr) : Out12 → Prop
  | .inl (r, e) => ProgT H u r e ∧ ProgOk r e
  | .inr (C, tag, fld, x) => H u = some (.tup [.str tag, .int (x : Int), .bl true]) ∧ (C, tag, fld) ∈ rs
theorem DueA.kp {rs : List (Addr × Str × Str)} {H H' : Hp} {u : Addr} : ∀ {out : Out12}, DueA rs H u out → KP H H' → DueA rs H' u out
  | .inl _, h, s => ⟨h.1.kp s, h.2⟩
  | .inr _, h, s => ⟨s.tup h.1, h.2⟩
section
variable {P : Program} {w : World} {K : PySem.W.Frag} {mg : Str → Option Value} {base : Heap} {a : Ad}
def spChange (P : Program) (w : World) (K : PySem.W.Frag) (mg : Str → Option Value) (base : Heap) (a : Ad) (kk : Nat) : Sp := fun vs H Q _ => ∃ (d c o p : Addr) (n : Nat) (rests : List (Lv × Bool)) (early : List (Nat × Lv × Bool)), vs = [.ref d, .ref o, .ref p] ∧ PT2 (tabsOf a) H d c n ∧ n + 1000 < 2 ^ 40 ∧ ProgT H o rests early ∧ ProgOk rests early ∧ ProgAt a.C_Program a.C_Level a.C_Word H p rests early ∧
  ∀ (t f u : Addr) (g : Hp → Prop) (out : Out12) (H' : Hp), H' t = some (.tup [.ref f, .ref u]) → KP H H' → PT2 (tabsOf a) H' d c (n + 700) → (∀ G G', KP G G' → g G → g G') → g H' → Thk P w K mg base kk H' f (spChg a.C_Program a.C_Level a.C_Word p rests early g out) → DueA (rs12 a) H' u out → Q (.ref t) H'
theorem ok__law_change (T : Tx w K mg a) (B : Tb base mg a) : FnOk P w K mg base CX0 15 a.f__law_change a.d__law_change ["pen", "program", "made"] (spChange P w K mg base a (17 - 1)) := by
  refine T.L__law_change.okD sc__law_change (fun vs H Q E h => ?_) (fun A outer s H vs Q E hr h => ?_)
  · obtain ⟨d, c, o, p, n, rests, early, rfl, _⟩ := h
    rfl
  · obtain ⟨d, c, o, p, n, rests, early, rfl, pt, hn, ⟨r, e, os, es, ho, hr1, hos, he1, hes⟩, hok, hP, q⟩ := h
    refine ⟨_, 
(psr_cons (ps_asg (pv 1) (pg_tup rfl (pgs_cons (pg_name (i := 3) sc__law_change.nd rfl (.inl rfl)) (pgs_cons (pg_name (i := 4) sc__law_change.nd rfl (.inl rfl)) pgs_nil))))
  (psr_cons (ps_asg (pe_tup (pa_cons (pe_call (ok__law_draw T) (hr.mono (by decide)) (by rfl) T.m__law_draw T.F__law_draw.kp T.b__law_draw .nil pass0 (pa_cons (pv 0) (pa_cons pe_int pa_nil))) (pa_cons (pe_op op_add pe_int (pe_call (ok__law_draw T) (hr.mono (by decide)) (by rfl) T.m__law_draw T.F__law_draw.kp T.b__law_draw .nil pass0 (pa_cons (pv 0) (pa_cons pe_int pa_nil)))) pa_nil))) (pg_tup rfl (pgs_cons (pg_name (i := 5) sc__law_change.nd rfl (.inl rfl)) (pgs_cons (pg_name (i := 11) sc__law_change.nd rfl (.inr rfl)) pgs_nil))))
  (psr_ifr (pt_cmpR op_lt (pv 5) pe_int (nomark _))
  (psr_cons (ps_set (i := 8) sc__law_change.nd rfl (.inr rfl) (pe_call (ok__law_level T) (hr.mono (by decide)) (by rfl) T.m__law_level T.F__law_level.kp T.b__law_level .nil pass0 (pa_cons (pv 0) (pa_cons (pv 11) pa_nil))))
  (psr_ret (pe_tup (pa_cons (pe_lam (k := 14) (T := tabsOf a) B.tb__law_change rfl (.head _) B.hu__law_change rfl ⟨LamX.lamS_by (sc := defScope s__law_change) (by decide +kernel), fun _ _ _ _ _ => rfl, fun A outer s H E f c hr => (pe_methS (pv 2) T.cl_Program T.me_Program_with_level (ok_Program_with_level T) hr T.b_Program_with_level (takes_of rfl rfl rfl rfl) (pa_cons (pv 11) (pa_cons (pe_call (ok__law_level_text T) (hr.mono (by decide)) (by rfl) T.m__law_level_text T.F__law_level_text.kp T.b__law_level_text .nil pass0 (pa_cons (pv 8) pa_nil)) pa_nil)))⟩) (pa_cons (pe_call (ok__law_with T) (hr.mono (by decide)) (by rfl) T.m__law_with T.F__law_with.kp T.b__law_with .nil pass0 (pa_cons (pv 1) (pa_cons (pv 11) (pa_cons (pv 8) pa_nil)))) pa_nil)))))
  (psr_ifr (pt_cmpR op_eq (pv 5) pe_int (nomark _))
  (psr_cons (ps_set (i := 6) sc__law_change.nd rfl (.inl rfl) (pe_ifExp (pt_cmpR op_in_seq (pv 11) (pe_lc (own := [("row", 12)]) (g := gName 12) rfl sc__law_change.nd (pi_list (pv 4)) (blkOk_by (own := [("row", 12)]) (N := ["pen", "program", "made", "rests", "early", "way", "due", "index", "level", "parts", "rest", "size", "row"]) (sc := defScope s__law_change) (by decide +kernel)) (fun _ _ _ _ _ => pg_name (i := 12) sc__law_change.nd rfl (Or.inl rfl)) (fun _ _ _ _ _ => pts_nil) (fun _ _ _ _ _ => (pe_ix (show IxR _ (rIxT K) from ix_tup) (pv 12) pe_int (fun _ _ => rfl)))) (by rfl)) (pe_call (ok__law_with T) (hr.mono (by decide)) (by rfl) T.m__law_with T.F__law_with.kp T.b__law_with .nil pass0 (pa_cons (pv 1) (pa_cons (pv 11) (pa_cons pe_non pa_nil)))) (pe_tup (pa_cons pe_str (pa_cons (pv 11) (pa_cons pe_bl pa_nil))))))
  (psr_ret (pe_tup (pa_cons (pe_lam (k := 14) (T := tabsOf a) B.tb__law_change rfl (.head _) B.hu__law_change rfl ⟨LamX.lamS_by (sc := defScope s__law_change) (by decide +kernel), fun _ _ _ _ _ => rfl, fun A outer s H E f c hr => (pe_methS (pv 2) T.cl_Program T.me_Program_without_level (ok_Program_without_level T) hr T.b_Program_without_level (takes_of rfl rfl rfl rfl) (pa_cons (pv 11) pa_nil))⟩) (pa_cons (pv 6) pa_nil)))))
  (psr_cons (ps_asg (pe_tup (pa_cons (pe_call (ok__law_draw T) (hr.mono (by decide)) (by rfl) T.m__law_draw T.F__law_draw.kp T.b__law_draw .nil pass0 (pa_cons (pv 0) (pa_cons (pe_callB call_len_seq (by rfl) T.z_len PySem.boot_len (pa_cons (pv 3) pa_nil)) pa_nil))) (pa_cons (pe_call (ok__law_level T) (hr.mono (by decide)) (by rfl) T.m__law_level T.F__law_level.kp T.b__law_level .nil pass0 (pa_cons (pv 0) (pa_cons pe_int pa_nil))) pa_nil))) (pg_tup rfl (pgs_cons (pg_name (i := 10) sc__law_change.nd rfl (.inr rfl)) (pgs_cons (pg_name (i := 8) sc__law_change.nd rfl (.inr rfl)) pgs_nil))))
  (psr_ifr (pt_cmpR op_lt (pv 5) pe_int (nomark _))
  (psr_cons (ps_set (i := 6) sc__law_change.nd rfl (.inl rfl) (pe_tup (pa_cons (pe_op op_cat (pe_op op_cat (pe_slice sl_list (pv 3) po_none (po_some (pv 10))) (pe_lst (pa_cons (pv 8) pa_nil))) (pe_slice sl_list (pv 3) (po_some (pe_op op_add (pv 10) pe_int)) po_none)) (pa_cons (pv 4) pa_nil))))
  (psr_ret (pe_tup (pa_cons (pe_lam (k := 14) (T := tabsOf a) B.tb__law_change rfl (.head _) B.hu__law_change rfl ⟨LamX.lamS_by (sc := defScope s__law_change) (by decide +kernel), fun _ _ _ _ _ => rfl, fun A outer s H E f c hr => (pe_methS (pv 2) T.cl_Program T.me_Program_with_rest (ok_Program_with_rest T) hr T.b_Program_with_rest (takes_of rfl rfl rfl rfl) (pa_cons (pv 10) (pa_cons (pe_call (ok__law_level_text T) (hr.mono (by decide)) (by rfl) T.m__law_level_text T.F__law_level_text.kp T.b__law_level_text .nil pass0 (pa_cons (pv 8) pa_nil)) pa_nil)))⟩) (pa_cons (pv 6) pa_nil)))))
  (psr_cons (ps_set (i := 9) sc__law_change.nd rfl (.inr rfl) (pe_call (ok__law_spoiled T) (hr.mono (by decide)) (by rfl) T.m__law_spoiled T.F__law_spoiled.kp T.b__law_spoiled .nil pass0 (pa_cons (pv 0) (pa_cons (pe_split (pe_call (ok__law_level_text T) (hr.mono (by decide)) (by rfl) T.m__law_level_text T.F__law_level_text.kp T.b__law_level_text .nil pass0 (pa_cons (pv 8) pa_nil)) pe_str) pa_nil))))
  (psr_cons (ps_set (i := 7) sc__law_change.nd rfl (.inl rfl) (pe_call (ok__law_level_wrong T) (hr.mono (by decide)) (by rfl) T.m__law_level_wrong T.F__law_level_wrong.kp T.b__law_level_wrong .nil pass0 (pa_cons (pv 9) (pa_cons (pe_ifExp (pt_cmpR op_eq (pv 5) pe_int (nomark _)) (pv 11) pe_int) pa_nil))))
  (psr_ifr (pt_cmpR op_isN (pv 7) pe_non (nomark _))
  (psr_ret (pe_tup (pa_cons (pe_lam (k := 14) (T := tabsOf a) B.tb__law_change rfl (.head _) B.hu__law_change rfl ⟨LamX.lamS_by (sc := defScope s__law_change) (by decide +kernel), fun _ _ _ _ _ => rfl, fun A outer s H E f c hr => (pe_methS (pv 2) T.cl_Program T.me_Program_with_level (ok_Program_with_level T) hr T.b_Program_with_level (takes_of rfl rfl rfl rfl) (pa_cons (pv 11) (pa_cons pe_str pa_nil)))⟩) (pa_cons (pe_tup (pa_cons pe_str (pa_cons pe_int (pa_cons pe_bl pa_nil)))) pa_nil))))
  (psr_ifr (pt_cmpR op_eq (pv 5) pe_int (nomark _))
  (psr_ret (pe_tup (pa_cons (pe_lam (k := 14) (T := tabsOf a) B.tb__law_change rfl (.head _) B.hu__law_change rfl ⟨LamX.lamS_by (sc := defScope s__law_change) (by decide +kernel), fun _ _ _ _ _ => rfl, fun A outer s H E f c hr => (pe_methS (pv 2) T.cl_Program T.me_Program_with_level (ok_Program_with_level T) hr T.b_Program_with_level (takes_of rfl rfl rfl rfl) (pa_cons (pv 11) (pa_cons (pe_joinK (K := K) rfl pe_str (pv 9)) pa_nil)))⟩) (pa_cons (pe_tup (pa_cons pe_str (pa_cons (pv 7) (pa_cons pe_bl pa_nil)))) pa_nil))))
  (psr_ret (pe_tup (pa_cons (pe_lam (k := 14) (T := tabsOf a) B.tb__law_change rfl (.head _) B.hu__law_change rfl ⟨LamX.lamS_by (sc := defScope s__law_change) (by decide +kernel), fun _ _ _ _ _ => rfl, fun A outer s H E f c hr => (pe_methS (pv 2) T.cl_Program T.me_Program_with_rest (ok_Program_with_rest T) hr T.b_Program_with_rest (takes_of rfl rfl rfl rfl) (pa_cons (pv 10) (pa_cons (pe_joinK (K := K) rfl pe_str (pv 9)) pa_nil)))⟩) (pa_cons (pe_tup (pa_cons pe_str (pa_cons (pv 7) (pa_cons pe_bl pa_nil)))) pa_nil)))))))))))))), ?_⟩
    have el := hok.elen
    -- rests, early = program
    refine ⟨_, rfl, o, [.ref r, .ref e], rfl, SqT.at ho, rfl, .ref r, [.ref e], rfl, .ref e, [], rfl, rfl, ?_⟩
    -- way, size = (_law_draw(pen, 8), 2 + _law_draw(pen, 11))
    refine ⟨_, rfl, d, c, n, 8, rfl, pt.pen, by omega, by decide, by decide, fun way H1 w0 w8 hp1 b1 => ⟨_, rfl, d, c, n + 1, 11, rfl, hp1, by omega, by decide, by decide, fun v H2 v0 v1 hp2 b2 => ⟨2, v, rfl, rfl, sz (show 2 ≤ 100000 by decide), fun t0 nt0 => ?_⟩⟩⟩
    have s3 := same_upd (o := .tup [.int way, .int (2 + v)]) nt0
    have e3 : (upd H2 t0 (.tup [.int way, .int (2 + v)])) t0 = some (.tup [.int way, .int (2 + v)]) := upd_same
    have b02 := (pt.but hp1 b1).1
    have kp2 : KP H H2 := (kp_but pt.pen b1).trans (kp_but hp1 b2)
    have pt2 := ((pt.but hp1 b1).1.but hp2 b2).1.same s3
    have kp3 := kp2.trans (kp_same s3)
    refine ⟨t0, [.int way, .int (2 + v)], rfl, SqT.at e3, rfl, .int way, [.int (2 + v)], rfl, .int (2 + v), [], rfl, rfl, ?_⟩
    dsimp only
    rw [show (2 : Int) + v = (((2 + v).toNat : Nat) : Int) by omega]
    have z2 : 2 ≤ (2 + v).toNat := by omega
    have z12 : (2 + v).toNat ≤ 12 := by omega
    rw [show (2 : Int) + v = (((2 + v).toNat : Nat) : Int) by omega] at pt2 kp3 s3
    generalize (2 + v).toNat = size at z2 z12 pt2 kp3 s3 ⊢
    generalize upd H2 t0 (.tup [.int way, .int (size : Int)]) = H3 at pt2 kp3 s3 ⊢
    clear e3 b02 s3 nt0 b2 hp2 b1 hp1 kp2
    have hT : ∀ {G : Hp}, KP H G → ProgT G o rests early := fun k => ProgT.kp ⟨r, e, os, es, ho, hr1, hos, he1, hes⟩ k
    have hszs : SizeOk (some size) := ⟨z2, z12⟩
    -- what stands behind a lambda and what is due
    -- if way < 3
    refine ⟨_, rfl, _, _, rfl, rfl, _, rfl, ite2 (fun c3 => ?_) (fun c3 => ?_)⟩
    · refine ⟨_, rfl, _, rfl, d, c, n + 2, some size, rfl, pt2.pen, by omega, hszs, fun la lv le H4 nla hLv hlok hp4 b4 => ?_⟩
      have pt4 := (pt2.but hp4 b4).1
      have kp4 := kp3.trans (kp_but pt2.pen b4)
      -- return (lambda: made.with_level(size, _law_level_text(level)), _law_with(program, size, level))
      refine ⟨pt4.tabs, fun f H5 x5 r5 T5 n5 l5 => ⟨_, rfl, _, rfl, _, rfl, o, size, .ref la, some (lv, le), rests, early, rfl, hT (kp4.trans (kp_ext x5)), hok, .inr ⟨la, (lv, le), rfl, rfl, hLv.klt (klt_ext x5)⟩, fun u H6 hT6 s6 => ⟨sz (show 2 ≤ 100000 by decide), fun t nt => fun h hh => ?_⟩⟩⟩
      have s67 := s6.trans (same_upd (o := .tup [.ref f, .ref u]) nt)
      have kp7 := (kp_ext x5).trans (kp_same (s67.trans hh.same))
      refine q t f u (fun G => LvT G la le lv) (.inl (rests, putE early size (lv, le))) _ (hh.same _ _ upd_same) (kp4.trans kp7) ((PT2.mk (pt4.pen.ext x5) T5).same (s67.trans hh.same) |>.up (by omega)) (fun G G' k hl => hl.klt k.klt) (hLv.klt kp7.klt) ((((l5.keep fun b u hb _ => s67 b u hb).thkD hh).mono (by decide)).imp (chgD (fun G G' k hl => hl.klt k.klt) fun H0 E' Q' hA hl ht => ?_)) (DueA.kp (out := .inl (rests, putE early size (lv, le))) ⟨hT6, hok.putE z2 z12 hlok⟩ (kp_same ((same_upd nt).trans hh.same)))
      obtain ⟨dx, fs, _, _, _, _, _, _, hp, fk, _⟩ := id hA
      refine ⟨.ref p, rfl, p, dx, fs, rfl, hp, fk.2.2 _ (by decide +kernel), _, rfl, _, rfl, la, some size, lv, le, rfl, hl, hszs, hlok, fun H8 s8 => ?_⟩
      exact ⟨p, .int (size : Int), true, _, rests, early, rfl, .int _, .inr ⟨hA.kp (kp_same s8), hok, size, rfl, z2, z12, .inl ⟨lv, le, rfl, hlok, fun q9 H9 _ _ _ _ _ hA9 _ s9 => ht q9 H9 (s8.trans s9) hA9⟩⟩⟩
    -- if way == 3
    refine ⟨_, rfl, rfl, _, rfl, ite2 (fun c4 => ?_) (fun c4 => ?_)⟩
    · -- due = _law_with(program, size, None) if size in [..] else ('none', size, True)
      have oe : ∃ out : Out12, ((size : Int) ∈ (early.map fun s => (s.1 : Int)) → out = .inl (rests, early.filter fun s => decide (s.1 ≠ size))) ∧ ((size : Int) ∉ (early.map fun s => (s.1 : Int)) → out = .inr (a.C_NoLevel, "none", "size", size)) := by
        by_cases hm : (size : Int) ∈ (early.map fun s => (s.1 : Int))
        · exact ⟨_, fun _ => rfl, fun z => absurd hm z⟩
        · exact ⟨_, fun z => absurd z hm, fun _ => rfl⟩
      obtain ⟨out, o1, o2⟩ := oe
      have he3 : EarT H3 es early := EarT.klt kp3.klt hes
      refine asg_one ⟨_, rfl, ?_⟩
      refine lc_firstN (r := 12) (show 12 < 13 by decide) he3 (Same.refl H3) (by omega) (kp3.lst he1) (fun D H4 nD eD s4 => ?_) fun R rr => ⟨_, rfl, rr⟩
      refine ⟨D, _, rfl, .inl (SqL.at eD), rfl, by simp [flatV], _, rfl, ?_⟩
      rw [inV_ints]
      refine merge_ite (R := fun v H' => ∃ u, v = .ref u ∧ DueA (rs12 a) H' u out ∧ Same H4 H') (fun cc Q' qq => ?_) (fun cc Q' qq => ?_) ?_
      · rw [o1 (of_decide_eq_true cc)] at qq
        refine ⟨_, rfl, _, rfl, o, size, .non, none, rests, early, rfl, hT (kp3.trans (kp_same s4)), hok, .inl ⟨rfl, rfl⟩, fun u H5 hT5 s5 => qq _ _ ⟨u, rfl, ⟨hT5, hok.dropE size⟩, s5⟩⟩
      · rw [o2 (of_decide_eq_false cc)] at qq
        exact ⟨_, rfl, sz (show 3 ≤ 100000 by decide), fun u nu => qq _ _ ⟨u, rfl, ⟨upd_same, by simp [rs12]⟩, same_upd nu⟩⟩
      rintro _ H5 ⟨u, rfl, hD, s5⟩
      have s35 := s4.trans s5
      have pt5 := pt2.same s35
      have kp5 := kp3.trans (kp_same s35)
      refine ⟨pt5.tabs, fun f H6 x6 r6 T6 n6 l6 => ⟨_, rfl, sz (show 2 ≤ 100000 by decide), fun t nt => fun h hh => ?_⟩⟩
      have s67 := same_upd (o := .tup [.ref f, .ref u]) nt
      have kp7 := (kp_ext x6).trans (kp_same (s67.trans hh.same))
      refine q t f u (fun _ => True) out _ (hh.same _ _ upd_same) (kp5.trans kp7) ((PT2.mk (pt5.pen.ext x6) T6).same (s67.trans hh.same) |>.up (by omega)) (fun _ _ _ _ => trivial) trivial ((((l6.keep fun b u hb _ => s67 b u hb).thkD hh).mono (by decide)).imp (chgD (fun _ _ _ _ => trivial) fun H0 E' Q' hA _ ht => ?_)) (hD.kp kp7)
      obtain ⟨dx, fs, _, _, _, _, _, _, hp, fk, _⟩ := id hA
      refine ⟨.ref p, rfl, p, dx, fs, rfl, hp, fk.2.2 _ (by decide +kernel), _, rfl, p, .int (size : Int), true, rests, early, rfl, .int _, hA, hok, ?_⟩
      by_cases hm : (size : Int) ∈ (early.map fun s => (s.1 : Int))
      · rw [o1 hm] at ht
        exact .inl ⟨size, rfl, hm, fun q9 H9 _ _ _ _ _ hA9 _ s9 => ht q9 H9 s9 hA9⟩
      · rw [o2 hm] at ht
        exact .inr ⟨fun i hi z => hm (by rw [V.int.inj hi]; exact z), fun H' dd s' ed => ht H' dd s' ed⟩
    -- rest, level = (_law_draw(pen, len(rests)), _law_level(pen, 0))
    have k3r := kp3.lst hr1
    have ln := hos.len
    have n1 := hok.n1
    have n6 := hok.n6
    refine ⟨_, rfl, _, rfl, r, os.map V.ref, rfl, .inl (SqL.at k3r), d, c, n + 1 + 1, _, rfl, pt2.pen, by omega, by rw [List.length_map]; omega, by rw [List.length_map]; omega, fun rest H4 r0 r1 hp4 b4 => ⟨_, rfl, d, c, n + 1 + 1 + 1, none, rfl, hp4, by omega, trivial, fun la lv le H5 nla hLv hlok hp5 b5 => ⟨sz (show 2 ≤ 100000 by decide), fun t0 nt0 => ?_⟩⟩⟩
    obtain ⟨i, rfl⟩ : ∃ i : Nat, rest = (i : Int) := ⟨rest.toNat, by omega⟩
    rw [List.length_map] at r1
    have s6 := same_upd (o := .tup [.int (i : Int), .ref la]) nt0
    have e6 : (upd H5 t0 (.tup [.int (i : Int), .ref la])) t0 = some (.tup [.int (i : Int), .ref la]) := upd_same
    have pt6 := ((pt2.but hp4 b4).1.but hp5 b5).1.same s6
    have kp6 := ((kp3.trans (kp_but pt2.pen b4)).trans (kp_but hp4 b5)).trans (kp_same s6)
    have hLv := hLv.same s6
    generalize upd H5 t0 (.tup [.int (i : Int), .ref la]) = H6 at s6 e6 pt6 kp6 hLv ⊢
    refine ⟨t0, [.int (i : Int), .ref la], rfl, SqT.at e6, rfl, .int (i : Int), [.ref la], rfl, .ref la, [], rfl, rfl, ?_⟩
    clear s6 e6 nt0 b5 b4 hp5 hp4
    -- if way < 6
    refine ⟨_, rfl, _, _, rfl, rfl, _, rfl, ite2 (fun c6 => ?_) (fun c6 => ?_)⟩
    · -- due = (rests[:rest] + [level] + rests[rest + 1:], early)
      have k6r := kp6.lst hr1
      refine asg_one (cons_first (op_first (op_first ⟨_, rfl, _, rfl, (i : Int), rfl, r, os.map V.ref, rfl, SqL.at k6r, fun p1 np1 => ⟨_, rfl, sz (show 1 ≤ 100000 by decide), fun p2 np2 => ?_⟩⟩)))
      rw [cutR_take] at np2 ⊢
      have s7 := same_upd (o := .lst ((os.take i).map V.ref)) np1
      have s8 := same_upd (o := .lst [.ref la]) np2
      have e7 := s8 _ _ (show (upd H6 p1 (.lst ((os.take i).map V.ref))) p1 = some (.lst ((os.take i).map V.ref)) from upd_same)
      have e8 : (upd (upd H6 p1 (.lst ((os.take i).map V.ref))) p2 (.lst [.ref la])) p2 = some (.lst [.ref la]) := upd_same
      generalize upd (upd H6 p1 (.lst ((os.take i).map V.ref))) p2 (.lst [.ref la]) = H8 at s8 e7 e8 ⊢
      have s68 := s7.trans s8
      refine ⟨p1, p2, _, _, rfl, rfl, e7, e8, ?_, fun p3 np3 => ?_⟩
      · rw [List.length_map, List.length_take]
        exact Nat.le_trans (show min i os.length + 1 ≤ 1000 by omega) (by decide)
      have s9 := same_upd (o := .lst ((os.take i).map V.ref ++ [.ref la])) np3
      have e9 : (upd H8 p3 (.lst ((os.take i).map V.ref ++ [.ref la]))) p3 = some (.lst ((os.take i).map V.ref ++ [.ref la])) := upd_same
      generalize upd H8 p3 (.lst ((os.take i).map V.ref ++ [.ref la])) = H9 at s9 e9 ⊢
      have s69 := s68.trans s9
      refine ⟨_, rfl, _, rfl, _, _, rfl, rfl, (i : Int) + 1, rfl, r, os.map V.ref, rfl, SqL.at (s69 _ _ k6r), fun p4 np4 => ?_⟩
      rw [show (i : Int) + 1 = ((i + 1 : Nat) : Int) by omega, cutR_drop os (by omega)]
      have s10 := same_upd (o := .lst ((os.drop (i + 1)).map V.ref)) np4
      have e10 : (upd H9 p4 (.lst ((os.drop (i + 1)).map V.ref))) p4 = some (.lst ((os.drop (i + 1)).map V.ref)) := upd_same
      generalize upd H9 p4 (.lst ((os.drop (i + 1)).map V.ref)) = H10 at s10 e10 ⊢
      refine ⟨p3, p4, _, _, rfl, rfl, s10 _ _ e9, e10, ?_, fun p5 np5 => ?_⟩
      · rw [List.length_append, List.length_map, List.length_map, List.length_take, List.length_drop]
        exact Nat.le_trans (show min i os.length + 1 + (os.length - (i + 1)) ≤ 1000 by omega) (by decide)
      rw [show (os.take i).map V.ref ++ [V.ref la] ++ (os.drop (i + 1)).map V.ref = (os.set i la).map V.ref by
        rw [List.set_eq_take_append_cons_drop, if_pos (by omega), List.map_append, List.map_cons, List.append_assoc]
        rfl]
      have s11 := same_upd (o := .lst ((os.set i la).map V.ref)) np5
      have e11 : (upd H10 p5 (.lst ((os.set i la).map V.ref))) p5 = some (.lst ((os.set i la).map V.ref)) := upd_same
      generalize upd H10 p5 (.lst ((os.set i la).map V.ref)) = H11 at s11 e11 ⊢
      refine ⟨_, rfl, sz (show 2 ≤ 100000 by decide), fun u nu => ?_⟩
      have s12 := same_upd (o := .tup [.ref p5, .ref e]) nu
      have e12 : (upd H11 u (.tup [.ref p5, .ref e])) u = some (.tup [.ref p5, .ref e]) := upd_same
      have e11 := s12 _ _ e11
      generalize upd H11 u (.tup [.ref p5, .ref e]) = H12 at s12 e12 e11 ⊢
      have s612 := s69.trans (s10.trans (s11.trans s12))
      have pt12 := pt6.same s612
      have kp12 := kp6.trans (kp_same s612)
      have hLv12 := hLv.same s612
      have hD : DueA (rs12 a) H12 u (.inl (rests.set i (lv, le), early)) := ⟨⟨p5, e, os.set i la, es, e12, e11, LvTs.set hLv12 (LvTs.klt kp12.klt hos), kp12.lst he1, EarT.klt kp12.klt hes⟩, hok.putR hlok⟩
      -- return (lambda: made.with_rest(rest, _law_level_text(level)), due)
      refine ⟨pt12.tabs, fun f H13 x13 r13 T13 n13 l13 => ⟨_, rfl, sz (show 2 ≤ 100000 by decide), fun t nt => fun h hh => ?_⟩⟩
      have st := same_upd (o := .tup [.ref f, .ref u]) nt
      have kp7 := (kp_ext x13).trans (kp_same (st.trans hh.same))
      refine q t f u (fun G => LvT G la le lv) _ _ (hh.same _ _ upd_same) (kp12.trans kp7) ((PT2.mk (pt12.pen.ext x13) T13).same (st.trans hh.same) |>.up (by omega)) (fun G G' k hl => hl.klt k.klt) (hLv12.klt kp7.klt) ((((l13.keep fun b u hb _ => st b u hb).thkD hh).mono (by decide)).imp (chgD (fun G G' k hl => hl.klt k.klt) fun H0 E' Q' hA hl ht => ?_)) (hD.kp kp7)
      obtain ⟨dx, fs, _, _, _, _, _, _, hp, fk, _⟩ := id hA
      refine ⟨.ref p, rfl, p, dx, fs, rfl, hp, fk.2.2 _ (by decide +kernel), _, rfl, _, rfl, la, none, lv, le, rfl, hl, trivial, hlok, fun H8 s8 => ?_⟩
      exact ⟨p, .int (i : Int), true, _, rests, early, rfl, .int _, hA.kp (kp_same s8), hok, .inr ⟨i, rfl, by omega, .inl ⟨lv, le, rfl, hlok, fun q9 H9 _ _ _ _ _ hA9 _ s9 => ht q9 H9 (s8.trans s9) hA9⟩⟩⟩
    -- parts = _law_spoiled(pen, _law_level_text(level).split(' '))
    refine asg_one ⟨_, rfl, _, rfl, la, none, lv, le, rfl, hLv, trivial, hlok, fun H7 s7 => ?_⟩
    have eT := lvText_eq (size := none) trivial hlok
    have pF := lvP_FS (size := none) trivial hlok
    obtain ⟨p1, p2⟩ := lvP_len (size := none) trivial hlok
    have pne : lvP lv le ≠ [] := fun z => by rw [z] at p1; exact absurd p1 (by decide)
    have tl := join_len (zs := lvP lv le) fun z hz => (FS_chk (pF z hz)).2.2.1
    rw [← eT] at tl
    have tsp : Txt.split (lvText lv le) " " = lvP lv le := by
      rw [eT]
      exact split_FS pne pF
    refine ⟨⟨_, rfl⟩, _, _, rfl, rfl, (by decide +kernel), sz (by omega), fun o2 no2 => ?_⟩
    rw [tsp]
    have s8 := same_upd (o := .lst ((lvP lv le).map V.str)) no2
    have e8 : (upd H7 o2 (.lst ((lvP lv le).map V.str))) o2 = some (.lst ((lvP lv le).map V.str)) := upd_same
    generalize upd H7 o2 (.lst ((lvP lv le).map V.str)) = H8 at s8 e8 ⊢
    have s68 := s7.trans s8
    have pt8 := pt6.same s68
    have kp8 := kp6.trans (kp_same s68)
    refine ⟨d, c, o2, _, lvP lv le, rfl, pt8.pen, by omega, e8, pne, by omega, pF, fun o3 qs H9 no3 eo3 qne qF ql hp9 b9 => ?_⟩
    have pt9 := (pt8.but hp9 b9).1
    have kp9 := kp8.trans (kp_but pt8.pen b9)
    have ql1 : 1 ≤ qs.length := List.length_pos_iff.mpr qne
    have qn : ∀ z ∈ qs, z.length ≤ 100 := fun z hz => (FS_chk (qF z hz)).2.2.1
    have hjl := join_len qn
    clear eT tl tsp hLv hlok
    -- index = _law_level_wrong(parts, size if way == 6 else 0)
    refine ⟨_, rfl, _, rfl, rfl, _, rfl, ?_⟩
    generalize hb : decide (V.int way = V.int 6) = b
    obtain ⟨sz0, hsz, b1, b2⟩ : ∃ sz0 : Option Nat, SizeOk sz0 ∧ (b = true → sz0 = some size) ∧ (b = false → sz0 = none) := by
      cases b with
      | true => exact ⟨some size, hszs, fun _ => rfl, fun z => Bool.noConfusion z⟩
      | false => exact ⟨none, trivial, fun z => Bool.noConfusion z, fun _ => rfl⟩
    refine merge_ite (R := fun v H' => v = .int (szI sz0) ∧ H9 = H') (fun cc Q' qq => ?_) (fun cc Q' qq => ?_) ?_
    · exact ⟨_, rfl, qq _ _ ⟨by rw [b1 cc]; rfl, rfl⟩⟩
    · exact qq _ _ ⟨by rw [b2 cc]; rfl, rfl⟩
    rintro _ _ ⟨rfl, rfl⟩
    refine ⟨o3, qs, sz0, rfl, eo3, ql1, by omega, qF, hsz, fun H10 s10 => ?_⟩
    have eo10 := s10 _ _ eo3
    have pt10 := pt9.same s10
    have kp10 := kp9.trans (kp_same s10)
    -- if index is None
    refine ⟨_, rfl, rfl, _, rfl, ?_⟩
    cases hw : lvlW qs sz0 with
    | none =>
      refine iteT ⟨pt10.tabs, fun f H11 x11 r11 T11 n11 l11 => ⟨sz (show 3 ≤ 100000 by decide), fun u nu => ⟨sz (show 2 ≤ 100000 by decide), fun t nt => fun h hh => ?_⟩⟩⟩
      have su := same_upd (o := .tup [.str "word", .int ((1 : Nat) : Int), .bl true]) nu
      have eu : (upd H11 u (.tup [.str "word", .int ((1 : Nat) : Int), .bl true])) u = some (.tup [.str "word", .int ((1 : Nat) : Int), .bl true]) := upd_same
      have st := su.trans (same_upd (o := .tup [.ref f, .ref u]) nt)
      have kp7 := (kp_ext x11).trans (kp_same (st.trans hh.same))
      refine q t f u (fun _ => True) (.inr (a.C_BadWord, "word", "index", 1)) _ (hh.same _ _ upd_same) (kp10.trans kp7) ((PT2.mk (pt10.pen.ext x11) T11).same (st.trans hh.same) |>.up (by omega)) (fun _ _ _ _ => trivial) trivial ((((l11.keep fun b u hb _ => st b u hb).thkD hh).mono (by decide)).imp (chgD (fun _ _ _ _ => trivial) fun H0 E' Q' hA _ ht => ?_)) (DueA.kp (out := .inr (a.C_BadWord, "word", "index", 1)) ⟨eu, by simp [rs12]⟩ (kp_same ((same_upd nt).trans hh.same)))
      obtain ⟨dx, fs, _, _, _, _, _, _, hp, fk, _⟩ := id hA
      refine ⟨.ref p, rfl, p, dx, fs, rfl, hp, fk.2.2 _ (by decide +kernel), _, rfl, p, .int (size : Int), true, "same", rests, early, rfl, .int _, .inr ⟨hA, hok, size, rfl, z2, z12, .inr ⟨["same"], 1, by decide +kernel, by decide, by decide, by decide +kernel, by decide +kernel, ?_, fun H' dd s' ed => ht H' dd s' ed⟩⟩⟩
      have zz : size = 2 ∨ size = 3 ∨ size = 4 ∨ size = 5 ∨ size = 6 ∨ size = 7 ∨ size = 8 ∨ size = 9 ∨ size = 10 ∨ size = 11 ∨ size = 12 := by omega
      rcases zz with rfl | rfl | rfl | rfl | rfl | rfl | rfl | rfl | rfl | rfl | rfl <;> decide +kernel
    | some j0 =>
      have hlvl : lvlE qs sz0 = .inl j0 := by
        unfold lvlW at hw
        split at hw
        · rename_i e
          cases hw
          exact e
        · cases hw
      refine iteF ⟨_, rfl, rfl, _, rfl, ?_⟩
      rw [hb]
      cases b with
      | true =>
        cases b1 rfl
        refine iteT ⟨pt10.tabs, fun f H11 x11 r11 T11 n11 l11 => ⟨_, rfl, sz (show 3 ≤ 100000 by decide), fun u nu => ⟨sz (show 2 ≤ 100000 by decide), fun t nt => fun h hh => ?_⟩⟩⟩
        have su := same_upd (o := .tup [.str "word", .int (j0 : Int), .bl true]) nu
        have eu : (upd H11 u (.tup [.str "word", .int (j0 : Int), .bl true])) u = some (.tup [.str "word", .int (j0 : Int), .bl true]) := upd_same
        have st := su.trans (same_upd (o := .tup [.ref f, .ref u]) nt)
        have kp7 := (kp_ext x11).trans (kp_same (st.trans hh.same))
        refine q t f u (fun G => G o3 = some (.lst (qs.map V.str))) (.inr (a.C_BadWord, "word", "index", j0)) _ (hh.same _ _ upd_same) (kp10.trans kp7) ((PT2.mk (pt10.pen.ext x11) T11).same (st.trans hh.same) |>.up (by omega)) (fun _ _ k z => k.lst z) (kp7.lst eo10) ((((l11.keep fun b u hb _ => st b u hb).thkD hh).mono (by decide)).imp (chgD (fun _ _ k z => k.lst z) fun H0 E' Q' hA hz ht => ?_)) (DueA.kp (out := .inr (a.C_BadWord, "word", "index", j0)) ⟨eu, by simp [rs12]⟩ (kp_same ((same_upd nt).trans hh.same)))
        obtain ⟨dx, fs, _, _, _, _, _, _, hp, fk, _⟩ := id hA
        refine ⟨.ref p, rfl, p, dx, fs, rfl, hp, fk.2.2 _ (by decide +kernel), _, rfl, ⟨_, rfl⟩, _, rfl, " ", o3, qs, rfl, rfl, .inl (SqL.at hz), join_size qn (by omega), p, .int (size : Int), true, _, rests, early, rfl, .int _, .inr ⟨hA, hok, size, rfl, z2, z12, .inr ⟨qs, j0, split_FS qne qF, ql1, by omega, qF, by omega, hlvl, fun H' dd s' ed => ht H' dd s' ed⟩⟩⟩
      | false =>
        cases b2 rfl
        refine iteF ⟨pt10.tabs, fun f H11 x11 r11 T11 n11 l11 => ⟨_, rfl, sz (show 3 ≤ 100000 by decide), fun u nu => ⟨sz (show 2 ≤ 100000 by decide), fun t nt => fun h hh => ?_⟩⟩⟩
        have su := same_upd (o := .tup [.str "word", .int (j0 : Int), .bl true]) nu
        have eu : (upd H11 u (.tup [.str "word", .int (j0 : Int), .bl true])) u = some (.tup [.str "word", .int (j0 : Int), .bl true]) := upd_same
        have st := su.trans (same_upd (o := .tup [.ref f, .ref u]) nt)
        have kp7 := (kp_ext x11).trans (kp_same (st.trans hh.same))
        refine q t f u (fun G => G o3 = some (.lst (qs.map V.str))) (.inr (a.C_BadWord, "word", "index", j0)) _ (hh.same _ _ upd_same) (kp10.trans kp7) ((PT2.mk (pt10.pen.ext x11) T11).same (st.trans hh.same) |>.up (by omega)) (fun _ _ k z => k.lst z) (kp7.lst eo10) ((((l11.keep fun b u hb _ => st b u hb).thkD hh).mono (by decide)).imp (chgD (fun _ _ k z => k.lst z) fun H0 E' Q' hA hz ht => ?_)) (DueA.kp (out := .inr (a.C_BadWord, "word", "index", j0)) ⟨eu, by simp [rs12]⟩ (kp_same ((same_upd nt).trans hh.same)))
        obtain ⟨dx, fs, _, _, _, _, _, _, hp, fk, _⟩ := id hA
        refine ⟨.ref p, rfl, p, dx, fs, rfl, hp, fk.2.2 _ (by decide +kernel), _, rfl, ⟨_, rfl⟩, _, rfl, " ", o3, qs, rfl, rfl, .inl (SqL.at hz), join_size qn (by omega), p, .int (i : Int), true, _, rests, early, rfl, .int _, hA, hok, .inr ⟨i, rfl, by omega, .inr ⟨qs, j0, split_FS qne qF, ql1, by omega, qF, by omega, hlvl, fun H' dd s' ed => ht H' dd s' ed⟩⟩⟩
end

theorem eqD_self {K : PySem.W.Frag} {H : Hp} {x y : V} {D : PyData} {Q : VK} (hx : Dp K H x D) (hy : Dp K H y D) (h : SeqAt.shaped D = true) (q : Q (.bl true) H) : rEqD K x y H Q := by
  refine ⟨D, D, hx, hy, h, h, ?_⟩
  rw [SeqAt.eqv_refl _ (SeqAt.canLay_of_shaped h)]
  exact q
theorem neD_self {K : PySem.W.Frag} {H : Hp} {x y : V} {D : PyData} {Q : VK} (hx : Dp K H x D) (hy : Dp K H y D) (h : SeqAt.shaped D = true) (q : Q (.bl false) H) : rNeD K x y H Q := by
  refine ⟨D, D, hx, hy, h, h, ?_⟩
  rw [SeqAt.eqv_refl _ (SeqAt.canLay_of_shaped h)]
  exact q

/-- a value that is no size, or no place -/
def OddV (lo hi : Int) (y : V) : Prop := (∃ ib, ∀ H, IsI H y ib) ∧ btM lo hi y = false ∧ ∃ D, (∀ K H, Dp K H y D) ∧ PyData.canLay0 D = true ∧ PyData.depth D = 0
theorem oddV_int {lo hi i : Int} (h : i < lo ∨ hi < i) : OddV lo hi (.int i) := by
  refine ⟨⟨_, fun _ => .int _⟩, ?_, .int i, fun _ _ => .int _, by simp [PyData.canLay0], by simp [PyData.depth]⟩
  simp only [btM, Bool.and_eq_false_iff, decide_eq_false_iff_not]
  omega
theorem oddV_bl {lo hi : Int} (b : Bool) : OddV lo hi (.bl b) := ⟨⟨_, fun _ => .bl _⟩, rfl, _, fun _ _ => .bl _, by simp [PyData.canLay0], by simp [PyData.depth]⟩
theorem oddV_non {lo hi : Int} : OddV lo hi .non := ⟨⟨_, fun _ => .non⟩, rfl, _, fun _ _ => .non, by simp [PyData.canLay0], by simp [PyData.depth]⟩
theorem oddV_str {lo hi : Int} {s : Str} (h : PyData.strOk s = true) : OddV lo hi (.str s) := ⟨⟨_, fun _ => .str _⟩, rfl, _, fun _ _ => .str _, by simp [PyData.canLay0, h], by simp [PyData.depth]⟩
theorem tabs_lst {TT : List (Addr × Str)} {H : Hp} {c : Addr} {xs ys : List V} (h : LamX.Tabs TT H) (e : H c = some (.lst xs)) : LamX.Tabs TT (upd H c (.lst ys)) := fun p hp => by
  obtain ⟨ps, h1, h2, h3⟩ := h p hp
  refine ⟨ps, ?_, h2, fun pos cv hc => ?_⟩
  · rw [upd_ne (ne_of h1 e (by intro z; cases z))]
    exact h1
  · obtain ⟨c', e1, e2⟩ := h3 pos cv hc
    refine ⟨c', e1, ?_⟩
    rw [upd_ne (ne_of e2 e (by intro z; unfold LamX.CodeO at z; cases z))]
    exact e2
theorem tag_shaped {tag : Str} {D : PyData} (ht : PyData.strOk tag = true) (h1 : PyData.canLay0 D = true) (h2 : PyData.depth D = 0) : SeqAt.shaped (.tuple [.str tag, D]) = true := by
  unfold SeqAt.shaped
  simp [PyData.canLay0, PyData.canLayAll0, PyData.depth, PyData.depthAll, h1, h2, ht]
theorem tag_dp {K : PySem.W.Frag} {H : Hp} {p : Addr} {tag : Str} {v : V} {D : PyData} (e : H p = some (.tup [.str tag, v])) (hD : Dp K H v D) : Dp K H (.ref p) (.tuple [.str tag, D]) := .tup (SqT.at e) (.cons (.str _) (.cons hD .nil))
theorem kp_upd {H G : Hp} {l : Addr} {o : HO} (k : KP H G) (n : H l = none) : KP H (upd G l o) := fun b u e h => by
  rw [upd_ne (ne_of_none e n)]
  exact k b u e h
theorem PT2.lst {TT : List (Addr × Str)} {H : Hp} {d c l : Addr} {n : Nat} {xs ys : List V} (p : PT2 TT H d c n) (e : H l = some (.lst xs)) (hc : c ≠ l) : PT2 TT (upd H l (.lst ys)) d c n := by
  obtain ⟨_, hd⟩ := p.pen.dict
  exact ⟨p.pen.mut (ne_of hd e (by intro z; cases z)) hc, tabs_lst p.tabs e⟩
theorem tag_size : PyData.strOk "size" = true := by decide +kernel

/-! ### what stands while lambdas are laid in a list; a live lambda that comes to an error -/
/-- all but tables and lists at c -/
theorem extn_upd {H G : Hp} {c : Addr} {o : HO} (s : LamX.ExtN H G) (n : H c = none) : LamX.ExtN H (upd G c o) := fun b u e ne => by
  rw [upd_ne (ne_of_none e n)]
  exact s b u e ne
def FK (H G : Hp) : Prop := ∀ b o, H b = some o → Firm o → G b = some o
theorem FK.trans {H G J : Hp} (x : FK H G) (y : FK G J) : FK H J := fun b o e f => y b o (x b o e f) f
theorem fk_ext {H G : Hp} (s : LamX.ExtN H G) : FK H G := fun b o e f => s b o e fun ps z => by
  rcases f with ⟨ob, u, rfl⟩ | ⟨φ, rfl⟩ <;> cases z
theorem fk_same {H G : Hp} (s : Same H G) : FK H G := fun b o e _ => s b o e
theorem fk_lst {H : Hp} {c : Addr} {xs ys : List V} (e : H c = some (.lst xs)) : FK H (upd H c (.lst ys)) := fun b o h f => by
  rw [upd_ne (ne_of h e (by rcases f with ⟨ob, u, rfl⟩ | ⟨φ, rfl⟩ <;> intro z <;> cases z))]
  exact h
/-- asked of a lambda that is made on the spot and comes to an error -/
theorem metT_live {X : Cx} {σ : L2.St} {H1 : Hp} {h : Heap} {k kk : Nat} {t : XK → TE} {f CP : Addr} {rs : List (Addr × Str × Str)} {Q : VK} {E : XK} (hh : HeldAt X σ H1 h) (l : LamAt X k H1 f t) (hk : k + 1 ≤ kk)
    (q : ∀ (H0 : Hp) (told : VK) (err : XK), Same H1 H0 → (∀ b, H0 b = none → H1 b = none) →
      (∀ C tag fld dd v H', (C, tag, fld) ∈ rs → Same H0 H' → H' dd = some (.xd [(fld, v)]) → (∀ p Hf, Same H1 Hf → Over H' Hf → Hf p = some (.tup [.str tag, v, .bl true]) → Q (.ref p) Hf) → err (.ref C) (some dd) H') →
      t err σ H0 told) :
    spMetT X.prog X.w X.K X.mg X.base kk CP rs [.ref f] (heldH (csOf X.env.cells) h H1) (HeldQ X Q) E := by
  obtain ⟨sp, th, run⟩ := l.thk hh
  refine ⟨f, sp, rfl, th.mono hk, fun Q' E' _ hE => run Q' E' fun H0 R s1 fr hR => ?_⟩
  refine q H0 (fun v H' => R (Q' v) H') (fun cls d H' => R (E' cls d) H') s1 fr (fun C tag fld dd v H' hm s' hd qq => hR _ _ fun G bk => hE _ _ _ ?_)
  refine ⟨C, tag, fld, dd, v, hm, rfl, rfl, ?_, fun p np _ => ?_⟩
  · rw [bk.ne dd (bk.off dd _ hd fun ob z => by cases z)]
    exact hd
  · obtain ⟨n, e⟩ := freed_made (o := HO.tup [.str tag, v, .bl true]) bk np
    rw [e]
    have up : ∀ b u, b ∉ csOf X.env.cells → H' b = some u → upd (freedH (csOf X.env.cells) H') p (HO.tup [.str tag, v, .bl true]) b = some u := fun b u nb hb => by
      have nbp : b ≠ p := fun z => by
        rw [← z, bk.ne b nb, hb] at np
        cases np
      rw [upd_ne nbp, freedH_ne nb]
      exact hb
    refine qq p _ (fun b u hb => up b u (fun z => ?_) (s' b u (s1 b u hb))) (fun b u hb nu => up b u (bk.off b u hb nu) hb) upd_same
    rw [hh.off b z] at hb
    cases hb

/-! ### calls that must fail -/
def odds12 : List V := [.int 1, .int 13, .bl true, .non, .str "3", .int (-2), .int (10 ^ (30 : Int).toNat)]
def gones12 (m : Nat) : List V := [.int (m : Int), .int (-1), .bl true, .non, .str "0"]
theorem odds12_ok {y : V} (h : y ∈ odds12) : OddV 2 12 y := by
  simp only [odds12, List.mem_cons, List.not_mem_nil, or_false] at h
  rcases h with rfl | rfl | rfl | rfl | rfl | rfl | rfl
  · exact oddV_int (by decide)
  · exact oddV_int (by decide)
  · exact oddV_bl _
  · exact oddV_non
  · exact oddV_str (by decide +kernel)
  · exact oddV_int (by decide)
  · exact oddV_int (by decide +kernel)
theorem gones12_ok {m : Nat} {y : V} (h : y ∈ gones12 m) : OddV 0 ((m : Int) - 1) y := by
  simp only [gones12, List.mem_cons, List.not_mem_nil, or_false] at h
  rcases h with rfl | rfl | rfl | rfl | rfl
  · exact oddV_int (by omega)
  · exact oddV_int (.inl (by decide))
  · exact oddV_bl _
  · exact oddV_non
  · exact oddV_str (by decide +kernel)
/-- what the calls come to, one after the other -/
def It12 (H : Hp) (D : Addr) (y z : V) : Nat → Addr → Prop
  | 0, p => H p = some (.tup [.str "size", y, .bl true])
  | 1, p => H p = some (.tup [.str "none", y, .bl true])
  | 2, p => H p = some (.tup [.str "number", z, .bl true])
  | _, p => ∃ l, l ≠ D ∧ H p = some (.tup [.str "none", .ref l, .bl true]) ∧ H l = some (.lst [.int 4])
theorem It12.keep {H H' : Hp} {D : Addr} {y z : V} (s : ∀ b o, b ≠ D → H b = some o → H' b = some o) (hD : ∃ xs, H D = some (.lst xs)) : ∀ {j : Nat} {p : Addr}, It12 H D y z j p → It12 H' D y z j p := by
  obtain ⟨xs, hD⟩ := hD
  have key : ∀ {p : Addr} {ts : List V}, H p = some (.tup ts) → H' p = some (.tup ts) := fun {p ts} e => s _ _ (fun w => by
    rw [w, hD] at e
    cases e) e
  intro j p h
  match j, h with
  | 0, h => exact key h
  | 1, h => exact key h
  | 2, h => exact key h
  | _ + 3, ⟨l, n, a, b⟩ => exact ⟨l, n, key a, s _ _ n b⟩
section
variable {P : Program} {w : World} {K : PySem.W.Frag} {mg : Str → Option Value} {base : Heap} {a : Ad}
def spOddR (CP CL CW : Addr) (TT : List (Addr × Str)) : Sp := fun vs H Q _ => ∃ (d c p : Addr) (n : Nat) (rests : List (Lv × Bool)) (early : List (Nat × Lv × Bool)), vs = [.ref d, .ref p, .int (rests.length : Int)] ∧ PT2 TT H d c n ∧ n + 10 < 2 ^ 40 ∧ ProgAt CP CL CW H p rests early ∧ ProgOk rests early ∧ ∀ H', PT2 TT H' d c (n + 2) → KP H H' → Q (.bl true) H'
theorem ok__law_odd_right (T : Tx w K mg a) (B : Tb base mg a) : FnOk P w K mg base CX0 18 a.f__law_odd_right a.d__law_odd_right ["pen", "made", "many"] (spOddR a.C_Program a.C_Level a.C_Word (tabsOf a)) := by
  refine T.L__law_odd_right.ok T.b__law_odd_right sc__law_odd_right (fun vs H Q E h => ?_) (fun A outer s H vs Q E hr h => ?_)
  · obtain ⟨d, c, p, n, rests, early, rfl, _⟩ := h
    rfl
  · obtain ⟨d, c, p, n, rests, early, rfl, pt, hn, hP, hok, q⟩ := h
    refine ⟨_, 
(pss_cons (ps_asg (pe_tup (pa_cons (pe_call (ok__law_pick T) (hr.mono (by decide)) (by rfl) T.m__law_pick T.F__law_pick.kp T.b__law_pick .nil pass0 (pa_cons (pv 0) (pa_cons (pe_lst (pa_cons pe_int (pa_cons pe_int (pa_cons pe_bl (pa_cons pe_non (pa_cons pe_str (pa_cons (pe_un un_neg pe_int) (pa_cons (pe_op op_pow pe_int pe_int) pa_nil)))))))) pa_nil))) (pa_cons (pe_call (ok__law_pick T) (hr.mono (by decide)) (by rfl) T.m__law_pick T.F__law_pick.kp T.b__law_pick .nil pass0 (pa_cons (pv 0) (pa_cons (pe_lst (pa_cons (pv 2) (pa_cons (pe_un un_neg pe_int) (pa_cons pe_bl (pa_cons pe_non (pa_cons pe_str pa_nil)))))) pa_nil))) pa_nil))) (pg_tup rfl (pgs_cons (pg_name (i := 6) sc__law_odd_right.nd rfl (.inr rfl)) (pgs_cons (pg_name (i := 5) sc__law_odd_right.nd rfl (.inr rfl)) pgs_nil))))
  (pss_cons (ps_set (i := 3) sc__law_odd_right.nd rfl (.inl rfl) (pe_lst (pa_cons (pe_lam (k := 14) (T := tabsOf a) B.tb__law_odd_right rfl (.tail _ (.head _)) B.hu__law_odd_right rfl ⟨LamX.lamS_by (sc := defScope s__law_odd_right) (by decide +kernel), fun _ _ _ _ _ => rfl, fun A outer s H E f c hr => (pe_methS (pv 1) T.cl_Program T.me_Program_with_level (ok_Program_with_level T) hr T.b_Program_with_level (takes_of rfl rfl rfl rfl) (pa_cons (pv 6) (pa_cons pe_str pa_nil)))⟩) pa_nil)))
  (pss_cons (ps_expr (pe_bm PySem.F.plainAttrs_list PySem.F.slot_list_append PySem.F.type_list_append mt_append (pv 3) (pa_cons (pe_lam (k := 14) (T := tabsOf a) B.tb__law_odd_right rfl (.tail _ (.head _)) B.hu__law_odd_right rfl ⟨LamX.lamS_by (sc := defScope s__law_odd_right) (by decide +kernel), fun _ _ _ _ _ => rfl, fun A outer s H E f c hr => (pe_methS (pv 1) T.cl_Program T.me_Program_without_level (ok_Program_without_level T) hr T.b_Program_without_level (takes_of rfl rfl rfl rfl) (pa_cons (pv 6) pa_nil))⟩) pa_nil)))
  (pss_cons (ps_expr (pe_bm PySem.F.plainAttrs_list PySem.F.slot_list_append PySem.F.type_list_append mt_append (pv 3) (pa_cons (pe_lam (k := 14) (T := tabsOf a) B.tb__law_odd_right rfl (.tail _ (.head _)) B.hu__law_odd_right rfl ⟨LamX.lamS_by (sc := defScope s__law_odd_right) (by decide +kernel), fun _ _ _ _ _ => rfl, fun A outer s H E f c hr => (pe_methS (pv 1) T.cl_Program T.me_Program_with_rest (ok_Program_with_rest T) hr T.b_Program_with_rest (takes_of rfl rfl rfl rfl) (pa_cons (pv 5) (pa_cons pe_str pa_nil)))⟩) pa_nil)))
  (pss_cons (ps_expr (pe_bm PySem.F.plainAttrs_list PySem.F.slot_list_append PySem.F.type_list_append mt_append (pv 3) (pa_cons (pe_lam (k := 14) (T := tabsOf a) B.tb__law_odd_right rfl (.tail _ (.head _)) B.hu__law_odd_right rfl ⟨LamX.lamS_by (sc := defScope s__law_odd_right) (by decide +kernel), fun _ _ _ _ _ => rfl, fun A outer s H E f c hr => (pe_methS (pv 1) T.cl_Program T.me_Program_without_level (ok_Program_without_level T) hr T.b_Program_without_level (takes_of rfl rfl rfl rfl) (pa_cons (pe_lst (pa_cons pe_int pa_nil)) pa_nil))⟩) pa_nil)))
  (pss_cons (ps_set (i := 4) sc__law_odd_right.nd rfl (.inl rfl) (pe_lst (pa_cons (pe_tup (pa_cons pe_str (pa_cons (pv 6) (pa_cons pe_bl pa_nil)))) (pa_cons (pe_tup (pa_cons pe_str (pa_cons (pv 6) (pa_cons pe_bl pa_nil)))) (pa_cons (pe_tup (pa_cons pe_str (pa_cons (pv 5) (pa_cons pe_bl pa_nil)))) (pa_cons (pe_tup (pa_cons pe_str (pa_cons (pe_lst (pa_cons pe_int pa_nil)) (pa_cons pe_bl pa_nil)))) pa_nil))))))
  (pss_one (ps_ret (pe_cmpR (op_eqD hr.units) (pe_lcG (own := [("call", 7)]) (g := gName 7) rfl sc__law_odd_right.nd (pi_list (pv 3)) (blkOk_by (own := [("call", 7)]) (N := ["pen", "made", "many", "calls", "due", "gone", "odd", "call"]) (sc := defScope s__law_odd_right) (by decide +kernel)) (fun _ _ _ _ _ => pg_name (i := 7) sc__law_odd_right.nd rfl (Or.inl rfl)) (fun pins σ z G C cl fp I0 f0 => (pe_callBk I0 f0 (ok__law_met (P := P) (base := base) T) hr (by rfl) T.m__law_met T.F__law_met.kp T.b__law_met (pa_cons (pv 7) pa_nil)))) (pv 4) (nomark _)))))))))), ?_⟩
    -- odd, gone = (_law_pick(pen, [..]), _law_pick(pen, [many, ..]))
    refine ⟨_, rfl, 2, rfl, 10, 30, rfl, rfl, ⟨by decide, by decide, by decide⟩, sz (show 7 ≤ 100000 by decide), fun p0 np0 => ⟨d, c, p0, n, odds12, rfl, pt.pen.same (same_upd np0), by omega, SqL.at upd_same, (show 0 < 7 by decide), (show 7 ≤ 100000 by decide), fun y H5 hy hp5 b5 => ?_⟩⟩
    have k5 := (kp_same (same_upd np0)).trans (kp_but (pt.pen.same (same_upd np0)) b5)
    have pt5 := ((pt.same (same_upd np0)).but hp5 b5).1
    refine ⟨_, rfl, _, rfl, 1, rfl, sz (show 5 ≤ 100000 by decide), fun p1 np1 => ⟨d, c, p1, n + 1, gones12 rests.length, rfl, hp5.same (same_upd np1), by omega, SqL.at upd_same, (show 0 < 5 by decide), (show 5 ≤ 100000 by decide), fun z H7 hz hp7 b7 => ⟨sz (show 2 ≤ 100000 by decide), fun t0 nt0 => ?_⟩⟩⟩
    have k7 := k5.trans ((kp_same (same_upd np1)).trans (kp_but (hp5.same (same_upd np1)) b7))
    have pt7 := ((pt5.same (same_upd np1)).but hp7 b7).1
    have s8 := same_upd (o := .tup [y, z]) nt0
    have e8 : (upd H7 t0 (.tup [y, z])) t0 = some (.tup [y, z]) := upd_same
    generalize upd H7 t0 (.tup [y, z]) = H8 at s8 e8 ⊢
    refine ⟨t0, [y, z], rfl, SqT.at e8, rfl, y, [z], rfl, z, [], rfl, rfl, ?_⟩
    have pt16 := pt7.same s8
    have kp16 := k7.trans (kp_same s8)
    obtain ⟨⟨iy, hIy⟩, hby, dy, hDy, cy, ey⟩ := odds12_ok hy
    obtain ⟨⟨iz, hIz⟩, hbz, dz, hDz, cz, ez⟩ := gones12_ok hz
    clear s8 e8 nt0 k7 pt7 b7 hp7 k5 pt5 b5 hp5
    generalize upd H7 t0 (.tup [y, z]) = H16 at pt16 kp16 ⊢
    have hP16 := hP.kp kp16
    -- calls = [lambda: made.with_level(odd, 'wrong')]
    refine ⟨pt16.tabs, fun f1 H17 e17 r17 T17 n17 l17 => ⟨sz (show 1 ≤ 100000 by decide), fun ca nca => ?_⟩⟩
    have x18 := e17.trans (LamX.ExtN.of (same_upd (o := .lst [.ref f1]) nca))
    have T18 := T17.ext (same_upd (o := .lst [.ref f1]) nca)
    have f18 := fk_same (same_upd (o := .lst [.ref f1]) nca)
    have c18 : (upd H17 ca (.lst [.ref f1])) ca = some (.lst [.ref f1]) := upd_same
    have nca16 := r17 _ nca
    change gName 3 (V.ref ca) _ (upd H17 ca (.lst [.ref f1])) _
    generalize upd H17 ca (.lst [.ref f1]) = H18 at x18 T18 f18 c18 ⊢
    clear e17 r17 T17 n17
    -- calls.append(lambda: made.without_level(odd))
    refine ⟨_, rfl, .inl ⟨rfl, _, SqL.at c18⟩, T18, fun f2 H19 e19 r19 T19 n19 l19 => ⟨ca, [.ref f1], .ref f2, rfl, rfl, e19 _ _ c18 (fun ps z => by cases z), szlt (show 1 ≤ 100000 by decide), ?_⟩⟩
    have c19 := e19 _ _ c18 (fun ps z => by cases z)
    have x20 := extn_upd (o := .lst ([.ref f1] ++ [.ref f2])) (x18.trans e19) nca16
    have T20 := tabs_lst (ys := [.ref f1] ++ [.ref f2]) T19 c19
    have f20 := (f18.trans (fk_ext e19)).trans (fk_lst (ys := [.ref f1] ++ [.ref f2]) c19)
    have g20 := fk_lst (ys := [.ref f1] ++ [.ref f2]) c19
    have c20 : (upd H19 ca (.lst ([.ref f1] ++ [.ref f2]))) ca = some (.lst [.ref f1, .ref f2]) := upd_same
    generalize upd H19 ca (.lst ([.ref f1] ++ [.ref f2])) = H20 at x20 T20 f20 g20 c20 ⊢
    clear x18 T18 f18 c18 e19 r19 T19 n19 c19
    -- calls.append(lambda: made.with_rest(gone, 'wrong'))
    refine ⟨_, rfl, .inl ⟨rfl, _, SqL.at c20⟩, T20, fun f3 H21 e21 r21 T21 n21 l21 => ⟨ca, [.ref f1, .ref f2], .ref f3, rfl, rfl, e21 _ _ c20 (fun ps z => by cases z), szlt (show 2 ≤ 100000 by decide), ?_⟩⟩
    have c21 := e21 _ _ c20 (fun ps z => by cases z)
    have x22 := extn_upd (o := .lst ([.ref f1, .ref f2] ++ [.ref f3])) (x20.trans e21) nca16
    have T22 := tabs_lst (ys := [.ref f1, .ref f2] ++ [.ref f3]) T21 c21
    have g22 := fk_lst (ys := [.ref f1, .ref f2] ++ [.ref f3]) c21
    have f22 := (f20.trans (fk_ext e21)).trans g22
    have h22 := (g20.trans (fk_ext e21)).trans g22
    have c22 : (upd H21 ca (.lst ([.ref f1, .ref f2] ++ [.ref f3]))) ca = some (.lst [.ref f1, .ref f2, .ref f3]) := upd_same
    generalize upd H21 ca (.lst ([.ref f1, .ref f2] ++ [.ref f3])) = H22 at x22 T22 f22 g22 h22 c22 ⊢
    clear x20 T20 f20 g20 c20 e21 r21 T21 n21 c21
    -- calls.append(lambda: made.without_level([4]))
    refine ⟨_, rfl, .inl ⟨rfl, _, SqL.at c22⟩, T22, fun f4 H23 e23 r23 T23 n23 l23 => ⟨ca, [.ref f1, .ref f2, .ref f3], .ref f4, rfl, rfl, e23 _ _ c22 (fun ps z => by cases z), szlt (show 3 ≤ 100000 by decide), ?_⟩⟩
    have c23 := e23 _ _ c22 (fun ps z => by cases z)
    have x24 := extn_upd (o := .lst ([.ref f1, .ref f2, .ref f3] ++ [.ref f4])) (x22.trans e23) nca16
    have T24 := tabs_lst (ys := [.ref f1, .ref f2, .ref f3] ++ [.ref f4]) T23 c23
    have g24 := fk_lst (ys := [.ref f1, .ref f2, .ref f3] ++ [.ref f4]) c23
    have l1 := l17.keep ((f22.trans (fk_ext e23)).trans g24)
    have l2 := l19.keep ((h22.trans (fk_ext e23)).trans g24)
    have l3 := l21.keep ((g22.trans (fk_ext e23)).trans g24)
    have l4 := l23.keep g24
    have c24 : (upd H23 ca (.lst ([.ref f1, .ref f2, .ref f3] ++ [.ref f4]))) ca = some (.lst [.ref f1, .ref f2, .ref f3, .ref f4]) := upd_same
    generalize upd H23 ca (.lst ([.ref f1, .ref f2, .ref f3] ++ [.ref f4])) = H24 at x24 T24 l1 l2 l3 l4 c24 ⊢
    clear x22 T22 f22 g22 h22 g24 c22 e23 r23 T23 n23 c23 l17 l19 l21 l23
    have pt24 : PT2 (tabsOf a) H24 d c (n + 1 + 1) := ⟨pt16.pen.ext x24, T24⟩
    have kp24 := kp16.trans (kp_ext x24)
    have hP24 := hP16.kp (kp_ext x24)
    clear pt16 hP16 x24 T24 kp16
    -- due = [('size', odd, True), ('none', odd, True), ('number', gone, True), ('none', [4], True)]
    refine ⟨_, rfl, sz (show 3 ≤ 100000 by decide), fun q1 nq1 => ⟨_, rfl, sz (show 3 ≤ 100000 by decide), fun q2 nq2 => ⟨_, rfl, sz (show 3 ≤ 100000 by decide), fun q3 nq3 => ⟨sz (show 1 ≤ 100000 by decide), fun q4 nq4 => ⟨sz (show 3 ≤ 100000 by decide), fun q5 nq5 => ⟨sz (show 4 ≤ 100000 by decide), fun du ndu => ?_⟩⟩⟩⟩⟩⟩
    have u1 := same_upd (o := .tup [.str "size", y, .bl true]) nq1
    have u2 := same_upd (o := .tup [.str "none", y, .bl true]) nq2
    have u3 := same_upd (o := .tup [.str "number", z, .bl true]) nq3
    have u4 := same_upd (o := .lst [.int 4]) nq4
    have u5 := same_upd (o := .tup [.str "none", .ref q4, .bl true]) nq5
    have u6 := same_upd (o := .lst [.ref q1, .ref q2, .ref q3, .ref q5]) ndu
    have m1 := u6 _ _ (u5 _ _ (u4 _ _ (u3 _ _ (u2 q1 _ upd_same))))
    have m2 := u6 _ _ (u5 _ _ (u4 _ _ (u3 q2 _ upd_same)))
    have m3 := u6 _ _ (u5 _ _ (u4 q3 _ upd_same))
    have m4 := u6 _ _ (u5 q4 _ upd_same)
    have m5 := u6 q5 _ upd_same
    have s30 := u1.trans (u2.trans (u3.trans (u4.trans (u5.trans u6))))
    have m6 : (upd (upd (upd (upd (upd (upd H24 q1 (.tup [.str "size", y, .bl true])) q2 (.tup [.str "none", y, .bl true])) q3 (.tup [.str "number", z, .bl true])) q4 (.lst [.int 4])) q5 (.tup [.str "none", .ref q4, .bl true])) du (.lst [.ref q1, .ref q2, .ref q3, .ref q5])) du = some (.lst [.ref q1, .ref q2, .ref q3, .ref q5]) := upd_same
    dsimp only
    generalize upd (upd (upd (upd (upd (upd H24 q1 (.tup [.str "size", y, .bl true])) q2 (.tup [.str "none", y, .bl true])) q3 (.tup [.str "number", z, .bl true])) q4 (.lst [.int 4])) q5 (.tup [.str "none", .ref q4, .bl true])) du (.lst [.ref q1, .ref q2, .ref q3, .ref q5]) = H30 at m1 m2 m3 m4 m5 m6 s30 ⊢
    clear u1 u2 u3 u4 u5 u6 nq1 nq2 nq3 nq4 nq5 ndu
    have l1 := l1.keep (fk_same s30)
    have l2 := l2.keep (fk_same s30)
    have l3 := l3.keep (fk_same s30)
    have l4 := l4.keep (fk_same s30)
    have c30 := s30 _ _ c24
    have pt30 := pt24.same s30
    have kp30 := kp24.trans (kp_same s30)
    have hP30 := hP24.kp (kp_same s30)
    clear pt24 kp24 hP24 c24
    -- return [_law_met(call) for call in calls] == due
    refine ⟨_, rfl, ca, rfl, ⟨_, SqL.at c30⟩, fun D' hD' => ?_⟩
    have hPp := hP30
    obtain ⟨dx, fs, _, _, _, _, _, _, hp, fk, _⟩ := hPp
    have no1 : fs.lookup ("with_level" : Str) = none := fk.2.2 _ (by decide +kernel)
    have no2 : fs.lookup ("without_level" : Str) = none := fk.2.2 _ (by decide +kernel)
    have no3 : fs.lookup ("with_rest" : Str) = none := fk.2.2 _ (by decide +kernel)
    clear fk
    refine lc_it (walk_list (xs := [V.ref f1, .ref f2, .ref f3, .ref f4])) (fun j H' => Same H30 H' ∧ ∃ ps : List Addr, ps.length = j ∧ H' D' = some (.lst (ps.map V.ref)) ∧ ∀ i p, ps[i]? = some p → It12 H' D' y z i p) ?h0 ?hG ?hs ?hd
    case h0 => exact ⟨same_upd hD', [], rfl, upd_same, fun i p hp => by cases hp⟩
    case hG =>
      rintro j H' _ ⟨sm, _⟩
      exact sm.seq (SqL.at c30)
    case hs =>
      rintro j yy H3 H4 hj ⟨sm, ps, hpl, hpD, hps⟩ ⟨rfl, ex⟩
      have fin : ∀ (pa : Addr) (Hf : Hp), Same H4 Hf → It12 Hf D' y z j pa → ∃ acc, Hf D' = some (.lst acc) ∧ acc.length < sizeLine ∧ (Same H30 (upd Hf D' (.lst (acc ++ [.ref pa]))) ∧ ∃ ps : List Addr, ps.length = j + 1 ∧ (upd Hf D' (.lst (acc ++ [.ref pa]))) D' = some (.lst (ps.map V.ref)) ∧ ∀ i p, ps[i]? = some p → It12 (upd Hf D' (.lst (acc ++ [.ref pa]))) D' y z i p) := fun pa Hf sf hit => by
        refine ⟨_, sf _ _ hpD, szlt (by rw [List.length_map, hpl]; have : j < 4 := hj; omega), keep_upd (sm.trans sf) hD', ps ++ [pa], by rw [List.length_append, hpl]; rfl, by rw [upd_same, List.map_append]; rfl, fun i p hip => ?_⟩
        have hDf := sf _ _ hpD
        refine It12.keep (fun b o n e => by rw [upd_ne n]; exact e) ⟨_, hDf⟩ ?_
        rcases Nat.lt_or_ge i ps.length with c | c
        · rw [List.getElem?_append_left c] at hip
          exact It12.keep (fun b o _ e => sf b o e) ⟨_, hpD⟩ (hps i p hip)
        · rw [List.getElem?_append_right c] at hip
          have e : i - ps.length = 0 := by
            have := (List.getElem?_eq_some_iff.mp hip).1
            simp at this
            omega
          rw [e] at hip
          cases hip
          rw [show i = j by omega]
          exact hit
      refine ⟨rfl, _, rfl, fun h hh => ?_⟩
      rcases (show j = 0 ∨ j = 1 ∨ j = 2 ∨ j = 3 by have : j < 4 := hj; omega) with rfl | rfl | rfl | rfl
      · cases ex
        refine metT_live hh (l1.keep (fk_same sm)) (by decide) fun H0 told err s0 r0 herr => ?_
        exact ⟨.ref p, rfl, p, dx, fs, rfl, s0 _ _ (sm _ _ hp), no1, _, rfl, p, y, iy, "wrong", rests, early, rfl, hIy _, .inl ⟨hby, fun H' d' s' ed => herr a.C_BadSize "size" "size" d' y H' (by simp [rs12]) s' ed fun pa Hf sf _ epa => fin pa Hf sf epa⟩⟩
      · cases ex
        refine metT_live hh (l2.keep (fk_same sm)) (by decide) fun H0 told err s0 r0 herr => ?_
        refine ⟨.ref p, rfl, p, dx, fs, rfl, s0 _ _ (sm _ _ hp), no2, _, rfl, p, y, iy, rests, early, rfl, hIy _, hP30.kp (kp_same (sm.trans s0)), hok, .inr ⟨fun i e hm => ?_, fun H' d' s' ed => herr a.C_NoLevel "none" "size" d' y H' (by simp [rs12]) s' ed fun pa Hf sf _ epa => fin pa Hf sf epa⟩⟩
        obtain ⟨sg, hs, rfl⟩ := List.mem_map.mp hm
        have := hok.eok sg hs
        rw [e] at hby
        simp only [btM, Bool.and_eq_false_iff, decide_eq_false_iff_not] at hby
        omega
      · cases ex
        refine metT_live hh (l3.keep (fk_same sm)) (by decide) fun H0 told err s0 r0 herr => ?_
        exact ⟨.ref p, rfl, p, dx, fs, rfl, s0 _ _ (sm _ _ hp), no3, _, rfl, p, z, iz, "wrong", rests, early, rfl, hIz _, hP30.kp (kp_same (sm.trans s0)), hok, .inl ⟨hbz, fun H' d' s' ed => herr a.C_BadNumber "number" "number" d' z H' (by simp [rs12]) s' ed fun pa Hf sf _ epa => fin pa Hf sf epa⟩⟩
      · cases ex
        refine metT_live hh (l4.keep (fk_same sm)) (by decide) fun H0 told err s0 r0 herr => ?_
        refine ⟨.ref p, rfl, p, dx, fs, rfl, s0 _ _ (sm _ _ hp), no2, sz (show 1 ≤ 100000 by decide), fun l nl => ?_⟩
        have ul := same_upd (o := .lst [.int 4]) nl
        have el : (upd H0 l (.lst [.int 4])) l = some (.lst [.int 4]) := upd_same
        have ne : l ≠ D' := fun w => by
          rw [w, s0 _ _ hpD] at nl
          cases nl
        refine ⟨p, .ref l, false, rests, early, rfl, .lst el, hP30.kp (kp_same ((sm.trans s0).trans ul)), hok, .inr ⟨fun i e => (by cases e), fun H' d' s' ed => herr a.C_NoLevel "none" "size" d' (.ref l) H' (by simp [rs12]) (ul.trans s') ed fun pa Hf sf ov epa => fin pa Hf sf ⟨l, ne, epa, ov _ _ (s' _ _ el) fun ob w => by cases w⟩⟩⟩
    case hd =>
      rintro H31 ⟨s31, ps, hpl, epD, hps⟩
      have hpl : ps.length = 4 := hpl
      match ps, hpl, epD, hps with
      | [p0, p1, p2, p3], _, epD, hps =>
        have i0 : H31 p0 = some (.tup [.str "size", y, .bl true]) := hps 0 p0 rfl
        have i1 : H31 p1 = some (.tup [.str "none", y, .bl true]) := hps 1 p1 rfl
        have i2 : H31 p2 = some (.tup [.str "number", z, .bl true]) := hps 2 p2 rfl
        obtain ⟨l, _, i3, i4⟩ : ∃ l, l ≠ D' ∧ H31 p3 = some (.tup [.str "none", .ref l, .bl true]) ∧ H31 l = some (.lst [.int 4]) := hps 3 p3 rfl
        have tA : ∀ {p : Addr} {tag : Str} {v : V} {D : PyData}, H31 p = some (.tup [.str tag, v, .bl true]) → Dp K H31 v D → Dp K H31 (.ref p) (.tuple [.str tag, D, .bool true]) := fun e hD => .tup (SqT.at e) (.cons (.str _) (.cons hD (.cons (.bl _) .nil)))
        have l4 : ∀ {l : Addr}, H31 l = some (.lst [.int 4]) → Dp K H31 (.ref l) (.list [.int 4]) := fun e => .lst (SqL.at e) (.cons (.int _) .nil)
        refine ⟨_, rfl, eqD_self (D := .list [.tuple [.str "size", dy, .bool true], .tuple [.str "none", dy, .bool true], .tuple [.str "number", dz, .bool true], .tuple [.str "none", .list [.int 4], .bool true]]) (.lst (SqL.at epD) (.cons (tA i0 (hDy _ _)) (.cons (tA i1 (hDy _ _)) (.cons (tA i2 (hDz _ _)) (.cons (tA i3 (l4 i4)) .nil))))) (.lst (SqL.at (s31 _ _ m6)) (.cons (tA (s31 _ _ m1) (hDy _ _)) (.cons (tA (s31 _ _ m2) (hDy _ _)) (.cons (tA (s31 _ _ m3) (hDz _ _)) (.cons (tA (s31 _ _ m5) (l4 (s31 _ _ m4))) .nil))))) ?_ (q H31 (pt30.same s31) (kp30.trans (kp_same s31)))⟩
        unfold SeqAt.shaped
        simp [PyData.canLay0, PyData.canLayAll0, PyData.depth, PyData.depthAll, cy, cz, ey, ez, show PyData.strOk (Str.ofString "size") = true from by decide +kernel, show PyData.strOk (Str.ofString "none") = true from by decide +kernel, show PyData.strOk (Str.ofString "number") = true from by decide +kernel]
end

/-! ### the law -/
theorem lvAt_oks {rests : List (Lv × Bool)} {early : List (Nat × Lv × Bool)} (hok : ProgOk rests early) (k : Nat) : ∃ size, SizeOk size ∧ LvOk size (lvAt rests early k).2 (lvAt rests early k).1 := by
  unfold lvAt
  cases hf : early.find? fun s => decide (s.1 = k) with
  | some s =>
    have h1 := hok.eok s (List.mem_of_find?_eq_some hf)
    exact ⟨some s.1, ⟨h1.1, h1.2.1⟩, h1.2.2⟩
  | none =>
    have ml : k % rests.length < rests.length := Nat.mod_lt _ hok.n1
    refine ⟨none, trivial, hok.rok _ ?_⟩
    rw [List.getD_eq_getElem?_getD, List.getElem?_eq_getElem ml]
    exact List.getElem_mem ml
theorem cb_first {r : List V → Hp → VK → Prop} {t : TA} {σ : L2.St} {H : Hp} {Q : VK} (h : t σ H fun vs H1 => r vs H1 Q) : tCB r t σ H Q := h
theorem nf_own12 (K : PySem.W.Frag) (C : Addr) : PySem.W.notFirst K C (.ref C) = true := by
  unfold PySem.W.notFirst
  simp
theorem ProgAt.fld {CP CL CW : Addr} {H : Hp} {p : Addr} {rests : List (Lv × Bool)} {early : List (Nat × Lv × Bool)} (h : ProgAt CP CL CW H p rests early) : ∃ dx fs u, H p = some (.ins CP dx fs) ∧ fs.lookup ("text" : Str) = some (.str (Txt.join "\n" (progL rests early))) ∧ fs.lookup ("sizes" : Str) = some (.ref u) ∧ H u = some (.tup (early.map fun s => V.int (s.1 : Int))) ∧ fs.lookup ("level" : Str) = none := by
  obtain ⟨dx, fs, _, _, u, _, _, _, h1, h2, _, _, _, _, h7⟩ := h
  exact ⟨dx, fs, u, h1, h2.2.1 5 _ _ rfl rfl, h2.2.1 1 _ _ rfl rfl, h7, h2.2.2 _ (by decide +kernel)⟩
def tagD (tag : Str) (x : Nat) : PyData := .tuple [.str tag, .int (x : Int), .bool true]
theorem tagD_ok {tag : Str} (x : Nat) (h : PyData.strOk tag = true) : SeqAt.shaped (tagD tag x) = true := by
  unfold SeqAt.shaped tagD
  simp [PyData.canLay0, PyData.canLayAll0, PyData.depth, PyData.depthAll, h]
theorem tagD_dp {K : PySem.W.Frag} {H : Hp} {o : Addr} {tag : Str} {x : Nat} (h : H o = some (.tup [.str tag, .int (x : Int), .bl true])) : Dp K H (.ref o) (tagD tag x) := .tup (SqT.at h) (.cons (.str _) (.cons (.int _) (.cons (.bl _) .nil)))
theorem sizes_shaped (N : List Int) : SeqAt.shaped (.tuple (N.map PyData.int)) = true := by
  have := lay_ints N
  have := deep_ints N
  unfold SeqAt.shaped
  rw [Bool.and_eq_true, decide_eq_true_eq]
  refine ⟨by simp [PyData.canLay0, lay_ints], ?_⟩
  simp only [PyData.depth]
  omega
section
variable {P : Program} {w : World} {K : PySem.W.Frag} {mg : Str → Option Value} {base : Heap} {a : Ad}
theorem rs12_tag {C : Addr} {tag fld : Str} (h : (C, tag, fld) ∈ rs12 a) : PyData.strOk tag = true := by
  simp only [rs12, List.mem_cons, List.not_mem_nil, or_false, Prod.mk.injEq] at h
  rcases h with ⟨_, rfl, _⟩ | ⟨_, rfl, _⟩ | ⟨_, rfl, _⟩ | ⟨_, rfl, _⟩ <;> decide +kernel
def spLaw (K : PySem.W.Frag) (TT : List (Addr × Str)) : Sp := fun vs H Q _ => ∃ (s : Addr) (ns : List Int), vs = [.ref s] ∧ SqL K H s (ns.map V.int) ∧ ns.length ≤ 63 ∧ LamX.Tabs TT H ∧ ∀ H', Q (.bl true) H'
theorem ok_law (T : Tx w K mg a) (B : Tb base mg a) : FnOk P w K mg base CX0 19 a.f_law a.d_law ["script"] (spLaw K (tabsOf a)) := by
  refine T.F_law.ok sc_law (fun vs H Q E h => ?_) (fun cdv A outer s H vs Q E hr h => ?_)
  · obtain ⟨x, ns, rfl, _⟩ := h
    rfl
  · obtain ⟨x, ns, rfl, hS, hlen, hTb, q⟩ := h
    refine ⟨_, 
(pss_cons (ps_set (i := 1) sc_law.nd rfl (.inl rfl) (pe_call (ok__law_pen T) (hr.mono (by decide)) (by rfl) T.m__law_pen T.F__law_pen.kp T.b__law_pen .nil pass0 (pa_cons (pv 0) pa_nil)))
  (pss_cons (ps_set (i := 2) sc_law.nd rfl (.inl rfl) (pe_call (ok__law_program T) (hr.mono (by decide)) (by rfl) T.m__law_program T.F__law_program.kp T.b__law_program .nil pass0 (pa_cons (pv 1) pa_nil)))
  (pss_cons (ps_set (i := 3) sc_law.nd rfl (.inl rfl) (pe_make T.mk_Program (ok_Program_init T) (hr.mono (by decide)) (by rfl) T.c_Program T.b_Program_init .nil pass0 (pa_cons (pe_call (ok__law_text T) (hr.mono (by decide)) (by rfl) T.m__law_text T.F__law_text.kp T.b__law_text .nil pass0 (pa_cons (pv 2) pa_nil)) pa_nil)))
  (pss_cons (ps_for PassesOwn.never rfl (pi_range1 (by rfl) T.z_range (pa_cons pe_int pa_nil)) (pg_name (i := 4) sc_law.nd rfl (.inl rfl))
  (pss_cons (ps_asg (pe_call (ok__law_change (P := P) (base := base) T B) (hr.mono (by decide)) (by rfl) T.m__law_change T.F__law_change.kp T.b__law_change .nil pass0 (pa_cons (pv 1) (pa_cons (pv 2) (pa_cons (pv 3) pa_nil)))) (pg_tup rfl (pgs_cons (pg_name (i := 5) sc_law.nd rfl (.inl rfl)) (pgs_cons (pg_name (i := 6) sc_law.nd rfl (.inl rfl)) pgs_nil))))
  (pss_cons (ps_set (i := 7) sc_law.nd rfl (.inl rfl) (pe_call (ok__law_text T) (hr.mono (by decide)) (by rfl) T.m__law_text T.F__law_text.kp T.b__law_text .nil pass0 (pa_cons (pv 2) pa_nil)))
  (pss_cons (ps_if (pt_val (pe_callB call_isi (by rfl) T.z_isinstance (by decide +kernel) (pa_cons (pe_ix ix_tup (pv 6) pe_int (fun _ _ => rfl)) (pa_cons (pe_bltn (v := .ty "str") (by rfl) T.z_str (by decide +kernel) rfl) pa_nil))))
  (pss_cons (ps_if (PW.pt (pw_or (pt_cmpR (op_neD hr.units) (pe_call (ok__law_met (P := P) (base := base) T) (hr.mono (by decide)) (by rfl) T.m__law_met T.F__law_met.kp T.b__law_met .nil pass0 (pa_cons (pv 5) pa_nil)) (pv 6) (nomark _)) (pw_or (pt_cmpR op_ne (pe_fld (pv 3) rfl) (pv 7) (nomark _)) (pw_or1 (pt_not (pt_val (pe_call (ok__law_odd_right (P := P) (base := base) T B) hr (by rfl) T.m__law_odd_right T.F__law_odd_right.kp T.b__law_odd_right .nil pass0 (pa_cons (pv 1) (pa_cons (pv 3) (pa_cons (pe_callB call_len_seq (by rfl) T.z_len PySem.boot_len (pa_cons (pe_ix ix_tup (pv 2) pe_int (fun _ _ => rfl)) pa_nil)) pa_nil))))))))))
  (pss_one (ps_ret pe_bl))
  pss_nil)
  (pss_one ps_continue))
  pss_nil)
  (pss_cons (ps_set (i := 8) sc_law.nd rfl (.inl rfl) (show PE _ _ (rThk P w K mg base 16 5 _) from pe_thk (i := 5) rfl (.inl rfl) (hr.mono (by decide)) takes0))
  (pss_cons (ps_if (PW.pt (pw_or (pt_cmpR op_ne (pe_fld (pv 8) rfl) (pe_call (ok__law_text T) (hr.mono (by decide)) (by rfl) T.m__law_text T.F__law_text.kp T.b__law_text .nil pass0 (pa_cons (pv 6) pa_nil)) (nomark _)) (pw_or (pt_cmpR op_ne (pe_fld (pv 3) rfl) (pv 7) (nomark _)) (pw_or (pt_cmpR op_ne (pe_call (ok__law_met (P := P) (base := base) T) (hr.mono (by decide)) (by rfl) T.m__law_met T.F__law_met.kp T.b__law_met .nil pass0 (pa_cons (pv 5) pa_nil)) (pe_fld (pv 8) rfl) (nomark _)) (pw_or1 (pt_not (pt_cmpR (op_eq_own2 (ok_Program_eq T) (hr.mono (by decide)) T.ow_Program.eq T.ow_Program.fn T.b_Program_eq) (show PE _ _ (rThk P w K mg base 16 5 _) from pe_thk (i := 5) rfl (.inl rfl) (hr.mono (by decide)) takes0) (pv 8) (nomark _))))))))
  (pss_one (ps_ret pe_bl))
  pss_nil)
  (pss_cons (ps_set (i := 9) sc_law.nd rfl (.inl rfl) (pe_op op_add pe_int (pe_call (ok__law_draw T) (hr.mono (by decide)) (by rfl) T.m__law_draw T.F__law_draw.kp T.b__law_draw .nil pass0 (pa_cons (pv 1) (pa_cons pe_int pa_nil)))))
  (pss_cons (ps_if (pt_cmpR op_ne (pe_fld (pe_methS (pv 3) T.cl_Program T.me_Program_level (ok_Program_level T) (hr.mono (by decide)) T.b_Program_level takes0 (pa_cons (pv 9) pa_nil)) rfl) (pe_call (ok__law_level_text T) (hr.mono (by decide)) (by rfl) T.m__law_level_text T.F__law_level_text.kp T.b__law_level_text .nil pass0 (pa_cons (pe_call (ok__law_level_at T) (hr.mono (by decide)) (by rfl) T.m__law_level_at T.F__law_level_at.kp T.b__law_level_at .nil pass0 (pa_cons (pv 2) (pa_cons (pv 9) pa_nil))) pa_nil)) (nomark _))
  (pss_one (ps_ret pe_bl))
  pss_nil)
  (pss_cons (ps_if (pt_cmpR op_ne (pe_fld (pe_methS (pv 8) T.cl_Program T.me_Program_level (ok_Program_level T) (hr.mono (by decide)) T.b_Program_level takes0 (pa_cons (pv 9) pa_nil)) rfl) (pe_call (ok__law_level_text T) (hr.mono (by decide)) (by rfl) T.m__law_level_text T.F__law_level_text.kp T.b__law_level_text .nil pass0 (pa_cons (pe_call (ok__law_level_at T) (hr.mono (by decide)) (by rfl) T.m__law_level_at T.F__law_level_at.kp T.b__law_level_at .nil pass0 (pa_cons (pv 6) (pa_cons (pv 9) pa_nil))) pa_nil)) (nomark _))
  (pss_one (ps_ret pe_bl))
  pss_nil)
  (pss_cons (ps_if (pt_cmpR (op_neD hr.units) (pe_fld (pv 8) rfl) (pe_callTy call_tuple_of (by rfl) T.z_tuple (by decide +kernel) (pa_cons (pe_lc (own := [("row", 10)]) (g := gName 10) rfl sc_law.nd (pi_list (pe_ix ix_tup (pv 6) pe_int (fun _ _ => rfl))) (blkOk_by (own := [("row", 10)]) (N := ["script", "pen", "program", "made", "lap", "call", "due", "kept", "told", "k", "row"]) (sc := defScope s_law) (by decide +kernel)) (fun _ _ _ _ _ => pg_name (i := 10) sc_law.nd rfl (Or.inl rfl)) (fun _ _ _ _ _ => pts_nil) (fun _ _ _ _ _ => (pe_ix (show IxR _ (rIxT K) from ix_tup) (pv 10) pe_int (fun _ _ => rfl)))) pa_nil)) (nomark _))
  (pss_one (ps_ret pe_bl))
  pss_nil)
  (pss_cons (ps_if (PW.pt (pw_or (pt_cmpR op_ne (pe_cmpR (op_eq_own2 (ok_Program_eq T) (hr.mono (by decide)) T.ow_Program.eq T.ow_Program.fn T.b_Program_eq) (pv 8) (pv 3) (nomark _)) (pe_cmpR op_eq (pe_fld (pv 8) rfl) (pv 7) (nomark _)) (nomark _)) (pw_or1 (pt_not (pt_cmpR (op_eq_own2 (ok_Program_eq T) (hr.mono (by decide)) T.ow_Program.eq T.ow_Program.fn T.b_Program_eq) (pe_make T.mk_Program (ok_Program_init T) (hr.mono (by decide)) (by rfl) T.c_Program T.b_Program_init .nil pass0 (pa_cons (pe_fld (pv 8) rfl) pa_nil)) (pv 8) (nomark _))))))
  (pss_one (ps_ret pe_bl))
  pss_nil)
  (pss_one (ps_par (i := 2) (j := 3) (by rfl) sc_law.nd rfl rfl (by decide) rfl rfl (pa_cons (pv 6) (pa_cons (pv 8) pa_nil)) (by rfl))))))))))))))
  (pss_one (ps_ret (pe_call (ok__law_odd_right (P := P) (base := base) T B) hr (by rfl) T.m__law_odd_right T.F__law_odd_right.kp T.b__law_odd_right .nil pass0 (pa_cons (pv 1) (pa_cons (pv 3) (pa_cons (pe_callB call_len_seq (by rfl) T.z_len PySem.boot_len (pa_cons (pe_ix ix_tup (pv 2) pe_int (fun _ _ => rfl)) pa_nil)) pa_nil)))))))))), ?_⟩
    refine ⟨.ref x, rfl, x, ns, rfl, hS, hlen, fun d c H1 hdn hcn hp s1 => ?_⟩
    have pt1 : PT2 (tabsOf a) H1 d c 0 := ⟨hp, hTb.ext s1⟩
    -- program = _law_program(pen)
    refine ⟨_, rfl, d, c, 0, rfl, hp, by decide, fun o rests early H2 hT2 hok hp2 b2 => ?_⟩
    have pt2 := (pt1.but hp2 b2).1
    -- made = Program(_law_text(program))
    refine ⟨_, rfl, o, rests, early, rfl, hT2, hok, fun H3 s3 => fun p dx hx hdx ne => ⟨p, dx, rests, early, rfl, upd_same, hok, fun H4 t ls ld ll hPA _ k4 => ⟨rfl, ?_⟩⟩⟩
    have s4 : Same H2 H4 := s3.trans fun b u e => k4 b u (by
      rw [upd_ne (ne_of_none e hx), upd_ne (ne_of_none e hdx)]
      exact e) (ne_of_none e hx)
    have pt4 := pt2.same s4
    have hT4 := hT2.kp (kp_same s4)
    clear pt2 hT2 s3 k4 hx hdx ne s4 pt1 hp2 b2 s1 hp hS hlen hTb hdn hcn
    -- for lap in range(12)
    refine ⟨12, rfl, by decide, by decide, ?_⟩
    refine for_range (lo := 0) (n := 12) (fun i σ H2 => ∃ (o p : Addr) (rests : List (Lv × Bool)) (early : List (Nat × Lv × Bool)) (y4 y5 y6 y7 y8 y9 y10 : Option V), σ = [some (.ref x), some (.ref d), some (.ref o), some (.ref p), y4, y5, y6, y7, y8, y9, y10] ∧ PT2 (tabsOf a) H2 d c (4000 + i * 1000) ∧ ProgT H2 o rests early ∧ ProgOk rests early ∧ ProgAt a.C_Program a.C_Level a.C_Word H2 p rests early) ?_ ?_ ?_
    · exact ⟨o, p, rests, early, none, none, none, none, none, none, none, rfl, pt4, hT4, hok, hPA⟩
    · clear pt4 hT4 hok hPA
      rintro i σ H2 hi ⟨o, p, rests, early, y4, y5, y6, y7, y8, y9, y10, rfl, pt2, hT2, hok, hP2⟩
      -- call, due = _law_change(pen, program, made)
      refine ⟨_, rfl, _, rfl, _, rfl, d, c, o, p, _, rests, early, rfl, pt2, by omega, hT2, hok, hP2, fun tt f u g out H3 et k3 pt3 gk hg hf hD => ?_⟩
      refine ⟨tt, [.ref f, .ref u], rfl, SqT.at et, rfl, .ref f, [.ref u], rfl, .ref u, [], rfl, rfl, ?_⟩
      have hT3 := hT2.kp k3
      have hP3 := hP2.kp k3
      -- kept = _law_text(program)
      refine ⟨_, rfl, o, rests, early, rfl, hT3, hok, fun H4 s4 => ?_⟩
      have pt4 := pt3.same s4
      have hT4 := hT3.kp (kp_same s4)
      have hP4 := hP3.kp (kp_same s4)
      have hg4 := gk _ _ (kp_same s4) hg
      have hf4 := hf.keep fun b o e _ => s4 b o e
      have hD4 := hD.kp (kp_same s4)
      clear pt3 hT3 hP3 hg hf hD s4 k3 et pt2 hT2 hP2
      -- if isinstance(due[0], str)
      obtain ⟨dx, fs, su, hp, ft, fsz, hsz, nol⟩ := hP4.fld
      match out, hD4 with
      | .inr (C, tag, fld, xx), ⟨eu, hm⟩ =>
        refine ⟨_, rfl, u, _, 0, _, rfl, rfl, SqT.at eu, rfl, ?_⟩
        refine ⟨_, _, _, _, true, rfl, .ty "str", .base (.str _), kit_ty (by decide +kernel), true, rfl, iteT ?_⟩
        refine ⟨_, rfl, f, _, rfl, hf4, fun Q' E' _ hE => ⟨hP4, hg4, fun G' dd sG ed => hE _ _ _ ⟨C, tag, fld, dd, .int xx, hm, rfl, rfl, ed, fun o2 no2 => ?_⟩⟩⟩
        have sG2 := sG.trans (same_upd (o := .tup [.str tag, .int (xx : Int), .bl true]) no2)
        have e2 : (upd G' o2 (.tup [.str tag, .int (xx : Int), .bl true])) o2 = some (.tup [.str tag, .int (xx : Int), .bl true]) := upd_same
        generalize upd G' o2 (.tup [.str tag, .int (xx : Int), .bl true]) = H5 at sG2 e2 ⊢
        refine ⟨_, rfl, neD_self (tagD_dp e2) (tagD_dp (sG2 _ _ eu)) (tagD_ok xx (rs12_tag hm)) ⟨_, rfl, iteF ?_⟩⟩
        refine ⟨.ref p, rfl, p, a.C_Program, dx, fs, _, rfl, sG2 _ _ hp, T.cl_Program, T.n_Program_text, ft, _, rfl, rfl, _, rfl, ?_⟩
        rw [decide_eq_true rfl]
        refine iteF ?_
        have hT5 := hT4.kp (kp_same sG2)
        obtain ⟨r0, e0, os, es, ho, hr0, hos, _⟩ := id hT5
        have eL : V.int ((os.map V.ref).length : Int) = V.int (rests.length : Int) := by rw [List.length_map, hos.len]
        refine ⟨_, rfl, _, rfl, _, rfl, o, _, 0, _, rfl, rfl, SqT.at ho, rfl, r0, _, rfl, .inl (SqL.at hr0), d, c, p, _, rests, early, congrArg (fun z => [V.ref d, V.ref p, z]) eL, pt4.same sG2, by omega, hP4.kp (kp_same sG2), hok, fun H6 pt6 k6 => ⟨_, rfl, iteF ?_⟩⟩
        exact ⟨o, p, rests, early, _, _, _, _, _, _, _, rfl, pt6.up (by omega), hT5.kp k6, hok, (hP4.kp (kp_same sG2)).kp k6⟩
      | .inl (r', e'), ⟨hTu, hok'⟩ =>
        obtain ⟨ru, eu, osu, esu, hu, hru, hosu, heu, hesu⟩ := id hTu
        refine ⟨_, rfl, u, _, 0, _, rfl, rfl, SqT.at hu, rfl, _, _, _, _, false, rfl, .ty "str", .base (.lst hru), kit_ty (by decide +kernel), false, rfl, iteF ?_⟩
        -- told = call()
        refine ⟨f, _, rfl, hf4, hP4, hg4, fun q5 H5 s5 hA5 => ?_⟩
        have hTu5 := hTu.kp (kp_same s5)
        obtain ⟨dx5, fs5, su5, hp5, ft5, fsz5, hsz5, nol5⟩ := hA5.fld
        -- if told.text != _law_text(due) or ..
        refine ⟨.ref q5, rfl, q5, a.C_Program, dx5, fs5, _, rfl, hp5, T.cl_Program, T.n_Program_text, ft5, _, rfl, u, r', e', rfl, hTu5, hok', fun H6 s6 => ⟨rfl, _, rfl, ?_⟩⟩
        rw [decide_eq_true rfl]
        refine iteF ?_
        have s46 := s5.trans s6
        refine ⟨.ref p, rfl, p, a.C_Program, dx, fs, _, rfl, s46 _ _ hp, T.cl_Program, T.n_Program_text, ft, _, rfl, rfl, _, rfl, ?_⟩
        rw [decide_eq_true rfl]
        refine iteF ?_
        refine ⟨_, rfl, f, _, rfl, hf4.keep fun b o e _ => s46 b o e, fun Q' E' hQ _ => ⟨hP4.kp (kp_same s46), gk _ _ (kp_same s46) hg4, fun q7 H7 s7 hA7 => hQ _ _ ?_⟩⟩
        obtain ⟨dx7, fs7, _, hp7, ft7, _⟩ := hA7.fld
        refine ⟨q7, dx7, fs7, _, rfl, hp7, ft7, ?_⟩
        clear hQ
        have s47 := s46.trans s7
        refine ⟨.ref q5, rfl, q5, a.C_Program, dx5, fs5, _, rfl, s7 _ _ (s6 _ _ hp5), T.cl_Program, T.n_Program_text, ft5, rfl, _, rfl, ?_⟩
        rw [decide_eq_true rfl]
        refine iteF ?_
        refine ⟨f, _, rfl, hf4.keep fun b o e _ => s47 b o e, hP4.kp (kp_same s47), gk _ _ (kp_same s47) hg4, fun q8 H8 s8 hA8 => ?_⟩
        obtain ⟨dx8, fs8, _, hp8, ft8, _⟩ := hA8.fld
        have s58 := s6.trans (s7.trans s8)
        have s48 := s47.trans s8
        refine ⟨_, rfl, q8, dx8, fs8, .ref a.C_Program, rfl, hp8, .ins (s58 _ _ hp5), nf_own12 _ _, q8, q5, dx8, dx5, fs8, fs5, _, _, rfl, hp8, ft8, s58 _ _ hp5, ft5, ⟨_, rfl⟩, _, rfl, ?_⟩
        rw [decide_eq_true rfl]
        refine iteF ?_
        -- k = 2 + _law_draw(pen, 30)
        have pt8 := pt4.same s48
        have hP8 := hP4.kp (kp_same s48)
        have hT8 := hT4.kp (kp_same s48)
        have hA58 := hA5.kp (kp_same s58)
        have hTu8 := hTu5.kp (kp_same s58)
        clear hP4 hT4 pt4 hf4 hg4 gk hA7 hA8 hp7 hp8 ft7 ft8 hA5 hTu5 hTu
        refine ⟨_, rfl, d, c, _, 30, rfl, pt8.pen, by omega, by decide, by decide, fun v H9 v0 v1 hp9 b9 => ⟨2, v, rfl, rfl, ?_⟩⟩
        have kb := kp_but pt8.pen b9
        have pt9 := (pt8.but hp9 b9).1
        have hP9 := hP8.kp kb
        have hT9 := hT8.kp kb
        have hA9 := hA58.kp kb
        have hTu9 := hTu8.kp kb
        have hq9 := kb.ins (s58 _ _ hp5)
        have hz9 := kb.tup (s58 _ _ hsz5)
        have hp9' := kb.ins (s48 _ _ hp)
        obtain ⟨k, ek, k2, k31⟩ : ∃ k : Nat, 2 + v = (k : Int) ∧ 2 ≤ k ∧ k ≤ 31 := ⟨(2 + v).toNat, by omega, by omega, by omega⟩
        dsimp only
        rw [ek]
        clear kb b9 hp9 ek v0 v1 pt8 hP8 hT8 hA58 hTu8 hp5 hp hsz5 hsz ru eu osu esu hu hru hosu heu hesu
        -- if made.level(k).text != _law_level_text(_law_level_at(program, k))
        obtain ⟨sz1, o1, o2⟩ := lvAt_oks hok k
        refine ⟨.ref p, rfl, p, dx, fs, rfl, hp9', nol, _, rfl, p, rests, early, .int (k : Int), true, rfl, hP9, hok, .int _, .inl ⟨k, rfl, k2, fun lp hL => ?_⟩⟩
        obtain ⟨dl, fl, _, _, _, _, hl, tl, _⟩ := id hL
        refine ⟨lp, a.C_Level, dl, fl, _, rfl, hl, T.cl_Level, T.n_Level_text, tl, _, rfl, _, rfl, o, rests, early, k, H9, rfl, hT9, Same.refl _, hok, by omega, fun ql Hq hLv sq => ⟨ql, sz1, _, _, rfl, hLv.same sq, o1, o2, fun H10 s10 => ⟨rfl, _, rfl, ?_⟩⟩⟩
        rw [decide_eq_true rfl]
        refine iteF ?_
        have s910 := sq.trans s10
        -- if told.level(k).text != _law_level_text(_law_level_at(due, k))
        obtain ⟨sz2, o3, o4⟩ := lvAt_oks hok' k
        refine ⟨.ref q5, rfl, q5, dx5, fs5, rfl, s910 _ _ hq9, nol5, _, rfl, q5, r', e', .int (k : Int), true, rfl, hA9.kp (kp_same s910), hok', .int _, .inl ⟨k, rfl, k2, fun lp hL => ?_⟩⟩
        obtain ⟨dl, fl, _, _, _, _, hl, tl, _⟩ := id hL
        refine ⟨lp, a.C_Level, dl, fl, _, rfl, hl, T.cl_Level, T.n_Level_text, tl, _, rfl, _, rfl, u, r', e', k, H10, rfl, hTu9.kp (kp_same s910), Same.refl _, hok', by omega, fun ql Hq hLv sq => ⟨ql, sz2, _, _, rfl, hLv.same sq, o3, o4, fun H11 s11 => ⟨rfl, _, rfl, ?_⟩⟩⟩
        rw [decide_eq_true rfl]
        refine iteF ?_
        have s911 := s910.trans (sq.trans s11)
        -- if told.sizes != tuple([row[0] for row in due[1]])
        obtain ⟨ru, eu, osu, esu, hu, hru, hosu, heu, hesu⟩ := hTu9.kp (kp_same s911)
        refine ⟨.ref q5, rfl, q5, a.C_Program, dx5, fs5, _, rfl, s911 _ _ hq9, T.cl_Program, T.n_Program_sizes, fsz5, ?_⟩
        refine cb_first (cons_first ?_)
        refine lc_firstN (r := 10) (show 10 < 11 by decide) hesu (Same.refl _) (by have := hok'.elen; omega) heu (fun D H12 nD eD s12 => ?_) fun R rr => ⟨_, rfl, u, _, 1, _, rfl, rfl, SqT.at hu, rfl, rr⟩
        refine ⟨D, _, rfl, .inl ⟨SqL.at eD, fun l nl => ?_⟩⟩
        have s13 := s12.trans (same_upd (o := .tup ((e'.map fun s => (s.1 : Int)).map V.int)) nl)
        have e13 : (upd H12 l (.tup ((e'.map fun s => (s.1 : Int)).map V.int))) l = some (.tup ((e'.map fun s => (s.1 : Int)).map V.int)) := upd_same
        generalize upd H12 l (.tup ((e'.map fun s => (s.1 : Int)).map V.int)) = H13 at s13 e13 ⊢
        have s913 := s911.trans s13
        have z13 := s913 _ _ hz9
        rw [show (e'.map fun s => V.int (s.1 : Int)) = (e'.map fun s => (s.1 : Int)).map V.int by rw [List.map_map]; rfl] at z13
        refine neD_self (D := .tuple ((e'.map fun s => (s.1 : Int)).map PyData.int)) (.tup (SqT.at z13) (dp_all _)) (.tup (SqT.at e13) (dp_all _)) (sizes_shaped _) ⟨_, rfl, iteF ?_⟩
        -- if (told == made) != (told.text == kept) or not Program(told.text) == told
        have hq13 := s913 _ _ hq9
        have hp13 := s913 _ _ hp9'
        refine ⟨_, rfl, _, rfl, q5, dx5, fs5, .ref a.C_Program, rfl, hq13, .ins hp13, nf_own12 _ _, q5, p, dx5, dx, fs5, fs, _, _, rfl, hq13, ft5, hp13, ft, ⟨_, rfl⟩, ?_⟩
        refine ⟨.ref q5, rfl, q5, a.C_Program, dx5, fs5, _, rfl, hq13, T.cl_Program, T.n_Program_text, ft5, _, rfl, eq_texts ?_⟩
        refine ⟨rfl, _, rfl, ?_⟩
        rw [decide_eq_true rfl]
        refine iteF ?_
        refine ⟨.ref q5, rfl, q5, a.C_Program, dx5, fs5, _, rfl, hq13, T.cl_Program, T.n_Program_text, ft5, fun p9 dq9 h9 hd9 ne9 => ⟨p9, dq9, r', e', rfl, upd_same, hok', fun H14 t ls ld ll hA14 _ k14 => ⟨rfl, ?_⟩⟩⟩
        have s14 : Same H13 H14 := fun b w eb => k14 b w (by
          rw [upd_ne (ne_of_none eb h9), upd_ne (ne_of_none eb hd9)]
          exact eb) (ne_of_none eb h9)
        obtain ⟨dxn, fsn, _, hn14, ftn, _⟩ := hA14.fld
        have hq14 := s14 _ _ hq13
        refine ⟨_, rfl, p9, dxn, fsn, .ref a.C_Program, rfl, hn14, .ins hq14, nf_own12 _ _, p9, q5, dxn, dx5, fsn, fs5, _, _, rfl, hn14, ftn, hq14, ft5, ⟨_, rfl⟩, _, rfl, ?_⟩
        rw [decide_eq_true rfl]
        refine iteF ?_
        -- program, made = due, told
        have s914 := s913.trans s14
        exact ⟨_, rfl, _, rfl, _, _, rfl, u, q5, r', e', _, _, _, _, _, _, _, rfl, (pt9.same s914).up (by omega), hTu9.kp (kp_same s914), hok', hA9.kp (kp_same s914)⟩
    · -- return _law_odd_right(pen, made, len(program[0]))
      rintro σ H2 ⟨o, p, rests, early, y4, y5, y6, y7, y8, y9, y10, rfl, pt2, hT2, hok, hP2⟩
      obtain ⟨r0, e0, os, es, ho, hr0, hos, _⟩ := id hT2
      have eL : V.int ((os.map V.ref).length : Int) = V.int (rests.length : Int) := by rw [List.length_map, hos.len]
      exact ⟨_, rfl, _, rfl, _, rfl, o, _, 0, _, rfl, rfl, SqT.at ho, rfl, r0, _, rfl, .inl (SqL.at hr0), d, c, p, _, rests, early, congrArg (fun z => [V.ref d, V.ref p, z]) eL, pt2, by omega, hP2, hok, fun H6 _ _ => q H6⟩
end


theorem all_mk {l : PySem.W.OpenLaw} {w : World} {K : PySem.W.Frag} {h : Heap} {mg : Str → Option Value} {fa : Addr} (X : K.In h) (G : h.Ns mainGlobals mg) (hfa : mg "law" = some (.ref fa)) {ts : List Addr} (hts : ∀ P ∈ ts, h.get? P = some (PySem.W.tabObj #[]))
    {f0 : Addr} {od0 an0 : Option Addr} {sl0 : Array (Option Value)} {oc0 kV0 dc0 pm0 cd0 ct0 : Value}
    {f1 : Addr} {od1 an1 : Option Addr} {sl1 : Array (Option Value)} {oc1 kV1 dc1 pm1 cd1 ct1 : Value}
    {f2 : Addr} {od2 an2 : Option Addr} {sl2 : Array (Option Value)} {oc2 kV2 dc2 pm2 cd2 ct2 : Value}
    {f3 : Addr} {od3 an3 : Option Addr} {sl3 : Array (Option Value)} {oc3 kV3 dc3 pm3 cd3 ct3 : Value}
    {f4 : Addr} {od4 an4 : Option Addr} {sl4 : Array (Option Value)} {oc4 kV4 dc4 pm4 cd4 ct4 : Value}
    {f5 : Addr} {od5 an5 : Option Addr} {sl5 : Array (Option Value)} {oc5 kV5 dc5 pm5 cd5 ct5 : Value}
    {f6 : Addr} {od6 an6 : Option Addr} {sl6 : Array (Option Value)} {oc6 kV6 dc6 pm6 cd6 ct6 : Value}
    {f7 : Addr} {od7 an7 : Option Addr} {sl7 : Array (Option Value)} {oc7 kV7 dc7 pm7 cd7 ct7 : Value}
    {f8 : Addr} {od8 an8 : Option Addr} {sl8 : Array (Option Value)} {oc8 kV8 dc8 pm8 cd8 ct8 : Value}
    {f9 : Addr} {od9 an9 : Option Addr} {sl9 : Array (Option Value)} {oc9 kV9 dc9 pm9 cd9 ct9 : Value}
    {f10 : Addr} {od10 an10 : Option Addr} {sl10 : Array (Option Value)} {oc10 kV10 dc10 pm10 cd10 ct10 : Value}
    {f11 : Addr} {od11 an11 : Option Addr} {sl11 : Array (Option Value)} {oc11 kV11 dc11 pm11 cd11 ct11 : Value}
    {f12 : Addr} {od12 an12 : Option Addr} {sl12 : Array (Option Value)} {oc12 kV12 dc12 pm12 cd12 ct12 : Value}
    {f13 : Addr} {od13 an13 : Option Addr} {sl13 : Array (Option Value)} {oc13 kV13 dc13 pm13 cd13 ct13 : Value}
    {f14 : Addr} {od14 an14 : Option Addr} {sl14 : Array (Option Value)} {oc14 kV14 dc14 pm14 cd14 ct14 : Value}
    {f15 : Addr} {od15 an15 : Option Addr} {sl15 : Array (Option Value)} {oc15 kV15 dc15 pm15 cd15 ct15 : Value}
    {f16 : Addr} {od16 an16 : Option Addr} {sl16 : Array (Option Value)} {oc16 kV16 dc16 pm16 cd16 ct16 : Value}
    {f17 : Addr} {od17 an17 : Option Addr} {sl17 : Array (Option Value)} {oc17 kV17 dc17 pm17 cd17 ct17 : Value}
    {f18 : Addr} {od18 an18 : Option Addr} {sl18 : Array (Option Value)} {oc18 kV18 dc18 pm18 cd18 ct18 : Value}
    {f19 : Addr} {od19 an19 : Option Addr} {sl19 : Array (Option Value)} {oc19 kV19 dc19 pm19 cd19 ct19 : Value}
    {f20 : Addr} {od20 an20 : Option Addr} {sl20 : Array (Option Value)} {oc20 kV20 dc20 pm20 cd20 ct20 : Value}
    {f21 : Addr} {od21 an21 : Option Addr} {sl21 : Array (Option Value)} {oc21 kV21 dc21 pm21 cd21 ct21 : Value}
    {f22 : Addr} {od22 an22 : Option Addr} {sl22 : Array (Option Value)} {oc22 kV22 dc22 pm22 cd22 ct22 : Value}
    {f23 : Addr} {od23 an23 : Option Addr} {sl23 : Array (Option Value)} {oc23 kV23 dc23 pm23 cd23 ct23 : Value}
    {f24 : Addr} {od24 an24 : Option Addr} {sl24 : Array (Option Value)} {oc24 kV24 dc24 pm24 cd24 ct24 : Value}
    {f25 : Addr} {od25 an25 : Option Addr} {sl25 : Array (Option Value)} {oc25 kV25 dc25 pm25 cd25 ct25 : Value}
    {f26 : Addr} {od26 an26 : Option Addr} {sl26 : Array (Option Value)} {oc26 kV26 dc26 pm26 cd26 ct26 : Value}
    {f27 : Addr} {od27 an27 : Option Addr} {sl27 : Array (Option Value)} {oc27 kV27 dc27 pm27 cd27 ct27 : Value}
    {f28 : Addr} {od28 an28 : Option Addr} {sl28 : Array (Option Value)} {oc28 kV28 dc28 pm28 cd28 ct28 : Value}
    {f29 : Addr} {od29 an29 : Option Addr} {sl29 : Array (Option Value)} {oc29 kV29 dc29 pm29 cd29 ct29 : Value}
    {f30 : Addr} {od30 an30 : Option Addr} {sl30 : Array (Option Value)} {oc30 kV30 dc30 pm30 cd30 ct30 : Value}
    {f31 : Addr} {od31 an31 : Option Addr} {sl31 : Array (Option Value)} {oc31 kV31 dc31 pm31 cd31 ct31 : Value}
    {f32 : Addr} {od32 an32 : Option Addr} {sl32 : Array (Option Value)} {oc32 kV32 dc32 pm32 cd32 ct32 : Value}
    {f33 : Addr} {od33 an33 : Option Addr} {sl33 : Array (Option Value)} {oc33 kV33 dc33 pm33 cd33 ct33 : Value}
    {f34 : Addr} {od34 an34 : Option Addr} {sl34 : Array (Option Value)} {oc34 kV34 dc34 pm34 cd34 ct34 : Value}
    {f35 : Addr} {od35 an35 : Option Addr} {sl35 : Array (Option Value)} {oc35 kV35 dc35 pm35 cd35 ct35 : Value}
    {f36 : Addr} {od36 an36 : Option Addr} {sl36 : Array (Option Value)} {oc36 kV36 dc36 pm36 cd36 ct36 : Value}
    {f37 : Addr} {od37 an37 : Option Addr} {sl37 : Array (Option Value)} {oc37 kV37 dc37 pm37 cd37 ct37 : Value}
    {f38 : Addr} {od38 an38 : Option Addr} {sl38 : Array (Option Value)} {oc38 kV38 dc38 pm38 cd38 ct38 : Value}
    {f39 : Addr} {od39 an39 : Option Addr} {sl39 : Array (Option Value)} {oc39 kV39 dc39 pm39 cd39 ct39 : Value}
    {f40 : Addr} {od40 an40 : Option Addr} {sl40 : Array (Option Value)} {oc40 kV40 dc40 pm40 cd40 ct40 : Value}
    {f41 : Addr} {od41 an41 : Option Addr} {sl41 : Array (Option Value)} {oc41 kV41 dc41 pm41 cd41 ct41 : Value}
    {f42 : Addr} {od42 an42 : Option Addr} {sl42 : Array (Option Value)} {oc42 kV42 dc42 pm42 cd42 ct42 : Value}
    {f43 : Addr} {od43 an43 : Option Addr} {sl43 : Array (Option Value)} {oc43 kV43 dc43 pm43 cd43 ct43 : Value}
    {f44 : Addr} {od44 an44 : Option Addr} {sl44 : Array (Option Value)} {oc44 kV44 dc44 pm44 cd44 ct44 : Value}
    {f45 : Addr} {od45 an45 : Option Addr} {sl45 : Array (Option Value)} {oc45 kV45 dc45 pm45 cd45 ct45 : Value}
    {f46 : Addr} {od46 an46 : Option Addr} {sl46 : Array (Option Value)} {oc46 kV46 dc46 pm46 cd46 ct46 : Value}
    {f47 : Addr} {od47 an47 : Option Addr} {sl47 : Array (Option Value)} {oc47 kV47 dc47 pm47 cd47 ct47 : Value}
    {f48 : Addr} {od48 an48 : Option Addr} {sl48 : Array (Option Value)} {oc48 kV48 dc48 pm48 cd48 ct48 : Value}
    {f49 : Addr} {od49 an49 : Option Addr} {sl49 : Array (Option Value)} {oc49 kV49 dc49 pm49 cd49 ct49 : Value}
    {f50 : Addr} {od50 an50 : Option Addr} {sl50 : Array (Option Value)} {oc50 kV50 dc50 pm50 cd50 ct50 : Value}
    {f51 : Addr} {od51 an51 : Option Addr} {sl51 : Array (Option Value)} {oc51 kV51 dc51 pm51 cd51 ct51 : Value}
    {f52 : Addr} {od52 an52 : Option Addr} {sl52 : Array (Option Value)} {oc52 kV52 dc52 pm52 cd52 ct52 : Value}
    {f53 : Addr} {od53 an53 : Option Addr} {sl53 : Array (Option Value)} {oc53 kV53 dc53 pm53 cd53 ct53 : Value}
    {f54 : Addr} {od54 an54 : Option Addr} {sl54 : Array (Option Value)} {oc54 kV54 dc54 pm54 cd54 ct54 : Value}
    {f55 : Addr} {od55 an55 : Option Addr} {sl55 : Array (Option Value)} {oc55 kV55 dc55 pm55 cd55 ct55 : Value}
    {f56 : Addr} {od56 an56 : Option Addr} {sl56 : Array (Option Value)} {oc56 kV56 dc56 pm56 cd56 ct56 : Value}
    {f57 : Addr} {od57 an57 : Option Addr} {sl57 : Array (Option Value)} {oc57 kV57 dc57 pm57 cd57 ct57 : Value}
    {f58 : Addr} {od58 an58 : Option Addr} {sl58 : Array (Option Value)} {oc58 kV58 dc58 pm58 cd58 ct58 : Value}
    {f59 : Addr} {od59 an59 : Option Addr} {sl59 : Array (Option Value)} {oc59 kV59 dc59 pm59 cd59 ct59 : Value}
    {f60 : Addr} {od60 an60 : Option Addr} {sl60 : Array (Option Value)} {oc60 kV60 dc60 pm60 cd60 ct60 : Value}
    {f61 : Addr} {od61 an61 : Option Addr} {sl61 : Array (Option Value)} {oc61 kV61 dc61 pm61 cd61 ct61 : Value}
    {f62 : Addr} {od62 an62 : Option Addr} {sl62 : Array (Option Value)} {oc62 kV62 dc62 pm62 cd62 ct62 : Value}
    {f63 : Addr} {od63 an63 : Option Addr} {sl63 : Array (Option Value)} {oc63 kV63 dc63 pm63 cd63 ct63 : Value}
    {f64 : Addr} {od64 an64 : Option Addr} {sl64 : Array (Option Value)} {oc64 kV64 dc64 pm64 cd64 ct64 : Value}
    {f65 : Addr} {od65 an65 : Option Addr} {sl65 : Array (Option Value)} {oc65 kV65 dc65 pm65 cd65 ct65 : Value}
    {f66 : Addr} {od66 an66 : Option Addr} {sl66 : Array (Option Value)} {oc66 kV66 dc66 pm66 cd66 ct66 : Value}
    {f67 : Addr} {od67 an67 : Option Addr} {sl67 : Array (Option Value)} {oc67 kV67 dc67 pm67 cd67 ct67 : Value}
    {f68 : Addr} {od68 an68 : Option Addr} {sl68 : Array (Option Value)} {oc68 kV68 dc68 pm68 cd68 ct68 : Value}
    {f69 : Addr} {od69 an69 : Option Addr} {sl69 : Array (Option Value)} {oc69 kV69 dc69 pm69 cd69 ct69 : Value}
    {f70 : Addr} {od70 an70 : Option Addr} {sl70 : Array (Option Value)} {oc70 kV70 dc70 pm70 cd70 ct70 : Value}
    {f71 : Addr} {od71 an71 : Option Addr} {sl71 : Array (Option Value)} {oc71 kV71 dc71 pm71 cd71 ct71 : Value}
    {f72 : Addr} {od72 an72 : Option Addr} {sl72 : Array (Option Value)} {oc72 kV72 dc72 pm72 cd72 ct72 : Value}
    {f73 : Addr} {od73 an73 : Option Addr} {sl73 : Array (Option Value)} {oc73 kV73 dc73 pm73 cd73 ct73 : Value}
    {f74 : Addr} {od74 an74 : Option Addr} {sl74 : Array (Option Value)} {oc74 kV74 dc74 pm74 cd74 ct74 : Value}
    {f75 cA75 : Addr} {od75 an75 : Option Addr} {sl75 : Array (Option Value)} {oc75 kV75 dc75 pm75 ct75 : Value}
    {f76 cA76 : Addr} {od76 an76 : Option Addr} {sl76 : Array (Option Value)} {oc76 kV76 dc76 pm76 ct76 : Value}
    {f77 : Addr} {od77 an77 : Option Addr} {sl77 : Array (Option Value)} {oc77 kV77 dc77 pm77 cd77 ct77 : Value}
    {C_EveryError : Addr}
    {C_BadWord : Addr}
    {C_BadText : Addr}
    {C_BadSize : Addr}
    {C_BadNumber : Addr}
    {C_NoLevel : Addr}
    {C_Tower : Addr}
    {C_Word : Addr}
    {C_Level : Addr}
    {C_Program : Addr}
    {dV9 : Addr} {dO9 : Obj}
    {dV32 : Addr} {dO32 : Obj}
    {dV38 : Addr} {dO38 : Obj}
    {en_BadWord eq_BadWord : Str} {eN_BadWord : Addr} {eb_BadWord em_BadWord : List Value} {es_BadWord : List Str} {eu_BadWord : List Value} {ea_BadWord : Bool} {eo_BadWord : Option Bool} {ed_BadWord : Option Addr} {e0_BadWord e1_BadWord e2_BadWord e3_BadWord e5_BadWord : Option Value}
    {en_BadText eq_BadText : Str} {eN_BadText : Addr} {eb_BadText em_BadText : List Value} {es_BadText : List Str} {eu_BadText : List Value} {ea_BadText : Bool} {eo_BadText : Option Bool} {ed_BadText : Option Addr} {e0_BadText e1_BadText e2_BadText e3_BadText e5_BadText : Option Value}
    {en_BadSize eq_BadSize : Str} {eN_BadSize : Addr} {eb_BadSize em_BadSize : List Value} {es_BadSize : List Str} {eu_BadSize : List Value} {ea_BadSize : Bool} {eo_BadSize : Option Bool} {ed_BadSize : Option Addr} {e0_BadSize e1_BadSize e2_BadSize e3_BadSize e5_BadSize : Option Value}
    {en_BadNumber eq_BadNumber : Str} {eN_BadNumber : Addr} {eb_BadNumber em_BadNumber : List Value} {es_BadNumber : List Str} {eu_BadNumber : List Value} {ea_BadNumber : Bool} {eo_BadNumber : Option Bool} {ed_BadNumber : Option Addr} {e0_BadNumber e1_BadNumber e2_BadNumber e3_BadNumber e5_BadNumber : Option Value}
    {en_NoLevel eq_NoLevel : Str} {eN_NoLevel : Addr} {eb_NoLevel em_NoLevel : List Value} {es_NoLevel : List Str} {eu_NoLevel : List Value} {ea_NoLevel : Bool} {eo_NoLevel : Option Bool} {ed_NoLevel : Option Addr} {e0_NoLevel e1_NoLevel e2_NoLevel e3_NoLevel e5_NoLevel : Option Value}
    {t_MOST_PLACES : Tok}
    {t_MOST_MOVES : Tok}
    {a_FIGURES : Addr} {o_FIGURES : Obj}
    {a_PLACE_FRONTS : Addr} {o_PLACE_FRONTS : Obj}
    {a_AMOUNT_FRONTS : Addr} {o_AMOUNT_FRONTS : Obj}
    {a_SHAPES : Addr} {es_SHAPES : Array DictEntry} {n_SHAPES : Nat} {p_SHAPES_0 : Addr} {o_SHAPES_0 : Obj} {p_SHAPES_1 : Addr} {o_SHAPES_1 : Obj} {p_SHAPES_2 : Addr} {o_SHAPES_2 : Obj}
    {t_NO_PART : Tok}
    {t_LEAST_SINGLE : Tok}
    {t_MOST_SINGLE : Tok}
    {t_MOST_PERIOD : Tok}
    {a_ENDING : Addr} {o_ENDING : Obj}
    (c_EveryError : PySem.W.nsIn K mainGlobals "EveryError" = some (some (.ref C_EveryError)))
    (c_BadWord : PySem.W.nsIn K mainGlobals "BadWord" = some (some (.ref C_BadWord)))
    (c_BadText : PySem.W.nsIn K mainGlobals "BadText" = some (some (.ref C_BadText)))
    (c_BadSize : PySem.W.nsIn K mainGlobals "BadSize" = some (some (.ref C_BadSize)))
    (c_BadNumber : PySem.W.nsIn K mainGlobals "BadNumber" = some (some (.ref C_BadNumber)))
    (c_NoLevel : PySem.W.nsIn K mainGlobals "NoLevel" = some (some (.ref C_NoLevel)))
    (c_Tower : PySem.W.nsIn K mainGlobals "Tower" = some (some (.ref C_Tower)))
    (c_Word : PySem.W.nsIn K mainGlobals "Word" = some (some (.ref C_Word)))
    (c_Level : PySem.W.nsIn K mainGlobals "Level" = some (some (.ref C_Level)))
    (c_Program : PySem.W.nsIn K mainGlobals "Program" = some (some (.ref C_Program)))
    (a0 : PySem.W.nsIn K mainGlobals "_wall" = some (some (.ref f0)))
    (l0 : K.lookup f0 = some ⟨oc0, od0, .func (PySem.W.fnOf "_wall" "_wall" (defArgs s__wall) (defBody s__wall) (defScope s__wall) .none kV0 dc0 pm0 an0 cd0 ct0), sl0⟩)
    (e0 : PySem.W.codeIn K cd0 "_wall" = true)
    (k0 : PySem.W.keepIn K (.ref f0) = true)
    (a1 : PySem.W.nsIn K mainGlobals "is_integer" = some (some (.ref f1)))
    (l1 : K.lookup f1 = some ⟨oc1, od1, .func (PySem.W.fnOf "is_integer" "is_integer" (defArgs s_is_integer) (defBody s_is_integer) (defScope s_is_integer) .none kV1 dc1 pm1 an1 cd1 ct1), sl1⟩)
    (e1 : PySem.W.codeIn K cd1 "is_integer" = true)
    (k1 : PySem.W.keepIn K (.ref f1) = true)
    (a2 : PySem.W.nsIn K mainGlobals "is_from" = some (some (.ref f2)))
    (l2 : K.lookup f2 = some ⟨oc2, od2, .func (PySem.W.fnOf "is_from" "is_from" (defArgs s_is_from) (defBody s_is_from) (defScope s_is_from) .none kV2 dc2 pm2 an2 cd2 ct2), sl2⟩)
    (e2 : PySem.W.codeIn K cd2 "is_from" = true)
    (k2 : PySem.W.keepIn K (.ref f2) = true)
    (a3 : PySem.W.nsIn K mainGlobals "is_between" = some (some (.ref f3)))
    (l3 : K.lookup f3 = some ⟨oc3, od3, .func (PySem.W.fnOf "is_between" "is_between" (defArgs s_is_between) (defBody s_is_between) (defScope s_is_between) .none kV3 dc3 pm3 an3 cd3 ct3), sl3⟩)
    (e3 : PySem.W.codeIn K cd3 "is_between" = true)
    (k3 : PySem.W.keepIn K (.ref f3) = true)
    (a4 : PySem.W.findIn K (.ref C_BadWord) "__init__" = some (some (.ref f4)))
    (l4 : K.lookup f4 = some ⟨oc4, od4, .func (PySem.W.fnOf "__init__" "BadWord.__init__" (defArgs s_BadWord_init) (defBody s_BadWord_init) (defScope s_BadWord_init) .none kV4 dc4 pm4 an4 cd4 ct4), sl4⟩)
    (e4 : PySem.W.codeIn K cd4 "BadWord.__init__" = true)
    (k4 : PySem.W.keepIn K (.ref f4) = true)
    (a5 : PySem.W.findIn K (.ref C_BadText) "__init__" = some (some (.ref f5)))
    (l5 : K.lookup f5 = some ⟨oc5, od5, .func (PySem.W.fnOf "__init__" "BadText.__init__" (defArgs s_BadText_init) (defBody s_BadText_init) (defScope s_BadText_init) .none kV5 dc5 pm5 an5 cd5 ct5), sl5⟩)
    (e5 : PySem.W.codeIn K cd5 "BadText.__init__" = true)
    (k5 : PySem.W.keepIn K (.ref f5) = true)
    (a6 : PySem.W.findIn K (.ref C_BadSize) "__init__" = some (some (.ref f6)))
    (l6 : K.lookup f6 = some ⟨oc6, od6, .func (PySem.W.fnOf "__init__" "BadSize.__init__" (defArgs s_BadSize_init) (defBody s_BadSize_init) (defScope s_BadSize_init) .none kV6 dc6 pm6 an6 cd6 ct6), sl6⟩)
    (e6 : PySem.W.codeIn K cd6 "BadSize.__init__" = true)
    (k6 : PySem.W.keepIn K (.ref f6) = true)
    (a7 : PySem.W.findIn K (.ref C_BadNumber) "__init__" = some (some (.ref f7)))
    (l7 : K.lookup f7 = some ⟨oc7, od7, .func (PySem.W.fnOf "__init__" "BadNumber.__init__" (defArgs s_BadNumber_init) (defBody s_BadNumber_init) (defScope s_BadNumber_init) .none kV7 dc7 pm7 an7 cd7 ct7), sl7⟩)
    (e7 : PySem.W.codeIn K cd7 "BadNumber.__init__" = true)
    (k7 : PySem.W.keepIn K (.ref f7) = true)
    (a8 : PySem.W.findIn K (.ref C_NoLevel) "__init__" = some (some (.ref f8)))
    (l8 : K.lookup f8 = some ⟨oc8, od8, .func (PySem.W.fnOf "__init__" "NoLevel.__init__" (defArgs s_NoLevel_init) (defBody s_NoLevel_init) (defScope s_NoLevel_init) .none kV8 dc8 pm8 an8 cd8 ct8), sl8⟩)
    (e8 : PySem.W.codeIn K cd8 "NoLevel.__init__" = true)
    (k8 : PySem.W.keepIn K (.ref f8) = true)
    (a9 : PySem.W.findIn K (.ref C_Tower) "__init__" = some (some (.ref f9)))
    (l9 : K.lookup f9 = some ⟨oc9, od9, .func (PySem.W.fnOf "__init__" "Tower.__init__" (defArgs s_Tower_init) (defBody s_Tower_init) (defScope s_Tower_init) (.ref dV9) kV9 dc9 pm9 an9 cd9 ct9), sl9⟩)
    (w9 : K.lookup dV9 = some dO9)
    (h_w9 : dfB dO9 [V.int 1] = true)
    (e9 : PySem.W.codeIn K cd9 "Tower.__init__" = true)
    (k9 : PySem.W.keepIn K (.ref f9) = true)
    (a10 : PySem.W.findIn K (.ref C_Tower) "grow" = some (some (.ref f10)))
    (l10 : K.lookup f10 = some ⟨oc10, od10, .func (PySem.W.fnOf "grow" "Tower.grow" (defArgs s_Tower_grow) (defBody s_Tower_grow) (defScope s_Tower_grow) .none kV10 dc10 pm10 an10 cd10 ct10), sl10⟩)
    (e10 : PySem.W.codeIn K cd10 "Tower.grow" = true)
    (k10 : PySem.W.keepIn K (.ref f10) = true)
    (a11 : PySem.W.findIn K (.ref C_Tower) "add_level" = some (some (.ref f11)))
    (l11 : K.lookup f11 = some ⟨oc11, od11, .func (PySem.W.fnOf "add_level" "Tower.add_level" (defArgs s_Tower_add_level) (defBody s_Tower_add_level) (defScope s_Tower_add_level) .none kV11 dc11 pm11 an11 cd11 ct11), sl11⟩)
    (e11 : PySem.W.codeIn K cd11 "Tower.add_level" = true)
    (k11 : PySem.W.keepIn K (.ref f11) = true)
    (a12 : PySem.W.findIn K (.ref C_Tower) "ahead" = some (some (.ref f12)))
    (l12 : K.lookup f12 = some ⟨oc12, od12, .func (PySem.W.fnOf "ahead" "Tower.ahead" (defArgs s_Tower_ahead) (defBody s_Tower_ahead) (defScope s_Tower_ahead) .none kV12 dc12 pm12 an12 cd12 ct12), sl12⟩)
    (e12 : PySem.W.codeIn K cd12 "Tower.ahead" = true)
    (k12 : PySem.W.keepIn K (.ref f12) = true)
    (a13 : PySem.W.findIn K (.ref C_Tower) "least_not_whole" = some (some (.ref f13)))
    (l13 : K.lookup f13 = some ⟨oc13, od13, .func (PySem.W.fnOf "least_not_whole" "Tower.least_not_whole" (defArgs s_Tower_least_not_whole) (defBody s_Tower_least_not_whole) (defScope s_Tower_least_not_whole) .none kV13 dc13 pm13 an13 cd13 ct13), sl13⟩)
    (e13 : PySem.W.codeIn K cd13 "Tower.least_not_whole" = true)
    (k13 : PySem.W.keepIn K (.ref f13) = true)
    (a14 : PySem.W.nsIn K mainGlobals "is_figure_behind" = some (some (.ref f14)))
    (l14 : K.lookup f14 = some ⟨oc14, od14, .func (PySem.W.fnOf "is_figure_behind" "is_figure_behind" (defArgs s_is_figure_behind) (defBody s_is_figure_behind) (defScope s_is_figure_behind) .none kV14 dc14 pm14 an14 cd14 ct14), sl14⟩)
    (e14 : PySem.W.codeIn K cd14 "is_figure_behind" = true)
    (k14 : PySem.W.keepIn K (.ref f14) = true)
    (a15 : PySem.W.nsIn K mainGlobals "is_place_word" = some (some (.ref f15)))
    (l15 : K.lookup f15 = some ⟨oc15, od15, .func (PySem.W.fnOf "is_place_word" "is_place_word" (defArgs s_is_place_word) (defBody s_is_place_word) (defScope s_is_place_word) .none kV15 dc15 pm15 an15 cd15 ct15), sl15⟩)
    (e15 : PySem.W.codeIn K cd15 "is_place_word" = true)
    (k15 : PySem.W.keepIn K (.ref f15) = true)
    (a16 : PySem.W.nsIn K mainGlobals "is_amount" = some (some (.ref f16)))
    (l16 : K.lookup f16 = some ⟨oc16, od16, .func (PySem.W.fnOf "is_amount" "is_amount" (defArgs s_is_amount) (defBody s_is_amount) (defScope s_is_amount) .none kV16 dc16 pm16 an16 cd16 ct16), sl16⟩)
    (e16 : PySem.W.codeIn K cd16 "is_amount" = true)
    (k16 : PySem.W.keepIn K (.ref f16) = true)
    (a17 : PySem.W.nsIn K mainGlobals "place_of" = some (some (.ref f17)))
    (l17 : K.lookup f17 = some ⟨oc17, od17, .func (PySem.W.fnOf "place_of" "place_of" (defArgs s_place_of) (defBody s_place_of) (defScope s_place_of) .none kV17 dc17 pm17 an17 cd17 ct17), sl17⟩)
    (e17 : PySem.W.codeIn K cd17 "place_of" = true)
    (k17 : PySem.W.keepIn K (.ref f17) = true)
    (a18 : PySem.W.nsIn K mainGlobals "amount_of" = some (some (.ref f18)))
    (l18 : K.lookup f18 = some ⟨oc18, od18, .func (PySem.W.fnOf "amount_of" "amount_of" (defArgs s_amount_of) (defBody s_amount_of) (defScope s_amount_of) .none kV18 dc18 pm18 an18 cd18 ct18), sl18⟩)
    (e18 : PySem.W.codeIn K cd18 "amount_of" = true)
    (k18 : PySem.W.keepIn K (.ref f18) = true)
    (a19 : PySem.W.nsIn K mainGlobals "is_part" = some (some (.ref f19)))
    (l19 : K.lookup f19 = some ⟨oc19, od19, .func (PySem.W.fnOf "is_part" "is_part" (defArgs s_is_part) (defBody s_is_part) (defScope s_is_part) .none kV19 dc19 pm19 an19 cd19 ct19), sl19⟩)
    (e19 : PySem.W.codeIn K cd19 "is_part" = true)
    (k19 : PySem.W.keepIn K (.ref f19) = true)
    (a20 : PySem.W.nsIn K mainGlobals "read_move" = some (some (.ref f20)))
    (l20 : K.lookup f20 = some ⟨oc20, od20, .func (PySem.W.fnOf "read_move" "read_move" (defArgs s_read_move) (defBody s_read_move) (defScope s_read_move) .none kV20 dc20 pm20 an20 cd20 ct20), sl20⟩)
    (e20 : PySem.W.codeIn K cd20 "read_move" = true)
    (k20 : PySem.W.keepIn K (.ref f20) = true)
    (a21 : PySem.W.nsIn K mainGlobals "read_moves" = some (some (.ref f21)))
    (l21 : K.lookup f21 = some ⟨oc21, od21, .func (PySem.W.fnOf "read_moves" "read_moves" (defArgs s_read_moves) (defBody s_read_moves) (defScope s_read_moves) .none kV21 dc21 pm21 an21 cd21 ct21), sl21⟩)
    (e21 : PySem.W.codeIn K cd21 "read_moves" = true)
    (k21 : PySem.W.keepIn K (.ref f21) = true)
    (a22 : PySem.W.nsIn K mainGlobals "exchanged" = some (some (.ref f22)))
    (l22 : K.lookup f22 = some ⟨oc22, od22, .func (PySem.W.fnOf "exchanged" "exchanged" (defArgs s_exchanged) (defBody s_exchanged) (defScope s_exchanged) .none kV22 dc22 pm22 an22 cd22 ct22), sl22⟩)
    (e22 : PySem.W.codeIn K cd22 "exchanged" = true)
    (k22 : PySem.W.keepIn K (.ref f22) = true)
    (a23 : PySem.W.nsIn K mainGlobals "rolled" = some (some (.ref f23)))
    (l23 : K.lookup f23 = some ⟨oc23, od23, .func (PySem.W.fnOf "rolled" "rolled" (defArgs s_rolled) (defBody s_rolled) (defScope s_rolled) .none kV23 dc23 pm23 an23 cd23 ct23), sl23⟩)
    (e23 : PySem.W.codeIn K cd23 "rolled" = true)
    (k23 : PySem.W.keepIn K (.ref f23) = true)
    (a24 : PySem.W.nsIn K mainGlobals "moved" = some (some (.ref f24)))
    (l24 : K.lookup f24 = some ⟨oc24, od24, .func (PySem.W.fnOf "moved" "moved" (defArgs s_moved) (defBody s_moved) (defScope s_moved) .none kV24 dc24 pm24 an24 cd24 ct24), sl24⟩)
    (e24 : PySem.W.codeIn K cd24 "moved" = true)
    (k24 : PySem.W.keepIn K (.ref f24) = true)
    (a25 : PySem.W.findIn K (.ref C_Word) "__init__" = some (some (.ref f25)))
    (l25 : K.lookup f25 = some ⟨oc25, od25, .func (PySem.W.fnOf "__init__" "Word.__init__" (defArgs s_Word_init) (defBody s_Word_init) (defScope s_Word_init) .none kV25 dc25 pm25 an25 cd25 ct25), sl25⟩)
    (e25 : PySem.W.codeIn K cd25 "Word.__init__" = true)
    (k25 : PySem.W.keepIn K (.ref f25) = true)
    (a26 : PySem.W.findIn K (.ref C_Word) "__eq__" = some (some (.ref f26)))
    (l26 : K.lookup f26 = some ⟨oc26, od26, .func (PySem.W.fnOf "__eq__" "Word.__eq__" (defArgs s_Word_eq) (defBody s_Word_eq) (defScope s_Word_eq) .none kV26 dc26 pm26 an26 cd26 ct26), sl26⟩)
    (e26 : PySem.W.codeIn K cd26 "Word.__eq__" = true)
    (k26 : PySem.W.keepIn K (.ref f26) = true)
    (a27 : PySem.W.findIn K (.ref C_Word) "at" = some (some (.ref f27)))
    (l27 : K.lookup f27 = some ⟨oc27, od27, .func (PySem.W.fnOf "at" "Word.at" (defArgs s_Word_at) (defBody s_Word_at) (defScope s_Word_at) .none kV27 dc27 pm27 an27 cd27 ct27), sl27⟩)
    (e27 : PySem.W.codeIn K cd27 "Word.at" = true)
    (k27 : PySem.W.keepIn K (.ref f27) = true)
    (a28 : PySem.W.nsIn K mainGlobals "read_along" = some (some (.ref f28)))
    (l28 : K.lookup f28 = some ⟨oc28, od28, .func (PySem.W.fnOf "read_along" "read_along" (defArgs s_read_along) (defBody s_read_along) (defScope s_read_along) .none kV28 dc28 pm28 an28 cd28 ct28), sl28⟩)
    (e28 : PySem.W.codeIn K cd28 "read_along" = true)
    (k28 : PySem.W.keepIn K (.ref f28) = true)
    (a29 : PySem.W.nsIn K mainGlobals "read_list" = some (some (.ref f29)))
    (l29 : K.lookup f29 = some ⟨oc29, od29, .func (PySem.W.fnOf "read_list" "read_list" (defArgs s_read_list) (defBody s_read_list) (defScope s_read_list) .none kV29 dc29 pm29 an29 cd29 ct29), sl29⟩)
    (e29 : PySem.W.codeIn K cd29 "read_list" = true)
    (k29 : PySem.W.keepIn K (.ref f29) = true)
    (a30 : PySem.W.nsIn K mainGlobals "read_body" = some (some (.ref f30)))
    (l30 : K.lookup f30 = some ⟨oc30, od30, .func (PySem.W.fnOf "read_body" "read_body" (defArgs s_read_body) (defBody s_read_body) (defScope s_read_body) .none kV30 dc30 pm30 an30 cd30 ct30), sl30⟩)
    (e30 : PySem.W.codeIn K cd30 "read_body" = true)
    (k30 : PySem.W.keepIn K (.ref f30) = true)
    (a31 : PySem.W.nsIn K mainGlobals "read_level" = some (some (.ref f31)))
    (l31 : K.lookup f31 = some ⟨oc31, od31, .func (PySem.W.fnOf "read_level" "read_level" (defArgs s_read_level) (defBody s_read_level) (defScope s_read_level) .none kV31 dc31 pm31 an31 cd31 ct31), sl31⟩)
    (e31 : PySem.W.codeIn K cd31 "read_level" = true)
    (k31 : PySem.W.keepIn K (.ref f31) = true)
    (a32 : PySem.W.findIn K (.ref C_Level) "__init__" = some (some (.ref f32)))
    (l32 : K.lookup f32 = some ⟨oc32, od32, .func (PySem.W.fnOf "__init__" "Level.__init__" (defArgs s_Level_init) (defBody s_Level_init) (defScope s_Level_init) (.ref dV32) kV32 dc32 pm32 an32 cd32 ct32), sl32⟩)
    (w32 : K.lookup dV32 = some dO32)
    (h_w32 : dfB dO32 [V.non] = true)
    (e32 : PySem.W.codeIn K cd32 "Level.__init__" = true)
    (k32 : PySem.W.keepIn K (.ref f32) = true)
    (a33 : PySem.W.findIn K (.ref C_Level) "__eq__" = some (some (.ref f33)))
    (l33 : K.lookup f33 = some ⟨oc33, od33, .func (PySem.W.fnOf "__eq__" "Level.__eq__" (defArgs s_Level_eq) (defBody s_Level_eq) (defScope s_Level_eq) .none kV33 dc33 pm33 an33 cd33 ct33), sl33⟩)
    (e33 : PySem.W.codeIn K cd33 "Level.__eq__" = true)
    (k33 : PySem.W.keepIn K (.ref f33) = true)
    (a34 : PySem.W.findIn K (.ref C_Level) "many_steps" = some (some (.ref f34)))
    (l34 : K.lookup f34 = some ⟨oc34, od34, .func (PySem.W.fnOf "many_steps" "Level.many_steps" (defArgs s_Level_many_steps) (defBody s_Level_many_steps) (defScope s_Level_many_steps) .none kV34 dc34 pm34 an34 cd34 ct34), sl34⟩)
    (e34 : PySem.W.codeIn K cd34 "Level.many_steps" = true)
    (k34 : PySem.W.keepIn K (.ref f34) = true)
    (a35 : PySem.W.findIn K (.ref C_Level) "partner" = some (some (.ref f35)))
    (l35 : K.lookup f35 = some ⟨oc35, od35, .func (PySem.W.fnOf "partner" "Level.partner" (defArgs s_Level_partner) (defBody s_Level_partner) (defScope s_Level_partner) .none kV35 dc35 pm35 an35 cd35 ct35), sl35⟩)
    (e35 : PySem.W.codeIn K cd35 "Level.partner" = true)
    (k35 : PySem.W.keepIn K (.ref f35) = true)
    (a36 : PySem.W.findIn K (.ref C_Level) "partners" = some (some (.ref f36)))
    (l36 : K.lookup f36 = some ⟨oc36, od36, .func (PySem.W.fnOf "partners" "Level.partners" (defArgs s_Level_partners) (defBody s_Level_partners) (defScope s_Level_partners) .none kV36 dc36 pm36 an36 cd36 ct36), sl36⟩)
    (e36 : PySem.W.codeIn K cd36 "Level.partners" = true)
    (k36 : PySem.W.keepIn K (.ref f36) = true)
    (a37 : PySem.W.findIn K (.ref C_Level) "step" = some (some (.ref f37)))
    (l37 : K.lookup f37 = some ⟨oc37, od37, .func (PySem.W.fnOf "step" "Level.step" (defArgs s_Level_step) (defBody s_Level_step) (defScope s_Level_step) .none kV37 dc37 pm37 an37 cd37 ct37), sl37⟩)
    (e37 : PySem.W.codeIn K cd37 "Level.step" = true)
    (k37 : PySem.W.keepIn K (.ref f37) = true)
    (a38 : PySem.W.nsIn K mainGlobals "read_line" = some (some (.ref f38)))
    (l38 : K.lookup f38 = some ⟨oc38, od38, .func (PySem.W.fnOf "read_line" "read_line" (defArgs s_read_line) (defBody s_read_line) (defScope s_read_line) (.ref dV38) kV38 dc38 pm38 an38 cd38 ct38), sl38⟩)
    (w38 : K.lookup dV38 = some dO38)
    (h_w38 : dfB dO38 [V.non] = true)
    (e38 : PySem.W.codeIn K cd38 "read_line" = true)
    (k38 : PySem.W.keepIn K (.ref f38) = true)
    (a39 : PySem.W.nsIn K mainGlobals "read_period" = some (some (.ref f39)))
    (l39 : K.lookup f39 = some ⟨oc39, od39, .func (PySem.W.fnOf "read_period" "read_period" (defArgs s_read_period) (defBody s_read_period) (defScope s_read_period) .none kV39 dc39 pm39 an39 cd39 ct39), sl39⟩)
    (e39 : PySem.W.codeIn K cd39 "read_period" = true)
    (k39 : PySem.W.keepIn K (.ref f39) = true)
    (a40 : PySem.W.nsIn K mainGlobals "read_rests" = some (some (.ref f40)))
    (l40 : K.lookup f40 = some ⟨oc40, od40, .func (PySem.W.fnOf "read_rests" "read_rests" (defArgs s_read_rests) (defBody s_read_rests) (defScope s_read_rests) .none kV40 dc40 pm40 an40 cd40 ct40), sl40⟩)
    (e40 : PySem.W.codeIn K cd40 "read_rests" = true)
    (k40 : PySem.W.keepIn K (.ref f40) = true)
    (a41 : PySem.W.nsIn K mainGlobals "read_size" = some (some (.ref f41)))
    (l41 : K.lookup f41 = some ⟨oc41, od41, .func (PySem.W.fnOf "read_size" "read_size" (defArgs s_read_size) (defBody s_read_size) (defScope s_read_size) .none kV41 dc41 pm41 an41 cd41 ct41), sl41⟩)
    (e41 : PySem.W.codeIn K cd41 "read_size" = true)
    (k41 : PySem.W.keepIn K (.ref f41) = true)
    (a42 : PySem.W.nsIn K mainGlobals "read_singles" = some (some (.ref f42)))
    (l42 : K.lookup f42 = some ⟨oc42, od42, .func (PySem.W.fnOf "read_singles" "read_singles" (defArgs s_read_singles) (defBody s_read_singles) (defScope s_read_singles) .none kV42 dc42 pm42 an42 cd42 ct42), sl42⟩)
    (e42 : PySem.W.codeIn K cd42 "read_singles" = true)
    (k42 : PySem.W.keepIn K (.ref f42) = true)
    (a43 : PySem.W.nsIn K mainGlobals "text_of_program" = some (some (.ref f43)))
    (l43 : K.lookup f43 = some ⟨oc43, od43, .func (PySem.W.fnOf "text_of_program" "text_of_program" (defArgs s_text_of_program) (defBody s_text_of_program) (defScope s_text_of_program) .none kV43 dc43 pm43 an43 cd43 ct43), sl43⟩)
    (e43 : PySem.W.codeIn K cd43 "text_of_program" = true)
    (k43 : PySem.W.keepIn K (.ref f43) = true)
    (a44 : PySem.W.findIn K (.ref C_Program) "__init__" = some (some (.ref f44)))
    (l44 : K.lookup f44 = some ⟨oc44, od44, .func (PySem.W.fnOf "__init__" "Program.__init__" (defArgs s_Program_init) (defBody s_Program_init) (defScope s_Program_init) .none kV44 dc44 pm44 an44 cd44 ct44), sl44⟩)
    (e44 : PySem.W.codeIn K cd44 "Program.__init__" = true)
    (k44 : PySem.W.keepIn K (.ref f44) = true)
    (a45 : PySem.W.findIn K (.ref C_Program) "__eq__" = some (some (.ref f45)))
    (l45 : K.lookup f45 = some ⟨oc45, od45, .func (PySem.W.fnOf "__eq__" "Program.__eq__" (defArgs s_Program_eq) (defBody s_Program_eq) (defScope s_Program_eq) .none kV45 dc45 pm45 an45 cd45 ct45), sl45⟩)
    (e45 : PySem.W.codeIn K cd45 "Program.__eq__" = true)
    (k45 : PySem.W.keepIn K (.ref f45) = true)
    (a46 : PySem.W.findIn K (.ref C_Program) "level" = some (some (.ref f46)))
    (l46 : K.lookup f46 = some ⟨oc46, od46, .func (PySem.W.fnOf "level" "Program.level" (defArgs s_Program_level) (defBody s_Program_level) (defScope s_Program_level) .none kV46 dc46 pm46 an46 cd46 ct46), sl46⟩)
    (e46 : PySem.W.codeIn K cd46 "Program.level" = true)
    (k46 : PySem.W.keepIn K (.ref f46) = true)
    (a47 : PySem.W.findIn K (.ref C_Program) "step" = some (some (.ref f47)))
    (l47 : K.lookup f47 = some ⟨oc47, od47, .func (PySem.W.fnOf "step" "Program.step" (defArgs s_Program_step) (defBody s_Program_step) (defScope s_Program_step) .none kV47 dc47 pm47 an47 cd47 ct47), sl47⟩)
    (e47 : PySem.W.codeIn K cd47 "Program.step" = true)
    (k47 : PySem.W.keepIn K (.ref f47) = true)
    (a48 : PySem.W.findIn K (.ref C_Program) "with_level" = some (some (.ref f48)))
    (l48 : K.lookup f48 = some ⟨oc48, od48, .func (PySem.W.fnOf "with_level" "Program.with_level" (defArgs s_Program_with_level) (defBody s_Program_with_level) (defScope s_Program_with_level) .none kV48 dc48 pm48 an48 cd48 ct48), sl48⟩)
    (e48 : PySem.W.codeIn K cd48 "Program.with_level" = true)
    (k48 : PySem.W.keepIn K (.ref f48) = true)
    (a49 : PySem.W.findIn K (.ref C_Program) "without_level" = some (some (.ref f49)))
    (l49 : K.lookup f49 = some ⟨oc49, od49, .func (PySem.W.fnOf "without_level" "Program.without_level" (defArgs s_Program_without_level) (defBody s_Program_without_level) (defScope s_Program_without_level) .none kV49 dc49 pm49 an49 cd49 ct49), sl49⟩)
    (e49 : PySem.W.codeIn K cd49 "Program.without_level" = true)
    (k49 : PySem.W.keepIn K (.ref f49) = true)
    (a50 : PySem.W.findIn K (.ref C_Program) "with_rest" = some (some (.ref f50)))
    (l50 : K.lookup f50 = some ⟨oc50, od50, .func (PySem.W.fnOf "with_rest" "Program.with_rest" (defArgs s_Program_with_rest) (defBody s_Program_with_rest) (defScope s_Program_with_rest) .none kV50 dc50 pm50 an50 cd50 ct50), sl50⟩)
    (e50 : PySem.W.codeIn K cd50 "Program.with_rest" = true)
    (k50 : PySem.W.keepIn K (.ref f50) = true)
    (a51 : PySem.W.nsIn K mainGlobals "_law_pen" = some (some (.ref f51)))
    (l51 : K.lookup f51 = some ⟨oc51, od51, .func (PySem.W.fnOf "_law_pen" "_law_pen" (defArgs s__law_pen) (defBody s__law_pen) (defScope s__law_pen) .none kV51 dc51 pm51 an51 cd51 ct51), sl51⟩)
    (e51 : PySem.W.codeIn K cd51 "_law_pen" = true)
    (k51 : PySem.W.keepIn K (.ref f51) = true)
    (a52 : PySem.W.nsIn K mainGlobals "_law_draw" = some (some (.ref f52)))
    (l52 : K.lookup f52 = some ⟨oc52, od52, .func (PySem.W.fnOf "_law_draw" "_law_draw" (defArgs s__law_draw) (defBody s__law_draw) (defScope s__law_draw) .none kV52 dc52 pm52 an52 cd52 ct52), sl52⟩)
    (e52 : PySem.W.codeIn K cd52 "_law_draw" = true)
    (k52 : PySem.W.keepIn K (.ref f52) = true)
    (a53 : PySem.W.nsIn K mainGlobals "_law_pick" = some (some (.ref f53)))
    (l53 : K.lookup f53 = some ⟨oc53, od53, .func (PySem.W.fnOf "_law_pick" "_law_pick" (defArgs s__law_pick) (defBody s__law_pick) (defScope s__law_pick) .none kV53 dc53 pm53 an53 cd53 ct53), sl53⟩)
    (e53 : PySem.W.codeIn K cd53 "_law_pick" = true)
    (k53 : PySem.W.keepIn K (.ref f53) = true)
    (a54 : PySem.W.nsIn K mainGlobals "_law_place_word" = some (some (.ref f54)))
    (l54 : K.lookup f54 = some ⟨oc54, od54, .func (PySem.W.fnOf "_law_place_word" "_law_place_word" (defArgs s__law_place_word) (defBody s__law_place_word) (defScope s__law_place_word) .none kV54 dc54 pm54 an54 cd54 ct54), sl54⟩)
    (e54 : PySem.W.codeIn K cd54 "_law_place_word" = true)
    (k54 : PySem.W.keepIn K (.ref f54) = true)
    (a55 : PySem.W.nsIn K mainGlobals "_law_amount" = some (some (.ref f55)))
    (l55 : K.lookup f55 = some ⟨oc55, od55, .func (PySem.W.fnOf "_law_amount" "_law_amount" (defArgs s__law_amount) (defBody s__law_amount) (defScope s__law_amount) .none kV55 dc55 pm55 an55 cd55 ct55), sl55⟩)
    (e55 : PySem.W.codeIn K cd55 "_law_amount" = true)
    (k55 : PySem.W.keepIn K (.ref f55) = true)
    (a56 : PySem.W.nsIn K mainGlobals "_law_move" = some (some (.ref f56)))
    (l56 : K.lookup f56 = some ⟨oc56, od56, .func (PySem.W.fnOf "_law_move" "_law_move" (defArgs s__law_move) (defBody s__law_move) (defScope s__law_move) .none kV56 dc56 pm56 an56 cd56 ct56), sl56⟩)
    (e56 : PySem.W.codeIn K cd56 "_law_move" = true)
    (k56 : PySem.W.keepIn K (.ref f56) = true)
    (a57 : PySem.W.nsIn K mainGlobals "_law_moves" = some (some (.ref f57)))
    (l57 : K.lookup f57 = some ⟨oc57, od57, .func (PySem.W.fnOf "_law_moves" "_law_moves" (defArgs s__law_moves) (defBody s__law_moves) (defScope s__law_moves) .none kV57 dc57 pm57 an57 cd57 ct57), sl57⟩)
    (e57 : PySem.W.codeIn K cd57 "_law_moves" = true)
    (k57 : PySem.W.keepIn K (.ref f57) = true)
    (a58 : PySem.W.nsIn K mainGlobals "_law_word_text" = some (some (.ref f58)))
    (l58 : K.lookup f58 = some ⟨oc58, od58, .func (PySem.W.fnOf "_law_word_text" "_law_word_text" (defArgs s__law_word_text) (defBody s__law_word_text) (defScope s__law_word_text) .none kV58 dc58 pm58 an58 cd58 ct58), sl58⟩)
    (e58 : PySem.W.codeIn K cd58 "_law_word_text" = true)
    (k58 : PySem.W.keepIn K (.ref f58) = true)
    (a59 : PySem.W.nsIn K mainGlobals "_law_level" = some (some (.ref f59)))
    (l59 : K.lookup f59 = some ⟨oc59, od59, .func (PySem.W.fnOf "_law_level" "_law_level" (defArgs s__law_level) (defBody s__law_level) (defScope s__law_level) .none kV59 dc59 pm59 an59 cd59 ct59), sl59⟩)
    (e59 : PySem.W.codeIn K cd59 "_law_level" = true)
    (k59 : PySem.W.keepIn K (.ref f59) = true)
    (a60 : PySem.W.nsIn K mainGlobals "_law_level_text" = some (some (.ref f60)))
    (l60 : K.lookup f60 = some ⟨oc60, od60, .func (PySem.W.fnOf "_law_level_text" "_law_level_text" (defArgs s__law_level_text) (defBody s__law_level_text) (defScope s__law_level_text) .none kV60 dc60 pm60 an60 cd60 ct60), sl60⟩)
    (e60 : PySem.W.codeIn K cd60 "_law_level_text" = true)
    (k60 : PySem.W.keepIn K (.ref f60) = true)
    (a61 : PySem.W.nsIn K mainGlobals "_law_program" = some (some (.ref f61)))
    (l61 : K.lookup f61 = some ⟨oc61, od61, .func (PySem.W.fnOf "_law_program" "_law_program" (defArgs s__law_program) (defBody s__law_program) (defScope s__law_program) .none kV61 dc61 pm61 an61 cd61 ct61), sl61⟩)
    (e61 : PySem.W.codeIn K cd61 "_law_program" = true)
    (k61 : PySem.W.keepIn K (.ref f61) = true)
    (a62 : PySem.W.nsIn K mainGlobals "_law_program_lines" = some (some (.ref f62)))
    (l62 : K.lookup f62 = some ⟨oc62, od62, .func (PySem.W.fnOf "_law_program_lines" "_law_program_lines" (defArgs s__law_program_lines) (defBody s__law_program_lines) (defScope s__law_program_lines) .none kV62 dc62 pm62 an62 cd62 ct62), sl62⟩)
    (e62 : PySem.W.codeIn K cd62 "_law_program_lines" = true)
    (k62 : PySem.W.keepIn K (.ref f62) = true)
    (a63 : PySem.W.nsIn K mainGlobals "_law_level_at" = some (some (.ref f63)))
    (l63 : K.lookup f63 = some ⟨oc63, od63, .func (PySem.W.fnOf "_law_level_at" "_law_level_at" (defArgs s__law_level_at) (defBody s__law_level_at) (defScope s__law_level_at) .none kV63 dc63 pm63 an63 cd63 ct63), sl63⟩)
    (e63 : PySem.W.codeIn K cd63 "_law_level_at" = true)
    (k63 : PySem.W.keepIn K (.ref f63) = true)
    (a64 : PySem.W.nsIn K mainGlobals "_law_numbers" = some (some (.ref f64)))
    (l64 : K.lookup f64 = some ⟨oc64, od64, .func (PySem.W.fnOf "_law_numbers" "_law_numbers" (defArgs s__law_numbers) (defBody s__law_numbers) (defScope s__law_numbers) .none kV64 dc64 pm64 an64 cd64 ct64), sl64⟩)
    (e64 : PySem.W.codeIn K cd64 "_law_numbers" = true)
    (k64 : PySem.W.keepIn K (.ref f64) = true)
    (a65 : PySem.W.nsIn K mainGlobals "_law_places" = some (some (.ref f65)))
    (l65 : K.lookup f65 = some ⟨oc65, od65, .func (PySem.W.fnOf "_law_places" "_law_places" (defArgs s__law_places) (defBody s__law_places) (defScope s__law_places) .none kV65 dc65 pm65 an65 cd65 ct65), sl65⟩)
    (e65 : PySem.W.codeIn K cd65 "_law_places" = true)
    (k65 : PySem.W.keepIn K (.ref f65) = true)
    (a66 : PySem.W.nsIn K mainGlobals "_law_move_end" = some (some (.ref f66)))
    (l66 : K.lookup f66 = some ⟨oc66, od66, .func (PySem.W.fnOf "_law_move_end" "_law_move_end" (defArgs s__law_move_end) (defBody s__law_move_end) (defScope s__law_move_end) .none kV66 dc66 pm66 an66 cd66 ct66), sl66⟩)
    (e66 : PySem.W.codeIn K cd66 "_law_move_end" = true)
    (k66 : PySem.W.keepIn K (.ref f66) = true)
    (a67 : PySem.W.nsIn K mainGlobals "_law_moves_end" = some (some (.ref f67)))
    (l67 : K.lookup f67 = some ⟨oc67, od67, .func (PySem.W.fnOf "_law_moves_end" "_law_moves_end" (defArgs s__law_moves_end) (defBody s__law_moves_end) (defScope s__law_moves_end) .none kV67 dc67 pm67 an67 cd67 ct67), sl67⟩)
    (e67 : PySem.W.codeIn K cd67 "_law_moves_end" = true)
    (k67 : PySem.W.keepIn K (.ref f67) = true)
    (a68 : PySem.W.nsIn K mainGlobals "_law_ending_wrong" = some (some (.ref f68)))
    (l68 : K.lookup f68 = some ⟨oc68, od68, .func (PySem.W.fnOf "_law_ending_wrong" "_law_ending_wrong" (defArgs s__law_ending_wrong) (defBody s__law_ending_wrong) (defScope s__law_ending_wrong) .none kV68 dc68 pm68 an68 cd68 ct68), sl68⟩)
    (e68 : PySem.W.codeIn K cd68 "_law_ending_wrong" = true)
    (k68 : PySem.W.keepIn K (.ref f68) = true)
    (a69 : PySem.W.nsIn K mainGlobals "_law_list_wrong" = some (some (.ref f69)))
    (l69 : K.lookup f69 = some ⟨oc69, od69, .func (PySem.W.fnOf "_law_list_wrong" "_law_list_wrong" (defArgs s__law_list_wrong) (defBody s__law_list_wrong) (defScope s__law_list_wrong) .none kV69 dc69 pm69 an69 cd69 ct69), sl69⟩)
    (e69 : PySem.W.codeIn K cd69 "_law_list_wrong" = true)
    (k69 : PySem.W.keepIn K (.ref f69) = true)
    (a70 : PySem.W.nsIn K mainGlobals "_law_level_wrong" = some (some (.ref f70)))
    (l70 : K.lookup f70 = some ⟨oc70, od70, .func (PySem.W.fnOf "_law_level_wrong" "_law_level_wrong" (defArgs s__law_level_wrong) (defBody s__law_level_wrong) (defScope s__law_level_wrong) .none kV70 dc70 pm70 an70 cd70 ct70), sl70⟩)
    (e70 : PySem.W.codeIn K cd70 "_law_level_wrong" = true)
    (k70 : PySem.W.keepIn K (.ref f70) = true)
    (a71 : PySem.W.nsIn K mainGlobals "_law_spoiled" = some (some (.ref f71)))
    (l71 : K.lookup f71 = some ⟨oc71, od71, .func (PySem.W.fnOf "_law_spoiled" "_law_spoiled" (defArgs s__law_spoiled) (defBody s__law_spoiled) (defScope s__law_spoiled) .none kV71 dc71 pm71 an71 cd71 ct71), sl71⟩)
    (e71 : PySem.W.codeIn K cd71 "_law_spoiled" = true)
    (k71 : PySem.W.keepIn K (.ref f71) = true)
    (a72 : PySem.W.nsIn K mainGlobals "_law_met" = some (some (.ref f72)))
    (l72 : K.lookup f72 = some ⟨oc72, od72, .func (PySem.W.fnOf "_law_met" "_law_met" (defArgs s__law_met) (defBody s__law_met) (defScope s__law_met) .none kV72 dc72 pm72 an72 cd72 ct72), sl72⟩)
    (e72 : PySem.W.codeIn K cd72 "_law_met" = true)
    (k72 : PySem.W.keepIn K (.ref f72) = true)
    (a73 : PySem.W.nsIn K mainGlobals "_law_text" = some (some (.ref f73)))
    (l73 : K.lookup f73 = some ⟨oc73, od73, .func (PySem.W.fnOf "_law_text" "_law_text" (defArgs s__law_text) (defBody s__law_text) (defScope s__law_text) .none kV73 dc73 pm73 an73 cd73 ct73), sl73⟩)
    (e73 : PySem.W.codeIn K cd73 "_law_text" = true)
    (k73 : PySem.W.keepIn K (.ref f73) = true)
    (a74 : PySem.W.nsIn K mainGlobals "_law_with" = some (some (.ref f74)))
    (l74 : K.lookup f74 = some ⟨oc74, od74, .func (PySem.W.fnOf "_law_with" "_law_with" (defArgs s__law_with) (defBody s__law_with) (defScope s__law_with) .none kV74 dc74 pm74 an74 cd74 ct74), sl74⟩)
    (e74 : PySem.W.codeIn K cd74 "_law_with" = true)
    (k74 : PySem.W.keepIn K (.ref f74) = true)
    (a75 : PySem.W.nsIn K mainGlobals "_law_change" = some (some (.ref f75)))
    (l75 : K.lookup f75 = some ⟨oc75, od75, .func (PySem.W.fnOf "_law_change" "_law_change" (defArgs s__law_change) (defBody s__law_change) (defScope s__law_change) .none kV75 dc75 pm75 an75 (.ref cA75) ct75), sl75⟩)
    (e75 : PySem.W.codeIn K (.ref cA75) "_law_change" = true)
    (k75 : PySem.W.keepIn K (.ref f75) = true)
    (a76 : PySem.W.nsIn K mainGlobals "_law_odd_right" = some (some (.ref f76)))
    (l76 : K.lookup f76 = some ⟨oc76, od76, .func (PySem.W.fnOf "_law_odd_right" "_law_odd_right" (defArgs s__law_odd_right) (defBody s__law_odd_right) (defScope s__law_odd_right) .none kV76 dc76 pm76 an76 (.ref cA76) ct76), sl76⟩)
    (e76 : PySem.W.codeIn K (.ref cA76) "_law_odd_right" = true)
    (k76 : PySem.W.keepIn K (.ref f76) = true)
    (a77 : PySem.W.nsIn K mainGlobals "law" = some (some (.ref f77)))
    (l77 : K.lookup f77 = some ⟨oc77, od77, .func (PySem.W.fnOf "law" "law" (defArgs s_law) (defBody s_law) (defScope s_law) .none kV77 dc77 pm77 an77 cd77 ct77), sl77⟩)
    (e77 : PySem.W.codeIn K cd77 "law" = true)
    (k77 : PySem.W.keepIn K (.ref f77) = true)
    (pg_Tower : PySem.W.plainGet K C_Tower Str.empty = true)
    (hd_Tower : PySem.W.hasDictIn K C_Tower = true)
    (po_Tower : PySem.W.plainOver K C_Tower = true)
    (sa_Tower : PySem.W.findIn K (.ref C_Tower) "__setattr__" = some (some (.builtin "object.__setattr__")))
    (mk_Tower : PySem.W.makesIn K C_Tower = true)
    (kc_Tower : PySem.W.keepIn K (.ref C_Tower) = true)
    (n_Tower_stages : PySem.W.findIn K (.ref C_Tower) "stages" = some none)
    (n_Tower_doings : PySem.W.findIn K (.ref C_Tower) "doings" = some none)
    (n_Tower_lasts : PySem.W.findIn K (.ref C_Tower) "lasts" = some none)
    (n_Tower_wrong : PySem.W.findIn K (.ref C_Tower) "wrong" = some none)
    (i_Tower_init : PySem.W.isFn K (.ref f9) = true)
    (i_Tower_grow : PySem.W.isFn K (.ref f10) = true)
    (i_Tower_add_level : PySem.W.isFn K (.ref f11) = true)
    (i_Tower_ahead : PySem.W.isFn K (.ref f12) = true)
    (i_Tower_least_not_whole : PySem.W.isFn K (.ref f13) = true)
    (pg_Word : PySem.W.plainGet K C_Word Str.empty = true)
    (hd_Word : PySem.W.hasDictIn K C_Word = true)
    (po_Word : PySem.W.plainOver K C_Word = true)
    (sa_Word : PySem.W.findIn K (.ref C_Word) "__setattr__" = some (some (.builtin "object.__setattr__")))
    (mk_Word : PySem.W.makesIn K C_Word = true)
    (kc_Word : PySem.W.keepIn K (.ref C_Word) = true)
    (n_Word_text : PySem.W.findIn K (.ref C_Word) "text" = some none)
    (n_Word_moves : PySem.W.findIn K (.ref C_Word) "moves" = some none)
    (n_Word_has_turn : PySem.W.findIn K (.ref C_Word) "has_turn" = some none)
    (i_Word_init : PySem.W.isFn K (.ref f25) = true)
    (i_Word_eq : PySem.W.isFn K (.ref f26) = true)
    (i_Word_at : PySem.W.isFn K (.ref f27) = true)
    (og_Word : PySem.W.findIn K (.ref C_Word) "__class__" = some (some (.builtin "object.__class__")))
    (on_Word : PySem.W.specialIn K (.builtin "object.__class__") "__get__" = some (some (.builtin "getset_descriptor.__get__")))
    (ot_Word : PySem.W.takesIn K (.builtin "object.__class__") = some true)
    (om_Word : PySem.W.mroIn K C_Word (.type "object") = some true)
    (of_Word : PySem.W.notFirst K C_Word (.type "str") = true)
    (ok_Word : PySem.W.kitOne K (.type "str") (.ref C_Word) = some false)
    (pg_Level : PySem.W.plainGet K C_Level Str.empty = true)
    (hd_Level : PySem.W.hasDictIn K C_Level = true)
    (po_Level : PySem.W.plainOver K C_Level = true)
    (sa_Level : PySem.W.findIn K (.ref C_Level) "__setattr__" = some (some (.builtin "object.__setattr__")))
    (mk_Level : PySem.W.makesIn K C_Level = true)
    (kc_Level : PySem.W.keepIn K (.ref C_Level) = true)
    (n_Level_text : PySem.W.findIn K (.ref C_Level) "text" = some none)
    (n_Level_kind : PySem.W.findIn K (.ref C_Level) "kind" = some none)
    (n_Level_to_end : PySem.W.findIn K (.ref C_Level) "to_end" = some none)
    (n_Level_word : PySem.W.findIn K (.ref C_Level) "word" = some none)
    (n_Level_factor : PySem.W.findIn K (.ref C_Level) "factor" = some none)
    (n_Level_place : PySem.W.findIn K (.ref C_Level) "place" = some none)
    (n_Level_entries : PySem.W.findIn K (.ref C_Level) "entries" = some none)
    (i_Level_init : PySem.W.isFn K (.ref f32) = true)
    (i_Level_eq : PySem.W.isFn K (.ref f33) = true)
    (i_Level_many_steps : PySem.W.isFn K (.ref f34) = true)
    (i_Level_partner : PySem.W.isFn K (.ref f35) = true)
    (i_Level_partners : PySem.W.isFn K (.ref f36) = true)
    (i_Level_step : PySem.W.isFn K (.ref f37) = true)
    (og_Level : PySem.W.findIn K (.ref C_Level) "__class__" = some (some (.builtin "object.__class__")))
    (on_Level : PySem.W.specialIn K (.builtin "object.__class__") "__get__" = some (some (.builtin "getset_descriptor.__get__")))
    (ot_Level : PySem.W.takesIn K (.builtin "object.__class__") = some true)
    (om_Level : PySem.W.mroIn K C_Level (.type "object") = some true)
    (of_Level : PySem.W.notFirst K C_Level (.type "str") = true)
    (ok_Level : PySem.W.kitOne K (.type "str") (.ref C_Level) = some false)
    (o2a_Level : PySem.W.findIn K (.ref C_Level) "__ne__" = some (some (.builtin "object.__ne__")))
    (o2b_Level : PySem.W.notFirst K C_Level (.type "int") = true)
    (o2c_Level : PySem.W.notFirst K C_Level (.type "tuple") = true)
    (ok_int_Level : PySem.W.kitOne K (.type "int") (.ref C_Level) = some false)
    (ok_tup_Level : PySem.W.kitOne K (.type "tuple") (.ref C_Level) = some false)
    (pg_Program : PySem.W.plainGet K C_Program Str.empty = true)
    (hd_Program : PySem.W.hasDictIn K C_Program = true)
    (po_Program : PySem.W.plainOver K C_Program = true)
    (sa_Program : PySem.W.findIn K (.ref C_Program) "__setattr__" = some (some (.builtin "object.__setattr__")))
    (mk_Program : PySem.W.makesIn K C_Program = true)
    (kc_Program : PySem.W.keepIn K (.ref C_Program) = true)
    (n_Program_text : PySem.W.findIn K (.ref C_Program) "text" = some none)
    (n_Program_period : PySem.W.findIn K (.ref C_Program) "period" = some none)
    (n_Program_rests : PySem.W.findIn K (.ref C_Program) "rests" = some none)
    (n_Program__singles : PySem.W.findIn K (.ref C_Program) "_singles" = some none)
    (n_Program_sizes : PySem.W.findIn K (.ref C_Program) "sizes" = some none)
    (n_Program_tower : PySem.W.findIn K (.ref C_Program) "tower" = some none)
    (i_Program_init : PySem.W.isFn K (.ref f44) = true)
    (i_Program_eq : PySem.W.isFn K (.ref f45) = true)
    (i_Program_level : PySem.W.isFn K (.ref f46) = true)
    (i_Program_step : PySem.W.isFn K (.ref f47) = true)
    (i_Program_with_level : PySem.W.isFn K (.ref f48) = true)
    (i_Program_without_level : PySem.W.isFn K (.ref f49) = true)
    (i_Program_with_rest : PySem.W.isFn K (.ref f50) = true)
    (og_Program : PySem.W.findIn K (.ref C_Program) "__class__" = some (some (.builtin "object.__class__")))
    (on_Program : PySem.W.specialIn K (.builtin "object.__class__") "__get__" = some (some (.builtin "getset_descriptor.__get__")))
    (ot_Program : PySem.W.takesIn K (.builtin "object.__class__") = some true)
    (om_Program : PySem.W.mroIn K C_Program (.type "object") = some true)
    (of_Program : PySem.W.notFirst K C_Program (.type "str") = true)
    (ok_Program : PySem.W.kitOne K (.type "str") (.ref C_Program) = some false)
    (o2a_Program : PySem.W.findIn K (.ref C_Program) "__ne__" = some (some (.builtin "object.__ne__")))
    (o2b_Program : PySem.W.notFirst K C_Program (.type "int") = true)
    (o2c_Program : PySem.W.notFirst K C_Program (.type "tuple") = true)
    (ok_int_Program : PySem.W.kitOne K (.type "int") (.ref C_Program) = some false)
    (ok_tup_Program : PySem.W.kitOne K (.type "tuple") (.ref C_Program) = some false)
    (xl_BadWord : K.lookup C_BadWord = some (excClassObj en_BadWord eq_BadWord C_BadWord eN_BadWord eb_BadWord em_BadWord true es_BadWord eu_BadWord ea_BadWord eo_BadWord ed_BadWord e0_BadWord e1_BadWord e2_BadWord e3_BadWord e5_BadWord "ValueError.__new__"))
    (xr_BadWord : PySem.HandSPX.refsVE em_BadWord = true)
    (xsa_BadWord : PySem.W.findIn K (.ref C_BadWord) "__setattr__" = some (some (.builtin "object.__setattr__")))
    (xex_BadWord : PySem.W.subIn K (.ref C_BadWord) (.type "BaseException") = some true)
    (xty_BadWord : PySem.W.typeIn K (.ref C_BadWord) = some (.type "type"))
    (xkc_BadWord : PySem.W.keepIn K (.ref C_BadWord) = true)
    (xga_BadWord : PySem.W.findIn K (.ref C_BadWord) "__getattribute__" = some (some (.builtin "BaseException.__getattribute__")))
    (xgg_BadWord : PySem.W.findIn K (.ref C_BadWord) "__getattr__" = some none)
    (xhd_BadWord : PySem.W.hasDictIn K C_BadWord = true)
    (xha_BadWord : PySem.W.findIn K (.ref C_BadWord) "__class__" = some (some (.builtin "object.__class__")))
    (xhm_BadWord : PySem.W.mroIn K C_BadWord (.type "object") = some true)
    (xno_BadWord : PySem.W.findIn K (.ref C_BadWord) "index" = some none)
    (xhn_BadWord : PySem.W.specialIn K (.builtin "object.__class__") "__get__" = some (some (.builtin "getset_descriptor.__get__")))
    (xht_BadWord : PySem.W.takesIn K (.builtin "object.__class__") = some true)
    (xti_BadWord : PySem.W.typeIn K (.ref f4) = some (.type "function"))
    (xs_BadWord_BadNumber : PySem.W.subIn K (.ref C_BadWord) (.ref C_BadNumber) = some false)
    (xs_BadWord_BadSize : PySem.W.subIn K (.ref C_BadWord) (.ref C_BadSize) = some false)
    (xs_BadWord_BadWord : PySem.W.subIn K (.ref C_BadWord) (.ref C_BadWord) = some true)
    (xs_BadWord_NoLevel : PySem.W.subIn K (.ref C_BadWord) (.ref C_NoLevel) = some false)
    (ok_BadWord_EveryError : PySem.W.kitOne K (.ref C_BadWord) (.ref C_EveryError) = some true)
    (xl_BadText : K.lookup C_BadText = some (excClassObj en_BadText eq_BadText C_BadText eN_BadText eb_BadText em_BadText true es_BadText eu_BadText ea_BadText eo_BadText ed_BadText e0_BadText e1_BadText e2_BadText e3_BadText e5_BadText "ValueError.__new__"))
    (xr_BadText : PySem.HandSPX.refsVE em_BadText = true)
    (xsa_BadText : PySem.W.findIn K (.ref C_BadText) "__setattr__" = some (some (.builtin "object.__setattr__")))
    (xex_BadText : PySem.W.subIn K (.ref C_BadText) (.type "BaseException") = some true)
    (xty_BadText : PySem.W.typeIn K (.ref C_BadText) = some (.type "type"))
    (xkc_BadText : PySem.W.keepIn K (.ref C_BadText) = true)
    (xga_BadText : PySem.W.findIn K (.ref C_BadText) "__getattribute__" = some (some (.builtin "BaseException.__getattribute__")))
    (xgg_BadText : PySem.W.findIn K (.ref C_BadText) "__getattr__" = some none)
    (xhd_BadText : PySem.W.hasDictIn K C_BadText = true)
    (xha_BadText : PySem.W.findIn K (.ref C_BadText) "__class__" = some (some (.builtin "object.__class__")))
    (xhm_BadText : PySem.W.mroIn K C_BadText (.type "object") = some true)
    (xno_BadText : PySem.W.findIn K (.ref C_BadText) "line" = some none)
    (xhn_BadText : PySem.W.specialIn K (.builtin "object.__class__") "__get__" = some (some (.builtin "getset_descriptor.__get__")))
    (xht_BadText : PySem.W.takesIn K (.builtin "object.__class__") = some true)
    (xti_BadText : PySem.W.typeIn K (.ref f5) = some (.type "function"))
    (xs_BadText_BadNumber : PySem.W.subIn K (.ref C_BadText) (.ref C_BadNumber) = some false)
    (xs_BadText_BadSize : PySem.W.subIn K (.ref C_BadText) (.ref C_BadSize) = some false)
    (xs_BadText_BadWord : PySem.W.subIn K (.ref C_BadText) (.ref C_BadWord) = some false)
    (xs_BadText_NoLevel : PySem.W.subIn K (.ref C_BadText) (.ref C_NoLevel) = some false)
    (ok_BadText_EveryError : PySem.W.kitOne K (.ref C_BadText) (.ref C_EveryError) = some true)
    (xl_BadSize : K.lookup C_BadSize = some (excClassObj en_BadSize eq_BadSize C_BadSize eN_BadSize eb_BadSize em_BadSize true es_BadSize eu_BadSize ea_BadSize eo_BadSize ed_BadSize e0_BadSize e1_BadSize e2_BadSize e3_BadSize e5_BadSize "ValueError.__new__"))
    (xr_BadSize : PySem.HandSPX.refsVE em_BadSize = true)
    (xsa_BadSize : PySem.W.findIn K (.ref C_BadSize) "__setattr__" = some (some (.builtin "object.__setattr__")))
    (xex_BadSize : PySem.W.subIn K (.ref C_BadSize) (.type "BaseException") = some true)
    (xty_BadSize : PySem.W.typeIn K (.ref C_BadSize) = some (.type "type"))
    (xkc_BadSize : PySem.W.keepIn K (.ref C_BadSize) = true)
    (xga_BadSize : PySem.W.findIn K (.ref C_BadSize) "__getattribute__" = some (some (.builtin "BaseException.__getattribute__")))
    (xgg_BadSize : PySem.W.findIn K (.ref C_BadSize) "__getattr__" = some none)
    (xhd_BadSize : PySem.W.hasDictIn K C_BadSize = true)
    (xha_BadSize : PySem.W.findIn K (.ref C_BadSize) "__class__" = some (some (.builtin "object.__class__")))
    (xhm_BadSize : PySem.W.mroIn K C_BadSize (.type "object") = some true)
    (xno_BadSize : PySem.W.findIn K (.ref C_BadSize) "size" = some none)
    (xhn_BadSize : PySem.W.specialIn K (.builtin "object.__class__") "__get__" = some (some (.builtin "getset_descriptor.__get__")))
    (xht_BadSize : PySem.W.takesIn K (.builtin "object.__class__") = some true)
    (xti_BadSize : PySem.W.typeIn K (.ref f6) = some (.type "function"))
    (xs_BadSize_BadNumber : PySem.W.subIn K (.ref C_BadSize) (.ref C_BadNumber) = some false)
    (xs_BadSize_BadSize : PySem.W.subIn K (.ref C_BadSize) (.ref C_BadSize) = some true)
    (xs_BadSize_BadWord : PySem.W.subIn K (.ref C_BadSize) (.ref C_BadWord) = some false)
    (xs_BadSize_NoLevel : PySem.W.subIn K (.ref C_BadSize) (.ref C_NoLevel) = some false)
    (ok_BadSize_EveryError : PySem.W.kitOne K (.ref C_BadSize) (.ref C_EveryError) = some true)
    (xl_BadNumber : K.lookup C_BadNumber = some (excClassObj en_BadNumber eq_BadNumber C_BadNumber eN_BadNumber eb_BadNumber em_BadNumber true es_BadNumber eu_BadNumber ea_BadNumber eo_BadNumber ed_BadNumber e0_BadNumber e1_BadNumber e2_BadNumber e3_BadNumber e5_BadNumber "ValueError.__new__"))
    (xr_BadNumber : PySem.HandSPX.refsVE em_BadNumber = true)
    (xsa_BadNumber : PySem.W.findIn K (.ref C_BadNumber) "__setattr__" = some (some (.builtin "object.__setattr__")))
    (xex_BadNumber : PySem.W.subIn K (.ref C_BadNumber) (.type "BaseException") = some true)
    (xty_BadNumber : PySem.W.typeIn K (.ref C_BadNumber) = some (.type "type"))
    (xkc_BadNumber : PySem.W.keepIn K (.ref C_BadNumber) = true)
    (xga_BadNumber : PySem.W.findIn K (.ref C_BadNumber) "__getattribute__" = some (some (.builtin "BaseException.__getattribute__")))
    (xgg_BadNumber : PySem.W.findIn K (.ref C_BadNumber) "__getattr__" = some none)
    (xhd_BadNumber : PySem.W.hasDictIn K C_BadNumber = true)
    (xha_BadNumber : PySem.W.findIn K (.ref C_BadNumber) "__class__" = some (some (.builtin "object.__class__")))
    (xhm_BadNumber : PySem.W.mroIn K C_BadNumber (.type "object") = some true)
    (xno_BadNumber : PySem.W.findIn K (.ref C_BadNumber) "number" = some none)
    (xhn_BadNumber : PySem.W.specialIn K (.builtin "object.__class__") "__get__" = some (some (.builtin "getset_descriptor.__get__")))
    (xht_BadNumber : PySem.W.takesIn K (.builtin "object.__class__") = some true)
    (xti_BadNumber : PySem.W.typeIn K (.ref f7) = some (.type "function"))
    (xs_BadNumber_BadNumber : PySem.W.subIn K (.ref C_BadNumber) (.ref C_BadNumber) = some true)
    (xs_BadNumber_BadSize : PySem.W.subIn K (.ref C_BadNumber) (.ref C_BadSize) = some false)
    (xs_BadNumber_BadWord : PySem.W.subIn K (.ref C_BadNumber) (.ref C_BadWord) = some false)
    (xs_BadNumber_NoLevel : PySem.W.subIn K (.ref C_BadNumber) (.ref C_NoLevel) = some false)
    (ok_BadNumber_EveryError : PySem.W.kitOne K (.ref C_BadNumber) (.ref C_EveryError) = some true)
    (xl_NoLevel : K.lookup C_NoLevel = some (excClassObj en_NoLevel eq_NoLevel C_NoLevel eN_NoLevel eb_NoLevel em_NoLevel true es_NoLevel eu_NoLevel ea_NoLevel eo_NoLevel ed_NoLevel e0_NoLevel e1_NoLevel e2_NoLevel e3_NoLevel e5_NoLevel "ValueError.__new__"))
    (xr_NoLevel : PySem.HandSPX.refsVE em_NoLevel = true)
    (xsa_NoLevel : PySem.W.findIn K (.ref C_NoLevel) "__setattr__" = some (some (.builtin "object.__setattr__")))
    (xex_NoLevel : PySem.W.subIn K (.ref C_NoLevel) (.type "BaseException") = some true)
    (xty_NoLevel : PySem.W.typeIn K (.ref C_NoLevel) = some (.type "type"))
    (xkc_NoLevel : PySem.W.keepIn K (.ref C_NoLevel) = true)
    (xga_NoLevel : PySem.W.findIn K (.ref C_NoLevel) "__getattribute__" = some (some (.builtin "BaseException.__getattribute__")))
    (xgg_NoLevel : PySem.W.findIn K (.ref C_NoLevel) "__getattr__" = some none)
    (xhd_NoLevel : PySem.W.hasDictIn K C_NoLevel = true)
    (xha_NoLevel : PySem.W.findIn K (.ref C_NoLevel) "__class__" = some (some (.builtin "object.__class__")))
    (xhm_NoLevel : PySem.W.mroIn K C_NoLevel (.type "object") = some true)
    (xno_NoLevel : PySem.W.findIn K (.ref C_NoLevel) "size" = some none)
    (xhn_NoLevel : PySem.W.specialIn K (.builtin "object.__class__") "__get__" = some (some (.builtin "getset_descriptor.__get__")))
    (xht_NoLevel : PySem.W.takesIn K (.builtin "object.__class__") = some true)
    (xti_NoLevel : PySem.W.typeIn K (.ref f8) = some (.type "function"))
    (xs_NoLevel_BadNumber : PySem.W.subIn K (.ref C_NoLevel) (.ref C_BadNumber) = some false)
    (xs_NoLevel_BadSize : PySem.W.subIn K (.ref C_NoLevel) (.ref C_BadSize) = some false)
    (xs_NoLevel_BadWord : PySem.W.subIn K (.ref C_NoLevel) (.ref C_BadWord) = some false)
    (xs_NoLevel_NoLevel : PySem.W.subIn K (.ref C_NoLevel) (.ref C_NoLevel) = some true)
    (ok_NoLevel_EveryError : PySem.W.kitOne K (.ref C_NoLevel) (.ref C_EveryError) = some true)
    (z_bool : PySem.W.nsIn K mainGlobals "bool" = some none)
    (z_dict : PySem.W.nsIn K mainGlobals "dict" = some none)
    (z_enumerate : PySem.W.nsIn K mainGlobals "enumerate" = some none)
    (z_int : PySem.W.nsIn K mainGlobals "int" = some none)
    (z_isinstance : PySem.W.nsIn K mainGlobals "isinstance" = some none)
    (z_len : PySem.W.nsIn K mainGlobals "len" = some none)
    (z_list : PySem.W.nsIn K mainGlobals "list" = some none)
    (z_range : PySem.W.nsIn K mainGlobals "range" = some none)
    (z_sorted : PySem.W.nsIn K mainGlobals "sorted" = some none)
    (z_str : PySem.W.nsIn K mainGlobals "str" = some none)
    (z_tuple : PySem.W.nsIn K mainGlobals "tuple" = some none)
    (m_MOST_PLACES : PySem.W.nsIn K mainGlobals "MOST_PLACES" = some (some (.int 1000 t_MOST_PLACES)))
    (m_MOST_MOVES : PySem.W.nsIn K mainGlobals "MOST_MOVES" = some (some (.int 4 t_MOST_MOVES)))
    (m_FIGURES : PySem.W.nsIn K mainGlobals "FIGURES" = some (some (.ref a_FIGURES)))
    (l_FIGURES : K.lookup a_FIGURES = some o_FIGURES)
    (h_FIGURES : tupB o_FIGURES [.str "1", .str "2", .str "3", .str "4", .str "5", .str "6", .str "7", .str "8", .str "9"] = true)
    (m_PLACE_FRONTS : PySem.W.nsIn K mainGlobals "PLACE_FRONTS" = some (some (.ref a_PLACE_FRONTS)))
    (l_PLACE_FRONTS : K.lookup a_PLACE_FRONTS = some o_PLACE_FRONTS)
    (h_PLACE_FRONTS : tupB o_PLACE_FRONTS [.str "", .str "-", .str "half-", .str "half+"] = true)
    (m_AMOUNT_FRONTS : PySem.W.nsIn K mainGlobals "AMOUNT_FRONTS" = some (some (.ref a_AMOUNT_FRONTS)))
    (l_AMOUNT_FRONTS : K.lookup a_AMOUNT_FRONTS = some o_AMOUNT_FRONTS)
    (h_AMOUNT_FRONTS : tupB o_AMOUNT_FRONTS [.str "", .str "-"] = true)
    (m_SHAPES : PySem.W.nsIn K mainGlobals "SHAPES" = some (some (.ref a_SHAPES)))
    (l_SHAPES : K.lookup a_SHAPES = some ⟨.type "dict", none, .dict es_SHAPES n_SHAPES, #[]⟩)
    (y_SHAPES : PySem.W.KeysLit w.params es_SHAPES.toList)
    (h_SHAPES : (a_SHAPES == sysModules) = false)
    (e_SHAPES : PySem.W.nsIn K a_SHAPES "" = some none)
    (h_k_SHAPES : keyB ["exchange", "roll", "turn"] es_SHAPES.toList = true)
    (v_SHAPES_0 : PySem.W.nsIn K a_SHAPES "exchange" = some (some (.ref p_SHAPES_0)))
    (l_SHAPES_0 : K.lookup p_SHAPES_0 = some o_SHAPES_0)
    (h_SHAPES_0 : tupB o_SHAPES_0 [.str "place", .str "place"] = true)
    (v_SHAPES_1 : PySem.W.nsIn K a_SHAPES "roll" = some (some (.ref p_SHAPES_1)))
    (l_SHAPES_1 : K.lookup p_SHAPES_1 = some o_SHAPES_1)
    (h_SHAPES_1 : tupB o_SHAPES_1 [.str "place", .str "place", .str "amount"] = true)
    (v_SHAPES_2 : PySem.W.nsIn K a_SHAPES "turn" = some (some (.ref p_SHAPES_2)))
    (l_SHAPES_2 : K.lookup p_SHAPES_2 = some o_SHAPES_2)
    (h_SHAPES_2 : tupB o_SHAPES_2 [] = true)
    (m_NO_PART : PySem.W.nsIn K mainGlobals "NO_PART" = some (some (.str "" t_NO_PART)))
    (m_LEAST_SINGLE : PySem.W.nsIn K mainGlobals "LEAST_SINGLE" = some (some (.int 2 t_LEAST_SINGLE)))
    (m_MOST_SINGLE : PySem.W.nsIn K mainGlobals "MOST_SINGLE" = some (some (.int 12 t_MOST_SINGLE)))
    (m_MOST_PERIOD : PySem.W.nsIn K mainGlobals "MOST_PERIOD" = some (some (.int 6 t_MOST_PERIOD)))
    (m_ENDING : PySem.W.nsIn K mainGlobals "ENDING" = some (some (.ref a_ENDING)))
    (l_ENDING : K.lookup a_ENDING = some o_ENDING)
    (h_ENDING : tupB o_ENDING [.str "to", .str "the", .str "end"] = true)
    (kr_t75 : PySem.W.codeHdIn K cA75 (tabAddr K cA75) = true)
    (kr_u75 : (K.lookup (tabAddr K cA75)).isNone = true)
    (kr_v75 : ts.contains (tabAddr K cA75) = true)
    (kr_t76 : PySem.W.codeHdIn K cA76 (tabAddr K cA76) = true)
    (kr_u76 : (K.lookup (tabAddr K cA76)).isNone = true)
    (kr_v76 : ts.contains (tabAddr K cA76) = true)
    (kr_d76_75 : (tabAddr K cA76 == tabAddr K cA75) = false)
    : LamX.LawAtS l w K CX0 19 63 "script" mg fa h := by
  have e := hfa.symm.trans (PySem.W.mg_of X G a77)
  cases e
  let a : Ad := ⟨f0, PySem.W.fnOf "_wall" "_wall" (defArgs s__wall) (defBody s__wall) (defScope s__wall) .none kV0 dc0 pm0 an0 cd0 ct0, f1, PySem.W.fnOf "is_integer" "is_integer" (defArgs s_is_integer) (defBody s_is_integer) (defScope s_is_integer) .none kV1 dc1 pm1 an1 cd1 ct1, f2, PySem.W.fnOf "is_from" "is_from" (defArgs s_is_from) (defBody s_is_from) (defScope s_is_from) .none kV2 dc2 pm2 an2 cd2 ct2, f3, PySem.W.fnOf "is_between" "is_between" (defArgs s_is_between) (defBody s_is_between) (defScope s_is_between) .none kV3 dc3 pm3 an3 cd3 ct3, f4, PySem.W.fnOf "__init__" "BadWord.__init__" (defArgs s_BadWord_init) (defBody s_BadWord_init) (defScope s_BadWord_init) .none kV4 dc4 pm4 an4 cd4 ct4, f5, PySem.W.fnOf "__init__" "BadText.__init__" (defArgs s_BadText_init) (defBody s_BadText_init) (defScope s_BadText_init) .none kV5 dc5 pm5 an5 cd5 ct5, f6, PySem.W.fnOf "__init__" "BadSize.__init__" (defArgs s_BadSize_init) (defBody s_BadSize_init) (defScope s_BadSize_init) .none kV6 dc6 pm6 an6 cd6 ct6, f7, PySem.W.fnOf "__init__" "BadNumber.__init__" (defArgs s_BadNumber_init) (defBody s_BadNumber_init) (defScope s_BadNumber_init) .none kV7 dc7 pm7 an7 cd7 ct7, f8, PySem.W.fnOf "__init__" "NoLevel.__init__" (defArgs s_NoLevel_init) (defBody s_NoLevel_init) (defScope s_NoLevel_init) .none kV8 dc8 pm8 an8 cd8 ct8, f9, PySem.W.fnOf "__init__" "Tower.__init__" (defArgs s_Tower_init) (defBody s_Tower_init) (defScope s_Tower_init) (.ref dV9) kV9 dc9 pm9 an9 cd9 ct9, f10, PySem.W.fnOf "grow" "Tower.grow" (defArgs s_Tower_grow) (defBody s_Tower_grow) (defScope s_Tower_grow) .none kV10 dc10 pm10 an10 cd10 ct10, f11, PySem.W.fnOf "add_level" "Tower.add_level" (defArgs s_Tower_add_level) (defBody s_Tower_add_level) (defScope s_Tower_add_level) .none kV11 dc11 pm11 an11 cd11 ct11, f12, PySem.W.fnOf "ahead" "Tower.ahead" (defArgs s_Tower_ahead) (defBody s_Tower_ahead) (defScope s_Tower_ahead) .none kV12 dc12 pm12 an12 cd12 ct12, f13, PySem.W.fnOf "least_not_whole" "Tower.least_not_whole" (defArgs s_Tower_least_not_whole) (defBody s_Tower_least_not_whole) (defScope s_Tower_least_not_whole) .none kV13 dc13 pm13 an13 cd13 ct13, f14, PySem.W.fnOf "is_figure_behind" "is_figure_behind" (defArgs s_is_figure_behind) (defBody s_is_figure_behind) (defScope s_is_figure_behind) .none kV14 dc14 pm14 an14 cd14 ct14, f15, PySem.W.fnOf "is_place_word" "is_place_word" (defArgs s_is_place_word) (defBody s_is_place_word) (defScope s_is_place_word) .none kV15 dc15 pm15 an15 cd15 ct15, f16, PySem.W.fnOf "is_amount" "is_amount" (defArgs s_is_amount) (defBody s_is_amount) (defScope s_is_amount) .none kV16 dc16 pm16 an16 cd16 ct16, f17, PySem.W.fnOf "place_of" "place_of" (defArgs s_place_of) (defBody s_place_of) (defScope s_place_of) .none kV17 dc17 pm17 an17 cd17 ct17, f18, PySem.W.fnOf "amount_of" "amount_of" (defArgs s_amount_of) (defBody s_amount_of) (defScope s_amount_of) .none kV18 dc18 pm18 an18 cd18 ct18, f19, PySem.W.fnOf "is_part" "is_part" (defArgs s_is_part) (defBody s_is_part) (defScope s_is_part) .none kV19 dc19 pm19 an19 cd19 ct19, f20, PySem.W.fnOf "read_move" "read_move" (defArgs s_read_move) (defBody s_read_move) (defScope s_read_move) .none kV20 dc20 pm20 an20 cd20 ct20, f21, PySem.W.fnOf "read_moves" "read_moves" (defArgs s_read_moves) (defBody s_read_moves) (defScope s_read_moves) .none kV21 dc21 pm21 an21 cd21 ct21, f22, PySem.W.fnOf "exchanged" "exchanged" (defArgs s_exchanged) (defBody s_exchanged) (defScope s_exchanged) .none kV22 dc22 pm22 an22 cd22 ct22, f23, PySem.W.fnOf "rolled" "rolled" (defArgs s_rolled) (defBody s_rolled) (defScope s_rolled) .none kV23 dc23 pm23 an23 cd23 ct23, f24, PySem.W.fnOf "moved" "moved" (defArgs s_moved) (defBody s_moved) (defScope s_moved) .none kV24 dc24 pm24 an24 cd24 ct24, f25, PySem.W.fnOf "__init__" "Word.__init__" (defArgs s_Word_init) (defBody s_Word_init) (defScope s_Word_init) .none kV25 dc25 pm25 an25 cd25 ct25, f26, PySem.W.fnOf "__eq__" "Word.__eq__" (defArgs s_Word_eq) (defBody s_Word_eq) (defScope s_Word_eq) .none kV26 dc26 pm26 an26 cd26 ct26, f27, PySem.W.fnOf "at" "Word.at" (defArgs s_Word_at) (defBody s_Word_at) (defScope s_Word_at) .none kV27 dc27 pm27 an27 cd27 ct27, f28, PySem.W.fnOf "read_along" "read_along" (defArgs s_read_along) (defBody s_read_along) (defScope s_read_along) .none kV28 dc28 pm28 an28 cd28 ct28, f29, PySem.W.fnOf "read_list" "read_list" (defArgs s_read_list) (defBody s_read_list) (defScope s_read_list) .none kV29 dc29 pm29 an29 cd29 ct29, f30, PySem.W.fnOf "read_body" "read_body" (defArgs s_read_body) (defBody s_read_body) (defScope s_read_body) .none kV30 dc30 pm30 an30 cd30 ct30, f31, PySem.W.fnOf "read_level" "read_level" (defArgs s_read_level) (defBody s_read_level) (defScope s_read_level) .none kV31 dc31 pm31 an31 cd31 ct31, f32, PySem.W.fnOf "__init__" "Level.__init__" (defArgs s_Level_init) (defBody s_Level_init) (defScope s_Level_init) (.ref dV32) kV32 dc32 pm32 an32 cd32 ct32, f33, PySem.W.fnOf "__eq__" "Level.__eq__" (defArgs s_Level_eq) (defBody s_Level_eq) (defScope s_Level_eq) .none kV33 dc33 pm33 an33 cd33 ct33, f34, PySem.W.fnOf "many_steps" "Level.many_steps" (defArgs s_Level_many_steps) (defBody s_Level_many_steps) (defScope s_Level_many_steps) .none kV34 dc34 pm34 an34 cd34 ct34, f35, PySem.W.fnOf "partner" "Level.partner" (defArgs s_Level_partner) (defBody s_Level_partner) (defScope s_Level_partner) .none kV35 dc35 pm35 an35 cd35 ct35, f36, PySem.W.fnOf "partners" "Level.partners" (defArgs s_Level_partners) (defBody s_Level_partners) (defScope s_Level_partners) .none kV36 dc36 pm36 an36 cd36 ct36, f37, PySem.W.fnOf "step" "Level.step" (defArgs s_Level_step) (defBody s_Level_step) (defScope s_Level_step) .none kV37 dc37 pm37 an37 cd37 ct37, f38, PySem.W.fnOf "read_line" "read_line" (defArgs s_read_line) (defBody s_read_line) (defScope s_read_line) (.ref dV38) kV38 dc38 pm38 an38 cd38 ct38, f39, PySem.W.fnOf "read_period" "read_period" (defArgs s_read_period) (defBody s_read_period) (defScope s_read_period) .none kV39 dc39 pm39 an39 cd39 ct39, f40, PySem.W.fnOf "read_rests" "read_rests" (defArgs s_read_rests) (defBody s_read_rests) (defScope s_read_rests) .none kV40 dc40 pm40 an40 cd40 ct40, f41, PySem.W.fnOf "read_size" "read_size" (defArgs s_read_size) (defBody s_read_size) (defScope s_read_size) .none kV41 dc41 pm41 an41 cd41 ct41, f42, PySem.W.fnOf "read_singles" "read_singles" (defArgs s_read_singles) (defBody s_read_singles) (defScope s_read_singles) .none kV42 dc42 pm42 an42 cd42 ct42, f43, PySem.W.fnOf "text_of_program" "text_of_program" (defArgs s_text_of_program) (defBody s_text_of_program) (defScope s_text_of_program) .none kV43 dc43 pm43 an43 cd43 ct43, f44, PySem.W.fnOf "__init__" "Program.__init__" (defArgs s_Program_init) (defBody s_Program_init) (defScope s_Program_init) .none kV44 dc44 pm44 an44 cd44 ct44, f45, PySem.W.fnOf "__eq__" "Program.__eq__" (defArgs s_Program_eq) (defBody s_Program_eq) (defScope s_Program_eq) .none kV45 dc45 pm45 an45 cd45 ct45, f46, PySem.W.fnOf "level" "Program.level" (defArgs s_Program_level) (defBody s_Program_level) (defScope s_Program_level) .none kV46 dc46 pm46 an46 cd46 ct46, f47, PySem.W.fnOf "step" "Program.step" (defArgs s_Program_step) (defBody s_Program_step) (defScope s_Program_step) .none kV47 dc47 pm47 an47 cd47 ct47, f48, PySem.W.fnOf "with_level" "Program.with_level" (defArgs s_Program_with_level) (defBody s_Program_with_level) (defScope s_Program_with_level) .none kV48 dc48 pm48 an48 cd48 ct48, f49, PySem.W.fnOf "without_level" "Program.without_level" (defArgs s_Program_without_level) (defBody s_Program_without_level) (defScope s_Program_without_level) .none kV49 dc49 pm49 an49 cd49 ct49, f50, PySem.W.fnOf "with_rest" "Program.with_rest" (defArgs s_Program_with_rest) (defBody s_Program_with_rest) (defScope s_Program_with_rest) .none kV50 dc50 pm50 an50 cd50 ct50, f51, PySem.W.fnOf "_law_pen" "_law_pen" (defArgs s__law_pen) (defBody s__law_pen) (defScope s__law_pen) .none kV51 dc51 pm51 an51 cd51 ct51, f52, PySem.W.fnOf "_law_draw" "_law_draw" (defArgs s__law_draw) (defBody s__law_draw) (defScope s__law_draw) .none kV52 dc52 pm52 an52 cd52 ct52, f53, PySem.W.fnOf "_law_pick" "_law_pick" (defArgs s__law_pick) (defBody s__law_pick) (defScope s__law_pick) .none kV53 dc53 pm53 an53 cd53 ct53, f54, PySem.W.fnOf "_law_place_word" "_law_place_word" (defArgs s__law_place_word) (defBody s__law_place_word) (defScope s__law_place_word) .none kV54 dc54 pm54 an54 cd54 ct54, f55, PySem.W.fnOf "_law_amount" "_law_amount" (defArgs s__law_amount) (defBody s__law_amount) (defScope s__law_amount) .none kV55 dc55 pm55 an55 cd55 ct55, f56, PySem.W.fnOf "_law_move" "_law_move" (defArgs s__law_move) (defBody s__law_move) (defScope s__law_move) .none kV56 dc56 pm56 an56 cd56 ct56, f57, PySem.W.fnOf "_law_moves" "_law_moves" (defArgs s__law_moves) (defBody s__law_moves) (defScope s__law_moves) .none kV57 dc57 pm57 an57 cd57 ct57, f58, PySem.W.fnOf "_law_word_text" "_law_word_text" (defArgs s__law_word_text) (defBody s__law_word_text) (defScope s__law_word_text) .none kV58 dc58 pm58 an58 cd58 ct58, f59, PySem.W.fnOf "_law_level" "_law_level" (defArgs s__law_level) (defBody s__law_level) (defScope s__law_level) .none kV59 dc59 pm59 an59 cd59 ct59, f60, PySem.W.fnOf "_law_level_text" "_law_level_text" (defArgs s__law_level_text) (defBody s__law_level_text) (defScope s__law_level_text) .none kV60 dc60 pm60 an60 cd60 ct60, f61, PySem.W.fnOf "_law_program" "_law_program" (defArgs s__law_program) (defBody s__law_program) (defScope s__law_program) .none kV61 dc61 pm61 an61 cd61 ct61, f62, PySem.W.fnOf "_law_program_lines" "_law_program_lines" (defArgs s__law_program_lines) (defBody s__law_program_lines) (defScope s__law_program_lines) .none kV62 dc62 pm62 an62 cd62 ct62, f63, PySem.W.fnOf "_law_level_at" "_law_level_at" (defArgs s__law_level_at) (defBody s__law_level_at) (defScope s__law_level_at) .none kV63 dc63 pm63 an63 cd63 ct63, f64, PySem.W.fnOf "_law_numbers" "_law_numbers" (defArgs s__law_numbers) (defBody s__law_numbers) (defScope s__law_numbers) .none kV64 dc64 pm64 an64 cd64 ct64, f65, PySem.W.fnOf "_law_places" "_law_places" (defArgs s__law_places) (defBody s__law_places) (defScope s__law_places) .none kV65 dc65 pm65 an65 cd65 ct65, f66, PySem.W.fnOf "_law_move_end" "_law_move_end" (defArgs s__law_move_end) (defBody s__law_move_end) (defScope s__law_move_end) .none kV66 dc66 pm66 an66 cd66 ct66, f67, PySem.W.fnOf "_law_moves_end" "_law_moves_end" (defArgs s__law_moves_end) (defBody s__law_moves_end) (defScope s__law_moves_end) .none kV67 dc67 pm67 an67 cd67 ct67, f68, PySem.W.fnOf "_law_ending_wrong" "_law_ending_wrong" (defArgs s__law_ending_wrong) (defBody s__law_ending_wrong) (defScope s__law_ending_wrong) .none kV68 dc68 pm68 an68 cd68 ct68, f69, PySem.W.fnOf "_law_list_wrong" "_law_list_wrong" (defArgs s__law_list_wrong) (defBody s__law_list_wrong) (defScope s__law_list_wrong) .none kV69 dc69 pm69 an69 cd69 ct69, f70, PySem.W.fnOf "_law_level_wrong" "_law_level_wrong" (defArgs s__law_level_wrong) (defBody s__law_level_wrong) (defScope s__law_level_wrong) .none kV70 dc70 pm70 an70 cd70 ct70, f71, PySem.W.fnOf "_law_spoiled" "_law_spoiled" (defArgs s__law_spoiled) (defBody s__law_spoiled) (defScope s__law_spoiled) .none kV71 dc71 pm71 an71 cd71 ct71, f72, PySem.W.fnOf "_law_met" "_law_met" (defArgs s__law_met) (defBody s__law_met) (defScope s__law_met) .none kV72 dc72 pm72 an72 cd72 ct72, f73, PySem.W.fnOf "_law_text" "_law_text" (defArgs s__law_text) (defBody s__law_text) (defScope s__law_text) .none kV73 dc73 pm73 an73 cd73 ct73, f74, PySem.W.fnOf "_law_with" "_law_with" (defArgs s__law_with) (defBody s__law_with) (defScope s__law_with) .none kV74 dc74 pm74 an74 cd74 ct74, f75, PySem.W.fnOf "_law_change" "_law_change" (defArgs s__law_change) (defBody s__law_change) (defScope s__law_change) .none kV75 dc75 pm75 an75 (.ref cA75) ct75, f76, PySem.W.fnOf "_law_odd_right" "_law_odd_right" (defArgs s__law_odd_right) (defBody s__law_odd_right) (defScope s__law_odd_right) .none kV76 dc76 pm76 an76 (.ref cA76) ct76, fa, PySem.W.fnOf "law" "law" (defArgs s_law) (defBody s_law) (defScope s_law) .none kV77 dc77 pm77 an77 cd77 ct77, C_EveryError, C_BadWord, C_BadText, C_BadSize, C_BadNumber, C_NoLevel, C_Tower, C_Word, C_Level, C_Program, a_FIGURES, a_PLACE_FRONTS, a_AMOUNT_FRONTS, a_SHAPES, a_ENDING, cA75, tabAddr K cA75, cA76, tabAddr K cA76⟩
  have F0 : Fun K "_wall" "_wall" s__wall a.f__wall a.d__wall := fun_mk (st := s__wall) l0 e0 k0
  have F1 : Fun K "is_integer" "is_integer" s_is_integer a.f_is_integer a.d_is_integer := fun_mk (st := s_is_integer) l1 e1 k1
  have F2 : Fun K "is_from" "is_from" s_is_from a.f_is_from a.d_is_from := fun_mk (st := s_is_from) l2 e2 k2
  have F3 : Fun K "is_between" "is_between" s_is_between a.f_is_between a.d_is_between := fun_mk (st := s_is_between) l3 e3 k3
  have F4 : Fun K "__init__" "BadWord.__init__" s_BadWord_init a.f_BadWord_init a.d_BadWord_init := fun_mk (st := s_BadWord_init) l4 e4 k4
  have F5 : Fun K "__init__" "BadText.__init__" s_BadText_init a.f_BadText_init a.d_BadText_init := fun_mk (st := s_BadText_init) l5 e5 k5
  have F6 : Fun K "__init__" "BadSize.__init__" s_BadSize_init a.f_BadSize_init a.d_BadSize_init := fun_mk (st := s_BadSize_init) l6 e6 k6
  have F7 : Fun K "__init__" "BadNumber.__init__" s_BadNumber_init a.f_BadNumber_init a.d_BadNumber_init := fun_mk (st := s_BadNumber_init) l7 e7 k7
  have F8 : Fun K "__init__" "NoLevel.__init__" s_NoLevel_init a.f_NoLevel_init a.d_NoLevel_init := fun_mk (st := s_NoLevel_init) l8 e8 k8
  have F9 : FunD K "__init__" "Tower.__init__" (defArgs s_Tower_init) (defBody s_Tower_init) (defScope s_Tower_init) [V.int 1] [] a.f_Tower_init a.d_Tower_init := ⟨⟨_, _, _, _, _, _, _, _, _, _, rfl, l9, e9, dfB_ok w9 h_w9, .inl rfl⟩, k9⟩
  have F10 : Fun K "grow" "Tower.grow" s_Tower_grow a.f_Tower_grow a.d_Tower_grow := fun_mk (st := s_Tower_grow) l10 e10 k10
  have F11 : Fun K "add_level" "Tower.add_level" s_Tower_add_level a.f_Tower_add_level a.d_Tower_add_level := fun_mk (st := s_Tower_add_level) l11 e11 k11
  have F12 : Fun K "ahead" "Tower.ahead" s_Tower_ahead a.f_Tower_ahead a.d_Tower_ahead := fun_mk (st := s_Tower_ahead) l12 e12 k12
  have F13 : Fun K "least_not_whole" "Tower.least_not_whole" s_Tower_least_not_whole a.f_Tower_least_not_whole a.d_Tower_least_not_whole := fun_mk (st := s_Tower_least_not_whole) l13 e13 k13
  have F14 : Fun K "is_figure_behind" "is_figure_behind" s_is_figure_behind a.f_is_figure_behind a.d_is_figure_behind := fun_mk (st := s_is_figure_behind) l14 e14 k14
  have F15 : Fun K "is_place_word" "is_place_word" s_is_place_word a.f_is_place_word a.d_is_place_word := fun_mk (st := s_is_place_word) l15 e15 k15
  have F16 : Fun K "is_amount" "is_amount" s_is_amount a.f_is_amount a.d_is_amount := fun_mk (st := s_is_amount) l16 e16 k16
  have F17 : Fun K "place_of" "place_of" s_place_of a.f_place_of a.d_place_of := fun_mk (st := s_place_of) l17 e17 k17
  have F18 : Fun K "amount_of" "amount_of" s_amount_of a.f_amount_of a.d_amount_of := fun_mk (st := s_amount_of) l18 e18 k18
  have F19 : Fun K "is_part" "is_part" s_is_part a.f_is_part a.d_is_part := fun_mk (st := s_is_part) l19 e19 k19
  have F20 : Fun K "read_move" "read_move" s_read_move a.f_read_move a.d_read_move := fun_mk (st := s_read_move) l20 e20 k20
  have F21 : Fun K "read_moves" "read_moves" s_read_moves a.f_read_moves a.d_read_moves := fun_mk (st := s_read_moves) l21 e21 k21
  have F22 : Fun K "exchanged" "exchanged" s_exchanged a.f_exchanged a.d_exchanged := fun_mk (st := s_exchanged) l22 e22 k22
  have F23 : Fun K "rolled" "rolled" s_rolled a.f_rolled a.d_rolled := fun_mk (st := s_rolled) l23 e23 k23
  have F24 : Fun K "moved" "moved" s_moved a.f_moved a.d_moved := fun_mk (st := s_moved) l24 e24 k24
  have F25 : Fun K "__init__" "Word.__init__" s_Word_init a.f_Word_init a.d_Word_init := fun_mk (st := s_Word_init) l25 e25 k25
  have F26 : Fun K "__eq__" "Word.__eq__" s_Word_eq a.f_Word_eq a.d_Word_eq := fun_mk (st := s_Word_eq) l26 e26 k26
  have F27 : Fun K "at" "Word.at" s_Word_at a.f_Word_at a.d_Word_at := fun_mk (st := s_Word_at) l27 e27 k27
  have F28 : Fun K "read_along" "read_along" s_read_along a.f_read_along a.d_read_along := fun_mk (st := s_read_along) l28 e28 k28
  have F29 : Fun K "read_list" "read_list" s_read_list a.f_read_list a.d_read_list := fun_mk (st := s_read_list) l29 e29 k29
  have F30 : Fun K "read_body" "read_body" s_read_body a.f_read_body a.d_read_body := fun_mk (st := s_read_body) l30 e30 k30
  have F31 : Fun K "read_level" "read_level" s_read_level a.f_read_level a.d_read_level := fun_mk (st := s_read_level) l31 e31 k31
  have F32 : FunD K "__init__" "Level.__init__" (defArgs s_Level_init) (defBody s_Level_init) (defScope s_Level_init) [V.non] [] a.f_Level_init a.d_Level_init := ⟨⟨_, _, _, _, _, _, _, _, _, _, rfl, l32, e32, dfB_ok w32 h_w32, .inl rfl⟩, k32⟩
  have F33 : Fun K "__eq__" "Level.__eq__" s_Level_eq a.f_Level_eq a.d_Level_eq := fun_mk (st := s_Level_eq) l33 e33 k33
  have F34 : Fun K "many_steps" "Level.many_steps" s_Level_many_steps a.f_Level_many_steps a.d_Level_many_steps := fun_mk (st := s_Level_many_steps) l34 e34 k34
  have F35 : Fun K "partner" "Level.partner" s_Level_partner a.f_Level_partner a.d_Level_partner := fun_mk (st := s_Level_partner) l35 e35 k35
  have F36 : Fun K "partners" "Level.partners" s_Level_partners a.f_Level_partners a.d_Level_partners := fun_mk (st := s_Level_partners) l36 e36 k36
  have F37 : Fun K "step" "Level.step" s_Level_step a.f_Level_step a.d_Level_step := fun_mk (st := s_Level_step) l37 e37 k37
  have F38 : FunD K "read_line" "read_line" (defArgs s_read_line) (defBody s_read_line) (defScope s_read_line) [V.non] [] a.f_read_line a.d_read_line := ⟨⟨_, _, _, _, _, _, _, _, _, _, rfl, l38, e38, dfB_ok w38 h_w38, .inl rfl⟩, k38⟩
  have F39 : Fun K "read_period" "read_period" s_read_period a.f_read_period a.d_read_period := fun_mk (st := s_read_period) l39 e39 k39
  have F40 : Fun K "read_rests" "read_rests" s_read_rests a.f_read_rests a.d_read_rests := fun_mk (st := s_read_rests) l40 e40 k40
  have F41 : Fun K "read_size" "read_size" s_read_size a.f_read_size a.d_read_size := fun_mk (st := s_read_size) l41 e41 k41
  have F42 : Fun K "read_singles" "read_singles" s_read_singles a.f_read_singles a.d_read_singles := fun_mk (st := s_read_singles) l42 e42 k42
  have F43 : Fun K "text_of_program" "text_of_program" s_text_of_program a.f_text_of_program a.d_text_of_program := fun_mk (st := s_text_of_program) l43 e43 k43
  have F44 : Fun K "__init__" "Program.__init__" s_Program_init a.f_Program_init a.d_Program_init := fun_mk (st := s_Program_init) l44 e44 k44
  have F45 : Fun K "__eq__" "Program.__eq__" s_Program_eq a.f_Program_eq a.d_Program_eq := fun_mk (st := s_Program_eq) l45 e45 k45
  have F46 : Fun K "level" "Program.level" s_Program_level a.f_Program_level a.d_Program_level := fun_mk (st := s_Program_level) l46 e46 k46
  have F47 : Fun K "step" "Program.step" s_Program_step a.f_Program_step a.d_Program_step := fun_mk (st := s_Program_step) l47 e47 k47
  have F48 : Fun K "with_level" "Program.with_level" s_Program_with_level a.f_Program_with_level a.d_Program_with_level := fun_mk (st := s_Program_with_level) l48 e48 k48
  have F49 : Fun K "without_level" "Program.without_level" s_Program_without_level a.f_Program_without_level a.d_Program_without_level := fun_mk (st := s_Program_without_level) l49 e49 k49
  have F50 : Fun K "with_rest" "Program.with_rest" s_Program_with_rest a.f_Program_with_rest a.d_Program_with_rest := fun_mk (st := s_Program_with_rest) l50 e50 k50
  have F51 : Fun K "_law_pen" "_law_pen" s__law_pen a.f__law_pen a.d__law_pen := fun_mk (st := s__law_pen) l51 e51 k51
  have F52 : Fun K "_law_draw" "_law_draw" s__law_draw a.f__law_draw a.d__law_draw := fun_mk (st := s__law_draw) l52 e52 k52
  have F53 : Fun K "_law_pick" "_law_pick" s__law_pick a.f__law_pick a.d__law_pick := fun_mk (st := s__law_pick) l53 e53 k53
  have F54 : Fun K "_law_place_word" "_law_place_word" s__law_place_word a.f__law_place_word a.d__law_place_word := fun_mk (st := s__law_place_word) l54 e54 k54
  have F55 : Fun K "_law_amount" "_law_amount" s__law_amount a.f__law_amount a.d__law_amount := fun_mk (st := s__law_amount) l55 e55 k55
  have F56 : Fun K "_law_move" "_law_move" s__law_move a.f__law_move a.d__law_move := fun_mk (st := s__law_move) l56 e56 k56
  have F57 : Fun K "_law_moves" "_law_moves" s__law_moves a.f__law_moves a.d__law_moves := fun_mk (st := s__law_moves) l57 e57 k57
  have F58 : Fun K "_law_word_text" "_law_word_text" s__law_word_text a.f__law_word_text a.d__law_word_text := fun_mk (st := s__law_word_text) l58 e58 k58
  have F59 : Fun K "_law_level" "_law_level" s__law_level a.f__law_level a.d__law_level := fun_mk (st := s__law_level) l59 e59 k59
  have F60 : Fun K "_law_level_text" "_law_level_text" s__law_level_text a.f__law_level_text a.d__law_level_text := fun_mk (st := s__law_level_text) l60 e60 k60
  have F61 : Fun K "_law_program" "_law_program" s__law_program a.f__law_program a.d__law_program := fun_mk (st := s__law_program) l61 e61 k61
  have F62 : Fun K "_law_program_lines" "_law_program_lines" s__law_program_lines a.f__law_program_lines a.d__law_program_lines := fun_mk (st := s__law_program_lines) l62 e62 k62
  have F63 : Fun K "_law_level_at" "_law_level_at" s__law_level_at a.f__law_level_at a.d__law_level_at := fun_mk (st := s__law_level_at) l63 e63 k63
  have F64 : Fun K "_law_numbers" "_law_numbers" s__law_numbers a.f__law_numbers a.d__law_numbers := fun_mk (st := s__law_numbers) l64 e64 k64
  have F65 : Fun K "_law_places" "_law_places" s__law_places a.f__law_places a.d__law_places := fun_mk (st := s__law_places) l65 e65 k65
  have F66 : Fun K "_law_move_end" "_law_move_end" s__law_move_end a.f__law_move_end a.d__law_move_end := fun_mk (st := s__law_move_end) l66 e66 k66
  have F67 : Fun K "_law_moves_end" "_law_moves_end" s__law_moves_end a.f__law_moves_end a.d__law_moves_end := fun_mk (st := s__law_moves_end) l67 e67 k67
  have F68 : Fun K "_law_ending_wrong" "_law_ending_wrong" s__law_ending_wrong a.f__law_ending_wrong a.d__law_ending_wrong := fun_mk (st := s__law_ending_wrong) l68 e68 k68
  have F69 : Fun K "_law_list_wrong" "_law_list_wrong" s__law_list_wrong a.f__law_list_wrong a.d__law_list_wrong := fun_mk (st := s__law_list_wrong) l69 e69 k69
  have F70 : Fun K "_law_level_wrong" "_law_level_wrong" s__law_level_wrong a.f__law_level_wrong a.d__law_level_wrong := fun_mk (st := s__law_level_wrong) l70 e70 k70
  have F71 : Fun K "_law_spoiled" "_law_spoiled" s__law_spoiled a.f__law_spoiled a.d__law_spoiled := fun_mk (st := s__law_spoiled) l71 e71 k71
  have F72 : Fun K "_law_met" "_law_met" s__law_met a.f__law_met a.d__law_met := fun_mk (st := s__law_met) l72 e72 k72
  have F73 : Fun K "_law_text" "_law_text" s__law_text a.f__law_text a.d__law_text := fun_mk (st := s__law_text) l73 e73 k73
  have F74 : Fun K "_law_with" "_law_with" s__law_with a.f__law_with a.d__law_with := fun_mk (st := s__law_with) l74 e74 k74
  have F75 : Fun K "_law_change" "_law_change" s__law_change a.f__law_change a.d__law_change := fun_mk (st := s__law_change) l75 e75 k75
  have F76 : Fun K "_law_odd_right" "_law_odd_right" s__law_odd_right a.f__law_odd_right a.d__law_odd_right := fun_mk (st := s__law_odd_right) l76 e76 k76
  have F77 : Fun K "law" "law" s_law a.f_law a.d_law := fun_mk (st := s_law) l77 e77 k77
  have T : Tx w K mg a := ⟨(F0),
    (F0.binds (ps := ["k"]) fun _ _ _ _ _ _ us hl => match us, hl with | [_], _ => rfl),
    (PySem.W.mg_of X G a0),
    (F1),
    (F1.binds (ps := ["value"]) fun _ _ _ _ _ _ us hl => match us, hl with | [_], _ => rfl),
    (PySem.W.mg_of X G a1),
    (F2),
    (F2.binds (ps := ["value", "low"]) fun _ _ _ _ _ _ us hl => match us, hl with | [_, _], _ => rfl),
    (PySem.W.mg_of X G a2),
    (F3),
    (F3.binds (ps := ["value", "low", "high"]) fun _ _ _ _ _ _ us hl => match us, hl with | [_, _, _], _ => rfl),
    (PySem.W.mg_of X G a3),
    (F4),
    (F4.binds (ps := ["self", "index"]) fun _ _ _ _ _ _ us hl => match us, hl with | [_, _], _ => rfl),
    (F5),
    (F5.binds (ps := ["self", "line"]) fun _ _ _ _ _ _ us hl => match us, hl with | [_, _], _ => rfl),
    (F6),
    (F6.binds (ps := ["self", "size"]) fun _ _ _ _ _ _ us hl => match us, hl with | [_, _], _ => rfl),
    (F7),
    (F7.binds (ps := ["self", "number"]) fun _ _ _ _ _ _ us hl => match us, hl with | [_, _], _ => rfl),
    (F8),
    (F8.binds (ps := ["self", "size"]) fun _ _ _ _ _ _ us hl => match us, hl with | [_, _], _ => rfl),
    (F9),
    (binds_full (F9.binds1 (ps := ["self", "stop"]) 2 1 (by simp) (by rfl) fun _ _ _ _ _ _ _ us its hu hi => match us, its, hu, hi with | [_, _], [_], _, _ => ⟨_, rfl, rfl⟩)),
    (F9.binds1 (ps := ["self", "stop"]) 1 0 (by simp) (by rfl) fun _ _ _ _ _ _ _ us its hu hi => match us, its, hu, hi with | [_], [_], _, _ => ⟨_, rfl, rfl⟩),
    (F10),
    (F10.binds (ps := ["self", "program", "size"]) fun _ _ _ _ _ _ us hl => match us, hl with | [_, _, _], _ => rfl),
    (F11),
    (F11.binds (ps := ["self", "program"]) fun _ _ _ _ _ _ us hl => match us, hl with | [_, _], _ => rfl),
    (F12),
    (F12.binds (ps := ["self", "k", "call"]) fun _ _ _ _ _ _ us hl => match us, hl with | [_, _, _], _ => rfl),
    (F13),
    (F13.binds (ps := ["self", "program", "high"]) fun _ _ _ _ _ _ us hl => match us, hl with | [_, _, _], _ => rfl),
    (F14),
    (F14.binds (ps := ["fronts", "text"]) fun _ _ _ _ _ _ us hl => match us, hl with | [_, _], _ => rfl),
    (PySem.W.mg_of X G a14),
    (F15),
    (F15.binds (ps := ["text"]) fun _ _ _ _ _ _ us hl => match us, hl with | [_], _ => rfl),
    (PySem.W.mg_of X G a15),
    (F16),
    (F16.binds (ps := ["text"]) fun _ _ _ _ _ _ us hl => match us, hl with | [_], _ => rfl),
    (PySem.W.mg_of X G a16),
    (F17),
    (F17.binds (ps := ["word", "size"]) fun _ _ _ _ _ _ us hl => match us, hl with | [_, _], _ => rfl),
    (PySem.W.mg_of X G a17),
    (F18),
    (F18.binds (ps := ["text", "length"]) fun _ _ _ _ _ _ us hl => match us, hl with | [_, _], _ => rfl),
    (PySem.W.mg_of X G a18),
    (F19),
    (F19.binds (ps := ["text", "kind"]) fun _ _ _ _ _ _ us hl => match us, hl with | [_, _], _ => rfl),
    (PySem.W.mg_of X G a19),
    (F20),
    (F20.binds (ps := ["parts", "start", "may_turn"]) fun _ _ _ _ _ _ us hl => match us, hl with | [_, _, _], _ => rfl),
    (PySem.W.mg_of X G a20),
    (F21),
    (F21.binds (ps := ["parts", "start"]) fun _ _ _ _ _ _ us hl => match us, hl with | [_, _], _ => rfl),
    (PySem.W.mg_of X G a21),
    (F22),
    (F22.binds (ps := ["old", "x", "y"]) fun _ _ _ _ _ _ us hl => match us, hl with | [_, _, _], _ => rfl),
    (PySem.W.mg_of X G a22),
    (F23),
    (F23.binds (ps := ["old", "x", "y", "amount"]) fun _ _ _ _ _ _ us hl => match us, hl with | [_, _, _, _], _ => rfl),
    (PySem.W.mg_of X G a23),
    (F24),
    (F24.binds (ps := ["old", "move"]) fun _ _ _ _ _ _ us hl => match us, hl with | [_, _], _ => rfl),
    (PySem.W.mg_of X G a24),
    (F25),
    (F25.binds (ps := ["self", "text"]) fun _ _ _ _ _ _ us hl => match us, hl with | [_, _], _ => rfl),
    (F26),
    (F26.binds (ps := ["self", "other"]) fun _ _ _ _ _ _ us hl => match us, hl with | [_, _], _ => rfl),
    (F27),
    (F27.binds (ps := ["self", "k"]) fun _ _ _ _ _ _ us hl => match us, hl with | [_, _], _ => rfl),
    (F28),
    (F28.binds (ps := ["parts"]) fun _ _ _ _ _ _ us hl => match us, hl with | [_], _ => rfl),
    (PySem.W.mg_of X G a28),
    (F29),
    (F29.binds (ps := ["parts", "size"]) fun _ _ _ _ _ _ us hl => match us, hl with | [_, _], _ => rfl),
    (PySem.W.mg_of X G a29),
    (F30),
    (F30.binds (ps := ["parts", "size"]) fun _ _ _ _ _ _ us hl => match us, hl with | [_, _], _ => rfl),
    (PySem.W.mg_of X G a30),
    (F31),
    (F31.binds (ps := ["parts", "size"]) fun _ _ _ _ _ _ us hl => match us, hl with | [_, _], _ => rfl),
    (PySem.W.mg_of X G a31),
    (F32),
    (binds_full (F32.binds1 (ps := ["self", "text", "size"]) 3 1 (by simp) (by rfl) fun _ _ _ _ _ _ _ us its hu hi => match us, its, hu, hi with | [_, _, _], [_], _, _ => ⟨_, rfl, rfl⟩)),
    (F32.binds1 (ps := ["self", "text", "size"]) 2 0 (by simp) (by rfl) fun _ _ _ _ _ _ _ us its hu hi => match us, its, hu, hi with | [_, _], [_], _, _ => ⟨_, rfl, rfl⟩),
    (F33),
    (F33.binds (ps := ["self", "other"]) fun _ _ _ _ _ _ us hl => match us, hl with | [_, _], _ => rfl),
    (F34),
    (F34.binds (ps := ["self", "k"]) fun _ _ _ _ _ _ us hl => match us, hl with | [_, _], _ => rfl),
    (F35),
    (F35.binds (ps := ["self", "k", "i"]) fun _ _ _ _ _ _ us hl => match us, hl with | [_, _, _], _ => rfl),
    (F36),
    (F36.binds (ps := ["self", "k", "many"]) fun _ _ _ _ _ _ us hl => match us, hl with | [_, _, _], _ => rfl),
    (F37),
    (F37.binds (ps := ["self", "k", "i"]) fun _ _ _ _ _ _ us hl => match us, hl with | [_, _, _], _ => rfl),
    (F38),
    (binds_full (F38.binds1 (ps := ["line", "number", "head", "size"]) 4 1 (by simp) (by rfl) fun _ _ _ _ _ _ _ us its hu hi => match us, its, hu, hi with | [_, _, _, _], [_], _, _ => ⟨_, rfl, rfl⟩)),
    (F38.binds1 (ps := ["line", "number", "head", "size"]) 3 0 (by simp) (by rfl) fun _ _ _ _ _ _ _ us its hu hi => match us, its, hu, hi with | [_, _, _], [_], _, _ => ⟨_, rfl, rfl⟩),
    (PySem.W.mg_of X G a38),
    (F39),
    (F39.binds (ps := ["line"]) fun _ _ _ _ _ _ us hl => match us, hl with | [_], _ => rfl),
    (PySem.W.mg_of X G a39),
    (F40),
    (F40.binds (ps := ["lines", "period"]) fun _ _ _ _ _ _ us hl => match us, hl with | [_, _], _ => rfl),
    (PySem.W.mg_of X G a40),
    (F41),
    (F41.binds (ps := ["line", "number", "low"]) fun _ _ _ _ _ _ us hl => match us, hl with | [_, _, _], _ => rfl),
    (PySem.W.mg_of X G a41),
    (F42),
    (F42.binds (ps := ["lines", "first"]) fun _ _ _ _ _ _ us hl => match us, hl with | [_, _], _ => rfl),
    (PySem.W.mg_of X G a42),
    (F43),
    (F43.binds (ps := ["rests", "singles"]) fun _ _ _ _ _ _ us hl => match us, hl with | [_, _], _ => rfl),
    (PySem.W.mg_of X G a43),
    (F44),
    (F44.binds (ps := ["self", "text"]) fun _ _ _ _ _ _ us hl => match us, hl with | [_, _], _ => rfl),
    (F45),
    (F45.binds (ps := ["self", "other"]) fun _ _ _ _ _ _ us hl => match us, hl with | [_, _], _ => rfl),
    (F46),
    (F46.binds (ps := ["self", "k"]) fun _ _ _ _ _ _ us hl => match us, hl with | [_, _], _ => rfl),
    (F47),
    (F47.binds (ps := ["self", "k", "i"]) fun _ _ _ _ _ _ us hl => match us, hl with | [_, _, _], _ => rfl),
    (F48),
    (F48.binds (ps := ["self", "k", "text"]) fun _ _ _ _ _ _ us hl => match us, hl with | [_, _, _], _ => rfl),
    (F49),
    (F49.binds (ps := ["self", "k"]) fun _ _ _ _ _ _ us hl => match us, hl with | [_, _], _ => rfl),
    (F50),
    (F50.binds (ps := ["self", "r", "text"]) fun _ _ _ _ _ _ us hl => match us, hl with | [_, _, _], _ => rfl),
    (F51),
    (F51.binds (ps := ["script"]) fun _ _ _ _ _ _ us hl => match us, hl with | [_], _ => rfl),
    (PySem.W.mg_of X G a51),
    (F52),
    (F52.binds (ps := ["pen", "many"]) fun _ _ _ _ _ _ us hl => match us, hl with | [_, _], _ => rfl),
    (PySem.W.mg_of X G a52),
    (F53),
    (F53.binds (ps := ["pen", "some"]) fun _ _ _ _ _ _ us hl => match us, hl with | [_, _], _ => rfl),
    (PySem.W.mg_of X G a53),
    (F54),
    (F54.binds (ps := ["pen"]) fun _ _ _ _ _ _ us hl => match us, hl with | [_], _ => rfl),
    (PySem.W.mg_of X G a54),
    (F55),
    (F55.binds (ps := ["pen"]) fun _ _ _ _ _ _ us hl => match us, hl with | [_], _ => rfl),
    (PySem.W.mg_of X G a55),
    (F56),
    (F56.binds (ps := ["pen", "has_turn"]) fun _ _ _ _ _ _ us hl => match us, hl with | [_, _], _ => rfl),
    (PySem.W.mg_of X G a56),
    (F57),
    (F57.binds (ps := ["pen"]) fun _ _ _ _ _ _ us hl => match us, hl with | [_], _ => rfl),
    (PySem.W.mg_of X G a57),
    (F58),
    (F58.binds (ps := ["moves"]) fun _ _ _ _ _ _ us hl => match us, hl with | [_], _ => rfl),
    (PySem.W.mg_of X G a58),
    (F59),
    (F59.binds (ps := ["pen", "size"]) fun _ _ _ _ _ _ us hl => match us, hl with | [_, _], _ => rfl),
    (PySem.W.mg_of X G a59),
    (F60),
    (F60.binds (ps := ["level"]) fun _ _ _ _ _ _ us hl => match us, hl with | [_], _ => rfl),
    (PySem.W.mg_of X G a60),
    (F61),
    (F61.binds (ps := ["pen"]) fun _ _ _ _ _ _ us hl => match us, hl with | [_], _ => rfl),
    (PySem.W.mg_of X G a61),
    (F62),
    (F62.binds (ps := ["program"]) fun _ _ _ _ _ _ us hl => match us, hl with | [_], _ => rfl),
    (PySem.W.mg_of X G a62),
    (F63),
    (F63.binds (ps := ["program", "k"]) fun _ _ _ _ _ _ us hl => match us, hl with | [_, _], _ => rfl),
    (PySem.W.mg_of X G a63),
    (F64),
    (F64.binds (ps := []) fun _ _ _ _ _ _ us hl => match us, hl with | [], _ => rfl),
    (PySem.W.mg_of X G a64),
    (F65),
    (F65.binds (ps := []) fun _ _ _ _ _ _ us hl => match us, hl with | [], _ => rfl),
    (PySem.W.mg_of X G a65),
    (F66),
    (F66.binds (ps := ["parts", "at", "turned"]) fun _ _ _ _ _ _ us hl => match us, hl with | [_, _, _], _ => rfl),
    (PySem.W.mg_of X G a66),
    (F67),
    (F67.binds (ps := ["parts", "at"]) fun _ _ _ _ _ _ us hl => match us, hl with | [_, _], _ => rfl),
    (PySem.W.mg_of X G a67),
    (F68),
    (F68.binds (ps := ["parts", "at"]) fun _ _ _ _ _ _ us hl => match us, hl with | [_, _], _ => rfl),
    (PySem.W.mg_of X G a68),
    (F69),
    (F69.binds (ps := ["parts", "size"]) fun _ _ _ _ _ _ us hl => match us, hl with | [_, _], _ => rfl),
    (PySem.W.mg_of X G a69),
    (F70),
    (F70.binds (ps := ["parts", "size"]) fun _ _ _ _ _ _ us hl => match us, hl with | [_, _], _ => rfl),
    (PySem.W.mg_of X G a70),
    (F71),
    (F71.binds (ps := ["pen", "parts"]) fun _ _ _ _ _ _ us hl => match us, hl with | [_, _], _ => rfl),
    (PySem.W.mg_of X G a71),
    (F72),
    (F72.binds (ps := ["call"]) fun _ _ _ _ _ _ us hl => match us, hl with | [_], _ => rfl),
    (PySem.W.mg_of X G a72),
    (F73),
    (F73.binds (ps := ["program"]) fun _ _ _ _ _ _ us hl => match us, hl with | [_], _ => rfl),
    (PySem.W.mg_of X G a73),
    (F74),
    (F74.binds (ps := ["program", "size", "level"]) fun _ _ _ _ _ _ us hl => match us, hl with | [_, _, _], _ => rfl),
    (PySem.W.mg_of X G a74),
    (F75),
    (⟨_, _, _, _, _, _, _, _, rfl, l75, e75⟩),
    (F75.binds (ps := ["pen", "program", "made"]) fun _ _ _ _ _ _ us hl => match us, hl with | [_, _, _], _ => rfl),
    (PySem.W.mg_of X G a75),
    (F76),
    (⟨_, _, _, _, _, _, _, _, rfl, l76, e76⟩),
    (F76.binds (ps := ["pen", "made", "many"]) fun _ _ _ _ _ _ us hl => match us, hl with | [_, _, _], _ => rfl),
    (PySem.W.mg_of X G a76),
    (F77),
    (F77.binds (ps := ["script"]) fun _ _ _ _ _ _ us hl => match us, hl with | [_], _ => rfl),
    (PySem.W.mg_of X G a77),
    (PySem.W.mg_of X G c_EveryError),
    (PySem.W.mg_of X G c_BadWord),
    (PySem.W.mg_of X G c_BadText),
    (PySem.W.mg_of X G c_BadSize),
    (PySem.W.mg_of X G c_BadNumber),
    (PySem.W.mg_of X G c_NoLevel),
    (PySem.W.mg_of X G c_Tower),
    (PySem.W.mg_of X G c_Word),
    (PySem.W.mg_of X G c_Level),
    (PySem.W.mg_of X G c_Program),
    (⟨pg_Tower, hd_Tower, po_Tower, sa_Tower⟩),
    (⟨mk_Tower, a9, i_Tower_init, kc_Tower⟩),
    (n_Tower_stages),
    (n_Tower_doings),
    (n_Tower_lasts),
    (n_Tower_wrong),
    (⟨a10, i_Tower_grow, k10⟩),
    (⟨a11, i_Tower_add_level, k11⟩),
    (⟨a12, i_Tower_ahead, k12⟩),
    (⟨a13, i_Tower_least_not_whole, k13⟩),
    (⟨pg_Word, hd_Word, po_Word, sa_Word⟩),
    (⟨mk_Word, a25, i_Word_init, kc_Word⟩),
    (n_Word_text),
    (n_Word_moves),
    (n_Word_has_turn),
    (⟨a27, i_Word_at, k27⟩),
    (⟨a26, i_Word_eq, og_Word, on_Word, ot_Word, om_Word, of_Word, ok_Word⟩),
    (⟨pg_Level, hd_Level, po_Level, sa_Level⟩),
    (⟨mk_Level, a32, i_Level_init, kc_Level⟩),
    (n_Level_text),
    (n_Level_kind),
    (n_Level_to_end),
    (n_Level_word),
    (n_Level_factor),
    (n_Level_place),
    (n_Level_entries),
    (⟨a34, i_Level_many_steps, k34⟩),
    (⟨a35, i_Level_partner, k35⟩),
    (⟨a36, i_Level_partners, k36⟩),
    (⟨a37, i_Level_step, k37⟩),
    (⟨a33, i_Level_eq, og_Level, on_Level, ot_Level, om_Level, of_Level, ok_Level⟩),
    (⟨o2a_Level, o2b_Level, o2c_Level, ok_int_Level, ok_tup_Level⟩),
    (⟨pg_Program, hd_Program, po_Program, sa_Program⟩),
    (⟨mk_Program, a44, i_Program_init, kc_Program⟩),
    (n_Program_text),
    (n_Program_period),
    (n_Program_rests),
    (n_Program__singles),
    (n_Program_sizes),
    (n_Program_tower),
    (⟨a46, i_Program_level, k46⟩),
    (⟨a47, i_Program_step, k47⟩),
    (⟨a48, i_Program_with_level, k48⟩),
    (⟨a49, i_Program_without_level, k49⟩),
    (⟨a50, i_Program_with_rest, k50⟩),
    (⟨a45, i_Program_eq, og_Program, on_Program, ot_Program, om_Program, of_Program, ok_Program⟩),
    (⟨o2a_Program, o2b_Program, o2c_Program, ok_int_Program, ok_tup_Program⟩),
    (⟨⟨⟨en_BadWord, eq_BadWord, eN_BadWord, eb_BadWord, em_BadWord, es_BadWord, eu_BadWord, ea_BadWord, eo_BadWord, ed_BadWord, e0_BadWord, e1_BadWord, e2_BadWord, e3_BadWord, e5_BadWord, xl_BadWord, xr_BadWord⟩, xsa_BadWord, xex_BadWord, xty_BadWord, xkc_BadWord⟩, a4, xti_BadWord, xno_BadWord, ⟨xga_BadWord, xgg_BadWord, xex_BadWord, xhd_BadWord⟩, ⟨xga_BadWord, xgg_BadWord, xex_BadWord, xhd_BadWord, xha_BadWord, xhn_BadWord, xht_BadWord, xhm_BadWord⟩⟩),
    (exm_ofHd xex_BadNumber xhd_BadNumber xty_BadNumber xs_BadWord_BadNumber),
    (exm_ofHd xex_BadSize xhd_BadSize xty_BadSize xs_BadWord_BadSize),
    (exm_ofHd xex_BadWord xhd_BadWord xty_BadWord xs_BadWord_BadWord),
    (exm_ofHd xex_NoLevel xhd_NoLevel xty_NoLevel xs_BadWord_NoLevel),
    (ok_BadWord_EveryError),
    (⟨⟨⟨en_BadText, eq_BadText, eN_BadText, eb_BadText, em_BadText, es_BadText, eu_BadText, ea_BadText, eo_BadText, ed_BadText, e0_BadText, e1_BadText, e2_BadText, e3_BadText, e5_BadText, xl_BadText, xr_BadText⟩, xsa_BadText, xex_BadText, xty_BadText, xkc_BadText⟩, a5, xti_BadText, xno_BadText, ⟨xga_BadText, xgg_BadText, xex_BadText, xhd_BadText⟩, ⟨xga_BadText, xgg_BadText, xex_BadText, xhd_BadText, xha_BadText, xhn_BadText, xht_BadText, xhm_BadText⟩⟩),
    (exm_ofHd xex_BadNumber xhd_BadNumber xty_BadNumber xs_BadText_BadNumber),
    (exm_ofHd xex_BadSize xhd_BadSize xty_BadSize xs_BadText_BadSize),
    (exm_ofHd xex_BadWord xhd_BadWord xty_BadWord xs_BadText_BadWord),
    (exm_ofHd xex_NoLevel xhd_NoLevel xty_NoLevel xs_BadText_NoLevel),
    (ok_BadText_EveryError),
    (⟨⟨⟨en_BadSize, eq_BadSize, eN_BadSize, eb_BadSize, em_BadSize, es_BadSize, eu_BadSize, ea_BadSize, eo_BadSize, ed_BadSize, e0_BadSize, e1_BadSize, e2_BadSize, e3_BadSize, e5_BadSize, xl_BadSize, xr_BadSize⟩, xsa_BadSize, xex_BadSize, xty_BadSize, xkc_BadSize⟩, a6, xti_BadSize, xno_BadSize, ⟨xga_BadSize, xgg_BadSize, xex_BadSize, xhd_BadSize⟩, ⟨xga_BadSize, xgg_BadSize, xex_BadSize, xhd_BadSize, xha_BadSize, xhn_BadSize, xht_BadSize, xhm_BadSize⟩⟩),
    (exm_ofHd xex_BadNumber xhd_BadNumber xty_BadNumber xs_BadSize_BadNumber),
    (exm_ofHd xex_BadSize xhd_BadSize xty_BadSize xs_BadSize_BadSize),
    (exm_ofHd xex_BadWord xhd_BadWord xty_BadWord xs_BadSize_BadWord),
    (exm_ofHd xex_NoLevel xhd_NoLevel xty_NoLevel xs_BadSize_NoLevel),
    (ok_BadSize_EveryError),
    (⟨⟨⟨en_BadNumber, eq_BadNumber, eN_BadNumber, eb_BadNumber, em_BadNumber, es_BadNumber, eu_BadNumber, ea_BadNumber, eo_BadNumber, ed_BadNumber, e0_BadNumber, e1_BadNumber, e2_BadNumber, e3_BadNumber, e5_BadNumber, xl_BadNumber, xr_BadNumber⟩, xsa_BadNumber, xex_BadNumber, xty_BadNumber, xkc_BadNumber⟩, a7, xti_BadNumber, xno_BadNumber, ⟨xga_BadNumber, xgg_BadNumber, xex_BadNumber, xhd_BadNumber⟩, ⟨xga_BadNumber, xgg_BadNumber, xex_BadNumber, xhd_BadNumber, xha_BadNumber, xhn_BadNumber, xht_BadNumber, xhm_BadNumber⟩⟩),
    (exm_ofHd xex_BadNumber xhd_BadNumber xty_BadNumber xs_BadNumber_BadNumber),
    (exm_ofHd xex_BadSize xhd_BadSize xty_BadSize xs_BadNumber_BadSize),
    (exm_ofHd xex_BadWord xhd_BadWord xty_BadWord xs_BadNumber_BadWord),
    (exm_ofHd xex_NoLevel xhd_NoLevel xty_NoLevel xs_BadNumber_NoLevel),
    (ok_BadNumber_EveryError),
    (⟨⟨⟨en_NoLevel, eq_NoLevel, eN_NoLevel, eb_NoLevel, em_NoLevel, es_NoLevel, eu_NoLevel, ea_NoLevel, eo_NoLevel, ed_NoLevel, e0_NoLevel, e1_NoLevel, e2_NoLevel, e3_NoLevel, e5_NoLevel, xl_NoLevel, xr_NoLevel⟩, xsa_NoLevel, xex_NoLevel, xty_NoLevel, xkc_NoLevel⟩, a8, xti_NoLevel, xno_NoLevel, ⟨xga_NoLevel, xgg_NoLevel, xex_NoLevel, xhd_NoLevel⟩, ⟨xga_NoLevel, xgg_NoLevel, xex_NoLevel, xhd_NoLevel, xha_NoLevel, xhn_NoLevel, xht_NoLevel, xhm_NoLevel⟩⟩),
    (exm_ofHd xex_BadNumber xhd_BadNumber xty_BadNumber xs_NoLevel_BadNumber),
    (exm_ofHd xex_BadSize xhd_BadSize xty_BadSize xs_NoLevel_BadSize),
    (exm_ofHd xex_BadWord xhd_BadWord xty_BadWord xs_NoLevel_BadWord),
    (exm_ofHd xex_NoLevel xhd_NoLevel xty_NoLevel xs_NoLevel_NoLevel),
    (ok_NoLevel_EveryError),
    (PySem.W.mg_none_of X G z_bool),
    (PySem.W.mg_none_of X G z_dict),
    (PySem.W.mg_none_of X G z_enumerate),
    (PySem.W.mg_none_of X G z_int),
    (PySem.W.mg_none_of X G z_isinstance),
    (PySem.W.mg_none_of X G z_len),
    (PySem.W.mg_none_of X G z_list),
    (PySem.W.mg_none_of X G z_range),
    (PySem.W.mg_none_of X G z_sorted),
    (PySem.W.mg_none_of X G z_str),
    (PySem.W.mg_none_of X G z_tuple),
    (⟨_, PySem.W.mg_of X G m_MOST_PLACES⟩),
    (⟨_, PySem.W.mg_of X G m_MOST_MOVES⟩),
    (PySem.W.mg_of X G m_FIGURES),
    (fun H => tupB_ok l_FIGURES h_FIGURES),
    (PySem.W.mg_of X G m_PLACE_FRONTS),
    (fun H => tupB_ok l_PLACE_FRONTS h_PLACE_FRONTS),
    (PySem.W.mg_of X G m_AMOUNT_FRONTS),
    (fun H => tupB_ok l_AMOUNT_FRONTS h_AMOUNT_FRONTS),
    (PySem.W.mg_of X G m_SHAPES),
    (⟨_, _, l_SHAPES, y_SHAPES, h_SHAPES⟩),
    (e_SHAPES),
    (⟨_, _, ⟨l_SHAPES, y_SHAPES, h_SHAPES⟩, h_k_SHAPES⟩),
    (⟨_, v_SHAPES_0, fun H => tupB_ok l_SHAPES_0 h_SHAPES_0⟩),
    (⟨_, v_SHAPES_1, fun H => tupB_ok l_SHAPES_1 h_SHAPES_1⟩),
    (⟨_, v_SHAPES_2, fun H => tupB_ok l_SHAPES_2 h_SHAPES_2⟩),
    (⟨_, PySem.W.mg_of X G m_NO_PART⟩),
    (⟨_, PySem.W.mg_of X G m_LEAST_SINGLE⟩),
    (⟨_, PySem.W.mg_of X G m_MOST_SINGLE⟩),
    (⟨_, PySem.W.mg_of X G m_MOST_PERIOD⟩),
    (PySem.W.mg_of X G m_ENDING),
    (fun H => tupB_ok l_ENDING h_ENDING)⟩
  refine ⟨a.d_law, [(cA75, tabAddr K cA75), (cA76, tabAddr K cA76)], spLaw K (tabsOf a), (List.forall_mem_cons.mpr ⟨tabs_at hts kr_v75, (List.forall_mem_cons.mpr ⟨tabs_at hts kr_v76, (fun _ h => nomatch h)⟩)⟩), (List.forall_mem_cons.mpr ⟨Option.isNone_iff_eq_none.mp kr_u75, (List.forall_mem_cons.mpr ⟨Option.isNone_iff_eq_none.mp kr_u76, (fun _ h => nomatch h)⟩)⟩), (List.forall_mem_cons.mpr ⟨PySem.W.codeHd_of_K X kr_t75, (List.forall_mem_cons.mpr ⟨PySem.W.codeHd_of_K X kr_t76, (fun _ h => nomatch h)⟩)⟩), fun s v => .of_eq rfl, fun H p ns hl hb hT hS => ?_, fun base KB GB hB => ?_⟩
  · exact ⟨p, ns, rfl, hS, hl, tabs_nil (T := tabsOf a) (cs := [(cA75, tabAddr K cA75), (cA76, tabAddr K cA76)]) rfl hT, fun _ => rfl⟩
  · have B : Tb base mg a := ⟨hB _ (.head _), (List.forall_mem_cons.mpr ⟨fun _ => rfl, (List.forall_mem_cons.mpr ⟨fun z => absurd z (beq_eq_false_iff_ne.mp kr_d76_75), (fun _ h => nomatch h)⟩)⟩), hB _ (.tail _ (.head _)), (List.forall_mem_cons.mpr ⟨fun z => absurd z.symm (beq_eq_false_iff_ne.mp kr_d76_75), (List.forall_mem_cons.mpr ⟨fun _ => rfl, (fun _ h => nomatch h)⟩)⟩)⟩
    exact ok_law T B
end Pf12
open PySem PySem.W PySem.Calls PyProof.Rows
local macro_rules
  | `(tactic| o_head (kHook $K $A $e)) => `(tactic| refine HandSHeadRun.head_any (r := Hd.R) (q := Hd.qv) (H := kHook $K $A $e) (ob := fun s => ($A).map (HandSHeadRun.getT s)) (M := 40000) (loose := Hd.names) (d := HandSHeadRun.topDef Hd.R.prog 78) (kwd := []) (fun s => List.map_congr_left fun a _ => HandSHeadRun.getT_eq s a) (by kernel_rfl) (fun s => by kernel_rfl) ?run (by kernel_rfl) (by kernel_rfl) (by kernel_rfl) (by rfl) (by first | assumption | decide +kernel) (by decide +kernel) ⟨rfl, rfl, rfl, rfl, rfl, by decide +kernel⟩ ?hw ?hc)
  | `(tactic| o_head (kmHook $K $A $e $ts)) => `(tactic| refine HandSHeadRun.head_any (r := Hd.R) (q := Hd.qv) (H := kmHook $K $A $e $ts) (ob := fun s => (($A).map (HandSHeadRun.getT s), ($ts).map (HandSHeadRun.getT s))) (M := 40000) (loose := Hd.names) (d := HandSHeadRun.topDef Hd.R.prog 78) (kwd := []) (fun s => Prod.ext (List.map_congr_left fun a _ => HandSHeadRun.getT_eq s a) (List.map_congr_left fun a _ => HandSHeadRun.getT_eq s a)) (by kernel_rfl) (fun s => by kernel_rfl) ?run (by kernel_rfl) (by kernel_rfl) (by kernel_rfl) (by rfl) (by first | assumption | decide +kernel) (by decide +kernel) ⟨rfl, rfl, rfl, rfl, rfl, by decide +kernel⟩ ?hw ?hc)
set_option maxRecDepth 100000 in
set_option maxHeartbeats 0 in
theorem PySem.Challenge.cw_everyorder_k12_whole_programs_that_are_c_holds : PySem.Challenge.rw_everyorder_k12_whole_programs_that_are_c.Holds := by
  w_on; o_law; k_head
  case run => exact Hd.run
  case hw => w_witness2
  k_fill
  refine LamX.walk_ofTs (l := PySem.Challenge.rw_everyorder_k12_whole_programs_that_are_c) (n := 63) (k := 19) (x := "script") (CX := fun _ => L2.CX0) rfl (by decide) rfl ⟨rfl, by decide, by decide⟩ (fun w h Y => PySem.W.km_in_of Y) ?F (fun _ _ _ _ _ h => h)
  case F =>
    intro w mg fa h Y KX G hmg
    refine' Pf12.all_mk KX G hmg (PySem.W.km_tabs_of Y) ?c_EveryError ?c_BadWord ?c_BadText ?c_BadSize ?c_BadNumber ?c_NoLevel ?c_Tower ?c_Word ?c_Level ?c_Program ?a0 ?l0 ?e0 ?k0 ?a1 ?l1 ?e1 ?k1 ?a2 ?l2 ?e2 ?k2 ?a3 ?l3 ?e3 ?k3 ?a4 ?l4 ?e4 ?k4 ?a5 ?l5 ?e5 ?k5 ?a6 ?l6 ?e6 ?k6 ?a7 ?l7 ?e7 ?k7 ?a8 ?l8 ?e8 ?k8 ?a9 ?l9 ?w9 ?h_w9 ?e9 ?k9 ?a10 ?l10 ?e10 ?k10 ?a11 ?l11 ?e11 ?k11 ?a12 ?l12 ?e12 ?k12 ?a13 ?l13 ?e13 ?k13 ?a14 ?l14 ?e14 ?k14 ?a15 ?l15 ?e15 ?k15 ?a16 ?l16 ?e16 ?k16 ?a17 ?l17 ?e17 ?k17 ?a18 ?l18 ?e18 ?k18 ?a19 ?l19 ?e19 ?k19 ?a20 ?l20 ?e20 ?k20 ?a21 ?l21 ?e21 ?k21 ?a22 ?l22 ?e22 ?k22 ?a23 ?l23 ?e23 ?k23 ?a24 ?l24 ?e24 ?k24 ?a25 ?l25 ?e25 ?k25 ?a26 ?l26 ?e26 ?k26 ?a27 ?l27 ?e27 ?k27 ?a28 ?l28 ?e28 ?k28 ?a29 ?l29 ?e29 ?k29 ?a30 ?l30 ?e30 ?k30 ?a31 ?l31 ?e31 ?k31 ?a32 ?l32 ?w32 ?h_w32 ?e32 ?k32 ?a33 ?l33 ?e33 ?k33 ?a34 ?l34 ?e34 ?k34 ?a35 ?l35 ?e35 ?k35 ?a36 ?l36 ?e36 ?k36 ?a37 ?l37 ?e37 ?k37 ?a38 ?l38 ?w38 ?h_w38 ?e38 ?k38 ?a39 ?l39 ?e39 ?k39 ?a40 ?l40 ?e40 ?k40 ?a41 ?l41 ?e41 ?k41 ?a42 ?l42 ?e42 ?k42 ?a43 ?l43 ?e43 ?k43 ?a44 ?l44 ?e44 ?k44 ?a45 ?l45 ?e45 ?k45 ?a46 ?l46 ?e46 ?k46 ?a47 ?l47 ?e47 ?k47 ?a48 ?l48 ?e48 ?k48 ?a49 ?l49 ?e49 ?k49 ?a50 ?l50 ?e50 ?k50 ?a51 ?l51 ?e51 ?k51 ?a52 ?l52 ?e52 ?k52 ?a53 ?l53 ?e53 ?k53 ?a54 ?l54 ?e54 ?k54 ?a55 ?l55 ?e55 ?k55 ?a56 ?l56 ?e56 ?k56 ?a57 ?l57 ?e57 ?k57 ?a58 ?l58 ?e58 ?k58 ?a59 ?l59 ?e59 ?k59 ?a60 ?l60 ?e60 ?k60 ?a61 ?l61 ?e61 ?k61 ?a62 ?l62 ?e62 ?k62 ?a63 ?l63 ?e63 ?k63 ?a64 ?l64 ?e64 ?k64 ?a65 ?l65 ?e65 ?k65 ?a66 ?l66 ?e66 ?k66 ?a67 ?l67 ?e67 ?k67 ?a68 ?l68 ?e68 ?k68 ?a69 ?l69 ?e69 ?k69 ?a70 ?l70 ?e70 ?k70 ?a71 ?l71 ?e71 ?k71 ?a72 ?l72 ?e72 ?k72 ?a73 ?l73 ?e73 ?k73 ?a74 ?l74 ?e74 ?k74 ?a75 ?l75 ?e75 ?k75 ?a76 ?l76 ?e76 ?k76 ?a77 ?l77 ?e77 ?k77 ?pg_Tower ?hd_Tower ?po_Tower ?sa_Tower ?mk_Tower ?kc_Tower ?n_Tower_stages ?n_Tower_doings ?n_Tower_lasts ?n_Tower_wrong ?i_Tower_init ?i_Tower_grow ?i_Tower_add_level ?i_Tower_ahead ?i_Tower_least_not_whole ?pg_Word ?hd_Word ?po_Word ?sa_Word ?mk_Word ?kc_Word ?n_Word_text ?n_Word_moves ?n_Word_has_turn ?i_Word_init ?i_Word_eq ?i_Word_at ?og_Word ?on_Word ?ot_Word ?om_Word ?of_Word ?ok_Word ?pg_Level ?hd_Level ?po_Level ?sa_Level ?mk_Level ?kc_Level ?n_Level_text ?n_Level_kind ?n_Level_to_end ?n_Level_word ?n_Level_factor ?n_Level_place ?n_Level_entries ?i_Level_init ?i_Level_eq ?i_Level_many_steps ?i_Level_partner ?i_Level_partners ?i_Level_step ?og_Level ?on_Level ?ot_Level ?om_Level ?of_Level ?ok_Level ?o2a_Level ?o2b_Level ?o2c_Level ?ok_int_Level ?ok_tup_Level ?pg_Program ?hd_Program ?po_Program ?sa_Program ?mk_Program ?kc_Program ?n_Program_text ?n_Program_period ?n_Program_rests ?n_Program__singles ?n_Program_sizes ?n_Program_tower ?i_Program_init ?i_Program_eq ?i_Program_level ?i_Program_step ?i_Program_with_level ?i_Program_without_level ?i_Program_with_rest ?og_Program ?on_Program ?ot_Program ?om_Program ?of_Program ?ok_Program ?o2a_Program ?o2b_Program ?o2c_Program ?ok_int_Program ?ok_tup_Program ?xl_BadWord ?xr_BadWord ?xsa_BadWord ?xex_BadWord ?xty_BadWord ?xkc_BadWord ?xga_BadWord ?xgg_BadWord ?xhd_BadWord ?xha_BadWord ?xhm_BadWord ?xno_BadWord ?xhn_BadWord ?xht_BadWord ?xti_BadWord ?xs_BadWord_BadNumber ?xs_BadWord_BadSize ?xs_BadWord_BadWord ?xs_BadWord_NoLevel ?ok_BadWord_EveryError ?xl_BadText ?xr_BadText ?xsa_BadText ?xex_BadText ?xty_BadText ?xkc_BadText ?xga_BadText ?xgg_BadText ?xhd_BadText ?xha_BadText ?xhm_BadText ?xno_BadText ?xhn_BadText ?xht_BadText ?xti_BadText ?xs_BadText_BadNumber ?xs_BadText_BadSize ?xs_BadText_BadWord ?xs_BadText_NoLevel ?ok_BadText_EveryError ?xl_BadSize ?xr_BadSize ?xsa_BadSize ?xex_BadSize ?xty_BadSize ?xkc_BadSize ?xga_BadSize ?xgg_BadSize ?xhd_BadSize ?xha_BadSize ?xhm_BadSize ?xno_BadSize ?xhn_BadSize ?xht_BadSize ?xti_BadSize ?xs_BadSize_BadNumber ?xs_BadSize_BadSize ?xs_BadSize_BadWord ?xs_BadSize_NoLevel ?ok_BadSize_EveryError ?xl_BadNumber ?xr_BadNumber ?xsa_BadNumber ?xex_BadNumber ?xty_BadNumber ?xkc_BadNumber ?xga_BadNumber ?xgg_BadNumber ?xhd_BadNumber ?xha_BadNumber ?xhm_BadNumber ?xno_BadNumber ?xhn_BadNumber ?xht_BadNumber ?xti_BadNumber ?xs_BadNumber_BadNumber ?xs_BadNumber_BadSize ?xs_BadNumber_BadWord ?xs_BadNumber_NoLevel ?ok_BadNumber_EveryError ?xl_NoLevel ?xr_NoLevel ?xsa_NoLevel ?xex_NoLevel ?xty_NoLevel ?xkc_NoLevel ?xga_NoLevel ?xgg_NoLevel ?xhd_NoLevel ?xha_NoLevel ?xhm_NoLevel ?xno_NoLevel ?xhn_NoLevel ?xht_NoLevel ?xti_NoLevel ?xs_NoLevel_BadNumber ?xs_NoLevel_BadSize ?xs_NoLevel_BadWord ?xs_NoLevel_NoLevel ?ok_NoLevel_EveryError ?z_bool ?z_dict ?z_enumerate ?z_int ?z_isinstance ?z_len ?z_list ?z_range ?z_sorted ?z_str ?z_tuple ?m_MOST_PLACES ?m_MOST_MOVES ?m_FIGURES ?l_FIGURES ?h_FIGURES ?m_PLACE_FRONTS ?l_PLACE_FRONTS ?h_PLACE_FRONTS ?m_AMOUNT_FRONTS ?l_AMOUNT_FRONTS ?h_AMOUNT_FRONTS ?m_SHAPES ?l_SHAPES ?y_SHAPES ?h_SHAPES ?e_SHAPES ?h_k_SHAPES ?v_SHAPES_0 ?l_SHAPES_0 ?h_SHAPES_0 ?v_SHAPES_1 ?l_SHAPES_1 ?h_SHAPES_1 ?v_SHAPES_2 ?l_SHAPES_2 ?h_SHAPES_2 ?m_NO_PART ?m_LEAST_SINGLE ?m_MOST_SINGLE ?m_MOST_PERIOD ?m_ENDING ?l_ENDING ?h_ENDING ?kr_t75 ?kr_u75 ?kr_v75 ?kr_t76 ?kr_u76 ?kr_v76 ?kr_d76_75
    (case c_EveryError => k_is)
    (case c_BadWord => k_is)
    (case c_BadText => k_is)
    (case c_BadSize => k_is)
    (case c_BadNumber => k_is)
    (case c_NoLevel => k_is)
    (case c_Tower => k_is)
    (case c_Word => k_is)
    (case c_Level => k_is)
    (case c_Program => k_is)
    (case a0 => k_is)
    (case l0 => k_is)
    (case e0 => k_is)
    (case k0 => k_is)
    (case a1 => k_is)
    (case l1 => k_is)
    (case e1 => k_is)
    (case k1 => k_is)
    (case a2 => k_is)
    (case l2 => k_is)
    (case e2 => k_is)
    (case k2 => k_is)
    (case a3 => k_is)
    (case l3 => k_is)
    (case e3 => k_is)
    (case k3 => k_is)
    (case a4 => k_is)
    (case l4 => k_is)
    (case e4 => k_is)
    (case k4 => k_is)
    (case a5 => k_is)
    (case l5 => k_is)
    (case e5 => k_is)
    (case k5 => k_is)
    (case a6 => k_is)
    (case l6 => k_is)
    (case e6 => k_is)
    (case k6 => k_is)
    (case a7 => k_is)
    (case l7 => k_is)
    (case e7 => k_is)
    (case k7 => k_is)
    (case a8 => k_is)
    (case l8 => k_is)
    (case e8 => k_is)
    (case k8 => k_is)
    (case a9 => k_is)
    (case l9 => k_is)
    (case w9 => k_is)
    (case h_w9 => first | rfl | decide +kernel)
    (case e9 => k_is)
    (case k9 => k_is)
    (case a10 => k_is)
    (case l10 => k_is)
    (case e10 => k_is)
    (case k10 => k_is)
    (case a11 => k_is)
    (case l11 => k_is)
    (case e11 => k_is)
    (case k11 => k_is)
    (case a12 => k_is)
    (case l12 => k_is)
    (case e12 => k_is)
    (case k12 => k_is)
    (case a13 => k_is)
    (case l13 => k_is)
    (case e13 => k_is)
    (case k13 => k_is)
    (case a14 => k_is)
    (case l14 => k_is)
    (case e14 => k_is)
    (case k14 => k_is)
    (case a15 => k_is)
    (case l15 => k_is)
    (case e15 => k_is)
    (case k15 => k_is)
    (case a16 => k_is)
    (case l16 => k_is)
    (case e16 => k_is)
    (case k16 => k_is)
    (case a17 => k_is)
    (case l17 => k_is)
    (case e17 => k_is)
    (case k17 => k_is)
    (case a18 => k_is)
    (case l18 => k_is)
    (case e18 => k_is)
    (case k18 => k_is)
    (case a19 => k_is)
    (case l19 => k_is)
    (case e19 => k_is)
    (case k19 => k_is)
    (case a20 => k_is)
    (case l20 => k_is)
    (case e20 => k_is)
    (case k20 => k_is)
    (case a21 => k_is)
    (case l21 => k_is)
    (case e21 => k_is)
    (case k21 => k_is)
    (case a22 => k_is)
    (case l22 => k_is)
    (case e22 => k_is)
    (case k22 => k_is)
    (case a23 => k_is)
    (case l23 => k_is)
    (case e23 => k_is)
    (case k23 => k_is)
    (case a24 => k_is)
    (case l24 => k_is)
    (case e24 => k_is)
    (case k24 => k_is)
    (case a25 => k_is)
    (case l25 => k_is)
    (case e25 => k_is)
    (case k25 => k_is)
    (case a26 => k_is)
    (case l26 => k_is)
    (case e26 => k_is)
    (case k26 => k_is)
    (case a27 => k_is)
    (case l27 => k_is)
    (case e27 => k_is)
    (case k27 => k_is)
    (case a28 => k_is)
    (case l28 => k_is)
    (case e28 => k_is)
    (case k28 => k_is)
    (case a29 => k_is)
    (case l29 => k_is)
    (case e29 => k_is)
    (case k29 => k_is)
    (case a30 => k_is)
    (case l30 => k_is)
    (case e30 => k_is)
    (case k30 => k_is)
    (case a31 => k_is)
    (case l31 => k_is)
    (case e31 => k_is)
    (case k31 => k_is)
    (case a32 => k_is)
    (case l32 => k_is)
    (case w32 => k_is)
    (case h_w32 => first | rfl | decide +kernel)
    (case e32 => k_is)
    (case k32 => k_is)
    (case a33 => k_is)
    (case l33 => k_is)
    (case e33 => k_is)
    (case k33 => k_is)
    (case a34 => k_is)
    (case l34 => k_is)
    (case e34 => k_is)
    (case k34 => k_is)
    (case a35 => k_is)
    (case l35 => k_is)
    (case e35 => k_is)
    (case k35 => k_is)
    (case a36 => k_is)
    (case l36 => k_is)
    (case e36 => k_is)
    (case k36 => k_is)
    (case a37 => k_is)
    (case l37 => k_is)
    (case e37 => k_is)
    (case k37 => k_is)
    (case a38 => k_is)
    (case l38 => k_is)
    (case w38 => k_is)
    (case h_w38 => first | rfl | decide +kernel)
    (case e38 => k_is)
    (case k38 => k_is)
    (case a39 => k_is)
    (case l39 => k_is)
    (case e39 => k_is)
    (case k39 => k_is)
    (case a40 => k_is)
    (case l40 => k_is)
    (case e40 => k_is)
    (case k40 => k_is)
    (case a41 => k_is)
    (case l41 => k_is)
    (case e41 => k_is)
    (case k41 => k_is)
    (case a42 => k_is)
    (case l42 => k_is)
    (case e42 => k_is)
    (case k42 => k_is)
    (case a43 => k_is)
    (case l43 => k_is)
    (case e43 => k_is)
    (case k43 => k_is)
    (case a44 => k_is)
    (case l44 => k_is)
    (case e44 => k_is)
    (case k44 => k_is)
    (case a45 => k_is)
    (case l45 => k_is)
    (case e45 => k_is)
    (case k45 => k_is)
    (case a46 => k_is)
    (case l46 => k_is)
    (case e46 => k_is)
    (case k46 => k_is)
    (case a47 => k_is)
    (case l47 => k_is)
    (case e47 => k_is)
    (case k47 => k_is)
    (case a48 => k_is)
    (case l48 => k_is)
    (case e48 => k_is)
    (case k48 => k_is)
    (case a49 => k_is)
    (case l49 => k_is)
    (case e49 => k_is)
    (case k49 => k_is)
    (case a50 => k_is)
    (case l50 => k_is)
    (case e50 => k_is)
    (case k50 => k_is)
    (case a51 => k_is)
    (case l51 => k_is)
    (case e51 => k_is)
    (case k51 => k_is)
    (case a52 => k_is)
    (case l52 => k_is)
    (case e52 => k_is)
    (case k52 => k_is)
    (case a53 => k_is)
    (case l53 => k_is)
    (case e53 => k_is)
    (case k53 => k_is)
    (case a54 => k_is)
    (case l54 => k_is)
    (case e54 => k_is)
    (case k54 => k_is)
    (case a55 => k_is)
    (case l55 => k_is)
    (case e55 => k_is)
    (case k55 => k_is)
    (case a56 => k_is)
    (case l56 => k_is)
    (case e56 => k_is)
    (case k56 => k_is)
    (case a57 => k_is)
    (case l57 => k_is)
    (case e57 => k_is)
    (case k57 => k_is)
    (case a58 => k_is)
    (case l58 => k_is)
    (case e58 => k_is)
    (case k58 => k_is)
    (case a59 => k_is)
    (case l59 => k_is)
    (case e59 => k_is)
    (case k59 => k_is)
    (case a60 => k_is)
    (case l60 => k_is)
    (case e60 => k_is)
    (case k60 => k_is)
    (case a61 => k_is)
    (case l61 => k_is)
    (case e61 => k_is)
    (case k61 => k_is)
    (case a62 => k_is)
    (case l62 => k_is)
    (case e62 => k_is)
    (case k62 => k_is)
    (case a63 => k_is)
    (case l63 => k_is)
    (case e63 => k_is)
    (case k63 => k_is)
    (case a64 => k_is)
    (case l64 => k_is)
    (case e64 => k_is)
    (case k64 => k_is)
    (case a65 => k_is)
    (case l65 => k_is)
    (case e65 => k_is)
    (case k65 => k_is)
    (case a66 => k_is)
    (case l66 => k_is)
    (case e66 => k_is)
    (case k66 => k_is)
    (case a67 => k_is)
    (case l67 => k_is)
    (case e67 => k_is)
    (case k67 => k_is)
    (case a68 => k_is)
    (case l68 => k_is)
    (case e68 => k_is)
    (case k68 => k_is)
    (case a69 => k_is)
    (case l69 => k_is)
    (case e69 => k_is)
    (case k69 => k_is)
    (case a70 => k_is)
    (case l70 => k_is)
    (case e70 => k_is)
    (case k70 => k_is)
    (case a71 => k_is)
    (case l71 => k_is)
    (case e71 => k_is)
    (case k71 => k_is)
    (case a72 => k_is)
    (case l72 => k_is)
    (case e72 => k_is)
    (case k72 => k_is)
    (case a73 => k_is)
    (case l73 => k_is)
    (case e73 => k_is)
    (case k73 => k_is)
    (case a74 => k_is)
    (case l74 => k_is)
    (case e74 => k_is)
    (case k74 => k_is)
    (case a75 => k_is)
    (case l75 => k_is)
    (case e75 => k_is)
    (case k75 => k_is)
    (case a76 => k_is)
    (case l76 => k_is)
    (case e76 => k_is)
    (case k76 => k_is)
    (case a77 => k_is)
    (case l77 => k_is)
    (case e77 => k_is)
    (case k77 => k_is)
    (case pg_Tower => k_is)
    (case hd_Tower => k_is)
    (case po_Tower => k_is)
    (case sa_Tower => k_is)
    (case mk_Tower => k_is)
    (case kc_Tower => k_is)
    (case n_Tower_stages => k_is)
    (case n_Tower_doings => k_is)
    (case n_Tower_lasts => k_is)
    (case n_Tower_wrong => k_is)
    (case i_Tower_init => k_is)
    (case i_Tower_grow => k_is)
    (case i_Tower_add_level => k_is)
    (case i_Tower_ahead => k_is)
    (case i_Tower_least_not_whole => k_is)
    (case pg_Word => k_is)
    (case hd_Word => k_is)
    (case po_Word => k_is)
    (case sa_Word => k_is)
    (case mk_Word => k_is)
    (case kc_Word => k_is)
    (case n_Word_text => k_is)
    (case n_Word_moves => k_is)
    (case n_Word_has_turn => k_is)
    (case i_Word_init => k_is)
    (case i_Word_eq => k_is)
    (case i_Word_at => k_is)
    (case og_Word => k_is)
    (case on_Word => k_is)
    (case ot_Word => k_is)
    (case om_Word => k_is)
    (case of_Word => k_is)
    (case ok_Word => kit_is)
    (case pg_Level => k_is)
    (case hd_Level => k_is)
    (case po_Level => k_is)
    (case sa_Level => k_is)
    (case mk_Level => k_is)
    (case kc_Level => k_is)
    (case n_Level_text => k_is)
    (case n_Level_kind => k_is)
    (case n_Level_to_end => k_is)
    (case n_Level_word => k_is)
    (case n_Level_factor => k_is)
    (case n_Level_place => k_is)
    (case n_Level_entries => k_is)
    (case i_Level_init => k_is)
    (case i_Level_eq => k_is)
    (case i_Level_many_steps => k_is)
    (case i_Level_partner => k_is)
    (case i_Level_partners => k_is)
    (case i_Level_step => k_is)
    (case og_Level => k_is)
    (case on_Level => k_is)
    (case ot_Level => k_is)
    (case om_Level => k_is)
    (case of_Level => k_is)
    (case ok_Level => kit_is)
    (case o2a_Level => k_is)
    (case o2b_Level => k_is)
    (case o2c_Level => k_is)
    (case ok_int_Level => kit_is)
    (case ok_tup_Level => kit_is)
    (case pg_Program => k_is)
    (case hd_Program => k_is)
    (case po_Program => k_is)
    (case sa_Program => k_is)
    (case mk_Program => k_is)
    (case kc_Program => k_is)
    (case n_Program_text => k_is)
    (case n_Program_period => k_is)
    (case n_Program_rests => k_is)
    (case n_Program__singles => k_is)
    (case n_Program_sizes => k_is)
    (case n_Program_tower => k_is)
    (case i_Program_init => k_is)
    (case i_Program_eq => k_is)
    (case i_Program_level => k_is)
    (case i_Program_step => k_is)
    (case i_Program_with_level => k_is)
    (case i_Program_without_level => k_is)
    (case i_Program_with_rest => k_is)
    (case og_Program => k_is)
    (case on_Program => k_is)
    (case ot_Program => k_is)
    (case om_Program => k_is)
    (case of_Program => k_is)
    (case ok_Program => kit_is)
    (case o2a_Program => k_is)
    (case o2b_Program => k_is)
    (case o2c_Program => k_is)
    (case ok_int_Program => kit_is)
    (case ok_tup_Program => kit_is)
    (case xl_BadWord => k_is)
    (case xr_BadWord => first | rfl | decide +kernel)
    (case xsa_BadWord => k_is)
    (case xex_BadWord => k_is)
    (case xty_BadWord => k_is)
    (case xkc_BadWord => k_is)
    (case xga_BadWord => k_is)
    (case xgg_BadWord => k_is)
    (case xhd_BadWord => k_is)
    (case xha_BadWord => k_is)
    (case xhm_BadWord => k_is)
    (case xno_BadWord => k_is)
    (case xhn_BadWord => k_is)
    (case xht_BadWord => k_is)
    (case xti_BadWord => k_is)
    (case xs_BadWord_BadNumber => k_is)
    (case xs_BadWord_BadSize => k_is)
    (case xs_BadWord_BadWord => k_is)
    (case xs_BadWord_NoLevel => k_is)
    (case ok_BadWord_EveryError => kit_is)
    (case xl_BadText => k_is)
    (case xr_BadText => first | rfl | decide +kernel)
    (case xsa_BadText => k_is)
    (case xex_BadText => k_is)
    (case xty_BadText => k_is)
    (case xkc_BadText => k_is)
    (case xga_BadText => k_is)
    (case xgg_BadText => k_is)
    (case xhd_BadText => k_is)
    (case xha_BadText => k_is)
    (case xhm_BadText => k_is)
    (case xno_BadText => k_is)
    (case xhn_BadText => k_is)
    (case xht_BadText => k_is)
    (case xti_BadText => k_is)
    (case xs_BadText_BadNumber => k_is)
    (case xs_BadText_BadSize => k_is)
    (case xs_BadText_BadWord => k_is)
    (case xs_BadText_NoLevel => k_is)
    (case ok_BadText_EveryError => kit_is)
    (case xl_BadSize => k_is)
    (case xr_BadSize => first | rfl | decide +kernel)
    (case xsa_BadSize => k_is)
    (case xex_BadSize => k_is)
    (case xty_BadSize => k_is)
    (case xkc_BadSize => k_is)
    (case xga_BadSize => k_is)
    (case xgg_BadSize => k_is)
    (case xhd_BadSize => k_is)
    (case xha_BadSize => k_is)
    (case xhm_BadSize => k_is)
    (case xno_BadSize => k_is)
    (case xhn_BadSize => k_is)
    (case xht_BadSize => k_is)
    (case xti_BadSize => k_is)
    (case xs_BadSize_BadNumber => k_is)
    (case xs_BadSize_BadSize => k_is)
    (case xs_BadSize_BadWord => k_is)
    (case xs_BadSize_NoLevel => k_is)
    (case ok_BadSize_EveryError => kit_is)
    (case xl_BadNumber => k_is)
    (case xr_BadNumber => first | rfl | decide +kernel)
    (case xsa_BadNumber => k_is)
    (case xex_BadNumber => k_is)
    (case xty_BadNumber => k_is)
    (case xkc_BadNumber => k_is)
    (case xga_BadNumber => k_is)
    (case xgg_BadNumber => k_is)
    (case xhd_BadNumber => k_is)
    (case xha_BadNumber => k_is)
    (case xhm_BadNumber => k_is)
    (case xno_BadNumber => k_is)
    (case xhn_BadNumber => k_is)
    (case xht_BadNumber => k_is)
    (case xti_BadNumber => k_is)
    (case xs_BadNumber_BadNumber => k_is)
    (case xs_BadNumber_BadSize => k_is)
    (case xs_BadNumber_BadWord => k_is)
    (case xs_BadNumber_NoLevel => k_is)
    (case ok_BadNumber_EveryError => kit_is)
    (case xl_NoLevel => k_is)
    (case xr_NoLevel => first | rfl | decide +kernel)
    (case xsa_NoLevel => k_is)
    (case xex_NoLevel => k_is)
    (case xty_NoLevel => k_is)
    (case xkc_NoLevel => k_is)
    (case xga_NoLevel => k_is)
    (case xgg_NoLevel => k_is)
    (case xhd_NoLevel => k_is)
    (case xha_NoLevel => k_is)
    (case xhm_NoLevel => k_is)
    (case xno_NoLevel => k_is)
    (case xhn_NoLevel => k_is)
    (case xht_NoLevel => k_is)
    (case xti_NoLevel => k_is)
    (case xs_NoLevel_BadNumber => k_is)
    (case xs_NoLevel_BadSize => k_is)
    (case xs_NoLevel_BadWord => k_is)
    (case xs_NoLevel_NoLevel => k_is)
    (case ok_NoLevel_EveryError => kit_is)
    (case z_bool => k_is)
    (case z_dict => k_is)
    (case z_enumerate => k_is)
    (case z_int => k_is)
    (case z_isinstance => k_is)
    (case z_len => k_is)
    (case z_list => k_is)
    (case z_range => k_is)
    (case z_sorted => k_is)
    (case z_str => k_is)
    (case z_tuple => k_is)
    (case m_MOST_PLACES => k_is)
    (case m_MOST_MOVES => k_is)
    (case m_FIGURES => k_is)
    (case l_FIGURES => k_is)
    (case h_FIGURES => first | rfl | decide +kernel)
    (case m_PLACE_FRONTS => k_is)
    (case l_PLACE_FRONTS => k_is)
    (case h_PLACE_FRONTS => first | rfl | decide +kernel)
    (case m_AMOUNT_FRONTS => k_is)
    (case l_AMOUNT_FRONTS => k_is)
    (case h_AMOUNT_FRONTS => first | rfl | decide +kernel)
    (case m_SHAPES => k_is)
    (case l_SHAPES => k_is)
    (case y_SHAPES => exact ⟨⟨_, _, rfl, rfl⟩, ⟨_, _, rfl, rfl⟩, ⟨_, _, rfl, rfl⟩, trivial⟩)
    (case h_SHAPES => first | rfl | decide +kernel)
    (case e_SHAPES => k_is)
    (case h_k_SHAPES => first | rfl | decide +kernel)
    (case v_SHAPES_0 => k_is)
    (case l_SHAPES_0 => k_is)
    (case h_SHAPES_0 => first | rfl | decide +kernel)
    (case v_SHAPES_1 => k_is)
    (case l_SHAPES_1 => k_is)
    (case h_SHAPES_1 => first | rfl | decide +kernel)
    (case v_SHAPES_2 => k_is)
    (case l_SHAPES_2 => k_is)
    (case h_SHAPES_2 => first | rfl | decide +kernel)
    (case m_NO_PART => k_is)
    (case m_LEAST_SINGLE => k_is)
    (case m_MOST_SINGLE => k_is)
    (case m_MOST_PERIOD => k_is)
    (case m_ENDING => k_is)
    (case l_ENDING => k_is)
    (case h_ENDING => first | rfl | decide +kernel)
    (case kr_t75 => kernel_rfl)
    (case kr_u75 => kernel_rfl)
    (case kr_v75 => kernel_rfl)
    (case kr_t76 => kernel_rfl)
    (case kr_u76 => kernel_rfl)
    (case kr_v76 => kernel_rfl)
    (case kr_d76_75 => kernel_rfl)
