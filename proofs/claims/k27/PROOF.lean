import PyProof.Rows.All
import Wide.All
import OpenK.AllK
import Wide.FinOn
import HandS.ForMost
import HandS.Exc
import HandS.ExcOwn
import HandS.ExcField
import HandS.ExcIs
import HandS.ExcInit
import HandS.WordsExc
import HandS.TryMany
import KE.KExcIs
import KE.KIsAll
import KE.RegKIsAll
import HandS.Codes
import HandS.Conv
import HandS.IsInst
import HandS.Style
import HandS.Walk
import HandS.Wide
import KE.GoesEnum
import KE.GoesMore
import HandS.More
import HandS.StrMore
import KE.GoesEnumKw
import PyProof.Rows.CallKwBuiltin
import HandS.Deep
import HandS.Star
import HandS.Text
import HandS.SortInts
import KE.KSortedM
import HandS.Lambda
import HandS.EndTab
import KE.KNestM
import KE.KLam
import HandS.OwnEq
import OpenK.AllK
import HandS.SortOrd
import HandS.TupSets
import KE.KOpsOwn
import PySem.Challenge.RW_everyorder_k27_words_as_runs
set_option Elab.async false
set_option linter.all false
set_option maxRecDepth 100000
set_option maxHeartbeats 4000000
namespace Pf27
open PySem PySem.Spec PyProof.Rows L2
/-! ### tuples of texts that the top has written -/
def strB : List V → List Value → Bool
  | [], [] => true
  | .str x :: r, .str y _ :: u => decide (x = y) && strB r u
  | _, _ => false
theorem strB_ok : ∀ {xs : List V} {us : List Value}, strB xs us = true → Vals xs us
  | [], [], _ => .nil
  | .str x :: r, .str y t :: u, h => by
    rw [strB, Bool.and_eq_true, decide_eq_true_eq] at h
    obtain ⟨rfl, h2⟩ := h
    exact .cons ⟨t, rfl⟩ (strB_ok h2)
def tupB (o : Obj) (xs : List V) : Bool := match o.cls, o.data with
  | .type c, .seq its _ => decide (c = "tuple") && (decide (its.size ≤ 1000) && strB xs its.toList)
  | _, _ => false
theorem tupB_ok {K : PySem.W.Frag} {H : Hp} {p : Addr} {o : Obj} {xs : List V} (l : K.lookup p = some o) (h : tupB o xs = true) : SqT K H p xs := by
  unfold tupB at h
  split at h
  · rename_i c its n hc hd
    simp only [Bool.and_eq_true, decide_eq_true_eq] at h
    obtain ⟨rfl, h1, h2⟩ := h
    exact .inr ⟨o, its, n, l, hc, hd, Nat.le_trans h1 (by decide), strB_ok h2⟩
  · cases h
/-! ### dicts of texts that the top has written: no other keys -/
def keyB (ks : List Str) (l : List PySem.DictEntry) : Bool := l.all fun e => match e.key with
  | .str x _ => decide (x ∈ ks)
  | _ => false
/-! ### the text by places -/
def topS (i : Nat) : Stmt := PySem.Challenge.pw_everyorder_k27_words_as_runs.main.body.getD i (.Pass ⟨0, 0, 0, 0⟩)
abbrev s_is_integer : Stmt := topS 1
abbrev s_is_between : Stmt := topS 2
abbrev s_first_wrong : Stmt := topS 3
abbrev s_BadWord_init : Stmt := inClass (topS 6) 0
abbrev s_BadSize_init : Stmt := inClass (topS 7) 0
abbrev s_BadPlace_init : Stmt := inClass (topS 8) 0
abbrev s_BadRow_init : Stmt := inClass (topS 9) 0
abbrev s_check_row : Stmt := topS 12
abbrev s_is_figure_behind : Stmt := topS 20
abbrev s_is_place_word : Stmt := topS 21
abbrev s_is_amount : Stmt := topS 22
abbrev s_place_of : Stmt := topS 23
abbrev s_amount_of : Stmt := topS 24
abbrev s_is_part : Stmt := topS 25
abbrev s_read_move : Stmt := topS 26
abbrev s_read_moves : Stmt := topS 27
abbrev s_exchanged : Stmt := topS 28
abbrev s_rolled : Stmt := topS 29
abbrev s_moved : Stmt := topS 30
abbrev s_Word_init : Stmt := inClass (topS 31) 0
abbrev s_Word_eq : Stmt := inClass (topS 31) 1
abbrev s_Word_at : Stmt := inClass (topS 31) 2
abbrev s_common_way : Stmt := topS 35
abbrev s_one_form : Stmt := topS 36
abbrev s_way_of : Stmt := topS 37
abbrev s_index_of_run : Stmt := topS 38
abbrev s_goal_of : Stmt := topS 39
abbrev s_led_on : Stmt := topS 40
abbrev s_taken_back : Stmt := topS 41
abbrev s_Runs_init : Stmt := inClass (topS 42) 0
abbrev s_Runs_eq : Stmt := inClass (topS 42) 1
abbrev s_Runs_mul : Stmt := inClass (topS 42) 2
abbrev s_Runs_invert : Stmt := inClass (topS 42) 3
abbrev s_Runs_at : Stmt := inClass (topS 42) 4
abbrev s_check_far_size : Stmt := topS 43
abbrev s_moved_block : Stmt := topS 44
abbrev s_move_runs : Stmt := topS 45
abbrev s_runs_of : Stmt := topS 46
abbrev s_runs_of_list : Stmt := topS 47
abbrev s_nothing_runs : Stmt := topS 48
abbrev s_exchange_runs : Stmt := topS 49
abbrev s_roll_runs : Stmt := topS 50
abbrev s_wider_runs : Stmt := topS 51
abbrev s__law_form : Stmt := topS 53
abbrev s__law_blocks : Stmt := topS 54
abbrev s__law_pen : Stmt := topS 55
abbrev s__law_draw : Stmt := topS 56
abbrev s__law_pick : Stmt := topS 57
abbrev s__law_shuffled : Stmt := topS 58
abbrev s__law_place_word : Stmt := topS 59
abbrev s__law_value : Stmt := topS 60
abbrev s__law_amount : Stmt := topS 61
abbrev s__law_move : Stmt := topS 62
abbrev s__law_moves : Stmt := topS 63
abbrev s__law_word_text : Stmt := topS 64
abbrev s__law_moved : Stmt := topS 65
abbrev s__law_all_moved : Stmt := topS 66
abbrev s__law_refused : Stmt := topS 67
abbrev s__law_is_told : Stmt := topS 68
abbrev s__law_lists_refused : Stmt := topS 69
abbrev s_law : Stmt := topS 70
theorem sc_is_integer : FnScope ["value"] ["value"] (defScope s_is_integer) := ⟨rfl, rfl, rfl, by decide +kernel, rfl, by decide +kernel, by decide +kernel⟩
theorem sc_is_between : FnScope ["value", "low", "high"] ["value", "low", "high"] (defScope s_is_between) := ⟨rfl, rfl, rfl, by decide +kernel, rfl, by decide +kernel, by decide +kernel⟩
theorem sc_first_wrong : FnScope ["row", "size", "has_come", "index", "member"] ["row", "size"] (defScope s_first_wrong) := ⟨rfl, rfl, rfl, by decide +kernel, rfl, by decide +kernel, by decide +kernel⟩
theorem sc_BadWord_init : FnScope ["self", "index"] ["self", "index"] (defScope s_BadWord_init) := ⟨rfl, rfl, rfl, by decide +kernel, rfl, by decide +kernel, by decide +kernel⟩
theorem sc_BadSize_init : FnScope ["self", "size"] ["self", "size"] (defScope s_BadSize_init) := ⟨rfl, rfl, rfl, by decide +kernel, rfl, by decide +kernel, by decide +kernel⟩
theorem sc_BadPlace_init : FnScope ["self", "place"] ["self", "place"] (defScope s_BadPlace_init) := ⟨rfl, rfl, rfl, by decide +kernel, rfl, by decide +kernel, by decide +kernel⟩
theorem sc_BadRow_init : FnScope ["self", "index"] ["self", "index"] (defScope s_BadRow_init) := ⟨rfl, rfl, rfl, by decide +kernel, rfl, by decide +kernel, by decide +kernel⟩
theorem sc_check_row : FnScope ["row", "wrong"] ["row"] (defScope s_check_row) := ⟨rfl, rfl, rfl, by decide +kernel, rfl, by decide +kernel, by decide +kernel⟩
theorem sc_is_figure_behind : FnScope ["fronts", "text"] ["fronts", "text"] (defScope s_is_figure_behind) := ⟨rfl, rfl, rfl, by decide +kernel, rfl, by decide +kernel, by decide +kernel⟩
theorem sc_is_place_word : FnScope ["text"] ["text"] (defScope s_is_place_word) := ⟨rfl, rfl, rfl, by decide +kernel, rfl, by decide +kernel, by decide +kernel⟩
theorem sc_is_amount : FnScope ["text"] ["text"] (defScope s_is_amount) := ⟨rfl, rfl, rfl, by decide +kernel, rfl, by decide +kernel, by decide +kernel⟩
theorem sc_place_of : FnScope ["word", "size"] ["word", "size"] (defScope s_place_of) := ⟨rfl, rfl, rfl, by decide +kernel, rfl, by decide +kernel, by decide +kernel⟩
theorem sc_amount_of : FnScope ["text", "length"] ["text", "length"] (defScope s_amount_of) := ⟨rfl, rfl, rfl, by decide +kernel, rfl, by decide +kernel, by decide +kernel⟩
theorem sc_is_part : FnScope ["text", "kind"] ["text", "kind"] (defScope s_is_part) := ⟨rfl, rfl, rfl, by decide +kernel, rfl, by decide +kernel, by decide +kernel⟩
theorem sc_read_move : FnScope ["parts", "start", "may_turn", "head", "shape", "index", "kind"] ["parts", "start", "may_turn"] (defScope s_read_move) := ⟨rfl, rfl, rfl, by decide +kernel, rfl, by decide +kernel, by decide +kernel⟩
theorem sc_read_moves : FnScope ["parts", "start", "moves", "end", "move"] ["parts", "start"] (defScope s_read_moves) := ⟨rfl, rfl, rfl, by decide +kernel, rfl, by decide +kernel, by decide +kernel⟩
theorem sc_exchanged : FnScope ["old", "x", "y", "new"] ["old", "x", "y"] (defScope s_exchanged) := ⟨rfl, rfl, rfl, by decide +kernel, rfl, by decide +kernel, by decide +kernel⟩
theorem sc_rolled : FnScope ["old", "x", "y", "amount", "block", "cut"] ["old", "x", "y", "amount"] (defScope s_rolled) := ⟨rfl, rfl, rfl, by decide +kernel, rfl, by decide +kernel, by decide +kernel⟩
theorem sc_moved : FnScope ["old", "move", "x", "y"] ["old", "move"] (defScope s_moved) := ⟨rfl, rfl, rfl, by decide +kernel, rfl, by decide +kernel, by decide +kernel⟩
theorem sc_Word_init : FnScope ["self", "text", "parts", "moves", "end"] ["self", "text"] (defScope s_Word_init) := ⟨rfl, rfl, rfl, by decide +kernel, rfl, by decide +kernel, by decide +kernel⟩
theorem sc_Word_eq : FnScope ["self", "other"] ["self", "other"] (defScope s_Word_eq) := ⟨rfl, rfl, rfl, by decide +kernel, rfl, by decide +kernel, by decide +kernel⟩
theorem sc_Word_at : FnScope ["self", "k", "row", "move"] ["self", "k"] (defScope s_Word_at) := ⟨rfl, rfl, rfl, by decide +kernel, rfl, by decide +kernel, by decide +kernel⟩
theorem sc_common_way : FnScope ["run", "other", "way"] ["run", "other"] (defScope s_common_way) := ⟨rfl, rfl, rfl, by decide +kernel, rfl, by decide +kernel, by decide +kernel⟩
theorem sc_one_form : FnScope ["pieces", "rows", "start", "length", "goal", "way", "piece", "common", "first"] ["pieces"] (defScope s_one_form) := ⟨rfl, rfl, rfl, by decide +kernel, rfl, by decide +kernel, by decide +kernel⟩
theorem sc_way_of : FnScope ["size", "rows", "backward", "_", "length", "way"] ["size", "rows"] (defScope s_way_of) := ⟨rfl, rfl, rfl, by decide +kernel, rfl, by decide +kernel, by decide +kernel⟩
theorem sc_index_of_run : FnScope ["rows", "place", "low", "high", "middle"] ["rows", "place"] (defScope s_index_of_run) := ⟨rfl, rfl, rfl, by decide +kernel, rfl, by decide +kernel, by decide +kernel⟩
theorem sc_goal_of : FnScope ["run", "place"] ["run", "place"] (defScope s_goal_of) := ⟨rfl, rfl, rfl, by decide +kernel, rfl, by decide +kernel, by decide +kernel⟩
theorem sc_led_on : FnScope ["rows", "run", "start", "left", "goal", "way", "pieces", "index", "told", "many"] ["rows", "run"] (defScope s_led_on) := ⟨rfl, rfl, rfl, by decide +kernel, rfl, by decide +kernel, by decide +kernel⟩
theorem sc_taken_back : FnScope ["run", "start", "length", "goal", "way"] ["run"] (defScope s_taken_back) := ⟨rfl, rfl, rfl, by decide +kernel, rfl, by decide +kernel, by decide +kernel⟩
theorem sc_Runs_init : FnScope ["self", "size", "pieces"] ["self", "size", "pieces"] (defScope s_Runs_init) := ⟨rfl, rfl, rfl, by decide +kernel, rfl, by decide +kernel, by decide +kernel⟩
theorem sc_Runs_eq : FnScope ["self", "other"] ["self", "other"] (defScope s_Runs_eq) := ⟨rfl, rfl, rfl, by decide +kernel, rfl, by decide +kernel, by decide +kernel⟩
theorem sc_Runs_mul : FnScope ["self", "other", "run", "piece"] ["self", "other"] (defScope s_Runs_mul) := ⟨rfl, rfl, rfl, by decide +kernel, rfl, by decide +kernel, by decide +kernel⟩
theorem sc_Runs_invert : FnScope ["self", "run"] ["self"] (defScope s_Runs_invert) := ⟨rfl, rfl, rfl, by decide +kernel, rfl, by decide +kernel, by decide +kernel⟩
theorem sc_Runs_at : FnScope ["self", "j"] ["self", "j"] (defScope s_Runs_at) := ⟨rfl, rfl, rfl, by decide +kernel, rfl, by decide +kernel, by decide +kernel⟩
theorem sc_check_far_size : FnScope ["k"] ["k"] (defScope s_check_far_size) := ⟨rfl, rfl, rfl, by decide +kernel, rfl, by decide +kernel, by decide +kernel⟩
theorem sc_moved_block : FnScope ["k", "x", "y", "pieces", "around", "piece"] ["k", "x", "y", "pieces"] (defScope s_moved_block) := ⟨rfl, rfl, rfl, by decide +kernel, rfl, by decide +kernel, by decide +kernel⟩
theorem sc_move_runs : FnScope ["move", "k", "x", "y"] ["move", "k"] (defScope s_move_runs) := ⟨rfl, rfl, rfl, by decide +kernel, rfl, by decide +kernel, by decide +kernel⟩
theorem sc_runs_of : FnScope ["word", "k", "runs", "move"] ["word", "k"] (defScope s_runs_of) := ⟨rfl, rfl, rfl, by decide +kernel, rfl, by decide +kernel, by decide +kernel⟩
theorem sc_runs_of_list : FnScope ["row", "place", "goal"] ["row"] (defScope s_runs_of_list) := ⟨rfl, rfl, rfl, by decide +kernel, rfl, by decide +kernel, by decide +kernel⟩
theorem sc_nothing_runs : FnScope ["k"] ["k"] (defScope s_nothing_runs) := ⟨rfl, rfl, rfl, by decide +kernel, rfl, by decide +kernel, by decide +kernel⟩
theorem sc_exchange_runs : FnScope ["k", "x", "y", "low", "high", "between"] ["k", "x", "y"] (defScope s_exchange_runs) := ⟨rfl, rfl, rfl, by decide +kernel, rfl, by decide +kernel, by decide +kernel⟩
theorem sc_roll_runs : FnScope ["k", "x", "y", "c", "length", "ahead"] ["k", "x", "y", "c"] (defScope s_roll_runs) := ⟨rfl, rfl, rfl, by decide +kernel, rfl, by decide +kernel, by decide +kernel⟩
theorem sc_wider_runs : FnScope ["runs"] ["runs"] (defScope s_wider_runs) := ⟨rfl, rfl, rfl, by decide +kernel, rfl, by decide +kernel, by decide +kernel⟩
theorem sc__law_form : FnScope ["row", "found", "at", "turn", "many", "way", "k"] ["row"] (defScope s__law_form) := ⟨rfl, rfl, rfl, by decide +kernel, rfl, by decide +kernel, by decide +kernel⟩
theorem sc__law_blocks : FnScope ["pen", "size", "found", "at", "blocks", "turn", "many", "block"] ["pen", "size"] (defScope s__law_blocks) := ⟨rfl, rfl, rfl, by decide +kernel, rfl, by decide +kernel, by decide +kernel⟩
theorem sc__law_pen : FnScope ["script"] ["script"] (defScope s__law_pen) := ⟨rfl, rfl, rfl, by decide +kernel, rfl, by decide +kernel, by decide +kernel⟩
theorem sc__law_draw : FnScope ["pen", "many", "digit", "at", "cell", "mixed"] ["pen", "many"] (defScope s__law_draw) := ⟨rfl, rfl, rfl, by decide +kernel, rfl, by decide +kernel, by decide +kernel⟩
theorem sc__law_pick : FnScope ["pen", "some"] ["pen", "some"] (defScope s__law_pick) := ⟨rfl, rfl, rfl, by decide +kernel, rfl, by decide +kernel, by decide +kernel⟩
theorem sc__law_shuffled : FnScope ["pen", "some", "left", "found", "k"] ["pen", "some"] (defScope s__law_shuffled) := ⟨rfl, rfl, rfl, by decide +kernel, rfl, by decide +kernel, by decide +kernel⟩
theorem sc__law_place_word : FnScope ["pen", "k"] ["pen"] (defScope s__law_place_word) := ⟨rfl, rfl, rfl, by decide +kernel, rfl, by decide +kernel, by decide +kernel⟩
theorem sc__law_value : FnScope ["word", "k"] ["word", "k"] (defScope s__law_value) := ⟨rfl, rfl, rfl, by decide +kernel, rfl, by decide +kernel, by decide +kernel⟩
theorem sc__law_amount : FnScope ["pen", "k"] ["pen"] (defScope s__law_amount) := ⟨rfl, rfl, rfl, by decide +kernel, rfl, by decide +kernel, by decide +kernel⟩
theorem sc__law_move : FnScope ["pen", "has_turn", "way", "x", "y"] ["pen", "has_turn"] (defScope s__law_move) := ⟨rfl, rfl, rfl, by decide +kernel, rfl, by decide +kernel, by decide +kernel⟩
theorem sc__law_moves : FnScope ["pen", "found", "k"] ["pen"] (defScope s__law_moves) := ⟨rfl, rfl, rfl, by decide +kernel, rfl, by decide +kernel, by decide +kernel⟩
theorem sc__law_word_text : FnScope ["moves", "move"] ["moves"] (defScope s__law_word_text) := ⟨rfl, rfl, rfl, by decide +kernel, rfl, by decide +kernel, by decide +kernel⟩
theorem sc__law_moved : FnScope ["row", "move", "k", "x", "y", "found", "block", "c", "cut"] ["row", "move"] (defScope s__law_moved) := ⟨rfl, rfl, rfl, by decide +kernel, rfl, by decide +kernel, by decide +kernel⟩
theorem sc__law_all_moved : FnScope ["row", "moves", "found", "move"] ["row", "moves"] (defScope s__law_all_moved) := ⟨rfl, rfl, rfl, by decide +kernel, rfl, by decide +kernel, by decide +kernel⟩
theorem sc__law_refused : FnScope ["call", "e"] ["call"] (defScope s__law_refused) := ⟨rfl, rfl, rfl, by decide +kernel, rfl, by decide +kernel, by decide +kernel⟩
theorem sc__law_is_told : FnScope ["told", "row", "place"] ["told", "row"] (defScope s__law_is_told) := ⟨rfl, rfl, rfl, by decide +kernel, rfl, by decide +kernel, by decide +kernel⟩
theorem sc__law_lists_refused : FnScope ["pen", "blocks", "spot", "again", "bad", "far"] ["pen", "blocks"] (defScope s__law_lists_refused) := ⟨rfl, rfl, rfl, by decide +kernel, rfl, by decide +kernel, by decide +kernel⟩
theorem sc_law : FnScope ["script", "pen", "lap", "moves", "k", "row", "blocks", "many", "odd", "place", "told", "word"] ["script"] (defScope s_law) := ⟨rfl, rfl, rfl, by decide +kernel, rfl, by decide +kernel, by decide +kernel⟩
/-- where the defs and classes stand -/
structure Ad where
  f_is_integer : Addr
  d_is_integer : FuncData
  f_is_between : Addr
  d_is_between : FuncData
  f_first_wrong : Addr
  d_first_wrong : FuncData
  f_BadWord_init : Addr
  d_BadWord_init : FuncData
  f_BadSize_init : Addr
  d_BadSize_init : FuncData
  f_BadPlace_init : Addr
  d_BadPlace_init : FuncData
  f_BadRow_init : Addr
  d_BadRow_init : FuncData
  f_check_row : Addr
  d_check_row : FuncData
  f_is_figure_behind : Addr
  d_is_figure_behind : FuncData
  f_is_place_word : Addr
  d_is_place_word : FuncData
  f_is_amount : Addr
  d_is_amount : FuncData
  f_place_of : Addr
  d_place_of : FuncData
  f_amount_of : Addr
  d_amount_of : FuncData
  f_is_part : Addr
  d_is_part : FuncData
  f_read_move : Addr
  d_read_move : FuncData
  f_read_moves : Addr
  d_read_moves : FuncData
  f_exchanged : Addr
  d_exchanged : FuncData
  f_rolled : Addr
  d_rolled : FuncData
  f_moved : Addr
  d_moved : FuncData
  f_Word_init : Addr
  d_Word_init : FuncData
  f_Word_eq : Addr
  d_Word_eq : FuncData
  f_Word_at : Addr
  d_Word_at : FuncData
  f_common_way : Addr
  d_common_way : FuncData
  f_one_form : Addr
  d_one_form : FuncData
  f_way_of : Addr
  d_way_of : FuncData
  f_index_of_run : Addr
  d_index_of_run : FuncData
  f_goal_of : Addr
  d_goal_of : FuncData
  f_led_on : Addr
  d_led_on : FuncData
  f_taken_back : Addr
  d_taken_back : FuncData
  f_Runs_init : Addr
  d_Runs_init : FuncData
  f_Runs_eq : Addr
  d_Runs_eq : FuncData
  f_Runs_mul : Addr
  d_Runs_mul : FuncData
  f_Runs_invert : Addr
  d_Runs_invert : FuncData
  f_Runs_at : Addr
  d_Runs_at : FuncData
  f_check_far_size : Addr
  d_check_far_size : FuncData
  f_moved_block : Addr
  d_moved_block : FuncData
  f_move_runs : Addr
  d_move_runs : FuncData
  f_runs_of : Addr
  d_runs_of : FuncData
  f_runs_of_list : Addr
  d_runs_of_list : FuncData
  f_nothing_runs : Addr
  d_nothing_runs : FuncData
  f_exchange_runs : Addr
  d_exchange_runs : FuncData
  f_roll_runs : Addr
  d_roll_runs : FuncData
  f_wider_runs : Addr
  d_wider_runs : FuncData
  f__law_form : Addr
  d__law_form : FuncData
  f__law_blocks : Addr
  d__law_blocks : FuncData
  f__law_pen : Addr
  d__law_pen : FuncData
  f__law_draw : Addr
  d__law_draw : FuncData
  f__law_pick : Addr
  d__law_pick : FuncData
  f__law_shuffled : Addr
  d__law_shuffled : FuncData
  f__law_place_word : Addr
  d__law_place_word : FuncData
  f__law_value : Addr
  d__law_value : FuncData
  f__law_amount : Addr
  d__law_amount : FuncData
  f__law_move : Addr
  d__law_move : FuncData
  f__law_moves : Addr
  d__law_moves : FuncData
  f__law_word_text : Addr
  d__law_word_text : FuncData
  f__law_moved : Addr
  d__law_moved : FuncData
  f__law_all_moved : Addr
  d__law_all_moved : FuncData
  f__law_refused : Addr
  d__law_refused : FuncData
  f__law_is_told : Addr
  d__law_is_told : FuncData
  f__law_lists_refused : Addr
  d__law_lists_refused : FuncData
  f_law : Addr
  d_law : FuncData
  C_EveryError : Addr
  C_BadWord : Addr
  C_BadSize : Addr
  C_BadPlace : Addr
  C_BadRow : Addr
  C_Word : Addr
  C_Runs : Addr
  a_FIGURES : Addr
  a_PLACE_FRONTS : Addr
  a_AMOUNT_FRONTS : Addr
  a_SHAPES : Addr
  c__law_lists_refused : Addr
  p__law_lists_refused : Addr
  c_law : Addr
  p_law : Addr
/-- a def that makes lambdas: its code object stands at c -/
structure FunL (K : PySem.W.Frag) (x qual : Str) (st : Stmt) (f : Addr) (fd : FuncData) (c : Addr) : Prop where
  ex : ∃ (oc : Value) (od : Option Addr) (kV doc pm : Value) (an : Option Addr) (ct : Value) (osl : Array (Option Value)), fd = PySem.W.fnOf x qual (defArgs st) (defBody st) (defScope st) .none kV doc pm an (.ref c) ct ∧ K.lookup f = some ⟨oc, od, .func fd, osl⟩ ∧ PySem.W.codeIn K (.ref c) qual = true
theorem FunL.ok {P : Program} {w : World} {K : PySem.W.Frag} {mg : Str → Option Value} {base : Heap} {x qual : Str} {st : Stmt} {f c : Addr} {fd : FuncData} {N ps : List Str} {k : Nat} {sp : Sp} (F : FunL K x qual st f fd c) (hb : Binds K fd ps []) (S : FnScope N ps (defScope st)) (len : ∀ vs H Q E, sp vs H Q E → vs.length = ps.length)
    (hbody : ∀ (A : Around) (outer : List Env) (s : Shared) (H : Hp) (vs : List V) (Q : VK) (E : XK), Room k (A.deeper (envOfC qual (defScope st) s.heap.objs.size f (.ref c))) → sp vs H Q E → ∃ t, PSs (cxOf C8.CX0 P w K mg base N qual (defScope st) f (.ref c) A outer s H E).nox (defBody st) t ∧ t { nx := fun _ H' => Q .non H', rt := Q } (L2.start N vs) H) :
    FnOk P w K mg base CX0 (k + 1) f fd ps sp := by
  obtain ⟨oc, od, kV, doc, pm, an, ct, osl, e, lk, hcd⟩ := F.ex
  refine ⟨len, fun A outer s H args us vs Q E hr e0 hbt r h => ?_⟩
  rw [e] at lk hbt
  refine LamX.run_ofS lk hcd S hr e0 hbt r (len _ _ _ _ h) fun hr' => ?_
  obtain ⟨t, ht, q⟩ := hbody A outer s H vs Q E hr' h
  exact ⟨t, ht.nox, q⟩
/-- the table of a code object -/
def tabAddr (K : PySem.W.Frag) (c : Addr) : Addr := match K.lookup c with
  | some ⟨_, _, .fields vs, _⟩ => (match (vs[11]? : Option Value) with | some (.ref P) => P | _ => 0)
  | _ => 0
theorem tabs_at {h : Heap} {ts : List Addr} {p : Addr} (hts : ∀ P ∈ ts, h.get? P = some (PySem.W.tabObj #[])) (e : ts.contains p = true) : h.get? p = some { cls := .none, data := .fields #[] } := hts p (List.contains_iff_mem.mp e)
theorem tabs_nil {T : List (Addr × Str)} {cs : List (Addr × Addr)} {H : Hp} (e : T.map (·.1) = cs.map (·.2)) (hT : ∀ p ∈ cs, H p.2 = some (.tbl #[])) : LamX.Tabs T H := fun p hp => by
  have m : p.1 ∈ cs.map (·.2) := by
    rw [← e]
    exact List.mem_map.mpr ⟨p, hp, rfl⟩
  obtain ⟨q, hq, eq⟩ := List.mem_map.mp m
  refine LamX.TabS.nil ?_
  rw [← eq]
  exact hT q hq
/-- a class with its own * -/
structure MulC (K : PySem.W.Frag) (C f : Addr) : Prop where
  sf : PySem.W.selfFirst K C = true
  mul : PySem.W.findIn K (.ref C) "__mul__" = some (some (.ref f))
  fn : PySem.W.isFn K (.ref f) = true
/-- a class with its own ~ -/
structure InvC (K : PySem.W.Frag) (C f : Addr) : Prop where
  inv : PySem.W.findIn K (.ref C) "__invert__" = some (some (.ref f))
  fn : PySem.W.isFn K (.ref f) = true
/-- a class with its own ==: what its instances answer -/
structure OwnC (K : PySem.W.Frag) (C f : Addr) : Prop where
  eq : PySem.W.findIn K (.ref C) "__eq__" = some (some (.ref f))
  fn : PySem.W.isFn K (.ref f) = true
  cls : PySem.W.findIn K (.ref C) "__class__" = some (some (.builtin "object.__class__"))
  get : PySem.W.specialIn K (.builtin "object.__class__") "__get__" = some (some (.builtin "getset_descriptor.__get__"))
  tak : PySem.W.takesIn K (.builtin "object.__class__") = some true
  mro : PySem.W.mroIn K C (.type "object") = some true
  fst : PySem.W.notFirst K C (.type "str") = true
  kit : PySem.W.kitOne K (.type "str") (.ref C) = some false
/-- the same class beside numbers and tuples, and its != -/
structure OwnC2 (K : PySem.W.Frag) (C : Addr) : Prop where
  ne : PySem.W.findIn K (.ref C) "__ne__" = some (some (.builtin "object.__ne__"))
  fsi : PySem.W.notFirst K C (.type "int") = true
  fst : PySem.W.notFirst K C (.type "tuple") = true
  kti : PySem.W.kitOne K (.type "int") (.ref C) = some false
  ktt : PySem.W.kitOne K (.type "tuple") (.ref C) = some false
  fsl : PySem.W.notFirst K C (.type "list") = true
  ktl : PySem.W.kitOne K (.type "list") (.ref C) = some false
/-- isinstance of a caught error that has its own dict -/
structure ExcD (K : PySem.W.Frag) (D : Addr) : Prop where
  hg : PySem.W.findIn K (.ref D) "__getattribute__" = some (some (.builtin "BaseException.__getattribute__"))
  hk : PySem.W.findIn K (.ref D) "__getattr__" = some none
  hs : PySem.W.subIn K (.ref D) (.type "BaseException") = some true
  hd : PySem.W.hasDictIn K D = true
  ha : PySem.W.findIn K (.ref D) "__class__" = some (some (.builtin "object.__class__"))
  hn : PySem.W.specialIn K (.builtin "object.__class__") "__get__" = some (some (.builtin "getset_descriptor.__get__"))
  ht : PySem.W.takesIn K (.builtin "object.__class__") = some true
  hm : PySem.W.mroIn K D (.type "object") = some true
/-- an own error class: made, its field read, asked by isinstance -/
structure ErrC (K : PySem.W.Frag) (C fI : Addr) (f : Str) : Prop where
  o : OexC K C
  ini : PySem.W.findIn K (.ref C) "__init__" = some (some (.ref fI))
  tin : PySem.W.typeIn K (.ref fI) = some (.type "function")
  no : PySem.W.findIn K (.ref C) f = some none
  x : XfC K C
  i : ExcD K C
/-- an own error class without own __init__ -/
structure ErrZ (K : PySem.W.Frag) (C : Addr) : Prop where
  x : PySem.W.excIn K C [.type "ValueError", .type "Exception", .type "BaseException", .type "object"] "ValueError.__new__" = true
  k : PySem.W.keepIn K (.ref C) = true
  i : ExcD K C
/-- what the top has written -/
structure Tx (w : World) (K : PySem.W.Frag) (mg : Str → Option Value) (a : Ad) : Prop where
  F_is_integer : Fun K "is_integer" "is_integer" s_is_integer a.f_is_integer a.d_is_integer
  b_is_integer : Binds K a.d_is_integer ["value"] []
  m_is_integer : mg "is_integer" = some (.ref a.f_is_integer)
  F_is_between : Fun K "is_between" "is_between" s_is_between a.f_is_between a.d_is_between
  b_is_between : Binds K a.d_is_between ["value", "low", "high"] []
  m_is_between : mg "is_between" = some (.ref a.f_is_between)
  F_first_wrong : Fun K "first_wrong" "first_wrong" s_first_wrong a.f_first_wrong a.d_first_wrong
  b_first_wrong : Binds K a.d_first_wrong ["row", "size"] []
  m_first_wrong : mg "first_wrong" = some (.ref a.f_first_wrong)
  F_BadWord_init : Fun K "__init__" "BadWord.__init__" s_BadWord_init a.f_BadWord_init a.d_BadWord_init
  b_BadWord_init : Binds K a.d_BadWord_init ["self", "index"] []
  F_BadSize_init : Fun K "__init__" "BadSize.__init__" s_BadSize_init a.f_BadSize_init a.d_BadSize_init
  b_BadSize_init : Binds K a.d_BadSize_init ["self", "size"] []
  F_BadPlace_init : Fun K "__init__" "BadPlace.__init__" s_BadPlace_init a.f_BadPlace_init a.d_BadPlace_init
  b_BadPlace_init : Binds K a.d_BadPlace_init ["self", "place"] []
  F_BadRow_init : Fun K "__init__" "BadRow.__init__" s_BadRow_init a.f_BadRow_init a.d_BadRow_init
  b_BadRow_init : Binds K a.d_BadRow_init ["self", "index"] []
  F_check_row : Fun K "check_row" "check_row" s_check_row a.f_check_row a.d_check_row
  b_check_row : Binds K a.d_check_row ["row"] []
  m_check_row : mg "check_row" = some (.ref a.f_check_row)
  F_is_figure_behind : Fun K "is_figure_behind" "is_figure_behind" s_is_figure_behind a.f_is_figure_behind a.d_is_figure_behind
  b_is_figure_behind : Binds K a.d_is_figure_behind ["fronts", "text"] []
  m_is_figure_behind : mg "is_figure_behind" = some (.ref a.f_is_figure_behind)
  F_is_place_word : Fun K "is_place_word" "is_place_word" s_is_place_word a.f_is_place_word a.d_is_place_word
  b_is_place_word : Binds K a.d_is_place_word ["text"] []
  m_is_place_word : mg "is_place_word" = some (.ref a.f_is_place_word)
  F_is_amount : Fun K "is_amount" "is_amount" s_is_amount a.f_is_amount a.d_is_amount
  b_is_amount : Binds K a.d_is_amount ["text"] []
  m_is_amount : mg "is_amount" = some (.ref a.f_is_amount)
  F_place_of : Fun K "place_of" "place_of" s_place_of a.f_place_of a.d_place_of
  b_place_of : Binds K a.d_place_of ["word", "size"] []
  m_place_of : mg "place_of" = some (.ref a.f_place_of)
  F_amount_of : Fun K "amount_of" "amount_of" s_amount_of a.f_amount_of a.d_amount_of
  b_amount_of : Binds K a.d_amount_of ["text", "length"] []
  m_amount_of : mg "amount_of" = some (.ref a.f_amount_of)
  F_is_part : Fun K "is_part" "is_part" s_is_part a.f_is_part a.d_is_part
  b_is_part : Binds K a.d_is_part ["text", "kind"] []
  m_is_part : mg "is_part" = some (.ref a.f_is_part)
  F_read_move : Fun K "read_move" "read_move" s_read_move a.f_read_move a.d_read_move
  b_read_move : Binds K a.d_read_move ["parts", "start", "may_turn"] []
  m_read_move : mg "read_move" = some (.ref a.f_read_move)
  F_read_moves : Fun K "read_moves" "read_moves" s_read_moves a.f_read_moves a.d_read_moves
  b_read_moves : Binds K a.d_read_moves ["parts", "start"] []
  m_read_moves : mg "read_moves" = some (.ref a.f_read_moves)
  F_exchanged : Fun K "exchanged" "exchanged" s_exchanged a.f_exchanged a.d_exchanged
  b_exchanged : Binds K a.d_exchanged ["old", "x", "y"] []
  m_exchanged : mg "exchanged" = some (.ref a.f_exchanged)
  F_rolled : Fun K "rolled" "rolled" s_rolled a.f_rolled a.d_rolled
  b_rolled : Binds K a.d_rolled ["old", "x", "y", "amount"] []
  m_rolled : mg "rolled" = some (.ref a.f_rolled)
  F_moved : Fun K "moved" "moved" s_moved a.f_moved a.d_moved
  b_moved : Binds K a.d_moved ["old", "move"] []
  m_moved : mg "moved" = some (.ref a.f_moved)
  F_Word_init : Fun K "__init__" "Word.__init__" s_Word_init a.f_Word_init a.d_Word_init
  b_Word_init : Binds K a.d_Word_init ["self", "text"] []
  F_Word_eq : Fun K "__eq__" "Word.__eq__" s_Word_eq a.f_Word_eq a.d_Word_eq
  b_Word_eq : Binds K a.d_Word_eq ["self", "other"] []
  F_Word_at : Fun K "at" "Word.at" s_Word_at a.f_Word_at a.d_Word_at
  b_Word_at : Binds K a.d_Word_at ["self", "k"] []
  F_common_way : Fun K "common_way" "common_way" s_common_way a.f_common_way a.d_common_way
  b_common_way : Binds K a.d_common_way ["run", "other"] []
  m_common_way : mg "common_way" = some (.ref a.f_common_way)
  F_one_form : Fun K "one_form" "one_form" s_one_form a.f_one_form a.d_one_form
  b_one_form : Binds K a.d_one_form ["pieces"] []
  m_one_form : mg "one_form" = some (.ref a.f_one_form)
  F_way_of : Fun K "way_of" "way_of" s_way_of a.f_way_of a.d_way_of
  b_way_of : Binds K a.d_way_of ["size", "rows"] []
  m_way_of : mg "way_of" = some (.ref a.f_way_of)
  F_index_of_run : Fun K "index_of_run" "index_of_run" s_index_of_run a.f_index_of_run a.d_index_of_run
  b_index_of_run : Binds K a.d_index_of_run ["rows", "place"] []
  m_index_of_run : mg "index_of_run" = some (.ref a.f_index_of_run)
  F_goal_of : Fun K "goal_of" "goal_of" s_goal_of a.f_goal_of a.d_goal_of
  b_goal_of : Binds K a.d_goal_of ["run", "place"] []
  m_goal_of : mg "goal_of" = some (.ref a.f_goal_of)
  F_led_on : Fun K "led_on" "led_on" s_led_on a.f_led_on a.d_led_on
  b_led_on : Binds K a.d_led_on ["rows", "run"] []
  m_led_on : mg "led_on" = some (.ref a.f_led_on)
  F_taken_back : Fun K "taken_back" "taken_back" s_taken_back a.f_taken_back a.d_taken_back
  b_taken_back : Binds K a.d_taken_back ["run"] []
  m_taken_back : mg "taken_back" = some (.ref a.f_taken_back)
  F_Runs_init : Fun K "__init__" "Runs.__init__" s_Runs_init a.f_Runs_init a.d_Runs_init
  b_Runs_init : Binds K a.d_Runs_init ["self", "size", "pieces"] []
  F_Runs_eq : Fun K "__eq__" "Runs.__eq__" s_Runs_eq a.f_Runs_eq a.d_Runs_eq
  b_Runs_eq : Binds K a.d_Runs_eq ["self", "other"] []
  F_Runs_mul : Fun K "__mul__" "Runs.__mul__" s_Runs_mul a.f_Runs_mul a.d_Runs_mul
  b_Runs_mul : Binds K a.d_Runs_mul ["self", "other"] []
  F_Runs_invert : Fun K "__invert__" "Runs.__invert__" s_Runs_invert a.f_Runs_invert a.d_Runs_invert
  b_Runs_invert : Binds K a.d_Runs_invert ["self"] []
  F_Runs_at : Fun K "at" "Runs.at" s_Runs_at a.f_Runs_at a.d_Runs_at
  b_Runs_at : Binds K a.d_Runs_at ["self", "j"] []
  F_check_far_size : Fun K "check_far_size" "check_far_size" s_check_far_size a.f_check_far_size a.d_check_far_size
  b_check_far_size : Binds K a.d_check_far_size ["k"] []
  m_check_far_size : mg "check_far_size" = some (.ref a.f_check_far_size)
  F_moved_block : Fun K "moved_block" "moved_block" s_moved_block a.f_moved_block a.d_moved_block
  b_moved_block : Binds K a.d_moved_block ["k", "x", "y", "pieces"] []
  m_moved_block : mg "moved_block" = some (.ref a.f_moved_block)
  F_move_runs : Fun K "move_runs" "move_runs" s_move_runs a.f_move_runs a.d_move_runs
  b_move_runs : Binds K a.d_move_runs ["move", "k"] []
  m_move_runs : mg "move_runs" = some (.ref a.f_move_runs)
  F_runs_of : Fun K "runs_of" "runs_of" s_runs_of a.f_runs_of a.d_runs_of
  b_runs_of : Binds K a.d_runs_of ["word", "k"] []
  m_runs_of : mg "runs_of" = some (.ref a.f_runs_of)
  F_runs_of_list : Fun K "runs_of_list" "runs_of_list" s_runs_of_list a.f_runs_of_list a.d_runs_of_list
  b_runs_of_list : Binds K a.d_runs_of_list ["row"] []
  m_runs_of_list : mg "runs_of_list" = some (.ref a.f_runs_of_list)
  F_nothing_runs : Fun K "nothing_runs" "nothing_runs" s_nothing_runs a.f_nothing_runs a.d_nothing_runs
  b_nothing_runs : Binds K a.d_nothing_runs ["k"] []
  m_nothing_runs : mg "nothing_runs" = some (.ref a.f_nothing_runs)
  F_exchange_runs : Fun K "exchange_runs" "exchange_runs" s_exchange_runs a.f_exchange_runs a.d_exchange_runs
  b_exchange_runs : Binds K a.d_exchange_runs ["k", "x", "y"] []
  m_exchange_runs : mg "exchange_runs" = some (.ref a.f_exchange_runs)
  F_roll_runs : Fun K "roll_runs" "roll_runs" s_roll_runs a.f_roll_runs a.d_roll_runs
  b_roll_runs : Binds K a.d_roll_runs ["k", "x", "y", "c"] []
  m_roll_runs : mg "roll_runs" = some (.ref a.f_roll_runs)
  F_wider_runs : Fun K "wider_runs" "wider_runs" s_wider_runs a.f_wider_runs a.d_wider_runs
  b_wider_runs : Binds K a.d_wider_runs ["runs"] []
  m_wider_runs : mg "wider_runs" = some (.ref a.f_wider_runs)
  F__law_form : Fun K "_law_form" "_law_form" s__law_form a.f__law_form a.d__law_form
  b__law_form : Binds K a.d__law_form ["row"] []
  m__law_form : mg "_law_form" = some (.ref a.f__law_form)
  F__law_blocks : Fun K "_law_blocks" "_law_blocks" s__law_blocks a.f__law_blocks a.d__law_blocks
  b__law_blocks : Binds K a.d__law_blocks ["pen", "size"] []
  m__law_blocks : mg "_law_blocks" = some (.ref a.f__law_blocks)
  F__law_pen : Fun K "_law_pen" "_law_pen" s__law_pen a.f__law_pen a.d__law_pen
  b__law_pen : Binds K a.d__law_pen ["script"] []
  m__law_pen : mg "_law_pen" = some (.ref a.f__law_pen)
  F__law_draw : Fun K "_law_draw" "_law_draw" s__law_draw a.f__law_draw a.d__law_draw
  b__law_draw : Binds K a.d__law_draw ["pen", "many"] []
  m__law_draw : mg "_law_draw" = some (.ref a.f__law_draw)
  F__law_pick : Fun K "_law_pick" "_law_pick" s__law_pick a.f__law_pick a.d__law_pick
  b__law_pick : Binds K a.d__law_pick ["pen", "some"] []
  m__law_pick : mg "_law_pick" = some (.ref a.f__law_pick)
  F__law_shuffled : Fun K "_law_shuffled" "_law_shuffled" s__law_shuffled a.f__law_shuffled a.d__law_shuffled
  b__law_shuffled : Binds K a.d__law_shuffled ["pen", "some"] []
  m__law_shuffled : mg "_law_shuffled" = some (.ref a.f__law_shuffled)
  F__law_place_word : Fun K "_law_place_word" "_law_place_word" s__law_place_word a.f__law_place_word a.d__law_place_word
  b__law_place_word : Binds K a.d__law_place_word ["pen"] []
  m__law_place_word : mg "_law_place_word" = some (.ref a.f__law_place_word)
  F__law_value : Fun K "_law_value" "_law_value" s__law_value a.f__law_value a.d__law_value
  b__law_value : Binds K a.d__law_value ["word", "k"] []
  m__law_value : mg "_law_value" = some (.ref a.f__law_value)
  F__law_amount : Fun K "_law_amount" "_law_amount" s__law_amount a.f__law_amount a.d__law_amount
  b__law_amount : Binds K a.d__law_amount ["pen"] []
  m__law_amount : mg "_law_amount" = some (.ref a.f__law_amount)
  F__law_move : Fun K "_law_move" "_law_move" s__law_move a.f__law_move a.d__law_move
  b__law_move : Binds K a.d__law_move ["pen", "has_turn"] []
  m__law_move : mg "_law_move" = some (.ref a.f__law_move)
  F__law_moves : Fun K "_law_moves" "_law_moves" s__law_moves a.f__law_moves a.d__law_moves
  b__law_moves : Binds K a.d__law_moves ["pen"] []
  m__law_moves : mg "_law_moves" = some (.ref a.f__law_moves)
  F__law_word_text : Fun K "_law_word_text" "_law_word_text" s__law_word_text a.f__law_word_text a.d__law_word_text
  b__law_word_text : Binds K a.d__law_word_text ["moves"] []
  m__law_word_text : mg "_law_word_text" = some (.ref a.f__law_word_text)
  F__law_moved : Fun K "_law_moved" "_law_moved" s__law_moved a.f__law_moved a.d__law_moved
  b__law_moved : Binds K a.d__law_moved ["row", "move"] []
  m__law_moved : mg "_law_moved" = some (.ref a.f__law_moved)
  F__law_all_moved : Fun K "_law_all_moved" "_law_all_moved" s__law_all_moved a.f__law_all_moved a.d__law_all_moved
  b__law_all_moved : Binds K a.d__law_all_moved ["row", "moves"] []
  m__law_all_moved : mg "_law_all_moved" = some (.ref a.f__law_all_moved)
  F__law_refused : Fun K "_law_refused" "_law_refused" s__law_refused a.f__law_refused a.d__law_refused
  b__law_refused : Binds K a.d__law_refused ["call"] []
  m__law_refused : mg "_law_refused" = some (.ref a.f__law_refused)
  F__law_is_told : Fun K "_law_is_told" "_law_is_told" s__law_is_told a.f__law_is_told a.d__law_is_told
  b__law_is_told : Binds K a.d__law_is_told ["told", "row"] []
  m__law_is_told : mg "_law_is_told" = some (.ref a.f__law_is_told)
  F__law_lists_refused : Fun K "_law_lists_refused" "_law_lists_refused" s__law_lists_refused a.f__law_lists_refused a.d__law_lists_refused
  L__law_lists_refused : FunL K "_law_lists_refused" "_law_lists_refused" s__law_lists_refused a.f__law_lists_refused a.d__law_lists_refused a.c__law_lists_refused
  b__law_lists_refused : Binds K a.d__law_lists_refused ["pen", "blocks"] []
  m__law_lists_refused : mg "_law_lists_refused" = some (.ref a.f__law_lists_refused)
  F_law : Fun K "law" "law" s_law a.f_law a.d_law
  L_law : FunL K "law" "law" s_law a.f_law a.d_law a.c_law
  b_law : Binds K a.d_law ["script"] []
  m_law : mg "law" = some (.ref a.f_law)
  c_EveryError : mg "EveryError" = some (.ref a.C_EveryError)
  c_BadWord : mg "BadWord" = some (.ref a.C_BadWord)
  c_BadSize : mg "BadSize" = some (.ref a.C_BadSize)
  c_BadPlace : mg "BadPlace" = some (.ref a.C_BadPlace)
  c_BadRow : mg "BadRow" = some (.ref a.C_BadRow)
  c_Word : mg "Word" = some (.ref a.C_Word)
  c_Runs : mg "Runs" = some (.ref a.C_Runs)
  cl_Word : Cls K a.C_Word
  mk_Word : Mk K a.C_Word a.f_Word_init
  n_Word_text : NoAttr K a.C_Word "text"
  n_Word_moves : NoAttr K a.C_Word "moves"
  n_Word_has_turn : NoAttr K a.C_Word "has_turn"
  me_Word_at : Meth K a.C_Word "at" a.f_Word_at
  ow_Word : OwnC K a.C_Word a.f_Word_eq
  cl_Runs : Cls K a.C_Runs
  mk_Runs : Mk K a.C_Runs a.f_Runs_init
  n_Runs_size : NoAttr K a.C_Runs "size"
  n_Runs_rows : NoAttr K a.C_Runs "rows"
  n_Runs_way : NoAttr K a.C_Runs "way"
  me_Runs_at : Meth K a.C_Runs "at" a.f_Runs_at
  ow_Runs : OwnC K a.C_Runs a.f_Runs_eq
  ow2_Runs : OwnC2 K a.C_Runs
  mu_Runs : MulC K a.C_Runs a.f_Runs_mul
  iv_Runs : InvC K a.C_Runs a.f_Runs_invert
  ox_BadWord : ErrC K a.C_BadWord a.f_BadWord_init "index"
  em_BadWord_BadPlace : PySem.W.exmOne K (.ref a.C_BadWord) (.ref a.C_BadPlace) = some false
  em_BadWord_BadRow : PySem.W.exmOne K (.ref a.C_BadWord) (.ref a.C_BadRow) = some false
  em_BadWord_BadSize : PySem.W.exmOne K (.ref a.C_BadWord) (.ref a.C_BadSize) = some false
  kt_BadWord_EveryError : PySem.W.kitOne K (.ref a.C_BadWord) (.ref a.C_EveryError) = some true
  ox_BadSize : ErrC K a.C_BadSize a.f_BadSize_init "size"
  em_BadSize_BadPlace : PySem.W.exmOne K (.ref a.C_BadSize) (.ref a.C_BadPlace) = some false
  em_BadSize_BadRow : PySem.W.exmOne K (.ref a.C_BadSize) (.ref a.C_BadRow) = some false
  em_BadSize_BadSize : PySem.W.exmOne K (.ref a.C_BadSize) (.ref a.C_BadSize) = some true
  kt_BadSize_EveryError : PySem.W.kitOne K (.ref a.C_BadSize) (.ref a.C_EveryError) = some true
  ox_BadPlace : ErrC K a.C_BadPlace a.f_BadPlace_init "place"
  em_BadPlace_BadPlace : PySem.W.exmOne K (.ref a.C_BadPlace) (.ref a.C_BadPlace) = some true
  em_BadPlace_BadRow : PySem.W.exmOne K (.ref a.C_BadPlace) (.ref a.C_BadRow) = some false
  em_BadPlace_BadSize : PySem.W.exmOne K (.ref a.C_BadPlace) (.ref a.C_BadSize) = some false
  kt_BadPlace_EveryError : PySem.W.kitOne K (.ref a.C_BadPlace) (.ref a.C_EveryError) = some true
  ox_BadRow : ErrC K a.C_BadRow a.f_BadRow_init "index"
  em_BadRow_BadPlace : PySem.W.exmOne K (.ref a.C_BadRow) (.ref a.C_BadPlace) = some false
  em_BadRow_BadRow : PySem.W.exmOne K (.ref a.C_BadRow) (.ref a.C_BadRow) = some true
  em_BadRow_BadSize : PySem.W.exmOne K (.ref a.C_BadRow) (.ref a.C_BadSize) = some false
  kt_BadRow_EveryError : PySem.W.kitOne K (.ref a.C_BadRow) (.ref a.C_EveryError) = some true
  z_bool : mg "bool" = none
  z_enumerate : mg "enumerate" = none
  z_int : mg "int" = none
  z_isinstance : mg "isinstance" = none
  z_len : mg "len" = none
  z_list : mg "list" = none
  z_max : mg "max" = none
  z_min : mg "min" = none
  z_range : mg "range" = none
  z_sorted : mg "sorted" = none
  z_str : mg "str" = none
  z_sum : mg "sum" = none
  z_tuple : mg "tuple" = none
  m_MOST_PLACES : ∃ t, mg "MOST_PLACES" = some (.int 1000 t)
  m_MOST_MOVES : ∃ t, mg "MOST_MOVES" = some (.int 4 t)
  m_FIGURES : mg "FIGURES" = some (.ref a.a_FIGURES)
  q_FIGURES : ∀ H : Hp, SqT K H a.a_FIGURES [.str "1", .str "2", .str "3", .str "4", .str "5", .str "6", .str "7", .str "8", .str "9"]
  m_PLACE_FRONTS : mg "PLACE_FRONTS" = some (.ref a.a_PLACE_FRONTS)
  q_PLACE_FRONTS : ∀ H : Hp, SqT K H a.a_PLACE_FRONTS [.str "", .str "-", .str "half-", .str "half+"]
  m_AMOUNT_FRONTS : mg "AMOUNT_FRONTS" = some (.ref a.a_AMOUNT_FRONTS)
  q_AMOUNT_FRONTS : ∀ H : Hp, SqT K H a.a_AMOUNT_FRONTS [.str "", .str "-"]
  m_SHAPES : mg "SHAPES" = some (.ref a.a_SHAPES)
  D_SHAPES : ∃ es n, KDict K w a.a_SHAPES es n
  e_SHAPES : PySem.W.nsIn K a.a_SHAPES "" = some none
  K_SHAPES : ∃ es n, KDict K w a.a_SHAPES es n ∧ keyB ["exchange", "roll", "turn"] es.toList = true
  v_SHAPES_0 : ∃ p, PySem.W.nsIn K a.a_SHAPES "exchange" = some (some (.ref p)) ∧ ∀ H : Hp, SqT K H p [.str "place", .str "place"]
  v_SHAPES_1 : ∃ p, PySem.W.nsIn K a.a_SHAPES "roll" = some (some (.ref p)) ∧ ∀ H : Hp, SqT K H p [.str "place", .str "place", .str "amount"]
  v_SHAPES_2 : ∃ p, PySem.W.nsIn K a.a_SHAPES "turn" = some (some (.ref p)) ∧ ∀ H : Hp, SqT K H p []
  m_NO_PART : ∃ t, mg "NO_PART" = some (.str "" t)
  m_MOST_SIZE : ∃ t, mg "MOST_SIZE" = some (.int 1000000000000000000000000000000 t)
  m_FEW : ∃ t, mg "FEW" = some (.int 100 t)
def tabsOf (a : Ad) : List (Addr × Str) := [(a.p__law_lists_refused, (("_law_lists_refused" : Str) ++ ".<locals>." ++ "<lambda>")), (a.p_law, (("law" : Str) ++ ".<locals>." ++ "<lambda>"))]
/-- the tables of the code objects of lambdas -/
structure Tb (base : Heap) (mg : Str → Option Value) (a : Ad) : Prop where
  tb__law_lists_refused : LamX.TabB base mg a.c__law_lists_refused a.p__law_lists_refused
  hu__law_lists_refused : ∀ p ∈ tabsOf a, p.1 = a.p__law_lists_refused → p.2 = (("_law_lists_refused" : Str) ++ ".<locals>." ++ "<lambda>")
  tb_law : LamX.TabB base mg a.c_law a.p_law
  hu_law : ∀ p ∈ tabsOf a, p.1 = a.p_law → p.2 = (("law" : Str) ++ ".<locals>." ++ "<lambda>")






/-! ### several clauses `except X as n` -/
/-- what such clauses wish of an exception of the body, one after the other: class, slot of the name, suite -/
def wManyAs (K : PySem.W.Frag) (Wout : WX) (D : Ends) : List (Value × Nat × (Addr → Value → Option Addr → TS)) → WX
  | [] => Wout
  | (c, i, ts) :: r => fun cls d σ H => ∃ b, PySem.W.exmOne K cls c = some b ∧
      (b = true → ∀ a, H a = none → ts a cls d { nx := fun σ' H' => D.nx (σ'.set i none) H', rt := D.rt, bk := fun σ' H' => D.bk (σ'.set i none) H', ct := fun σ' H' => D.ct (σ'.set i none) H' } (σ.set i (some (.ref a))) H) ∧
      (b = false → wManyAs K Wout D r cls d σ H)
inductive HdsAs (X : Cx) : List ExceptHandler → List (Value × Nat × (Addr → Value → Option Addr → TS)) → Prop
  | nil : HdsAs X [] []
  | cons {x n : Str} {c : Value} {i : Nat} {ts : Addr → Value → Option Addr → TS} {b₀ : Stmt} {suite : List Stmt} {np pos' : Pos} {hds : List ExceptHandler} {l : List (Value × Nat × (Addr → Value → Option Addr → TS))}
      (hi : X.N[i]? = some n) (hln : X.env.kindOf n = some .local) (hc : Names X x c)
      (hsu : ∀ (a : Addr) (oe : Obj) (cls : Value) (d : Option Addr) (pn : List (Addr × Obj)), Zc cls d oe → (∃ vs, oe.data = .fields vs) → PSs (X.suite a ((a, oe) :: pn)) (b₀ :: suite) (ts a cls d)) (r : HdsAs X hds l) :
      HdsAs X (.ExceptHandler (some (.Name x np)) (some n) (b₀ :: suite) pos' :: hds) ((c, i, ts) :: l)
section
variable {X : Cx} {body : List Stmt} {h₀ : ExceptHandler} {hds : List ExceptHandler} {l : List (Value × Nat × (Addr → Value → Option Addr → TS))} {pos : Pos} {tb : WX → TS} {Wout : WX}
theorem ps_try_manyAs (hs : X.stack = X.env :: X.outer) (hf : X.env.frame = some X.env.locals) (hN : X.N.Nodup) (tk : Takes X Wout)
    (hb : ∀ (W : WX) (pn : List (Addr × Obj)) (xe : Value → Shared → Prop), Takes (X.tr pn xe) W → PassesOwn (model X.prog X.w) X.A X.env xe → PSs (X.tr pn xe) body (tb W))
    (hh : HdsAs X (h₀ :: hds) l) : PS X (.Try body (h₀ :: hds) [] [] pos) (fun D σ H => tb (wManyAs X.K Wout D l) D σ H) := by
  refine ⟨fun pins s σ H D I h => ?_⟩
  have ok := I.ok
  have hfr : X.A.frames = some (X.env :: X.outer) := by rw [ok.frames, hs]
  refine wpAny_Try_except ?_
  refine wpAny_mono ((hb (wManyAs X.K Wout D l) (X.pn ++ pins) (fun e s₁ => wpAny (model X.prog X.w) X.A (noteFrame e X.env) (fun _ s₂ => wpAny (model X.prog X.w) X.A (setFlight e none) (fun _ s₃ =>
    wpAny (model X.prog X.w) X.A (handleBy e X.env (h₀ :: hds)) (SP X pins D) X.xe s₃) X.xe s₂) X.xe s₁) (fun u s' xx => ?_) PassesOwn.looking).run [] s σ H D (I.toTry _) h) (fun f s1 hsp => ?_) (fun e s1 he => he)
  · -- an exception arrives
    obtain ⟨a, B, sI, pins', σ', H', cls, d, rfl, J', nb, up, sky, na, os, ag, want⟩ := xx
    have J : Inv X pins σ' H' sI := J'.ofTry ok
    show wpAny (model X.prog X.w) X.A (noteFrame (.ref a) X.env) _ _ _
    refine Sky.land Zc.steady hfr hf (show Sky B (X.env :: X.outer) a (Zc cls d) X.env.locals s'.heap by rw [← hs]; exact sky) fun h3 fl3 up3 => ?_
    have J3 : Inv X pins σ' H' { s' with heap := h3 } := J.landed nb fl3.1 (up.trans up3) os ag
    obtain ⟨oe3, vs3, he3, hz3, hd3⟩ := fl3.there
    have nfr : a ∉ frs (X.env :: X.outer) := fun hm => by
      obtain ⟨_, o', e', hnf⟩ := fl3.2.2.1.mem hm
      rw [he3] at e'
      cases e'
      exact hnf _ hd3
    have nL : a ≠ X.env.locals := fun z => nfr (List.mem_filterMap.mpr ⟨X.env, List.mem_cons_self, by rw [hf, z]⟩)
    have nF : a ∉ X.fs := fun hm => by
      obtain ⟨e, he, q⟩ := List.mem_filterMap.mp hm
      exact nfr (List.mem_filterMap.mpr ⟨e, List.mem_cons_of_mem _ he, q⟩)
    have S3 := J3.suite he3 hd3 na nL nF
    have LT : PySem.W.Looks (model X.prog X.w) h3 (typeOf (.ref a)) cls := fun A Q E s k q => wpAny_typeOf_ref (k _ _ he3) (by rw [hz3.1]; exact q)
    have each : ∀ {hds' : List ExceptHandler} {l' : List (Value × Nat × (Addr → Value → Option Addr → TS))}, HdsAs X hds' l' → wManyAs X.K Wout D l' cls d σ' H' →
        wpAny (model X.prog X.w) X.A (handleBy (.ref a) X.env hds') (SP X pins D) X.xe { s' with heap := h3 } := by
      intro hds' l' hk
      induction hk with
      | nil =>
        intro w
        refine wpAny_handleBy_nil ?_
        obtain ⟨_, _, _, oe, vs, T, oT, ts', he, hz, hd, h1, hr⟩ := id fl3
        unfold PySem.passOn
        refine wpAny_bind (wpAny_field he hd h1 ?_)
        rw [if_neg (show ¬ ((Value.ref T == Value.none) = true) from by simp)]
        have fin : wpAny (model X.prog X.w) X.A (setFlight (.ref a) X.env.frame) (fun _ s4 => wpAny (model X.prog X.w) X.A (throw (.ref a) : Sem Flow) (SP X pins D) X.xe s4) X.xe { s' with heap := h3 } := by
          rw [hf]
          exact HandSPX.setFlight_upZ fl3 fun h4 hh4 up4 => wpAny_throw (tk _ _ ⟨a, B, sI, pins, σ', H', cls, d, rfl, J, nb, (up.trans up3).trans up4, .inr (.inr (by rw [hs]; exact hh4)), na, os, ag, w⟩)
        first
          | exact wpAny_bind (wpAny_pure (wpAny_bind fin))
          | exact wpAny_bind fin
      | @cons x n c i ts b₀ suite np pos' hds2 l2 hi hln hc hsu r ih =>
        rintro ⟨b, hb1, hyes, hno⟩
        refine wpAny_handleBy_cons (codeAny_handlers_test ?_) (by intro q; cases q)
        have named : ∀ {Q : Value → Shared → Prop} {E : Value → Shared → Prop}, Q c { s' with heap := h3 } → wpAny (model X.prog X.w) (X.A.mark (some (.ref a))) (eval (.Name x np) X.env) Q E { s' with heap := h3 } := fun {Q E} q => by
          obtain ⟨hg, hdbg, hm | ⟨hm, hv, hnn⟩⟩ := hc
          · exact ld_glob (X := X.suite a ((a, oe3) :: (X.pn ++ pins))) S3 hg hm q hdbg
          · exact ld_blt (X := X.suite a ((a, oe3) :: (X.pn ++ pins))) S3 hg hm hv q hnn hdbg
        refine named ((PySem.W.exm_one (M := model X.prog X.w) (J3.kIn) LT hb1).here ?_)
        cases b with
        | false =>
          show wpAny _ X.A (handleBy (.ref a) X.env hds2) _ _ _
          exact ih (hno rfl)
        | true =>
          refine codeAny_handlers_suite_as ?_
          refine HandSPX.lands_againZ fl3 fun h4 fl4 up4 => ?_
          have J4 : Inv X pins σ' H' { s' with heap := h4 } := J.landed nb fl4.1 ((up.trans up3).trans up4) os ag
          obtain ⟨oe4, vs4, he4, hz4, hd4⟩ := fl4.there
          refine store_ok (X := X.suite a ((a, oe4) :: (X.pn ++ pins))) (v := .ref a) (J4.suite he4 hd4 na nL nF) hN hi (.inl hln) rfl (fun s5 S5 => ?_) (.inr hln)
          refine wpAny_mono ((hsu a oe4 cls d (X.pn ++ pins) hz4 ⟨_, hd4⟩).run [] s5 _ H' _ S5 (hyes rfl a na)) (fun f s6 hsp => ?_) (fun _ _ z => False.elim z)
          have gone : ∀ {σ6 : L2.St} {H6 : Hp} {Q : Shared → Prop}, Inv (X.suite a ((a, oe4) :: (X.pn ++ pins))) [] σ6 H6 s6 → (∀ s7, Inv X pins (σ6.set i none) H6 s7 → Q s7) →
              wpAny (model X.prog X.w) X.A (do bindName X.env n .none; unbindBehindTheSuite X.env n pos') (fun _ s7 => Q s7) X.xe s6 := fun {σ6 H6 Q} S6 hq => gone_ok (S6.unsuite ok) hN hi hln hq
          cases f with
          | next =>
            obtain ⟨σ6, H6, S6, q6⟩ := hsp
            exact gone S6 fun s7 J7 => ⟨_, _, J7, q6⟩
          | brk =>
            obtain ⟨σ6, H6, S6, q6⟩ := hsp
            exact gone S6 fun s7 J7 => ⟨_, _, J7, q6⟩
          | cont =>
            obtain ⟨σ6, H6, S6, q6⟩ := hsp
            exact gone S6 fun s7 J7 => ⟨_, _, J7, q6⟩
          | ret u =>
            obtain ⟨v6, σ6, H6, S6, r6, q6⟩ := hsp
            exact gone S6 fun s7 J7 => ⟨_, _, _, J7, r6, q6⟩
    exact each hh want
  · cases f with
    | next =>
      obtain ⟨σ', H', J', q⟩ := hsp
      exact wpAny_execs_nil ⟨σ', H', J'.ofTry ok, q⟩
    | brk =>
      obtain ⟨σ', H', J', q⟩ := hsp
      exact ⟨σ', H', J'.ofTry ok, q⟩
    | cont =>
      obtain ⟨σ', H', J', q⟩ := hsp
      exact ⟨σ', H', J'.ofTry ok, q⟩
    | ret u =>
      obtain ⟨v, σ', H', J', r, q⟩ := hsp
      exact ⟨v, σ', H', J'.ofTry ok, r, q⟩
end
/-! ### isinstance of a caught error with fields -/
theorem clsIn_of {K : PySem.W.Frag} {D : Addr} (h : PySem.W.hasDictIn K D = true) : (PySem.W.clsIn K D).isSome = true := by
  obtain ⟨cd, hc, _⟩ := PySem.W.any_some h
  rw [hc]
  rfl
theorem exm_ofHd {K : PySem.W.Frag} {C : Addr} {cls : Value} {b : Bool} (h1 : PySem.W.subIn K (.ref C) (.type "BaseException") = some true) (hd : PySem.W.hasDictIn K C = true) (ht : PySem.W.typeIn K (.ref C) = some (.type "type")) (h4 : PySem.W.subIn K cls (.ref C) = some b) :
    PySem.W.exmOne K cls (.ref C) = some b := PySem.W.exm_ref h1 hd ht h4
def rIsD (K : PySem.W.Frag) (D a : Addr) (cls : Value) (d : Option Addr) : List V → Hp → VK → Prop := fun xs H Q => ∃ (dd : Addr) (fs : List (Str × V)) (c : V) (cv : Value) (b : Bool), cls = .ref D ∧ d = some dd ∧ H dd = some (.xd fs) ∧ xs = [.ref a, c] ∧ (∀ u, RelV c u → u = cv) ∧ PySem.W.kitOne K (.ref D) cv = some b ∧ Q (.bl b) H
theorem call_isD {X : Cx} {a D : Addr} {oe : Obj} {cls : Value} {d : Option Addr} {pn : List (Addr × Obj)} (C : ExcD X.K D) (hz : Zc cls d oe) (hf : ∃ vs, oe.data = .fields vs) : CallR (X.suite a ((a, oe) :: pn)) (.builtin "isinstance") (rIsD X.K D a cls d) := by
  intro pins s σ H xs us Q I r h
  obtain ⟨dd, fs, c, cv, b, rfl, rfl, ea, rfl, hcv, e, q⟩ := h
  obtain ⟨u1, u2, rfl, r1, r2⟩ := vals2 r
  cases (show u1 = Value.ref a from r1)
  obtain rfl := hcv _ r2
  obtain ⟨hget, _⟩ := I.pin (a, oe) (List.mem_append.mpr (.inl List.mem_cons_self))
  obtain ⟨vs, hv⟩ := hf
  obtain ⟨mA, hns, hr⟩ := (show ObjOk X.prog X.w H s.heap dd (.xd fs) from I.hok dd _ ea)
  obtain ⟨od, ho, hl⟩ := lookIn_ns hns
  have J : PySem.W.InstAt s.heap a oe D (some od) := ⟨hget, hz.1, by unfold PySem.W.notCls; rw [hv] <;> rfl, by rw [hz.2]; exact ho⟩
  exact PySem.W.kia_one (PySem.W.kitx_exc (clsIn_of C.hd) C.hg C.hk C.hs C.ha C.hn C.ht C.hm) I.kIn J e (fun z => nomatch z) fun tk => ⟨.bl b, H, I.tok tk, rfl, q⟩

/-- a try as a statement of a loop's body: the reading by a name -/
def tTryAs (K : PySem.W.Frag) (tb : WX → TS) (Wout : WX) (l : List (Value × Nat × (Addr → Value → Option Addr → TS))) : TS := fun D σ H => tb (wManyAs K Wout D l) D σ H
theorem ps_try_in {X : Cx} {body : List Stmt} {h₀ : ExceptHandler} {hds : List ExceptHandler} {l : List (Value × Nat × (Addr → Value → Option Addr → TS))} {pos : Pos} {tb : WX → TS} {Wout : WX} (hs : X.stack = X.env :: X.outer) (hf : X.env.frame = some X.env.locals) (hN : X.N.Nodup) (tk : Takes X Wout)
    (hb : ∀ (W : WX) (pn : List (Addr × Obj)) (xe : Value → Shared → Prop), Takes (X.tr pn xe) W → PassesOwn (model X.prog X.w) X.A X.env xe → PSs (X.tr pn xe) body (tb W))
    (hh : HdsAs X (h₀ :: hds) l) : PS X (.Try body (h₀ :: hds) [] [] pos) (tTryAs X.K tb Wout l) := ps_try_manyAs hs hf hN tk hb hh

/-! ### an instance made, a method called, where what is raised is wished for at the caller's slots -/
def tMakeS (C : Addr) (sp : Sp) (dvs : List V) (E : L2.St → XK) (t : TA) : TE := fun σ H Q => t σ H fun vs H1 => ∀ x dx, H1 x = none → H1 dx = none → dx ≠ x →
  sp (.ref x :: (vs ++ dvs)) (upd (upd H1 dx (.own x)) x (.ins C dx [])) (fun v H2 => v = .non ∧ Q (.ref x) H2) (E σ)
section
variable {X : Cx} {k : Nat} {f C : Addr} {fd : FuncData} {ps : List Str} {sp : Sp} {W : WX} {x m : Str} {p pos apos : Pos} {e o : Expr} {es : List Expr} {ta : TE} {t : TA} {ds : List Value} {dvs : List V}
theorem run_makeS {pins : List (Addr × Obj)} {σ : L2.St} {H : Hp} {s : Shared} {Q : VK} {us : List Value} {vs : List V} (M : Mk X.K C f) (F : FnOk X.prog X.w X.K X.mg X.base (L2.CX X.prog X.w) k f fd ps sp) (hr : Room (k + 1) X.A) (hb : Binds X.K fd ps ds) (hd : Vals dvs ds)
    (tk : Takes X W) (I : Inv X pins σ H s) (r : Vals vs us)
    (h : ∀ x dx, H x = none → H dx = none → dx ≠ x → sp (.ref x :: (vs ++ dvs)) (upd (upd H dx (.own x)) x (.ins C dx [])) (fun v H2 => v = .non ∧ Q (.ref x) H2) (WE W σ)) :
    wpAny (model X.prog X.w) X.A (call (.ref C) us) (EP X pins σ Q) X.xe s := by
  have hq := h (s.heap.objs.size + 1) s.heap.objs.size (I.hok.fresh (Nat.le_succ _)) (I.hok.fresh (Nat.le_refl _)) (Nat.ne_of_lt (Nat.lt_succ_self _))
  have I2 := Inv.made (C := C) I
  have r2 : Vals (V.ref (s.heap.objs.size + 1) :: (vs ++ dvs)) (Value.ref (s.heap.objs.size + 1) :: (us ++ ds)) := .cons rfl (r.append hd)
  have hl : (Value.ref (s.heap.objs.size + 1) :: us ++ ds).length = ps.length := by
    have e := r2.length
    rw [F.len _ _ _ _ hq] at e
    exact e.symm
  refine wpAny_call (make_map (f := f) I.kIn M.makes M.init (beq_iff_eq.mp M.fn) (codeAny_mono (F.run _ X.stack _ _ ⟨Value.ref (s.heap.objs.size + 1) :: us, []⟩ (Value.ref (s.heap.objs.size + 1) :: (us ++ ds)) _ _ (WE W σ) (hr.make C us [])
    (I2.env0.make C us []) (hb _ (Value.ref (s.heap.objs.size + 1) :: us) I2.kIn hl) r2 hq) fun r s' hq' => ?_))
  cases r with
  | error e => exact passAt tk σ pins _ _ e s' I2 hq'
  | ok fl =>
    cases fl with
    | ret u =>
      obtain ⟨v, H', I3, rv, ev, q3⟩ := I2.after hq'
      subst ev
      exact ⟨rv, ⟨V.ref (s.heap.objs.size + 1), H', I3, rfl, q3⟩⟩
    | next => exact False.elim hq'
    | brk => exact False.elim hq'
    | cont => exact False.elim hq'
theorem pe_makeS (M : Mk X.K C f) (F : FnOk X.prog X.w X.K X.mg X.base (L2.CX X.prog X.w) k f fd ps sp) (hr : Room (k + 1) X.A) (hg : Gl X x) (hm : X.mg x = some (.ref C)) (hb : Binds X.K fd ps ds) (hd : Vals dvs ds) (tk : Takes X W)
    (ha : PA X (e :: es) t) (hdb : (x == ("__debug__" : Str)) = false := by decide) (he : starEach (e :: es) X.env = (false, eval e X.env) :: starEach es X.env := by rfl) (hpl : (backTo pos (starEach es X.env)).any (·.1) = false := by rfl) :
    PE X (.Call (.Name x p) (e :: es) [] pos) (tMakeS C sp dvs (WE W) t) := by
  refine ⟨fun pins s σ H Q I h => ?_⟩
  refine wpAny_Call_Name_kw (ld_glob I hg hm ?_ hdb)
  refine PySem.W.callWith_K (h₀ := X.base) I.ok.mod.kin M.kp (thn (ha.run pos pins s σ H _ I h) fun us s1 ⟨vs, H1, I1, r, q⟩ => ⟨I1.kIn, ?_⟩) he hpl
  exact run_makeS M F hr hb hd tk I1 r q
def tMethS (C : Addr) (m : Str) (sp : Sp) (E : L2.St → XK) (ta : TE) (t : TA) : TE := fun σ H Q => ta σ H fun x H1 => ∃ a dx fs, x = .ref a ∧ H1 a = some (.ins C dx fs) ∧ fs.lookup m = none ∧
  t σ H1 fun vs H2 => sp (x :: vs) H2 Q (E σ)
/-- o.m(e, ..) -/
theorem pe_methS {pl : Sem Bool} (he : PE X o ta) (c : Cls X.K C) (hm : Meth X.K C m f) (F : FnOk X.prog X.w X.K X.mg X.base (L2.CX X.prog X.w) k f fd ps sp) (hr : Room k X.A) (hb : Binds X.K fd ps []) (tk : Takes X W) (ha : PA X (e :: es) t)
    (hst : starEach (e :: es) X.env = (false, eval e X.env) :: starEach es X.env := by rfl) (hpl : (backTo pos (starEach es X.env)).any (·.1) = false := by rfl)
    (ht : eval (.Call (.Attribute o m apos) (e :: es) [] pos) X.env = (do
      let ov ← eval o X.env
      standAt apos.atName
      let (f, first) ← holding [ov] (getMethod ov m pl)
      callWith pos f first (backTo pos (starEach (e :: es) X.env)) (backToKw pos (keywordEach [] X.env))) := by rfl) :
    PE X (.Call (.Attribute o m apos) (e :: es) [] pos) (tMethS C m sp (WE W) ta t) := by
  refine ⟨fun pins s σ H Q I h => ?_⟩
  refine PySem.W.methodCall_KW (pl := pl) (thn (he.run pins s σ H _ I h) fun u s1 ⟨x, H1, I1, rx, a, dx, fs, ex, ea, l, q⟩ => ?_) ht
  subst ex
  obtain rfl : u = Value.ref a := rx
  refine getmeth_ok I1 ea c hm l ?_
  refine PySem.W.callWith_K (first := [.ref a]) (h₀ := X.base) I.ok.mod.kin hm.kp (thn (ha.run pos pins s1 σ H1 _ I1 q) fun us s2 ⟨vs, H2, I2, r, q2⟩ => ⟨I2.kIn, ?_⟩) hst hpl
  exact run_fnS (us := .ref a :: us) (vs := .ref a :: vs) F hr hb (passAt tk σ) I2 (.cons rfl r) q2
end

/-! ### heaps -/
/-- all but what stands at d is as it was -/
def But (d : Addr) (H H' : Hp) : Prop := ∀ b o, H b = some o → b ≠ d → H' b = some o
theorem But.refl {d : Addr} {H : Hp} : But d H H := fun _ _ h _ => h
theorem But.trans {d : Addr} {H H1 H2 : Hp} (x : But d H H1) (y : But d H1 H2) : But d H H2 := fun b o h n => y b o (x b o h n) n
theorem but_same {d : Addr} {H H' : Hp} (h : Same H H') : But d H H' := fun b o e _ => h b o e
theorem same_upd {H : Hp} {p : Addr} {o : HO} (h : H p = none) : Same H (upd H p o) := fun b x e => by
  rw [upd_ne (ne_of_none e h)]
  exact e
theorem but_upd {d : Addr} {H : Hp} {o : HO} : But d H (upd H d o) := fun b x e n => by
  rw [upd_ne n]
  exact e
theorem But.list {d : Addr} {H H' : Hp} {kvs : List (Key × V)} {l : Addr} {xs : List V} (x : But d H H') (hd : H d = some (.dK kvs)) (h : H l = some (.lst xs)) : H' l = some (.lst xs) :=
  x l _ h (ne_of h hd (by intro z; cases z))
theorem But.tup {d : Addr} {H H' : Hp} {kvs : List (Key × V)} {l : Addr} {xs : List V} (x : But d H H') (hd : H d = some (.dK kvs)) (h : H l = some (.tup xs)) : H' l = some (.tup xs) :=
  x l _ h (ne_of h hd (by intro z; cases z))
theorem But.seq {K : PySem.W.Frag} {d : Addr} {H H' : Hp} {kvs : List (Key × V)} {l : Addr} {xs : List V} (x : But d H H') (hd : H d = some (.dK kvs)) (h : SqL K H l xs) : SqL K H' l xs := by
  rcases h with (h | ⟨o, h⟩) | h
  · exact .inl (.inl (x l _ h (ne_of h hd (by intro z; cases z))))
  · exact .inl (.inr ⟨o, x l _ h (ne_of h hd (by intro z; cases z))⟩)
  · exact .inr h
/-- a list changes where none of what is known stood -/
theorem keep_upd {H H' : Hp} {l : Addr} {o : HO} (h : Same H H') (n : H l = none) : Same H (upd H' l o) := fun b u e => by
  rw [upd_ne (ne_of_none e n)]
  exact h b u e
theorem free_of {H H' : Hp} {p : Addr} (e : Same H H') (h : H' p = none) : H p = none := e.free h
theorem SqL.at {K : PySem.W.Frag} {H : Hp} {a : Addr} {xs : List V} (h : H a = some (.lst xs)) : SqL K H a xs := .inl (.inl h)
theorem SqT.at {K : PySem.W.Frag} {H : Hp} {a : Addr} {xs : List V} (h : H a = some (.tup xs)) : SqT K H a xs := .inl (.inl h)
theorem sz {n : Nat} (h : n ≤ 100000) : n ≤ sizeLine := Nat.le_trans h (by decide)
theorem szlt {n : Nat} (h : n ≤ 100000) : n < sizeLine := Nat.lt_of_le_of_lt h (by decide)
/-! ### data: lists of ints -/
def iD (ns : List Int) : PyData := .list (ns.map PyData.int)
theorem dp_all {K : PySem.W.Frag} {H : Hp} : ∀ ns : List Int, DpAll K H (ns.map V.int) (ns.map PyData.int)
  | [] => .nil
  | _ :: r => .cons (.int _) (dp_all r)
theorem dp_ints {K : PySem.W.Frag} {H : Hp} {p : Addr} {ns : List Int} (h : SqL K H p (ns.map V.int)) : Dp K H (.ref p) (iD ns) := .lst h (dp_all ns)
theorem dp_tints {K : PySem.W.Frag} {H : Hp} {p : Addr} {ns : List Int} (h : SqT K H p (ns.map V.int)) : Dp K H (.ref p) (.tuple (ns.map PyData.int)) := .tup h (dp_all ns)
theorem lay_ints : ∀ ns : List Int, PyData.canLayAll0 (ns.map PyData.int) = true
  | [] => by simp [PyData.canLayAll0]
  | _ :: r => by simp [PyData.canLayAll0, PyData.canLay0, lay_ints r]
theorem eqv_all_ints : ∀ ns ms : List Int, PyData.eqvAll (ns.map PyData.int) (ms.map PyData.int) = decide (ns = ms)
  | [], [] => by simp [PyData.eqvAll]
  | [], _ :: _ => by simp [PyData.eqvAll]
  | _ :: _, [] => by simp [PyData.eqvAll]
  | x :: r, y :: u => by
    simp only [List.map_cons, PyData.eqvAll, PyData.eqv, eqv_all_ints r u, List.cons.injEq]
    by_cases h1 : x = y <;> by_cases h2 : r = u <;> simp [h1, h2]
theorem eqv_ints (ns ms : List Int) : PyData.eqv (iD ns) (iD ms) = decide (ns = ms) := by
  unfold iD
  rw [PyData.eqv]
  exact eqv_all_ints ns ms
theorem deep_ints : ∀ ns : List Int, PyData.depthAll (ns.map PyData.int) ≤ 1
  | [] => by simp [PyData.depthAll]
  | _ :: r => by
    have := deep_ints r
    simp only [List.map_cons, PyData.depthAll, PyData.depth]
    omega
theorem shaped_ints {ns : List Int} : SeqAt.shaped (iD ns) = true := by
  unfold SeqAt.shaped iD
  rw [Bool.and_eq_true, decide_eq_true_eq]
  refine ⟨by rw [PyData.canLay0]; exact lay_ints ns, ?_⟩
  have := deep_ints ns
  rw [PyData.depth]
  omega
theorem atI_ints {ns : List Int} {i : Int} (h0 : 0 ≤ i) (h1 : i.toNat < ns.length) : atI (ns.map V.int) i = some (.int (ns[i.toNat]'h1)) := by
  have e : (i.toNat : Int) = i := by omega
  have z : atI (ns.map V.int) (i.toNat : Int) = some (.int (ns[i.toNat]'h1)) := by
    refine atI_nat ?_
    rw [List.getElem?_map, List.getElem?_eq_getElem h1]
    rfl
  rw [e] at z
  exact z
theorem ixN_nat {n : Nat} {i : Int} (h0 : 0 ≤ i) (h1 : i < (n : Int)) : ixN n i = some i.toNat := by
  unfold ixN
  rw [if_pos h0, if_pos h1]
theorem getD_get {ts : List Int} {i : Nat} (h : i < ts.length) : ts.getD i 0 = ts[i] := by
  rw [List.getD_eq_getElem?_getD, List.getElem?_eq_getElem h]
  rfl
theorem inV_ints {x : Int} : ∀ {xs : List Int}, inV (.int x) (xs.map V.int) = decide (x ∈ xs)
  | [] => rfl
  | y :: r => by
    have ih := inV_ints (x := x) (xs := r)
    unfold inV at ih ⊢
    rw [List.map_cons, List.any_cons, ih]
    have e : eqV (.int y) (.int x) = decide (y = x) := rfl
    rw [e]
    by_cases h : y = x
    · subst h
      simp
    · have h2 : ¬ x = y := fun z => h z.symm
      simp [h, h2]
theorem flat_ints (xs : List Int) : (xs.map V.int).all flatV = true := by
  rw [List.all_eq_true]
  intro x hx
  obtain ⟨i, _, rfl⟩ := List.mem_map.mp hx
  rfl

/-! ### the pen: a dict of the script's cells and two ints -/
def penD (c : Addr) (t l : Int) : HO := .dK [((.inr "cells" : Key), V.ref c), ((.inr "at" : Key), V.int t), ((.inr "left" : Key), V.int l)]
structure PenAt (H : Hp) (d c : Addr) (ns : List Int) (t l : Int) : Prop where
  dc : H d = some (penD c t l)
  cs : H c = some (.lst (ns.map V.int))
  len : ns.length ≤ 63
  t0 : 0 ≤ t
/-- a pen with which at most n draws were made -/
def Pen (H : Hp) (d c : Addr) (n : Nat) : Prop := ∃ ns t l, PenAt H d c ns t l ∧ t ≤ n
theorem k1 : ¬ (("cells" : Str) = "at") := by decide +kernel
theorem k2 : ¬ (("cells" : Str) = "left") := by decide +kernel
theorem k3 : ¬ (("at" : Str) = "left") := by decide +kernel
theorem kk {x y : Str} (h : ¬ x = y) : ¬ ((Sum.inr x : Key) = Sum.inr y) := fun z => h (Sum.inr.inj z)
theorem pen_valC {c : Addr} {t l : Int} : valV [((.inr "cells" : Key), V.ref c), ((.inr "at" : Key), V.int t), ((.inr "left" : Key), V.int l)] (.inr "cells") = some (.ref c) := by
  simp [valV, List.find?]
theorem pen_valA {c : Addr} {t l : Int} : valV [((.inr "cells" : Key), V.ref c), ((.inr "at" : Key), V.int t), ((.inr "left" : Key), V.int l)] (.inr "at") = some (.int t) := by
  simp [valV, List.find?, k1]
theorem pen_valL {c : Addr} {t l : Int} : valV [((.inr "cells" : Key), V.ref c), ((.inr "at" : Key), V.int t), ((.inr "left" : Key), V.int l)] (.inr "left") = some (.int l) := by
  simp [valV, List.find?, k2, k3]
theorem pen_C {H : Hp} {d c : Addr} {t l : Int} (h : H d = some (penD c t l)) : DGet H d (.str "cells") (some (.ref c)) := by
  have e := DGet.k (k := Sum.inr "cells") h
  rw [pen_valC] at e
  exact e
theorem pen_A {H : Hp} {d c : Addr} {t l : Int} (h : H d = some (penD c t l)) : DGet H d (.str "at") (some (.int t)) := by
  have e := DGet.k (k := Sum.inr "at") h
  rw [pen_valA] at e
  exact e
theorem pen_L {H : Hp} {d c : Addr} {t l : Int} (h : H d = some (penD c t l)) : DGet H d (.str "left") (some (.int l)) := by
  have e := DGet.k (k := Sum.inr "left") h
  rw [pen_valL] at e
  exact e
theorem pen_putA {c : Addr} {t l u : Int} : putK [((.inr "cells" : Key), V.ref c), ((.inr "at" : Key), V.int t), ((.inr "left" : Key), V.int l)] (.inr "at") (.int u) = [((.inr "cells" : Key), V.ref c), ((.inr "at" : Key), V.int u), ((.inr "left" : Key), V.int l)] := by
  simp [putK, k1, k3, show ¬ (("left" : Str) = "at") from fun h => k3 h.symm]
theorem pen_putL {c : Addr} {t l u : Int} : putK [((.inr "cells" : Key), V.ref c), ((.inr "at" : Key), V.int t), ((.inr "left" : Key), V.int l)] (.inr "left") (.int u) = [((.inr "cells" : Key), V.ref c), ((.inr "at" : Key), V.int t), ((.inr "left" : Key), V.int u)] := by
  simp [putK, k2, k3]
theorem pen_setA {H : Hp} {d c : Addr} {t l u : Int} (h : H d = some (penD c t l)) : DPut H d (.str "at") (.int u) (upd H d (penD c u l)) := by
  have e := DPut.k (k := Sum.inr "at") (v := .int u) h (by show 3 < sizeLine; exact szlt (by decide))
  rw [pen_putA] at e
  exact e
theorem pen_setL {H : Hp} {d c : Addr} {t l u : Int} (h : H d = some (penD c t l)) : DPut H d (.str "left") (.int u) (upd H d (penD c t u)) := by
  have e := DPut.k (k := Sum.inr "left") (v := .int u) h (by show 3 < sizeLine; exact szlt (by decide))
  rw [pen_putL] at e
  exact e
theorem pen_mk {l : Addr} : mergeK [] [((.inr "cells" : Key), V.ref l), ((.inr "at" : Key), V.int 0), ((.inr "left" : Key), V.int 0)] = [((.inr "cells" : Key), V.ref l), ((.inr "at" : Key), V.int 0), ((.inr "left" : Key), V.int 0)] := by
  simp [mergeK, putK, k1, k2, k3]
theorem Pen.same {H H' : Hp} {d c : Addr} {n : Nat} (p : Pen H d c n) (h : Same H H') : Pen H' d c n := by
  obtain ⟨ns, t, l, q, e⟩ := p
  exact ⟨ns, t, l, ⟨h _ _ q.dc, h _ _ q.cs, q.len, q.t0⟩, e⟩
theorem Pen.up {H : Hp} {d c : Addr} {n m : Nat} (p : Pen H d c n) (h : n ≤ m) : Pen H d c m := by
  obtain ⟨ns, t, l, q, e⟩ := p
  exact ⟨ns, t, l, q, by omega⟩
theorem Pen.dict {H : Hp} {d c : Addr} {n : Nat} (p : Pen H d c n) : ∃ kvs, H d = some (.dK kvs) := by
  obtain ⟨ns, t, l, q, e⟩ := p
  exact ⟨_, q.dc⟩
theorem Pen.cells {H : Hp} {d c : Addr} {n : Nat} (p : Pen H d c n) : ∃ o, H c = some o := by
  obtain ⟨ns, t, l, q, e⟩ := p
  exact ⟨_, q.cs⟩
/-- a list that is not the pen's changes -/
theorem Pen.mut {H : Hp} {d c l : Addr} {n : Nat} {o : HO} (p : Pen H d c n) (hd : d ≠ l) (hc : c ≠ l) : Pen (upd H l o) d c n := by
  obtain ⟨ns, t, u, q, e⟩ := p
  exact ⟨ns, t, u, ⟨by rw [upd_ne hd]; exact q.dc, by rw [upd_ne hc]; exact q.cs, q.len, q.t0⟩, e⟩
/-- what stands where nothing stood may change -/
theorem But.mut {d l : Addr} {H H' : Hp} {o : HO} (b : But d H H') (h : H l = none) : But d H (upd H' l o) := fun x u e n => by
  rw [upd_ne (ne_of_none e h)]
  exact b x u e n
theorem cut63 (ns : List Int) : cutV (ns.map V.int) none (some 63) = (ns.take 63).map V.int := by
  unfold cutV
  rw [show HT.sIx (ns.map V.int).length (ns.map V.int).length (some 63) = min 63 (ns.map V.int).length from HT.sIx_nat _ _ 63, HT.sIx_none, List.drop_zero, Nat.sub_zero, List.map_take, List.take_eq_take_iff]
  omega
section
variable {P : Program} {w : World} {K : PySem.W.Frag} {mg : Str → Option Value} {base : Heap} {a : Ad}
def spPen (K : PySem.W.Frag) : Sp := fun vs H Q _ => ∃ (s : Addr) (ns : List Int), vs = [.ref s] ∧ SqL K H s (ns.map V.int) ∧ ns.length ≤ 63 ∧
  ∀ d c H', H d = none → H c = none → Pen H' d c 0 → Same H H' → Q (.ref d) H'
theorem ok__law_pen (T : Tx w K mg a) : FnOk P w K mg base CX0 1 a.f__law_pen a.d__law_pen ["script"] (spPen K) := by
  refine T.F__law_pen.ok sc__law_pen (fun vs H Q E h => ?_) (fun cdv A outer s H vs Q E hr h => ?_)
  · obtain ⟨s, ns, rfl, _⟩ := h
    rfl
  · obtain ⟨x, ns, rfl, hS, hlen, q⟩ := h
    have hu := hu_of hr
    refine ⟨_, 
(pss_one (ps_ret (pe_disp (pps_cons pe_str (pe_callTy call_list_of (by rfl) T.z_list (by decide +kernel) (pa_cons (pe_slice sl_list (pv 0) po_none (po_some pe_int)) pa_nil)) (pps_cons pe_str pe_int (pps_cons pe_str pe_int pps_nil))) (by rfl) (by rfl) (fun z => by cases z) (by decide)))), ?_⟩
    intro d hd
    have s1 : Same H (upd H d (.dK [])) := same_upd hd
    refine ⟨.ref x, rfl, 63, rfl, x, ns.map V.int, rfl, s1.seq hS, fun p hp => ?_⟩
    have s2 : Same (upd H d (.dK [])) (upd (upd H d (.dK [])) p (.lst (cutV (ns.map V.int) none (some 63)))) := same_upd hp
    refine ⟨p, _, rfl, .inl (SqL.at upd_same), fun l hl => ?_⟩
    have s3 := same_upd (o := .lst (cutV (ns.map V.int) none (some 63))) hl
    have hd3 := s3 _ _ (s2 _ _ (upd_same (H := H) (a := d) (o := .dK [])))
    have hl3 : (upd (upd (upd H d (.dK [])) p (.lst (cutV (ns.map V.int) none (some 63)))) l (.lst (cutV (ns.map V.int) none (some 63)))) l = _ := upd_same
    have ndl : l ≠ d := ne_of hl3 hd3 (by intro z; cases z)
    refine ⟨hd3, [((.inr "cells" : Key), V.ref l), ((.inr "at" : Key), V.int 0), ((.inr "left" : Key), V.int 0)], rfl, (by show 3 ≤ 15; decide), ?_⟩
    rw [pen_mk]
    refine q d l _ hd (s1.free (s2.free hl)) ⟨ns.take 63, 0, 0, ⟨upd_same, ?_, ?_, by decide⟩, by decide⟩ ?_
    · rw [upd_ne ndl, hl3, cut63]
    · rw [List.length_take]
      omega
    · intro b o e
      rw [upd_ne (ne_of_none e hd)]
      exact s3 _ _ (s2 _ _ (s1 _ _ e))
/-- a draw: any int from 0 on that is less than the second argument; the pen alone changes -/
def spDraw : Sp := fun vs H Q _ => ∃ (d c : Addr) (n : Nat) (m : Int), vs = [.ref d, .int m] ∧ Pen H d c n ∧ n < 2 ^ 40 ∧ 0 < m ∧ m < 2 ^ 200 ∧
  ∀ v H', 0 ≤ v → v < m → Pen H' d c (n + 1) → But d H H' → Q (.int v) H'
theorem ok__law_draw (T : Tx w K mg a) : FnOk P w K mg base CX0 1 a.f__law_draw a.d__law_draw ["pen", "many"] spDraw := by
  refine T.F__law_draw.ok sc__law_draw (fun vs H Q E h => ?_) (fun cdv A outer s H vs Q E hr h => ?_)
  · obtain ⟨d, c, n, m, rfl, _⟩ := h
    rfl
  · obtain ⟨d, c, n, m, rfl, ⟨ns, t, l, ⟨hd, hc, hlen, t0⟩, htn⟩, hn, m0, mb, q⟩ := h
    have hu := hu_of hr
    have hmne : m ≠ 0 := by omega
    have hdiv : ∀ x : Int, CDivW x m := fun x => wide_div m0 (b := 200) (by omega) (by decide) (by decide)
    have f0 : ∀ x : Int, 0 ≤ Int.fmod x m := fun x => Int.fmod_nonneg_of_pos x m0
    have f1 : ∀ x : Int, Int.fmod x m < m := fun x => Int.fmod_lt_of_pos x m0
    refine ⟨_, 
(pss_cons (ps_if (pt_cmpR op_ge (pe_dget hu (pv 0) pe_str (fun _ _ => rfl)) (pv 1) (nomark _))
  (pss_cons (ps_set (i := 2) sc__law_draw.nd rfl (.inl rfl) (pe_op op_modN (pe_callTy call_int1 (by rfl) T.z_int (by decide +kernel) (pa_cons (pe_dget hu (pv 0) pe_str (fun _ _ => rfl)) pa_nil)) (pv 1)))
  (pss_cons (ps_dput hu (pv 0) pe_str (pe_op op_fdivW (pe_dget hu (pv 0) pe_str (fun _ _ => rfl)) (pv 1)) rfl)
  (pss_one (ps_ret (pv 2)))))
  pss_nil)
  (pss_cons (ps_set (i := 3) sc__law_draw.nd rfl (.inl rfl) (pe_dget hu (pv 0) pe_str (fun _ _ => rfl)))
  (pss_cons (ps_dput hu (pv 0) pe_str (pe_op op_add (pv 3) pe_int) rfl)
  (pss_cons (ps_set (i := 4) sc__law_draw.nd rfl (.inl rfl) (pe_op op_add (pe_op op_mul pe_int (pv 3)) pe_int))
  (C8.pss_cut (ps_if (pt_cmpR (op_neD hr.units) (pe_dget hu (pv 0) pe_str (fun _ _ => rfl)) (pe_lst pa_nil) (nomark _))
  (pss_one (ps_set (i := 4) sc__law_draw.nd rfl (.inl rfl) (pe_ix ix_list (pe_dget hu (pv 0) pe_str (fun _ _ => rfl)) (pe_op op_modN (pe_callTy call_int1 (by rfl) T.z_int (by decide +kernel) (pa_cons (pv 3) pa_nil)) (pe_callB call_len_seq (by rfl) T.z_len PySem.boot_len (pa_cons (pe_dget hu (pv 0) pe_str (fun _ _ => rfl)) pa_nil))) (fun _ _ => rfl))))
  pss_nil)
  (C8.pss_cut (ps_if (PW.pt (pw_and (pt_cmpR op_lt (pv 3) (pe_callB call_len_seq (by rfl) T.z_len PySem.boot_len (pa_cons (pe_dget hu (pv 0) pe_str (fun _ _ => rfl)) pa_nil)) (nomark _)) (pw_and1 (pt_cmpR op_ge (pv 4) (pe_op op_pow pe_int pe_int) (nomark _)))))
  (pss_cons (ps_dput hu (pv 0) pe_str (pe_op op_fdivW (pe_op op_sub (pv 4) (pe_op op_pow pe_int pe_int)) (pv 1)) rfl)
  (pss_one (ps_ret (pe_op op_modN (pe_callTy call_int1 (by rfl) T.z_int (by decide +kernel) (pa_cons (pe_op op_sub (pv 4) (pe_op op_pow pe_int pe_int)) pa_nil)) (pv 1)))))
  pss_nil)
  (pss_cons (ps_set (i := 5) sc__law_draw.nd rfl (.inl rfl) (pe_op op_add (pe_op op_add (pe_op op_add (pe_op op_mul (pe_op op_modN (pe_callTy call_int1 (by rfl) T.z_int (by decide +kernel) (pa_cons (pv 4) pa_nil)) pe_int) pe_int) (pe_op op_mul (pe_op op_mul pe_int (pv 3)) (pv 3))) (pe_op op_mul pe_int (pv 3))) pe_int))
  (pss_cons (ps_set (i := 5) sc__law_draw.nd rfl (.inl rfl) (pe_op op_modN (pe_callTy call_int1 (by rfl) T.z_int (by decide +kernel) (pa_cons (pv 5) pa_nil)) pe_int))
  (pss_cons (ps_set (i := 5) sc__law_draw.nd rfl (.inl rfl) (pe_op op_modN (pe_callTy call_int1 (by rfl) T.z_int (by decide +kernel) (pa_cons (pe_op op_mul (pv 5) (pe_op op_add (pv 5) pe_int)) pa_nil)) pe_int))
  (pss_one (ps_ret (pe_op op_modN (pe_callTy call_int1 (by rfl) T.z_int (by decide +kernel) (pa_cons (pe_op op_fdivN (pe_op op_modN (pe_callTy call_int1 (by rfl) T.z_int (by decide +kernel) (pa_cons (pe_op op_mul (pv 5) (pv 5)) pa_nil)) pe_int) pe_int) pa_nil)) (pv 1))))))))))))), ?_⟩
    -- if pen['left'] >= many
    refine ⟨.ref d, rfl, d, .int l, rfl, pen_L hd, .int m, rfl, l, m, rfl, rfl, _, rfl, ite2 (fun e => ?_) (fun e => ?_)⟩
    · -- digit = int(pen['left']) % many; pen['left'] = pen['left'] // many; return digit
      refine ⟨.ref d, rfl, d, .int l, rfl, pen_L hd, .inl ⟨l, rfl, .int m, rfl, l, m, rfl, rfl, hmne, ?_⟩⟩
      refine ⟨.ref d, rfl, d, .int l, rfl, pen_L hd, .int m, rfl, l, m, rfl, rfl, hdiv l, .ref d, rfl, d, _, rfl, pen_setL hd, ?_⟩
      exact ⟨_, rfl, q _ _ (f0 l) (f1 l) ⟨ns, t, _, ⟨upd_same, by rw [upd_ne (ne_of hc hd (by intro z; cases z))]; exact hc, hlen, t0⟩, by omega⟩ but_upd⟩
    · -- at = pen['at']; pen['at'] = at + 1; cell = 41 * at + 13
      refine ⟨.ref d, rfl, d, .int t, rfl, pen_A hd, ?_⟩
      refine ⟨.int t, rfl, t, 1, rfl, rfl, .ref d, rfl, d, _, rfl, pen_setA hd, ?_⟩
      refine ⟨.int t, rfl, 41, t, rfl, rfl, .inl ⟨by decide, by decide⟩, 41 * t, 13, rfl, rfl, ?_⟩
      have hd1 : (upd H d (penD c (t + 1) l)) d = some (penD c (t + 1) l) := upd_same
      have hc1 : (upd H d (penD c (t + 1) l)) c = some (.lst (ns.map V.int)) := by
        rw [upd_ne (ne_of hc hd (by intro z; cases z))]
        exact hc
      have b1 : But d H (upd H d (penD c (t + 1) l)) := but_upd
      generalize upd H d (penD c (t + 1) l) = H1 at hd1 hc1 b1 ⊢
      -- if pen['cells'] != []: cell = pen['cells'][int(at) % len(pen['cells'])]
      refine ⟨fun σ' H' => ∃ cell : Int, σ' = [some (.ref d), some (.int m), none, some (.int t), some (.int cell), none] ∧ H' d = some (penD c (t + 1) l) ∧ H' c = some (.lst (ns.map V.int)) ∧ But d H H', ?_, fun σ'' H'' hM => ?_⟩
      · refine ⟨.ref d, rfl, d, .ref c, rfl, pen_C hd1, Nat.zero_le _, fun p hp => ?_⟩
        have s2 : Same H1 (upd H1 p (.lst [])) := same_upd hp
        have hp2 : (upd H1 p (.lst [])) p = some (.lst []) := upd_same
        have hd2 := s2 _ _ hd1
        have hc2 := s2 _ _ hc1
        have b2 : But d H (upd H1 p (.lst [])) := b1.trans (but_same s2)
        generalize upd H1 p (.lst []) = H2 at hd2 hc2 hp2 b2 ⊢
        refine ⟨_, _, dp_ints (SqL.at hc2), dp_ints (ns := []) (SqL.at hp2), shaped_ints, shaped_ints, _, rfl, ?_⟩
        rw [eqv_ints]
        refine ite2 (fun e => ?_) (fun e => ?_)
        · have hns : ns ≠ [] := by
            intro z
            subst z
            simp at e
          have hpos : 0 < ns.length := List.length_pos_iff.mpr hns
          have g0 : (0 : Int) ≤ Int.fmod t (ns.length : Int) := Int.fmod_nonneg_of_pos _ (by omega)
          have g1 : Int.fmod t (ns.length : Int) < (ns.length : Int) := Int.fmod_lt_of_pos _ (by omega)
          refine ⟨.ref d, rfl, d, .ref c, rfl, pen_C hd2, .int t, rfl, .inl ⟨t, rfl, .ref d, rfl, d, .ref c, rfl, pen_C hd2, c, _, rfl, .inl (SqL.at hc2), t, _, rfl, rfl, ?_, c, _, _, .int (ns[(Int.fmod t (ns.length : Int)).toNat]'(by omega)), rfl, rfl, SqL.at hc2, ?_, ?_⟩⟩
          · rw [List.length_map]
            omega
          · rw [List.length_map]
            exact atI_ints g0 (by omega)
          · exact ⟨_, rfl, hd2, hc2, b2⟩
        · exact ⟨_, rfl, hd2, hc2, b2⟩
      · obtain ⟨cell, rfl, hd3, hc3, b3⟩ := hM
        have hlen' : (ns.map V.int).length ≤ 63 := by
          rw [List.length_map]
          exact hlen
        -- if at < len(pen['cells']) and cell >= 10 ** 18
        refine ⟨fun σ' H' => σ' = [some (.ref d), some (.int m), none, some (.int t), some (.int cell), none] ∧ H' = H'', ?_, fun σ' H' hM => ?_⟩
        · refine ⟨.int t, rfl, .ref d, rfl, d, .ref c, rfl, pen_C hd3, c, _, rfl, .inl (SqL.at hc3), t, _, rfl, rfl, _, rfl, ite2 (fun e1 => ?_) (fun e1 => iteF ⟨rfl, rfl⟩)⟩
          refine ⟨.int cell, rfl, 10, 18, rfl, rfl, ⟨by decide, by decide, by decide⟩, cell, _, rfl, rfl, _, rfl, ite2 (fun e2 => ?_) (fun e2 => ⟨rfl, rfl⟩)⟩
          refine ⟨.int cell, rfl, 10, 18, rfl, rfl, ⟨by decide, by decide, by decide⟩, cell, _, rfl, rfl, .int m, rfl, _, m, rfl, rfl, hdiv _, .ref d, rfl, d, _, rfl, pen_setL hd3, ?_⟩
          refine ⟨.int cell, rfl, 10, 18, rfl, rfl, ⟨by decide, by decide, by decide⟩, cell, _, rfl, rfl, .inl ⟨_, rfl, .int m, rfl, _, m, rfl, rfl, hmne, ?_⟩⟩
          exact q _ _ (f0 _) (f1 _) ⟨ns, t + 1, _, ⟨upd_same, by rw [upd_ne (ne_of hc3 hd3 (by intro z; cases z))]; exact hc3, hlen, by omega⟩, by omega⟩ (b3.trans but_upd)
        · obtain ⟨rfl, rfl⟩ := hM
          have g : ∀ x y : Int, 0 < y → 0 ≤ Int.fmod x y ∧ Int.fmod x y < y := fun x y hy => ⟨Int.fmod_nonneg_of_pos x hy, Int.fmod_lt_of_pos x hy⟩
          have g1 := g cell 2147483629 (by decide)
          have z1 : (2147483629 : Int) ≠ 0 := by decide
          have z2 : (2147483647 : Int) ≠ 0 := by decide
          have z3 : (2147483587 : Int) ≠ 0 := by decide
          have z4 : (2147483563 : Int) ≠ 0 := by decide
          have y1 : -(2 ^ 64) < Int.fmod cell 2147483629 ∧ Int.fmod cell 2147483629 < 2 ^ 64 := by omega
          have y2 : -(2 ^ 64) < t ∧ t < 2 ^ 64 := by omega
          refine ⟨.int cell, rfl, .inl ⟨cell, rfl, cell, 2147483629, rfl, rfl, z1, _, 48271, rfl, rfl, .inl y1, .int t, rfl, 69621, t, rfl, rfl, .inr y2, .int t, rfl, _, t, rfl, rfl, .inr y2, _, _, rfl, rfl, .int t, rfl, 59, t, rfl, rfl, .inr y2, _, _, rfl, rfl, _, 11, rfl, rfl, ?_⟩⟩
          have g2 := g (Int.fmod cell 2147483629 * 48271 + 69621 * t * t + 59 * t + 11) 2147483647 (by decide)
          refine ⟨_, rfl, .inl ⟨_, rfl, _, 2147483647, rfl, rfl, z2, ?_⟩⟩
          have y3 : -(2 ^ 64) < Int.fmod (Int.fmod cell 2147483629 * 48271 + 69621 * t * t + 59 * t + 11) 2147483647 ∧ Int.fmod (Int.fmod cell 2147483629 * 48271 + 69621 * t * t + 59 * t + 11) 2147483647 < 2 ^ 64 := by omega
          refine ⟨_, rfl, _, rfl, _, 40014, rfl, rfl, _, _, rfl, rfl, .inl y3, .inl ⟨_, rfl, _, 2147483587, rfl, rfl, z3, ?_⟩⟩
          have g3 := fun x => g x 2147483587 (by decide)
          have y4 : ∀ x, -(2 ^ 64) < Int.fmod x 2147483587 ∧ Int.fmod x 2147483587 < 2 ^ 64 := fun x => by
            have := g3 x
            omega
          refine ⟨_, rfl, _, rfl, _, _, rfl, rfl, .inl (y4 _), .inl ⟨_, rfl, _, 2147483563, rfl, rfl, z4, _, 64, rfl, rfl, ⟨by decide, by decide⟩, .inl ⟨_, rfl, .int m, rfl, _, m, rfl, rfl, hmne, ?_⟩⟩⟩
          exact q _ _ (f0 _) (f1 _) ⟨ns, t + 1, l, ⟨hd3, hc3, hlen, by omega⟩, by omega⟩ b3
end

section
variable {P : Program} {w : World} {K : PySem.W.Frag} {mg : Str → Option Value} {base : Heap} {a : Ad}
/-- a pick: some item of the list -/
def spPick (K : PySem.W.Frag) : Sp := fun vs H Q _ => ∃ (d c s : Addr) (n : Nat) (xs : List V), vs = [.ref d, .ref s] ∧ Pen H d c n ∧ n < 2 ^ 40 ∧ SqL K H s xs ∧ 0 < xs.length ∧ xs.length ≤ 100000 ∧
  ∀ v H', v ∈ xs → Pen H' d c (n + 1) → But d H H' → Q v H'
theorem ok__law_pick (T : Tx w K mg a) : FnOk P w K mg base CX0 2 a.f__law_pick a.d__law_pick ["pen", "some"] (spPick K) := by
  refine T.F__law_pick.ok sc__law_pick (fun vs H Q E h => ?_) (fun cdv A outer s H vs Q E hr h => ?_)
  · obtain ⟨d, c, s, n, xs, rfl, _⟩ := h
    rfl
  · obtain ⟨d, c, s, n, xs, rfl, hp, hn, hs, h0, h1, q⟩ := h
    obtain ⟨kvs, hd⟩ := hp.dict
    refine ⟨_, 
(pss_one (ps_ret (pe_ix ix_list (pv 1) (pe_call (ok__law_draw T) hr (by rfl) T.m__law_draw T.F__law_draw.kp T.b__law_draw .nil pass0 (pa_cons (pv 0) (pa_cons (pe_callB call_len_seq (by rfl) T.z_len PySem.boot_len (pa_cons (pv 1) pa_nil)) pa_nil))) (fun _ _ => rfl)))), ?_⟩
    refine ⟨.ref s, rfl, .ref d, rfl, .ref s, rfl, s, _, rfl, .inl hs, d, c, n, _, rfl, hp, hn, by omega, ?_, fun v H' v0 v1 hp' hb => ?_⟩
    · have : ((100000 : Nat) : Int) < 2 ^ 200 := by decide
      omega
    · refine ⟨s, xs, v, xs[v.toNat]'(by omega), rfl, rfl, hb.seq hd hs, ?_, q _ _ (List.getElem_mem _) hp' hb⟩
      have e : (v.toNat : Int) = v := by omega
      have z : atI xs (v.toNat : Int) = some (xs[v.toNat]'(by omega)) := atI_nat (List.getElem?_eq_getElem (by omega))
      rw [e] at z
      exact z
/-- the same items in another order, as a new list -/
def spShuf (K : PySem.W.Frag) : Sp := fun vs H Q _ => ∃ (d c s : Addr) (n : Nat) (xs : List V), vs = [.ref d, .ref s] ∧ Pen H d c n ∧ n + xs.length < 2 ^ 40 ∧ SqL K H s xs ∧ xs.length ≤ 100000 ∧
  ∀ p ys H', ys.Perm xs → H p = none → H' p = some (.lst ys) → Pen H' d c (n + xs.length) → But d H H' → Q (.ref p) H'
theorem perm_erase : ∀ (xs : List V) (k : Nat) (h : k < xs.length), (xs[k] :: xs.eraseIdx k).Perm xs
  | x :: r, 0, _ => List.Perm.refl _
  | x :: r, k + 1, h => by
    have h' : k < r.length := by
      simp only [List.length_cons] at h
      omega
    refine (List.Perm.swap x r[k] (r.eraseIdx k)).trans ?_
    exact (perm_erase r k h').cons x
theorem seqIx {v : Int} {n : Nat} (h0 : 0 ≤ v) (h1 : v < n) : seqIndex? v n = some v.toNat := by
  unfold seqIndex?
  have e : ¬ v < 0 := by omega
  simp only [e, if_false]
  simp [h0, h1]
theorem ok__law_shuffled (T : Tx w K mg a) : FnOk P w K mg base CX0 2 a.f__law_shuffled a.d__law_shuffled ["pen", "some"] (spShuf K) := by
  refine T.F__law_shuffled.ok sc__law_shuffled (fun vs H Q E h => ?_) (fun cdv A outer s H vs Q E hr h => ?_)
  · obtain ⟨d, c, s, n, xs, rfl, _⟩ := h
    rfl
  · obtain ⟨d, c, s, n, xs, rfl, hp, hn, hs, h1, q⟩ := h
    obtain ⟨kvs, hd⟩ := hp.dict
    refine ⟨_, 
(pss_cons (ps_par (i := 2) (j := 3) (by rfl) sc__law_shuffled.nd rfl rfl (by decide) rfl rfl (pa_cons (pe_callTy call_list_of (by rfl) T.z_list (by decide +kernel) (pa_cons (pv 1) pa_nil)) (pa_cons (pe_lst pa_nil) pa_nil)) (by rfl))
  (pss_cons (ps_for PassesOwn.never rfl (pi_range1 (by rfl) T.z_range (pa_cons (pe_callB call_len_seq (by rfl) T.z_len PySem.boot_len (pa_cons (pv 2) pa_nil)) pa_nil)) (pg_name (i := 4) sc__law_shuffled.nd rfl (.inl rfl))
  (pss_one (ps_expr (pe_bm PySem.F.plainAttrs_list PySem.F.slot_list_append PySem.F.type_list_append mt_append (pv 3) (pa_cons (pe_bm PySem.F.plainAttrs_list PySem.F.slot_list_pop PySem.F.type_list_pop mt_popAt (pv 2) (pa_cons (pe_call (ok__law_draw T) hr (by rfl) T.m__law_draw T.F__law_draw.kp T.b__law_draw .nil pass0 (pa_cons (pv 0) (pa_cons (pe_callB call_len_seq (by rfl) T.z_len PySem.boot_len (pa_cons (pv 2) pa_nil)) pa_nil))) pa_nil)) pa_nil)))))
  (pss_one (ps_ret (pv 3))))), ?_⟩
    -- left, found = list(some), []
    refine ⟨.ref s, rfl, s, xs, rfl, .inl hs, fun l hl => ⟨Nat.zero_le _, fun f hf => ⟨.ref l, .ref f, rfl, ?_⟩⟩⟩
    have s1 : Same H (upd H l (.lst xs)) := same_upd hl
    have s2 : Same (upd H l (.lst xs)) (upd (upd H l (.lst xs)) f (.lst [])) := same_upd hf
    have nfl : l ≠ f := ne_of_none upd_same hf
    have hl2 : (upd (upd H l (.lst xs)) f (.lst [])) l = some (.lst xs) := s2 _ _ upd_same
    have hf2 : (upd (upd H l (.lst xs)) f (.lst [])) f = some (.lst []) := upd_same
    have fnew : H f = none := s1.free hf
    have lnew : H l = none := hl
    obtain ⟨oc, hcc⟩ := hp.cells
    have hp2 := hp.same (s1.trans s2)
    have b2 : But d H (upd (upd H l (.lst xs)) f (.lst [])) := but_same (s1.trans s2)
    -- for k in range(len(left))
    refine ⟨.ref l, rfl, l, xs, rfl, .inl (SqL.at hl2), _, rfl, by omega, by omega, ?_⟩
    refine for_range (lo := 0) (n := xs.length) (fun i σ H3 => ∃ y4 ls fs, σ = [some (.ref d), some (.ref s), some (.ref l), some (.ref f), y4] ∧ H3 l = some (.lst ls) ∧ H3 f = some (.lst fs) ∧ (fs ++ ls).Perm xs ∧ fs.length = i ∧ Pen H3 d c (n + i) ∧ But d H H3) ?_ ?_ ?_
    · exact ⟨none, xs, [], rfl, hl2, hf2, List.Perm.refl _, rfl, hp2, b2⟩
    · rintro i σ H3 hi ⟨y4, ls, fs, rfl, hl3, hf3, pm, fl, hp3, b3⟩
      obtain ⟨kvs3, hd3⟩ := hp3.dict
      have hlen : fs.length + ls.length = xs.length := by
        have := pm.length_eq
        rw [List.length_append] at this
        exact this
      refine ⟨.ref f, rfl, .inl ⟨rfl, _, SqL.at hf3⟩, .ref l, rfl, .inl ⟨rfl, _, SqL.at hl3⟩, .ref d, rfl, .ref l, rfl, l, ls, rfl, .inl (SqL.at hl3), d, c, n + i, _, rfl, hp3, by omega, by omega, ?_, fun v H4 v0 v1 hp4 hb => ?_⟩
      · have : ((100000 : Nat) : Int) < 2 ^ 200 := by decide
        omega
      · have hl4 := hb.list hd3 hl3
        have hf4 := hb.list hd3 hf3
        have hv : v.toNat < ls.length := by omega
        refine ⟨l, ls, v, v.toNat, ls[v.toNat], rfl, rfl, hl4, by omega, by omega, seqIx v0 v1, List.getElem?_eq_getElem hv, f, fs, _, rfl, rfl, by rw [upd_ne nfl.symm]; exact hf4, szlt (by omega), ?_⟩
        refine ⟨_, ls.eraseIdx v.toNat, fs ++ [ls[v.toNat]], rfl, by rw [upd_ne nfl]; exact upd_same, upd_same, ?_, by rw [List.length_append, fl]; rfl, ?_, ?_⟩
        · refine List.Perm.trans ?_ pm
          rw [List.append_assoc]
          exact (perm_erase ls v.toNat hv).append_left fs
        · have hp5 := (hp4.mut (l := l) (o := .lst (ls.eraseIdx v.toNat)) (ne_of_none hd lnew) (ne_of_none hcc lnew)).mut (l := f) (o := .lst (fs ++ [ls[v.toNat]])) (ne_of_none hd fnew) (ne_of_none hcc fnew)
          exact hp5
        · exact ((b3.trans hb).mut lnew).mut fnew
    · rintro σ H3 ⟨y4, ls, fs, rfl, hl3, hf3, pm, fl, hp3, b3⟩
      have hlen := pm.length_eq
      rw [List.length_append] at hlen
      have e : ls = [] := List.eq_nil_of_length_eq_zero (by omega)
      subst e
      rw [List.append_nil] at pm
      exact ⟨_, rfl, q f fs H3 pm fnew hf3 hp3 b3⟩
end

/-! ### a list or a tuple: walked, enumerated -/
def SqA (K : PySem.W.Frag) (H : Hp) (p : Addr) (xs : List V) : Prop := SqL K H p xs ∨ SqT K H p xs
theorem SqA.len {K : PySem.W.Frag} {H : Hp} {p : Addr} {xs : List V} (h : SqA K H p xs) : SqL K H p xs ∨ SqT K H p xs := h
theorem Same.seqT {K : PySem.W.Frag} {H H' : Hp} {p : Addr} {xs : List V} (e : Same H H') (h : SqT K H p xs) : SqT K H' p xs := by
  rcases h with (h | ⟨o, h⟩) | h
  · exact .inl (.inl (e _ _ h))
  · exact .inl (.inr ⟨o, e _ _ h⟩)
  · exact .inr h
theorem SqA.same {K : PySem.W.Frag} {H H' : Hp} {p : Addr} {xs : List V} (h : SqA K H p xs) (e : Same H H') : SqA K H' p xs := h.elim (fun q => .inl (e.seq q)) fun q => .inr (Same.seqT e q)
def iSeq (K : PySem.W.Frag) (tl : TE) : TI := fun σ H R => tl σ H fun x H1 => ∃ p xs, x = .ref p ∧ ((SqL K H1 p xs ∧ R (Itl K p) H1) ∨ (SqT K H1 p xs ∧ R (Itt K p) H1))
theorem pi_seq {X : Cx} {tg l : Expr} {tl : TE} (hl : PE X l tl) : PI X tg l (iSeq X.K tl) := by
  constructor
  intro pins s σ H R I h
  apply thn (hl.run pins s σ H _ I h)
  rintro v s1 ⟨x, H1, I1, r1, p, xs, rfl, hq⟩
  cases r1
  rcases hq with ⟨hq, q⟩ | ⟨hq, q⟩
  · obtain ⟨its, _, z, _⟩ := I1.list hq
    exact wpAny_pyIter_list z.isList (pi_one (tk := s1.toks) I1 _ (turn_list p _) ⟨_, Heap.get?_push_size _ rfl, rfl, rfl⟩ q)
  · obtain ⟨its, _, z, _⟩ := I1.tuple hq
    exact wpAny_pyIter_tuple (show s1.heap.IsTuple p its.toArray from z) (pi_one (tk := s1.toks) I1 _ (turn_tuple p _) ⟨_, Heap.get?_push_size _ rfl, rfl, rfl⟩ q)
/-- enumerate over a tuple -/
def IteT (K : PySem.W.Frag) (p : Addr) : It where
  go := fun i H => ∃ (xs : List V) (x : V), SqT K H p xs ∧ xs[i]? = some x
  yld := fun i H v H' => ∃ q x, v = .ref q ∧ H q = none ∧ H' = upd H q (.tup [.int (i : Nat), x]) ∧ ∀ xs, SqT K H p xs → xs[i]? = some x
  stop := fun i H => ∃ xs : List V, SqT K H p xs ∧ xs.length = i
theorem turn_enumT {P : Program} {w : World} {K : PySem.W.Frag} {elts : List Expr} {kk : Nat} {tpos : Pos} (p e it : Addr) :
    Turn P w K (.Tuple elts kk tpos) (IteT K p) [e, it] e (fun i h => (∃ old, IsEnum h e it ((i : Nat) : Int) old) ∧ h.IsTupleIter it p i ∧ e ≠ it) where
  mem := List.mem_cons_self ..
  obj := by
    rintro i h ⟨⟨old, he⟩, ⟨o, ho, hc, hd⟩, _⟩ b hb
    simp only [List.mem_cons, List.not_mem_nil, or_false] at hb
    rcases hb with rfl | rfl
    · exact ⟨_, he, fun v q => nomatch q⟩
    · exact ⟨o, ho, fun v q => by rw [hd] at q; cases q⟩
  keep := by
    rintro i h h' ⟨⟨old, he⟩, hi, hne⟩ k
    exact ⟨⟨old, k e (by simp) _ he⟩, hi.at fun o q => k it (by simp) o q, hne⟩
  item := by
    rintro X rfl rfl rfl hc i pins s σ H E I hf ⟨⟨old, he⟩, hit, hne⟩ ⟨xs, x, hq, hx⟩
    obtain ⟨its, rv, z, hz⟩ := I.tuple hq
    obtain ⟨u, hu, ru⟩ := rv.get hx
    have hel : e < s.heap.objs.size := Heap.lt_size he
    have hil : it < s.heap.objs.size := by
      obtain ⟨_, q, _⟩ := hit
      exact Heap.lt_size q
    have hpe : e ≠ p := fun q => by
      obtain ⟨o, ho, hc1, _⟩ := (show s.heap.IsTuple p its.toArray from z)
      rw [← q] at ho
      rw [Option.some.inj (ho.symm.trans he)] at hc1
      injection hc1 with hc1
      exact absurd hc1 (by decide)
    have hpi : p ≠ it := fun q => by
      obtain ⟨o, ho, hc1, _⟩ := (show s.heap.IsTuple p its.toArray from z)
      obtain ⟨o2, ho2, hc2, _⟩ := hit
      rw [q] at ho
      rw [Option.some.inj (ho.symm.trans ho2), hc2] at hc1
      injection hc1 with hc1
      exact absurd hc1 (by decide)
    have D := Draws.tuple (prog := X.prog) (w := X.w) (A := X.A.in1) (I.ok.hd hc) it p hpi its.toArray
    have hlt : i < its.toArray.size := by
      have := (List.getElem?_eq_some_iff.mp hu).1
      simpa using this
    refine wpAny_pyNext_enum_itemD (i := i) D he ⟨hit, z⟩ hlt hne (by simp [hne, hpe]) ?_
    intro v h' tk hv ho hst' hT hsz hk
    have ev : v = u := by
      have h1 : its[i]? = some v := by simpa using hv
      exact Option.some.inj (h1.symm.trans hu)
    subst ev
    refine ⟨_, rfl, wpAny_letOwnedTupleGo_enum (s := { s with heap := h', toks := tk + 1 }) ho ?_⟩
    intro h'' he' sb
    have hT2 : h''.get? s.heap.objs.size = some { cls := .type "tuple", data := .seq #[.int i tk, v] } := (sb.2 _ (Nat.ne_of_gt hel)).trans hT
    have new : ObjOk X.prog X.w (upd H s.heap.objs.size (.tup [.int (i : Nat), x])) h'' s.heap.objs.size (.tup [.int (i : Nat), x]) :=
      ⟨(by decide : 2 ≤ sizeLine), [.int i tk, v], .cons ⟨_, rfl⟩ (.cons ru .nil), _, hT2, rfl, _, rfl⟩
    have I1 : Inv X pins σ (upd H s.heap.objs.size (.tup [.int (i : Nat), x])) { s with heap := h'', toks := tk + 1 } := by
      refine I.turnedNew (ch := [e, it]) (fun b ob hb q => ?_) hf (Nat.le_refl _) new
      have n1 : b ≠ e := fun y => hb (by simp [y])
      have n2 : b ≠ it := fun y => hb (by simp [y])
      exact (sb.2 b n1).trans (hk b ob n1 n2 q)
    refine ⟨.ref s.heap.objs.size, _, I1, rfl, ⟨_, x, rfl, I.hok.fresh (Nat.le_refl _), rfl, fun ys hy => ?_⟩, ⟨⟨v, ?_⟩, hst'.1.at fun o q => (sb.2 it hne.symm).trans q, hne⟩, fun b hb => ?_⟩
    · rw [I.tuple_inj hy hq]
      exact hx
    · rw [show ((i + 1 : Nat) : Int) = (i : Int) + 1 by omega]
      exact he'
    · have hb' : b < s.heap.objs.size := by
        simp only [List.mem_cons, List.not_mem_nil, or_false] at hb
        rcases hb with rfl | rfl
        · exact hel
        · exact hil
      rw [upd_ne (Nat.ne_of_lt hb')]
      exact (hf b hb).1
  done := by
    rintro X rfl rfl rfl hc i pins s σ H E I hf ⟨⟨old, he⟩, hit, hne⟩ ⟨xs, hq, hx⟩
    obtain ⟨its, rv, z, hz⟩ := I.tuple hq
    obtain ⟨f0, f1, f2, f3, f4, f5⟩ := hf it (by simp)
    have hl := rv.length
    have hpi : p ≠ it := fun q => by
      obtain ⟨o, ho, hc1, _⟩ := (show s.heap.IsTuple p its.toArray from z)
      obtain ⟨o2, ho2, hc2, _⟩ := hit
      rw [q] at ho
      rw [Option.some.inj (ho.symm.trans ho2), hc2] at hc1
      injection hc1 with hc1
      exact absurd hc1 (by decide)
    have D := Draws.tuple (prog := X.prog) (w := X.w) (A := X.A.in1) (I.ok.hd hc) it p hpi its.toArray
    have ei : i = its.toArray.size := by
      simp only [List.size_toArray]
      omega
    subst ei
    exact wpAny_pyNext_enum_endD D he ⟨hit, z⟩ fun h' eb => ⟨rfl, I.turned (t' := s.toks) (fun b o hb e => eb b o hb e) f0 f1 f3 f4 f5⟩
  self := by
    rintro A i s Q E ⟨⟨_, he⟩, _⟩ h
    exact wpAny_pyIter_enum he h
theorem meets_enum0 {v : Value} {o : Obj} {Hh : Heap → Prop} (B : Begins v o Hh) :
    Meets (Builtin.«enumerate.__new__» ⟨[.type "enumerate", v], []⟩) (fun _ R s => Hh s.heap ∧
      R (.ok (.ret (.ref (s.heap.push o).objs.size))) { s with heap := (s.heap.push o).push { cls := .type "enumerate", data := .fields #[.none, .bool false, .ref s.heap.objs.size, rawInt 0, .none, .none] } }) := by
  refine .of_wp ?_
  rintro prog w A R ⟨hp, g, d, tk, os⟩ ⟨h1, h⟩
  have hsb := sub_enumerate
  have q1 : ∀ {A' : Around} {E : Value → Shared → Prop} {Q : Value → Shared → Prop}, Q (.ref hp.objs.size) ⟨hp.push o, g, d, tk, os⟩ → wpAny (model prog w) A' (pyIter v) Q E ⟨hp, g, d, tk, os⟩ := by
    intro A' E Q q
    exact B.iter prog w _ _ ⟨hp, g, d, tk, os⟩ _ h1 q
  wp_walk using q1
  refine wpAny_stack_any fun st => wpAny_pure ?_
  split
  · rename_i c _ _ _ _ _
    cases (c == Value.type "enumerate") <;> (wp_walk using q1; exact ⟨_, rfl, h⟩)
  · wp_walk using q1
    exact ⟨_, rfl, h⟩
theorem call_enum0 {prog : Program} {w : World} {A : Around} {E : Value → Shared → Prop} {s : Shared} {v : Value} {o : Obj} {Hh : Heap → Prop} {Q : Value → Shared → Prop} (B : Begins v o Hh) (h1 : Hh s.heap)
    (h : ∀ h', IsEnum h' (s.heap.objs.size + 1) s.heap.objs.size 0 .none → h'.get? s.heap.objs.size = some o → h'.objs.size = s.heap.objs.size + 2 → (∀ b u, s.heap.get? b = some u → h'.get? b = some u) → Q (.ref (s.heap.objs.size + 1)) { s with heap := h' }) :
    wpAny (model prog w) A (call (.type "enumerate") [v]) Q E s := by
  have hz : (s.heap.push o).objs.size = s.heap.objs.size + 1 := by rw [Heap.size_push]
  refine callType_new F.called_enumerate (by decide) (F.typeCall_enumerate_1 _) (F.newCall_enumerate_1 _) (fun obj => F.args_object_init_2 obj _) F.entry_enumerate_new (meets_enum0 B) ⟨h1, ?_⟩
  have key : IsEnum ((s.heap.push o).push { cls := .type "enumerate", data := .fields #[.none, .bool false, .ref s.heap.objs.size, rawInt 0, .none, .none] }) (s.heap.push o).objs.size s.heap.objs.size 0 .none := Heap.get?_push_size _ rfl
  show _ ∧ _
  rw [hz] at key ⊢
  exact ⟨⟨_, key, rfl⟩, h _ key (Heap.get?_push_of_some _ (Heap.get?_push_size _ B.free)) (by rw [Heap.size_push, hz]) fun b u x => Heap.get?_push_of_some _ (Heap.get?_push_of_some _ x)⟩
def iEnS (K : PySem.W.Frag) (ta : TA) : TI := fun σ H R => ta σ H fun vs H1 => ∃ p xs, vs = [.ref p] ∧ ((SqL K H1 p xs ∧ R (Ite K p) H1) ∨ (SqT K H1 p xs ∧ R (IteT K p) H1))
theorem pi_enumS {X : Cx} {e : Expr} {ta : TA} {p pos tpos : Pos} {elts : List Expr} {kk : Nat} (hg : Gl X "enumerate") (hm : X.mg "enumerate" = none) (ha : PA X [e] ta) (hs : starEach [e] X.env = [(false, eval e X.env)] := by rfl) :
    PI X (.Tuple elts kk tpos) (.Call (.Name "enumerate" p) [e] [] pos) (iEnS X.K ta) := by
  constructor
  intro pins s σ H R I h
  refine Call_ (ld_blt I hg hm boot_enumerate (PyProof.Rows.callWith_type1 (thn (ha.run pos pins s σ H _ I h) ?_) hs rfl))
  rintro us s1 ⟨vs, H1, I1, r1, q0, xs, rfl, hq⟩
  cases r1 with
  | cons r rr =>
    cases rr
    cases r
    have fp : ∀ b ∈ [s1.heap.objs.size + 1, s1.heap.objs.size], FpOk X pins H1 b := by
      intro b hb
      simp only [List.mem_cons, List.not_mem_nil, or_false] at hb
      have hle : s1.heap.objs.size ≤ b := by
        rcases hb with rfl | rfl
        · exact Nat.le_add_right _ _
        · exact Nat.le_refl _
      exact I1.fpOk hle (I1.hok.fresh hle)
    rcases hq with ⟨hq, q⟩ | ⟨hq, q⟩
    · obtain ⟨its, _, z, _⟩ := I1.list hq
      refine call_enumerate_list z.isList ?_
      intro h' he hit hsz hk
      exact wpAny_pyIter_enum he ⟨s1.heap.objs.size + 1, [s1.heap.objs.size + 1, s1.heap.objs.size], _, _, H1, rfl, I1.kept (t' := s1.toks) hk, turn_enum q0 (s1.heap.objs.size + 1) s1.heap.objs.size, ⟨⟨.none, he⟩, hit, Nat.succ_ne_self _⟩, fp, q⟩
    · obtain ⟨its, _, z, _⟩ := I1.tuple hq
      refine call_enum0 (begins_tuple q0 its.toArray) z ?_
      intro h' he hit hsz hk
      exact wpAny_pyIter_enum he ⟨s1.heap.objs.size + 1, [s1.heap.objs.size + 1, s1.heap.objs.size], _, _, H1, rfl, I1.kept (t' := s1.toks) hk, turn_enumT q0 (s1.heap.objs.size + 1) s1.heap.objs.size, ⟨⟨.none, he⟩, ⟨_, hit, rfl, rfl⟩, Nat.succ_ne_self _⟩, fp, q⟩
theorem walk_enumT {K : PySem.W.Frag} {p : Addr} {xs : List V} : Walk (IteT K p) xs.length (fun H => SqT K H p xs) (YPair (fun i => some (.int (i : Nat))) (fun i => xs[i]?)) where
  goes := fun i H hi h => ⟨xs, xs[i], h, List.getElem?_eq_getElem hi⟩
  stops := fun H h => ⟨xs, h, rfl⟩
  yields := by
    rintro i H v H' hi h ⟨q, x, rfl, hn, rfl, hx⟩
    exact ⟨q, _, x, rfl, hn, rfl, rfl, hx xs h⟩

/-! ### questions about values -/
/-- whether a value is an int that is no bool, as isinstance tells it -/
inductive IsI (H : Hp) : V → Bool → Prop where
  | int (i : Int) : IsI H (.int i) true
  | non : IsI H .non false
  | bl (b : Bool) : IsI H (.bl b) false
  | str (z : Str) : IsI H (.str z) false
  | tup {p : Addr} {xs : List V} (e : H p = some (.tup xs)) : IsI H (.ref p) false
  | lst {p : Addr} {xs : List V} (e : H p = some (.lst xs)) : IsI H (.ref p) false
theorem IsI.same {H H' : Hp} {x : V} {b : Bool} (h : IsI H x b) (e : Same H H') : IsI H' x b := by
  cases h with
  | int i => exact .int i
  | non => exact .non
  | bl b => exact .bl b
  | str z => exact .str z
  | tup q => exact .tup (e _ _ q)
  | lst q => exact .lst (e _ _ q)
section
variable {P : Program} {w : World} {K : PySem.W.Frag} {mg : Str → Option Value} {base : Heap} {a : Ad}
def spIsInteger : Sp := fun vs H Q _ => ∃ x b, vs = [x] ∧ IsI H x b ∧ Q (.bl b) H
theorem ok_is_integer (T : Tx w K mg a) : FnOk P w K mg base CX0 1 a.f_is_integer a.d_is_integer ["value"] spIsInteger := by
  refine T.F_is_integer.ok sc_is_integer (fun vs H Q E h => ?_) (fun cdv A outer s H vs Q E hr h => ?_)
  · obtain ⟨x, b, rfl, _⟩ := h
    rfl
  · obtain ⟨x, b, rfl, hb, q⟩ := h
    refine ⟨_, 
(pss_one (ps_ret (pe_and (pe_callB call_isi (by rfl) T.z_isinstance (by decide +kernel) (pa_cons (pv 0) (pa_cons (pe_bltn (v := .ty "int") (by rfl) T.z_int (by decide +kernel) rfl) pa_nil))) (pe_one (pe_not (pe_callB call_isi (by rfl) T.z_isinstance (by decide +kernel) (pa_cons (pv 0) (pa_cons (pe_bltn (v := .ty "bool") (by rfl) T.z_bool (by decide +kernel) rfl) pa_nil)))))))), ?_⟩
    refine ⟨x, rfl, ?_⟩
    cases hb with
    | int i => exact ⟨_, _, _, _, true, rfl, .ty "int", .base (.int i), kit_ty (by decide +kernel), true, rfl, iteT ⟨_, rfl, _, _, _, _, false, rfl, .ty "bool", .base (.int i), kit_ty (by decide +kernel), _, rfl, q⟩⟩
    | non => exact ⟨_, _, _, _, false, rfl, .ty "int", .base .non, kit_ty (by decide +kernel), false, rfl, iteF q⟩
    | str z => exact ⟨_, _, _, _, false, rfl, .ty "int", .base (.str z), kit_ty (by decide +kernel), false, rfl, iteF q⟩
    | tup e => exact ⟨_, _, _, _, false, rfl, .ty "int", .base (.tup e), kit_ty (by decide +kernel), false, rfl, iteF q⟩
    | lst e => exact ⟨_, _, _, _, false, rfl, .ty "int", .base (.lst e), kit_ty (by decide +kernel), false, rfl, iteF q⟩
    | bl b => exact ⟨_, _, _, _, true, rfl, .ty "int", .base (.bl b), kit_ty (by decide +kernel), true, rfl, iteT ⟨_, rfl, _, _, _, _, true, rfl, .ty "bool", .base (.bl b), kit_ty (by decide +kernel), _, rfl, q⟩⟩
def btM (lo hi : Int) : V → Bool
  | .int i => decide (lo ≤ i) && decide (i ≤ hi)
  | _ => false
def spIsBetween : Sp := fun vs H Q _ => ∃ x b lo hi, vs = [x, .int lo, .int hi] ∧ IsI H x b ∧ Q (.bl (btM lo hi x)) H
theorem ok_is_between (T : Tx w K mg a) : FnOk P w K mg base CX0 2 a.f_is_between a.d_is_between ["value", "low", "high"] spIsBetween := by
  refine T.F_is_between.ok sc_is_between (fun vs H Q E h => ?_) (fun cdv A outer s H vs Q E hr h => ?_)
  · obtain ⟨x, b, lo, hi, rfl, _⟩ := h
    rfl
  · obtain ⟨x, b, lo, hi, rfl, hb, q⟩ := h
    refine ⟨_, 
(pss_one (ps_ret (pe_and (pe_call (ok_is_integer T) hr (by rfl) T.m_is_integer T.F_is_integer.kp T.b_is_integer .nil pass0 (pa_cons (pv 0) pa_nil)) (pe_one (pe_chain op_le op_le (pv 1) (pv 0) (pv 2)))))), ?_⟩
    refine ⟨x, rfl, x, b, rfl, hb, b, rfl, ?_⟩
    cases hb with
    | int i =>
      refine iteT ⟨_, rfl, _, rfl, lo, i, rfl, rfl, _, rfl, ?_⟩
      by_cases h1 : lo ≤ i
      · rw [decide_eq_true h1]
        refine iteT ⟨_, rfl, i, hi, rfl, rfl, ?_⟩
        have e : btM lo hi (.int i) = decide (i ≤ hi) := by simp [btM, h1]
        rw [e] at q
        exact q
      · rw [decide_eq_false h1]
        have e : btM lo hi (.int i) = false := by simp [btM, h1]
        rw [e] at q
        exact iteF q
    | non => exact iteF q
    | str z => exact iteF q
    | tup e => exact iteF q
    | lst e => exact iteF q
    | bl b => exact iteF q
/-- the first member that is no place of n or has come before -/
def fwI (n : Nat) : List Int → Nat → List V → Option Nat
  | _, _, [] => none
  | seen, k, .int i :: r => if 0 ≤ i ∧ i < (n : Int) ∧ i ∉ seen then fwI n (i :: seen) (k + 1) r else some k
  | _, k, _ :: _ => some k
def oN : Option Nat → V
  | none => .non
  | some k => .int k
def flags (n : Nat) (seen : List Int) : List V := (List.range n).map fun j : Nat => V.bl (decide ((j : Int) ∈ seen))
theorem flags_len (n : Nat) (seen : List Int) : (flags n seen).length = n := by
  unfold flags
  rw [List.length_map, List.length_range]
theorem flags_nil (n : Nat) : List.replicate n (V.bl false) = flags n [] := by
  refine List.ext_getElem (by rw [flags_len, List.length_replicate]) fun i h1 h2 => ?_
  simp [flags]
theorem flags_get {n : Nat} {seen : List Int} {i : Int} (h0 : 0 ≤ i) (h1 : i < (n : Int)) : atI (flags n seen) i = some (.bl (decide (i ∈ seen))) := by
  have e : (i.toNat : Int) = i := by omega
  have z : atI (flags n seen) (i.toNat : Int) = some (.bl (decide (i ∈ seen))) := by
    refine atI_nat ?_
    unfold flags
    rw [List.getElem?_map, List.getElem?_range (by omega)]
    show some (V.bl (decide ((i.toNat : Int) ∈ seen))) = _
    rw [e]
  rw [e] at z
  exact z
theorem flags_set {n : Nat} {seen : List Int} {i : Int} (h0 : 0 ≤ i) : (flags n seen).set i.toNat (.bl true) = flags n (i :: seen) := by
  refine List.ext_getElem (by rw [List.length_set, flags_len, flags_len]) fun j h1 h2 => ?_
  rw [List.getElem_set]
  by_cases h : i.toNat = j
  · rw [if_pos h]
    have : (j : Int) = i := by omega
    simp [flags, this]
  · rw [if_neg h]
    have : ¬ (j : Int) = i := by omega
    simp [flags, this]
def spFirstWrong (K : PySem.W.Frag) : Sp := fun vs H Q _ => ∃ r xs, vs = [.ref r, .int (xs.length : Int)] ∧ SqA K H r xs ∧ xs.length ≤ 100000 ∧ (∀ x ∈ xs, ∃ b, IsI H x b) ∧ ∀ H', Same H H' → Q (oN (fwI xs.length [] 0 xs)) H'
theorem ok_first_wrong (T : Tx w K mg a) : FnOk P w K mg base CX0 3 a.f_first_wrong a.d_first_wrong ["row", "size"] (spFirstWrong K) := by
  refine T.F_first_wrong.ok sc_first_wrong (fun vs H Q E h => ?_) (fun cdv A outer s H vs Q E hr h => ?_)
  · obtain ⟨r, xs, rfl, _⟩ := h
    rfl
  · obtain ⟨r, xs, rfl, hx, hl, hk, q⟩ := h
    refine ⟨_, 
(pss_cons (ps_set (i := 2) sc_first_wrong.nd rfl (.inl rfl) (pe_op op_rep (pe_lst (pa_cons pe_bl pa_nil)) (pv 1)))
  (pss_cons (ps_for PassesOwn.never rfl (pi_enumS (by rfl) T.z_enumerate (pa_cons (pv 0) pa_nil)) (pg_tup rfl (pgs_cons (pg_name (i := 3) sc_first_wrong.nd rfl (.inl rfl)) (pgs_cons (pg_name (i := 4) sc_first_wrong.nd rfl (.inl rfl)) pgs_nil)))
  (pss_cons (ps_if (PW.pt (pw_or (pt_not (pt_val (pe_call (ok_is_between T) hr (by rfl) T.m_is_between T.F_is_between.kp T.b_is_between .nil pass0 (pa_cons (pv 4) (pa_cons pe_int (pa_cons (pe_op op_sub (pv 1) pe_int) pa_nil)))))) (pw_or1 (pt_val (pe_ix ix_list (pv 2) (pv 4) (fun _ _ => rfl))))))
  (pss_one (ps_ret (pv 3)))
  pss_nil)
  (pss_one (ps_asg pe_bl (pg_sub (pv 2) (pv 4) set_list)))))
  (pss_one (ps_ret pe_non)))), ?_⟩
    -- has_come = [False] * size
    refine ⟨sz (by decide), fun p0 hp0 => ⟨_, rfl, p0, _, _, rfl, rfl, upd_same, by omega, by omega, sz (by simp; omega), fun p hp => ?_⟩⟩
    have s1 : Same H (upd (upd H p0 (.lst [.bl false])) p (.lst (List.replicate (xs.length : Int).toNat [V.bl false]).flatten)) := (same_upd hp0).trans (same_upd hp)
    have e0 : (List.replicate (xs.length : Int).toNat [V.bl false]).flatten = flags xs.length [] := by
      rw [List.flatten_replicate_singleton, Int.toNat_natCast, flags_nil]
    have pn : H p = none := (same_upd hp0).free hp
    have hp1 : (upd (upd H p0 (.lst [.bl false])) p (.lst (List.replicate (xs.length : Int).toNat [V.bl false]).flatten)) p = some (.lst (flags xs.length [])) := by
      rw [e0]
      exact upd_same
    generalize upd (upd H p0 (.lst [.bl false])) p (.lst (List.replicate (xs.length : Int).toNat [V.bl false]).flatten) = H1 at s1 hp1 ⊢
    -- for index, member in enumerate(row)
    refine ⟨.ref r, rfl, r, xs, rfl, ?_⟩
    refine hx.elim (fun hS => .inl ⟨s1.seq hS, ?_⟩) (fun hS => .inr ⟨Same.seqT s1 hS, ?_⟩)
    all_goals
      refine for_it (by first | exact walk_enum (xs := xs) | exact walk_enumT (xs := xs)) (fun i σ H3 => ∃ y3 y4 seen, σ = [some (.ref r), some (.int (xs.length : Int)), some (.ref p), y3, y4] ∧ Same H H3 ∧ H3 p = some (.lst (flags xs.length seen)) ∧ fwI xs.length [] 0 xs = fwI xs.length seen i (xs.drop i)) ?h0 ?hG ?hs ?hd
      case h0 => exact ⟨none, none, [], rfl, s1, hp1, rfl⟩
      case hG =>
        rintro i σ H3 hi ⟨y3, y4, seen, rfl, s3, hp3, ef⟩
        first | exact s3.seq hS | exact Same.seqT s3 hS
      case hd =>
        rintro σ H3 ⟨y3, y4, seen, rfl, s3, hp3, ef⟩
        rw [List.drop_length] at ef
        have q2 := q H3 s3
        rw [ef] at q2
        exact q2
      case hs =>
        rintro i v σ H3 H4 hi ⟨y3, y4, seen, rfl, s3, hp3, ef⟩ ⟨t, x1, x, rfl, nt, rfl, e1, e2⟩
        cases e1
        have s4 : Same H3 (upd H3 t (.tup [.int (i : Nat), x])) := same_upd nt
        have hp4 := s4 _ _ hp3
        have ed : xs.drop i = x :: xs.drop (i + 1) := by
          rw [List.drop_eq_getElem_cons hi]
          have := List.getElem?_eq_some_iff.mp e2
          rw [this.2]
        rw [ed] at ef
        refine ⟨t, [.int (i : Nat), x], rfl, SqT.at upd_same, rfl, _, [x], rfl, x, [], rfl, rfl, ?_⟩
        obtain ⟨b, hb⟩ := hk x (List.mem_of_getElem? e2)
        refine ⟨x, rfl, _, rfl, (xs.length : Int), 1, rfl, rfl, x, b, 0, _, rfl, (hb.same s3).same s4, _, rfl, ?_⟩
        by_cases hbt : btM 0 ((xs.length : Int) - 1) x = true
        · obtain ⟨m, rfl, h0, h1⟩ : ∃ m : Int, x = .int m ∧ 0 ≤ m ∧ m < (xs.length : Int) := by
            cases x with
            | int m =>
              simp only [btM, Bool.and_eq_true, decide_eq_true_eq] at hbt
              exact ⟨m, rfl, hbt.1, by omega⟩
            | _ => exact absurd hbt (by simp [btM])
          rw [hbt]
          refine iteF ⟨_, rfl, _, rfl, p, _, m, _, rfl, rfl, SqL.at hp4, flags_get h0 h1, _, rfl, ?_⟩
          by_cases hm : m ∈ seen
          · rw [decide_eq_true hm]
            have ef2 : fwI xs.length [] 0 xs = some i := by
              rw [ef]
              simp [fwI, hm]
            have q2 := q _ (s3.trans s4)
            rw [ef2] at q2
            exact iteT ⟨_, rfl, q2⟩
          · rw [decide_eq_false hm]
            have ef2 : fwI xs.length [] 0 xs = fwI xs.length (m :: seen) (i + 1) (xs.drop (i + 1)) := by
              rw [ef]
              simp [fwI, hm, h0, h1]
            refine iteF ⟨_, rfl, _, rfl, p, _, m, m.toNat, rfl, rfl, hp4, by rw [flags_len]; exact ixN_nat h0 h1, ?_⟩
            refine ⟨_, _, m :: seen, rfl, ?_, by rw [flags_set h0]; exact upd_same, ef2⟩
            intro c o e
            rw [upd_ne (ne_of_none e pn)]
            exact s4 _ _ (s3 _ _ e)
        · rw [Bool.not_eq_true] at hbt
          rw [hbt]
          have ef2 : fwI xs.length [] 0 xs = some i := by
            rw [ef]
            cases x with
            | int m =>
              simp only [btM, Bool.and_eq_false_iff, decide_eq_false_iff_not] at hbt
              have : ¬ (0 ≤ m ∧ m < (xs.length : Int) ∧ m ∉ seen) := by omega
              simp only [fwI, if_neg this]
            | _ => rfl
          have q2 := q _ (s3.trans s4)
          rw [ef2] at q2
          exact iteT ⟨_, rfl, q2⟩
end

section
variable {P : Program} {w : World} {K : PySem.W.Frag} {mg : Str → Option Value} {base : Heap} {a : Ad}
def spErrInit (C : Addr) (f : Str) : Sp := fun vs H Q _ => ∃ (x : Addr) (v : V), vs = [.ref x, v] ∧ H x = some (exo x C none) ∧ ∀ dx, H dx = none → dx ≠ x → Q .non (upd (upd H dx (exd dx [(f, v)])) x (exo x C (some dx)))
theorem ok_BadWord_init (T : Tx w K mg a) : FnOk P w K mg base CX0 1 a.f_BadWord_init a.d_BadWord_init ["self", "index"] (spErrInit a.C_BadWord "index") := by
  refine T.F_BadWord_init.ok sc_BadWord_init (fun vs H Q E h => ?_) (fun cdv A outer s H vs Q E hr h => ?_)
  · obtain ⟨x, v, rfl, _⟩ := h
    rfl
  · obtain ⟨x, v, rfl, hx, q⟩ := h
    refine ⟨_, 
(pss_one (ps_ost (pv 0) (pv 1))), ?_⟩
    exact ⟨v, rfl, .ref x, rfl, x, a.C_BadWord, rfl, T.ox_BadWord.o, T.ox_BadWord.no, .inl ⟨hx, fun dx n ne => q dx n ne⟩⟩
theorem ok_BadSize_init (T : Tx w K mg a) : FnOk P w K mg base CX0 1 a.f_BadSize_init a.d_BadSize_init ["self", "size"] (spErrInit a.C_BadSize "size") := by
  refine T.F_BadSize_init.ok sc_BadSize_init (fun vs H Q E h => ?_) (fun cdv A outer s H vs Q E hr h => ?_)
  · obtain ⟨x, v, rfl, _⟩ := h
    rfl
  · obtain ⟨x, v, rfl, hx, q⟩ := h
    refine ⟨_, 
(pss_one (ps_ost (pv 0) (pv 1))), ?_⟩
    exact ⟨v, rfl, .ref x, rfl, x, a.C_BadSize, rfl, T.ox_BadSize.o, T.ox_BadSize.no, .inl ⟨hx, fun dx n ne => q dx n ne⟩⟩
theorem ok_BadPlace_init (T : Tx w K mg a) : FnOk P w K mg base CX0 1 a.f_BadPlace_init a.d_BadPlace_init ["self", "place"] (spErrInit a.C_BadPlace "place") := by
  refine T.F_BadPlace_init.ok sc_BadPlace_init (fun vs H Q E h => ?_) (fun cdv A outer s H vs Q E hr h => ?_)
  · obtain ⟨x, v, rfl, _⟩ := h
    rfl
  · obtain ⟨x, v, rfl, hx, q⟩ := h
    refine ⟨_, 
(pss_one (ps_ost (pv 0) (pv 1))), ?_⟩
    exact ⟨v, rfl, .ref x, rfl, x, a.C_BadPlace, rfl, T.ox_BadPlace.o, T.ox_BadPlace.no, .inl ⟨hx, fun dx n ne => q dx n ne⟩⟩
theorem ok_BadRow_init (T : Tx w K mg a) : FnOk P w K mg base CX0 1 a.f_BadRow_init a.d_BadRow_init ["self", "index"] (spErrInit a.C_BadRow "index") := by
  refine T.F_BadRow_init.ok sc_BadRow_init (fun vs H Q E h => ?_) (fun cdv A outer s H vs Q E hr h => ?_)
  · obtain ⟨x, v, rfl, _⟩ := h
    rfl
  · obtain ⟨x, v, rfl, hx, q⟩ := h
    refine ⟨_, 
(pss_one (ps_ost (pv 0) (pv 1))), ?_⟩
    exact ⟨v, rfl, .ref x, rfl, x, a.C_BadRow, rfl, T.ox_BadRow.o, T.ox_BadRow.no, .inl ⟨hx, fun dx n ne => q dx n ne⟩⟩
theorem made_same {H H1 : Hp} {x dx C : Addr} {f : Str} {v : V} (s : Same H H1) (hx : H1 x = none) (hd : H1 dx = none) : Same H (upd (del (upd (upd (upd H1 x (exo x C none)) dx (exd dx [(f, v)])) x (exo x C (some dx))) x) dx (.xd [(f, v)])) := fun b o e => by
  have e1 := s b o e
  have nx := ne_of_none e1 hx
  have nd := ne_of_none e1 hd
  rw [upd_ne nd, del_ne nx, upd_ne nx, upd_ne nd, upd_ne nx]
  exact e1
theorem err_end {H H1 : Hp} {C : Addr} {f : Str} {v : V} {E : XK} (s1 : Same H H1) (hE : ∀ H' d, Same H H' → H' d = some (.xd [(f, v)]) → E (.ref C) (some d) H') : ∀ x, H1 x = none →
    spErrInit C f [.ref x, v] (upd H1 x (exo x C none)) (fun u H2 => u = .non ∧ ∃ (d : Addr) (fs : List (Str × V)), H2 x = some (exo x C (some d)) ∧ H2 d = some (exd d fs) ∧ H1 d = none ∧ E (.ref C) (some d) (upd (del H2 x) d (.xd fs))) (fun _ _ _ => False) := by
  intro x hx
  refine ⟨x, v, rfl, upd_same, fun dx hd ne => ⟨rfl, dx, [(f, v)], upd_same, ?_, ?_, ?_⟩⟩
  · rw [upd_ne ne]
    exact upd_same
  · rw [upd_ne ne] at hd
    exact hd
  · have hd1 : H1 dx = none := by
      rw [upd_ne ne] at hd
      exact hd
    exact hE _ dx (made_same s1 hx hd1) upd_same
end

/-! ### lambdas as values: made, tracked, called -/
open LamX hiding takes0
/-- a function made by a lambda stands at f -/
def lamO (q : Str) (ar : Arguments) (bo : Expr) (sc : Scope) (cl : List (Str × Addr)) (f c : Addr) : HO := .ext fun h => ∃ pm cv : Value, h.get? f = some (PySem.W.kla_obj "<lambda>" q ar bo sc cl pm c cv)
theorem lamO_ne {q : Str} {ar : Arguments} {bo : Expr} {sc : Scope} {cl : List (Str × Addr)} {f c : Addr} (ps : Array Value) : lamO q ar bo sc cl f c ≠ .tbl ps := fun z => by
  unfold lamO at z
  cases z
theorem lamO_at {P : Program} {w : World} {H : Hp} {h : Heap} {q : Str} {ar : Arguments} {bo : Expr} {sc : Scope} {cl : List (Str × Addr)} {f c : Addr} (k : HOk P w H h) (e : H f = some (lamO q ar bo sc cl f c)) : ∃ pm cv : Value, h.get? f = some (PySem.W.kla_obj "<lambda>" q ar bo sc cl pm c cv) := (k f _ e).1
section
variable {X : Cx} {pins : List (Addr × Obj)} {σ : L2.St} {H : Hp} {s : Shared}
/-- the lambda is made and tracked -/
theorem lam_new {T : List (Addr × Str)} {c P : Addr} {ar : Arguments} {bo : Expr} {sc : Scope} {pos : Pos} {E Q : Value → Shared → Prop} (I : Inv X pins σ H s) (TB : TabB X.base X.mg c P) (hcode : X.env.code = .ref c)
    (hm : (P, X.env.qual ++ "<lambda>") ∈ T) (hu : ∀ p ∈ T, p.1 = P → p.2 = X.env.qual ++ "<lambda>") (hT : Tabs T H) (hdef : defaultsOf ar X.env = ([], [])) (hfree : ∀ y ∈ sc.names, y.2 = .free → ∃ c, X.env.cells.lookup y.1 = some c)
    (h : ∀ (f c' : Addr) (H1 : Hp) (s' : Shared), Inv X pins σ H1 s' → ExtN H H1 → (∀ b, H1 b = none → H b = none) → Tabs T H1 → H f = none →
      H1 f = some (lamO (X.env.qual ++ "<lambda>") ar bo sc (cloFrom X.env.cells sc.names []) f c') → H1 c' = some (CodeO c' (X.env.qual ++ "<lambda>")) → Q (.ref f) s') :
    wpAny (model X.prog X.w) X.A (eval (.Lambda ar bo sc pos) X.env) Q E s := by
  obtain ⟨tb, hP, ht, ha⟩ := hT _ hm
  refine PySem.W.kla_eval hdef ?_
  have gP : s.heap.get? P = some { cls := .none, data := .fields tb } := I.hok P _ hP
  have kbm : s.heap.BuiltinsAt X.mg P := TB.bm.keeps I.bk
  -- what stands at the end, from the heap in which the code object is known
  have fin : ∀ (c' : Addr) (cv : Value) (g : Heap) (tk : Nat) (H1 : Hp), Inv X pins σ H1 { s with heap := g, toks := tk } → s.heap.objs.size ≤ g.objs.size → ExtN H H1 → (∀ b, H1 b = none → H b = none) → Tabs T H1 → H1 c' = some (CodeO c' (X.env.qual ++ "<lambda>")) →
      Q (.ref g.objs.size) { s with heap := g.push (PySem.W.kla_obj "<lambda>" (X.env.qual ++ "<lambda>") ar bo sc (cloFrom X.env.cells sc.names []) ((X.mg "__name__").getD .none) c' cv), toks := tk } := by
    intro c' cv g tk H1 I1 hz eN fr T1 hc
    have nf : H1 g.objs.size = none := I1.hok.fresh (Nat.le_refl _)
    have I2 := I1.laid (a := g.objs.size) (o := lamO (X.env.qual ++ "<lambda>") ar bo sc (cloFrom X.env.cells sc.names []) g.objs.size c') (t' := tk)
      (h' := g.push (PySem.W.kla_obj "<lambda>" (X.env.qual ++ "<lambda>") ar bo sc (cloFrom X.env.cells sc.names []) ((X.mg "__name__").getD .none) c' cv)) (fun b u e => Heap.get?_push_of_some _ e) (Nat.le_refl _)
      ⟨⟨_, _, Heap.get?_push_size _ rfl⟩, ⟨_, Heap.get?_push_size _ rfl⟩, fun h1 h2 ⟨pm, cw, e⟩ st => ⟨pm, cw, st _ e⟩⟩
    have kp : ∀ b o, H1 b = some o → upd H1 g.objs.size (lamO (X.env.qual ++ "<lambda>") ar bo sc (cloFrom X.env.cells sc.names []) g.objs.size c') b = some o := fun b o e => by
      rw [upd_ne (ne_of_none e nf)]
      exact e
    refine h _ c' _ _ I2 (eN.trans (ExtN.of kp)) (fun b e => fr b ?_) (T1.ext kp) (I.hok.fresh hz) upd_same (kp _ _ hc)
    by_cases hb : b = g.objs.size
    · rw [hb]
      exact nf
    · rw [upd_ne hb] at e
      exact e
  cases hc : codeAmong pos tb.toList with
  | some cv =>
    obtain ⟨c', rfl, hco⟩ := ha pos cv hc
    refine PySem.W.kla_makeFunctionHit (mg := X.mg) (c := c) (P := P) (ps := tb) (closure_ok hfree) I.ok.glob (I.mod.glob.keeps I.bk) hcode (TB.code.keeps I.bk) gP ht hc kbm fun cw g tk kp hz => ?_
    exact fin c' cw g tk H (I.kept kp) hz (ExtN.refl H) (fun _ e => e) hT hco
  | none =>
    refine PySem.W.kla_makeFunction (mg := X.mg) (c := c) (P := P) (ps := tb) (closure_ok hfree) I.ok.glob (I.mod.glob.keeps I.bk) hcode (TB.code.keeps I.bk) gP ht hc TB.gP kbm fun c' cw g tk hx hge hlt hrec htb => ?_
    obtain ⟨c2, oc, vs, t, e2, hoc, hd, hv⟩ := hrec
    cases e2
    have nC : H c' = none := I.hok.fresh hge
    have I1 := inv_table (t' := tk) (more := #[rawInt pos.line, rawInt pos.col, .ref c']) (q := X.env.qual ++ "<lambda>") I hP hx htb hge ⟨oc, vs, t, hoc, hd, hv⟩
    have eN : ExtN H (upd (upd H P (.tbl (tb ++ #[rawInt pos.line, rawInt pos.col, .ref c']))) c' (CodeO c' (X.env.qual ++ "<lambda>"))) := fun b o e n => by
      have n1 : b ≠ P := fun z => n tb (Option.some.inj (e.symm.trans (z ▸ hP)))
      rw [upd_ne (ne_of_none e nC), upd_ne n1]
      exact e
    refine fin c' cw g tk _ I1 (Nat.le_trans hge (Nat.le_of_lt hlt)) eN (fun b e => ?_) (fun p hp => ?_) upd_same
    · by_cases hb : b = c'
      · rw [hb]
        exact nC
      · by_cases hb2 : b = P
        · rw [upd_ne hb, hb2, upd_same] at e
          cases e
        · rw [upd_ne hb, upd_ne hb2] at e
          exact e
    · by_cases hb : p.1 = P
      · rw [hu p hp hb, hb]
        have el : (tb ++ #[rawInt pos.line, rawInt pos.col, .ref c']).toList = tb.toList ++ [rawInt pos.line, rawInt pos.col, .ref c'] := by simp
        refine ⟨_, by rw [upd_ne (ne_of_none hP nC)]; exact upd_same, by rw [el]; exact PySem.TriplesOk_snoc _ _ _ _ ht, fun p' cv hcv => ?_⟩
        rw [el] at hcv
        rcases among_app _ ht hcv with z | z
        · obtain ⟨c0, e1, e2⟩ := ha p' cv z
          exact ⟨c0, e1, eN _ _ e2 codeO_ne⟩
        · exact ⟨c', z, upd_same⟩
      · obtain ⟨tb', a1, a2, a3⟩ := hT p hp
        refine ⟨tb', by rw [upd_ne (ne_of_none a1 nC), upd_ne hb]; exact a1, a2, fun p' cv hcv => ?_⟩
        obtain ⟨c0, e1, e2⟩ := a3 p' cv hcv
        exact ⟨c0, e1, eN _ _ e2 codeO_ne⟩
end
/-! ### cells held as they are, let go, held again -/
def celF (o : Obj) : HO := .frz o (.ext fun _ => True)
/-- the cells that an environment names -/
def csOf (cl : List (Str × Addr)) : List Addr := cl.filterMap fun p => cl.lookup p.1
theorem mem_csOf {cl : List (Str × Addr)} {c : Addr} : c ∈ csOf cl ↔ ∃ x, cl.lookup x = some c := by
  unfold csOf
  rw [List.mem_filterMap]
  refine ⟨fun ⟨p, _, e⟩ => ⟨p.1, e⟩, fun ⟨x, e⟩ => ⟨(x, c), PySem.mem_of_lookup e, e⟩⟩
def heldH (cs : List Addr) (h : Heap) (H : Hp) : Hp := fun b => if b ∈ cs then (h.get? b).map celF else H b
def freedH (cs : List Addr) (H : Hp) : Hp := fun b => if b ∈ cs then none else H b
def againH (cs : List Addr) (G H : Hp) : Hp := fun b => if b ∈ cs then G b else H b
theorem heldH_ne {cs : List Addr} {h : Heap} {H : Hp} {b : Addr} (n : b ∉ cs) : heldH cs h H b = H b := if_neg n
theorem freedH_ne {cs : List Addr} {H : Hp} {b : Addr} (n : b ∉ cs) : freedH cs H b = H b := if_neg n
theorem freedH_in {cs : List Addr} {H : Hp} {b : Addr} (n : b ∈ cs) : freedH cs H b = none := if_pos n
theorem againH_ne {cs : List Addr} {G H : Hp} {b : Addr} (n : b ∉ cs) : againH cs G H b = H b := if_neg n
theorem againH_in {cs : List Addr} {G H : Hp} {b : Addr} (n : b ∈ cs) : againH cs G H b = G b := if_pos n
theorem freed_some {cs : List Addr} {H : Hp} {b : Addr} {o : HO} (e : freedH cs H b = some o) : b ∉ cs ∧ H b = some o := by
  by_cases n : b ∈ cs
  · rw [freedH_in n] at e
    cases e
  · exact ⟨n, by rw [freedH_ne n] at e; exact e⟩
/-- what is known behind a run for which the cells cs were let go -/
structure Und (cs : List Addr) (G H : Hp) : Prop where
  off : ∀ b ∈ cs, H b = none
  frz : ∀ b o u, freedH cs G b = some (.frz o u) → H b = some (.frz o u)
/-- the cells cs stand held in H -/
def CellsF (cs : List Addr) (H : Hp) : Prop := ∀ b ∈ cs, ∃ o, H b = some (celF o)
section
variable {P : Program} {w : World} {H H1 H2 : Hp} {h h' : Heap} {cs : List Addr}
theorem hok_freed (k : HOk P w H h) (C : CellsF cs H) : HOk P w (freedH cs H) h := fun b o e => by
  obtain ⟨n, e⟩ := freed_some e
  refine (k b o e).stay (fun _ _ _ q => q) (fun d q => ?_) fun d xs q => ?_
  · rw [freedH_ne fun z => ?_]
    · exact q
    · obtain ⟨o', e'⟩ := C d z
      rw [q] at e'
      cases e'
  · rw [freedH_ne fun z => ?_]
    · exact q
    · obtain ⟨o', e'⟩ := C d z
      rw [q] at e'
      cases e'
theorem hok_again (k : HOk P w H2 h') (C : CellsF cs H) (n : ∀ b ∈ cs, H2 b = none) (st : ∀ b ∈ cs, ∀ o, H b = some (celF o) → h'.get? b = some o) : HOk P w (againH cs H H2) h' := fun b o e => by
  by_cases hb : b ∈ cs
  · rw [againH_in hb] at e
    obtain ⟨ob, e'⟩ := C b hb
    rw [e] at e'
    cases e'
    exact ⟨st b hb ob e, trivial, ⟨ob, st b hb ob e⟩, fun _ _ _ _ => trivial⟩
  · rw [againH_ne hb] at e
    refine (k b o e).stay (fun _ _ _ q => q) (fun d q => ?_) fun d xs q => ?_
    · rw [againH_ne fun z => ?_]
      · exact q
      · rw [n d z] at q
        cases q
    · rw [againH_ne fun z => ?_]
      · exact q
      · rw [n d z] at q
        cases q
/-- the state of a call, the cells let go -/
theorem env0_freed {K : PySem.W.Frag} {mg : Str → Option Value} {base : Heap} {A : Around} {outer : List Env} {s : Shared} (e : Env0 P w K mg base A outer s H) (C : CellsF cs H) : Env0 P w K mg base A outer s (freedH cs H) :=
  ⟨e.frames, e.mod, fun b o q => ⟨(e.bs b o q).1, by
    by_cases n : b ∈ cs
    · exact freedH_in n
    · rw [freedH_ne n]
      exact (e.bs b o q).2⟩, e.bsz, e.funs, fun b hb => by
    by_cases n : b ∈ cs
    · exact freedH_in n
    · rw [freedH_ne n]
      exact e.frf b hb, hok_freed e.hok C, e.bare⟩
theorem un_again {fs : List Addr} (u : Un fs [] (freedH cs H) H2 h h') (C : CellsF cs H) : Un fs [] H (againH cs H H2) h h' := by
  have nin : ∀ {b : Addr}, H b = none → b ∉ cs := fun {b} e z => by
    obtain ⟨o, e'⟩ := C b z
    rw [e] at e'
    cases e'
  have thru : ∀ {b : Addr} {o : HO}, H b = some o → (∀ ob, o ≠ celF ob) → b ∉ cs ∧ freedH cs H b = some o := fun {b o} e ne => by
    have nb : b ∉ cs := fun z => by
      obtain ⟨ob, e'⟩ := C b z
      rw [e] at e'
      exact ne ob (Option.some.inj e')
    exact ⟨nb, by rw [freedH_ne nb]; exact e⟩
  refine ⟨fun b o e n hb hx => u.keep b o e (by rw [freedH_ne (nin n)]; exact n) hb hx, fun b o e n hb hx => u.slot b o e (by rw [freedH_ne (nin n)]; exact n) hb hx, fun b o e n hx => ?_, u.there, fun b xs e => ?_, fun b o v e => ?_, fun b ps e => ?_⟩
  · rw [againH_ne (nin n)]
    exact u.free b o e (by rw [freedH_ne (nin n)]; exact n) hx
  · obtain ⟨n, e'⟩ := thru e fun _ z => by cases z
    rw [againH_ne n]
    exact u.tups b xs e'
  · by_cases n : b ∈ cs
    · rw [againH_in n]
      exact e
    · rw [againH_ne n]
      exact u.frzs b o v (by rw [freedH_ne n]; exact e)
  · obtain ⟨n, e'⟩ := thru e fun _ z => by cases z
    obtain ⟨more, e2⟩ := u.tbls b ps e'
    exact ⟨more, by rw [againH_ne n]; exact e2⟩
/-- what a call that was made with the cells let go has come to -/
theorem CE_again {K : PySem.W.Frag} {mg : Str → Option Value} {base : Heap} {A : Around} {outer : List Env} {s s' : Shared} {Q : VK} {u : Value} (e0 : Env0 P w K mg base A outer s H) (C : CellsF cs H)
    (q : CE outer P w (freedH cs H) s (fun v H' => Und cs H H' → Q v (againH cs H H')) u s') : CE outer P w H s Q u s' := by
  obtain ⟨v, H2, os, bare, un, hok, r, qq⟩ := q
  have no : ∀ b ∈ cs, ∀ o, H b = some (celF o) → s'.heap.get? b = some o ∧ H2 b = none := fun b hb o e => by
    have h1 := (e0.hok b _ e).1
    have nf : b ∉ frs outer := fun z => by
      rw [e0.frf b z] at e
      cases e
    exact ⟨un.keep b o h1 (freedH_in hb) nf (by simp), un.free b o h1 (freedH_in hb) (by simp)⟩
  have off : ∀ b ∈ cs, H2 b = none := fun b hb => by
    obtain ⟨o, e⟩ := C b hb
    exact (no b hb o e).2
  exact ⟨v, againH cs H H2, os, bare, un_again un C, hok_again hok C off (fun b hb o e => (no b hb o e).1), r, qq ⟨off, un.frzs⟩⟩
theorem CX_again {K : PySem.W.Frag} {mg : Str → Option Value} {base : Heap} {A : Around} {outer : List Env} {s s' : Shared} {E : XK} {u : Value} (e0 : Env0 P w K mg base A outer s H) (C : CellsF cs H)
    (q : L2.CX P w outer (freedH cs H) s (fun cls d H' => Und cs H H' → E cls d (againH cs H H')) u s') : L2.CX P w outer H s E u s' := by
  obtain ⟨a, B, H2, cls, d, ea, fl, hok, ub, na, os, bare, qq⟩ := q
  have no : ∀ b ∈ cs, ∀ o, H b = some (celF o) → B.get? b = some o ∧ H2 b = none := fun b hb o e => by
    have h1 := (e0.hok b _ e).1
    have nf : b ∉ frs outer := fun z => by
      rw [e0.frf b z] at e
      cases e
    exact ⟨ub.keep b o h1 (freedH_in hb) nf, ub.free b o h1 (freedH_in hb)⟩
  have nin : ∀ {b : Addr}, H b = none → b ∉ cs := fun {b} e z => by
    obtain ⟨o, e'⟩ := C b z
    rw [e] at e'
    cases e'
  have thru : ∀ {b : Addr} {o : HO}, H b = some o → (∀ ob, o ≠ celF ob) → b ∉ cs ∧ freedH cs H b = some o := fun {b o} e ne => by
    have nb : b ∉ cs := fun z => by
      obtain ⟨ob, e'⟩ := C b z
      rw [e] at e'
      exact ne ob (Option.some.inj e')
    exact ⟨nb, by rw [freedH_ne nb]; exact e⟩
  have off : ∀ b ∈ cs, H2 b = none := fun b hb => by
    obtain ⟨o, e⟩ := C b hb
    exact (no b hb o e).2
  refine ⟨a, B, againH cs H H2, cls, d, ea, fl, hok_again hok C off (fun b hb o e => (no b hb o e).1), ⟨fun b o e n hb => ub.keep b o e (by rw [freedH_ne (nin n)]; exact n) hb, ub.slot, fun b o e n => ?_, ub.there, fun b xs e => ?_, fun b o v e => ?_, fun b ps e => ?_⟩, ?_, os, bare, qq ⟨off, ub.frzs⟩⟩
  · rw [againH_ne (nin n)]
    exact ub.free b o e (by rw [freedH_ne (nin n)]; exact n)
  · obtain ⟨n, e'⟩ := thru e fun _ z => by cases z
    rw [againH_ne n]
    exact ub.tups b xs e'
  · by_cases n : b ∈ cs
    · rw [againH_in n]
      exact e
    · rw [againH_ne n]
      exact ub.frzs b o v (by rw [freedH_ne n]; exact e)
  · obtain ⟨n, e'⟩ := thru e fun _ z => by cases z
    obtain ⟨more, e2⟩ := ub.tbls b ps e'
    exact ⟨more, by rw [againH_ne n]; exact e2⟩
  · by_cases n : a ∈ cs
    · obtain ⟨o, e⟩ := C a n
      have z := (no a n o e).1
      rw [fl.2.1] at z
      cases z
    · rw [againH_ne n]
      exact na
end
/-! ### thunks -/
def Firm (o : HO) : Prop := (∃ ob u, o = .frz ob u) ∨ ∃ φ, o = .ext φ
/-- at f stands what may be called without arguments, and then keeps sp -/
def Thk (P : Program) (w : World) (K : PySem.W.Frag) (mg : Str → Option Value) (base : Heap) (k : Nat) (H : Hp) (f : Addr) (sp : Hp → VK → XK → Prop) : Prop :=
  ∃ fs : List Addr, (∀ b ∈ fs, ∃ o, H b = some o ∧ Firm o) ∧ ∀ (A : Around) (outer : List Env) (s : Shared) (G : Hp), (∀ b ∈ fs, G b = H b) → Env0 P w K mg base A outer s G → PySem.W.FnAt f s.heap ∧ ∀ (Q : VK) (E : XK), Room k A → sp G Q E →
    codeAny (model P w) A (.call (.ref f) ⟨[], []⟩) (CR (L2.CX P w) outer P w G s Q E) s
theorem Thk.keep {P : Program} {w : World} {K : PySem.W.Frag} {mg : Str → Option Value} {base : Heap} {k : Nat} {H G : Hp} {f : Addr} {sp : Hp → VK → XK → Prop} (t : Thk P w K mg base k H f sp) (e : ∀ b o, H b = some o → Firm o → G b = some o) : Thk P w K mg base k G f sp := by
  obtain ⟨fs, h1, h2⟩ := t
  have q : ∀ b ∈ fs, G b = H b := fun b hb => by
    obtain ⟨o, ho, fo⟩ := h1 b hb
    rw [ho]
    exact e b o ho fo
  refine ⟨fs, fun b hb => ?_, fun A outer s G' hb => h2 A outer s G' fun b z => (hb b z).trans (q b z)⟩
  rw [q b hb]
  exact h1 b hb
theorem Thk.mono {P : Program} {w : World} {K : PySem.W.Frag} {mg : Str → Option Value} {base : Heap} {j k : Nat} {H : Hp} {f : Addr} {sp : Hp → VK → XK → Prop} (t : Thk P w K mg base j H f sp) (h : j ≤ k) : Thk P w K mg base k H f sp := by
  obtain ⟨fs, h1, h2⟩ := t
  exact ⟨fs, h1, fun A outer s G hb e0 => ⟨(h2 A outer s G hb e0).1, fun Q E hr => (h2 A outer s G hb e0).2 Q E (hr.mono h)⟩⟩
theorem Thk.imp {P : Program} {w : World} {K : PySem.W.Frag} {mg : Str → Option Value} {base : Heap} {k : Nat} {H : Hp} {f : Addr} {sp sp' : Hp → VK → XK → Prop} (t : Thk P w K mg base k H f sp) (h : ∀ G Q E, sp' G Q E → sp G Q E) : Thk P w K mg base k H f sp' := by
  obtain ⟨fs, h1, h2⟩ := t
  exact ⟨fs, h1, fun A outer s G hb e0 => ⟨(h2 A outer s G hb e0).1, fun Q E hr q => (h2 A outer s G hb e0).2 Q E hr (h G Q E q)⟩⟩
theorem Thk.imp2 {P : Program} {w : World} {K : PySem.W.Frag} {mg : Str → Option Value} {base : Heap} {k : Nat} {H : Hp} {f : Addr} {sp sp' : Hp → VK → XK → Prop} {cs : List Addr} (t : Thk P w K mg base k H f sp) (hc : ∀ b ∈ cs, ∃ o, H b = some o ∧ Firm o) (h : ∀ G Q E, (∀ b ∈ cs, G b = H b) → sp' G Q E → sp G Q E) : Thk P w K mg base k H f sp' := by
  obtain ⟨fs, h1, h2⟩ := t
  refine ⟨fs ++ cs, fun b hb => (List.mem_append.mp hb).elim (h1 b) (hc b), fun A outer s G hb e0 => ?_⟩
  obtain ⟨a1, a2⟩ := h2 A outer s G (fun b z => hb b (List.mem_append_left _ z)) e0
  exact ⟨a1, fun Q E hr q => a2 Q E hr (h G Q E (fun b z => hb b (List.mem_append_right _ z)) q)⟩
/-- what a lambda of the def of X keeps -/
structure LamOk (X : Cx) (k : Nat) (ar : Arguments) (bo : Expr) (sc : Scope) (t : XK → TE) : Prop where
  L : LamS X.env.scope sc
  bind : ∀ (q : Str) (cl : List (Str × Addr)) (pm cv ctv : Value), bindArgs (PySem.W.kla_fn "<lambda>" q ar bo sc cl pm cv ctv) ⟨[], []⟩ = pure []
  body : ∀ (A : Around) (outer : List Env) (s : Shared) (H : Hp) (E : XK) (f c' : Addr), Room k (A.deeper (lamEnv X sc s.heap.objs.size f c')) → PE (lamCx X A outer s H E sc f c') bo (t E)
/-- the captured cells, held -/
structure CapsAt (X : Cx) (sc : Scope) (σ : L2.St) (H : Hp) : Prop where
  inj : ∀ x y c, X.env.cells.lookup x = some c → X.env.cells.lookup y = some c → x = y
  at_ : ∀ y ∈ sc.names, y.2 = .free → ∃ (c : Addr) (o : Obj) (u : Option Value), X.env.cells.lookup y.1 = some c ∧ H c = some (celF o) ∧ o.data = .cell u ∧ ∀ (i : Nat) (v : V), X.N[i]? = some y.1 → σ[i]? = some (some v) → ∃ u', u = some u' ∧ RelV v u'
  len : σ.length = X.N.length
def capCs (X : Cx) (sc : Scope) : List Addr := csOf (cloFrom X.env.cells sc.names [])
theorem clo_in {X : Cx} {sc : Scope} (hfree : ∀ y ∈ sc.names, y.2 = .free → ∃ c, X.env.cells.lookup y.1 = some c) {x : Str} {c : Addr} (e : (cloFrom X.env.cells sc.names []).lookup x = some c) : (x, NameKind.free) ∈ sc.names ∧ X.env.cells.lookup x = some c := by
  rcases cloFrom_mem (PySem.mem_of_lookup e) with hm | ⟨h1, h2⟩
  · cases hm
  · obtain ⟨c1, hc⟩ := hfree _ h1 rfl
    have hc : X.env.cells.lookup x = some c1 := hc
    have e2 : c = c1 := by
      rw [h2, hc] <;> rfl
    rw [e2]
    exact ⟨h1, hc⟩
theorem clo_at {X : Cx} {sc : Scope} (hfree : ∀ y ∈ sc.names, y.2 = .free → ∃ c, X.env.cells.lookup y.1 = some c) {x : Str} (h : (x, NameKind.free) ∈ sc.names) : ∃ c, (cloFrom X.env.cells sc.names []).lookup x = some c :=
  mem_lookup (cloFrom_has (cells := X.env.cells) (acc := []) h)
/-- the lambda's body begins: its cells are let go -/
theorem lam_begin {X : Cx} {A : Around} {outer : List Env} {E : XK} {sc : Scope} {f c' : Addr} {σ : L2.St} {s : Shared} {H : Hp} {h1 : Heap} {tk : Nat} (L : LamS X.env.scope sc) (e0 : Env0 X.prog X.w X.K X.mg X.base A outer s H) (hd : A.handled = none)
    (C : CapsAt X sc σ H) (CF : CellsF (capCs X sc) H) (hns : h1.Ns s.heap.objs.size fun y => ([] : List (Str × Value)).reverse.lookup y) (kp : ∀ b o, s.heap.get? b = some o → h1.get? b = some o) :
    Inv (lamCx X A outer s (freedH (capCs X sc) H) E sc f c') [] σ (freedH (capCs X sc) H) { s with heap := h1, toks := tk } := by
  have ef := env0_freed e0 CF
  have hfree : ∀ y ∈ sc.names, y.2 = .free → ∃ c, X.env.cells.lookup y.1 = some c := fun y hy hk => by
    obtain ⟨c, _, _, e, _⟩ := C.at_ y hy hk
    exact ⟨c, e⟩
  have noA : ∀ b : Addr, b ∉ (lamCx X A outer s (freedH (capCs X sc) H) E sc f c').ex := fun b z => absurd (show b ∈ ([] : List Addr) from z) (by simp)
  have isC : ∀ {x : Str} {c : Addr}, (cloFrom X.env.cells sc.names []).lookup x = some c → ∃ (o : Obj) (u : Option Value), h1.get? c = some o ∧ o.data = .cell u ∧ ∀ (i : Nat) (v : V), X.N[i]? = some x → σ[i]? = some (some v) → ∃ u', u = some u' ∧ RelV v u' := fun {x c} e => by
    obtain ⟨hy, hc⟩ := clo_in hfree e
    obtain ⟨c2, o, u, e2, e3, e4, e5⟩ := C.at_ _ hy rfl
    have e2 : X.env.cells.lookup x = some c2 := e2
    rw [hc] at e2
    cases e2
    exact ⟨o, u, kp _ _ (e0.hok _ _ e3).1, e4, e5⟩
  refine ⟨⟨e0.mod, L.kind, rfl, rfl, Nat.le_refl _, fun y z c e1 e2 => C.inj y z c (clo_in hfree e1).2 (clo_in hfree e2).2, fun y hy => ?_, fun y c z _ => ?_, fun _ => hd, Around.frames_deeper e0.frames, .inr ⟨rfl, rfl⟩, fun b z => absurd z (noA b), ef.bs, e0.bsz,
      fun b _ _ => noA b, fun b z => absurd z (noA b), e0.funs, ef.frf⟩, rfl, e0.bare, Un.kept kp, ⟨_, hns, fun i y v e1 e2 e3 => ?_⟩, fun y c e => ?_, ef.hok.fresh (Nat.le_refl _), fun y c e => ?_, fun q hq => absurd (show q ∈ ([] : List (Addr × Obj)) ++ [] from hq) (by simp), ?_, C.len⟩
  · have hy : sc.names.lookup y = some .cell ∨ sc.names.lookup y = some .free := hy
    rcases hy with hy | hy
    · exact absurd rfl (L.own _ (PySem.mem_of_lookup hy)).2
    · exact clo_at hfree (PySem.mem_of_lookup hy)
  · have z : false = true := z
    cases z
  · have e3 : Vis sc y := e3
    rcases e3 with k | k | k
    · exact absurd rfl (L.own _ (PySem.mem_of_lookup k)).1
    · exact absurd rfl (L.own _ (PySem.mem_of_lookup k)).2
    · obtain ⟨c, hc⟩ := clo_at hfree (PySem.mem_of_lookup k)
      obtain ⟨o, u, g1, g2, g3⟩ := isC hc
      obtain ⟨u', eu, r⟩ := g3 i v e1 e2
      exact ⟨u', r, .inr ⟨.inr k, c, hc, o, g1, by rw [g2, eu]⟩⟩
  · obtain ⟨o, u, g1, g2, _⟩ := isC e
    exact ⟨u, o, g1, g2⟩
  · exact freedH_in (mem_csOf.mpr ⟨y, e⟩)
  · intro b o q
    exact (ef.hok b o q).stay (fun c v _ r => kp c v r) (fun _ r => r) fun _ _ r => r
theorem caps_cells {X : Cx} {sc : Scope} {σ : L2.St} {H : Hp} (C : CapsAt X sc σ H) : CellsF (capCs X sc) H := fun b hb => by
  obtain ⟨x, e⟩ := mem_csOf.mp hb
  have hfree : ∀ y ∈ sc.names, y.2 = .free → ∃ c, X.env.cells.lookup y.1 = some c := fun y hy hk => by
    obtain ⟨c, _, _, e, _⟩ := C.at_ y hy hk
    exact ⟨c, e⟩
  obtain ⟨hy, hc⟩ := clo_in hfree e
  obtain ⟨c2, o, u, e2, e3, _⟩ := C.at_ _ hy rfl
  have e2 : X.env.cells.lookup x = some c2 := e2
  rw [hc] at e2
  cases e2
  exact ⟨o, e3⟩
/-- how a thunk made of a lambda is read: its body, with the cells let go -/
def spLam (X : Cx) (sc : Scope) (σ : L2.St) (t : XK → TE) : Hp → VK → XK → Prop := fun H Q E =>
  t (fun cls d H' => Und (capCs X sc) H H' → E cls d (againH (capCs X sc) H H')) σ (freedH (capCs X sc) H) fun v H' => Und (capCs X sc) H H' → Q v (againH (capCs X sc) H H')
theorem thk_of {X : Cx} {k : Nat} {ar : Arguments} {bo : Expr} {sc : Scope} {t : XK → TE} {σ : L2.St} {H : Hp} {f c' : Addr} (O : LamOk X k ar bo sc t) (hf : H f = some (lamO (X.env.qual ++ "<lambda>") ar bo sc (cloFrom X.env.cells sc.names []) f c'))
    (hc : H c' = some (CodeO c' (X.env.qual ++ "<lambda>"))) (C : CapsAt X sc σ H) : Thk X.prog X.w X.K X.mg X.base (k + 1) H f (spLam X sc σ t) := by
  refine ⟨f :: c' :: capCs X sc, fun b hb => ?_, fun A outer s G hb e0 => ?_⟩
  · rcases List.mem_cons.mp hb with rfl | hb
    · exact ⟨_, hf, .inr ⟨_, rfl⟩⟩
    rcases List.mem_cons.mp hb with rfl | hb
    · exact ⟨_, hc, .inr ⟨_, rfl⟩⟩
    obtain ⟨o, e⟩ := caps_cells C b hb
    exact ⟨_, e, .inl ⟨_, _, rfl⟩⟩
  have hf' := (hb f List.mem_cons_self).trans hf
  have hc' := (hb c' (List.mem_cons_of_mem _ List.mem_cons_self)).trans hc
  have hfree : ∀ y ∈ sc.names, y.2 = .free → ∃ c, X.env.cells.lookup y.1 = some c := fun y hy hk => by
    obtain ⟨c, _, _, e, _⟩ := C.at_ y hy hk
    exact ⟨c, e⟩
  have C' : CapsAt X sc σ G := ⟨C.inj, fun y hy hk => by
    obtain ⟨c, o, u, e1, e2, e3, e4⟩ := C.at_ y hy hk
    obtain ⟨c1, h1⟩ := clo_at hfree (x := y.1) (sc := sc) (by rw [← hk]; exact hy)
    have h2 := (clo_in hfree h1).2
    rw [e1] at h2
    cases h2
    exact ⟨c, o, u, e1, (hb c (List.mem_cons_of_mem _ (List.mem_cons_of_mem _ (mem_csOf.mpr ⟨_, h1⟩)))).trans e2, e3, e4⟩, C.len⟩
  obtain ⟨pm, cv, of⟩ := lamO_at e0.hok hf'
  obtain ⟨⟨oc, vs, tt, hoc, hdc, hvc⟩, _, _⟩ := e0.hok c' _ hc'
  have lim : s.heap.NoLimit := e0.mod.nolimit.keeps fun b o e => (e0.bs b o e).1
  refine ⟨⟨_, _, _, _, of⟩, fun Q E hr q => ?_⟩
  refine PySem.W.kla_callFunE hr.depth of rfl O.L.co O.L.gen rfl ⟨c', oc, vs, tt, rfl, hoc, hdc, hvc⟩ ?_
  rw [O.bind]
  refine wpAny_pure (wpAny_newFunctionEnv (fun y hy => (O.L.own y hy).2) (fun y hy => absurd hy (by simp)) (fun h1 hns hsb => ⟨lim.fresh _ hsb, ?_⟩) O.L.kind)
  show codeAny _ _ (.expr bo (lamEnv X sc s.heap.objs.size f c')) _ _
  have kp : ∀ b o, s.heap.get? b = some o → h1.get? b = some o := fun b o e => hsb.extBut b o (Nat.ne_of_lt (Heap.lt_size e)) (Heap.get?_push_of_some _ e)
  have J := lam_begin (E := fun cls d H' => Und (capCs X sc) G H' → E cls d (againH (capCs X sc) G H')) (f := f) (c' := c') (tk := s.toks + ([] : List (Str × Value)).length) O.L e0 hr.hd C' (caps_cells C') hns kp
  refine PySem.W.kla_codeExpr (wpAny_mono ((O.body A outer s _ _ f c' (hr.deeper _)).run [] _ σ _ (fun v H' => Und (capCs X sc) G H' → Q v (againH (capCs X sc) G H')) J q) (fun v s' hq => ?_) fun e s' hq => ?_)
  · obtain ⟨v', H', J', rv, qq⟩ := hq
    exact CE_again e0 (caps_cells C') ⟨v', H', J'.os, J'.bare, J'.base, J'.hok, rv, qq⟩
  · exact wpAny_mono (show wpAny _ _ (leaving (lamEnv X sc s.heap.objs.size f c') e) _ _ s' from hq) (fun _ s2 z => CX_again e0 (caps_cells C') z) fun e2 s2 z => CX_again e0 (caps_cells C') z
/-! ### the rules: a lambda as a value, a thunk called, a def called while the cells are held -/
/-- a lambda of the def of X stands at f -/
def LamAt (X : Cx) (k : Nat) (H : Hp) (f : Addr) (t : XK → TE) : Prop := ∃ ar bo sc c', H f = some (lamO (X.env.qual ++ "<lambda>") ar bo sc (cloFrom X.env.cells sc.names []) f c') ∧ H c' = some (CodeO c' (X.env.qual ++ "<lambda>")) ∧ LamOk X k ar bo sc t
theorem LamAt.keep {X : Cx} {k : Nat} {H G : Hp} {f : Addr} {t : XK → TE} (l : LamAt X k H f t) (e : ∀ b o, H b = some o → Firm o → G b = some o) : LamAt X k G f t := by
  obtain ⟨ar, bo, sc, c', h1, h2, h3⟩ := l
  exact ⟨ar, bo, sc, c', e _ _ h1 (.inr ⟨_, rfl⟩), e _ _ h2 (.inr ⟨_, rfl⟩), h3⟩
def tLamV (X : Cx) (k : Nat) (T : List (Addr × Str)) (t : XK → TE) : TE := fun σ H Q => Tabs T H ∧ ∀ (f : Addr) (H1 : Hp), ExtN H H1 → (∀ b, H1 b = none → H b = none) → Tabs T H1 → H f = none → LamAt X k H1 f t → Q (.ref f) H1
theorem pe_lam {X : Cx} {k : Nat} {T : List (Addr × Str)} {c P : Addr} {ar : Arguments} {bo : Expr} {sc : Scope} {pos : Pos} {t : XK → TE} (TB : TabB X.base X.mg c P) (hcode : X.env.code = .ref c) (hm : (P, X.env.qual ++ "<lambda>") ∈ T) (hu : ∀ p ∈ T, p.1 = P → p.2 = X.env.qual ++ "<lambda>")
    (hdef : defaultsOf ar X.env = ([], [])) (O : LamOk X k ar bo sc t) : PE X (.Lambda ar bo sc pos) (tLamV X k T t) := by
  refine ⟨fun pins s σ H Q I h => ?_⟩
  obtain ⟨hT, h⟩ := h
  exact lam_new I TB hcode hm hu hT hdef (O.L.has I.ok) fun f c' H1 s' I1 eN fr T1 nf hf hc => ⟨.ref f, H1, I1, rfl, h f H1 eN fr T1 nf ⟨_, _, _, _, hf, hc, O⟩⟩
/-- how a call of a thunk is read -/
def rThk (P : Program) (w : World) (K : PySem.W.Frag) (mg : Str → Option Value) (base : Heap) (k i : Nat) (W : WX) : TE := fun σ H Q => ∃ f sp, σ[i]? = some (some (.ref f)) ∧ Thk P w K mg base k H f sp ∧ sp H Q (WE W σ)
/-- a(), a thunk held by a name -/
theorem pe_thk {X : Cx} {k i : Nat} {a : Str} {W : WX} {p1 p2 : Pos} (hN : X.N[i]? = some a) (hv : Vis X.env.scope a) (hr : Room k X.A) (tk : Takes X W) (hd : (a == ("__debug__" : Str)) = false := by decide) (hcd : (a == ("__classdict__" : Str)) = false := by decide) :
    PE X (.Call (.Name a p1) [] [] p2) (rThk X.prog X.w X.K X.mg X.base k i W) := by
  refine ⟨fun pins s σ H Q I h => ?_⟩
  obtain ⟨f, sp, hs, ht, q⟩ := h
  refine wpAny_Call_Name_kw (thn ((pe_var (pos := p1) (i := i) hN hv hd hcd).run pins s σ H (fun v H1 => v = .ref f ∧ H1 = H) I ⟨.ref f, hs, rfl, rfl⟩) fun u s1 ⟨v, H1, I1, r1, ev, eH⟩ => ?_)
  subst ev
  rw [eH] at I1
  obtain rfl : u = Value.ref f := r1
  obtain ⟨fs, _, h2⟩ := ht
  obtain ⟨fa, run⟩ := h2 X.A X.stack s1 H (fun _ _ => rfl) I1.env0
  refine PySem.W.callWith_F0 fa (wpAny_call (codeAny_mono (run Q (WE W σ) hr q) fun r s' hq => ?_))
  cases r with
  | error e => exact passAt tk σ pins H s1 e s' I1 hq
  | ok fl =>
    cases fl with
    | ret u => exact I1.after hq
    | next => exact False.elim hq
    | brk => exact False.elim hq
    | cont => exact False.elim hq
/-- the cells of X's frame as they stand in h -/
structure HeldAt (X : Cx) (σ : L2.St) (H : Hp) (h : Heap) : Prop where
  off : ∀ c ∈ csOf X.env.cells, H c = none
  inj : ∀ x y c, X.env.cells.lookup x = some c → X.env.cells.lookup y = some c → x = y
  at_ : ∀ x c, X.env.cells.lookup x = some c → ∃ (o : Obj) (u : Option Value), h.get? c = some o ∧ o.data = .cell u ∧ ∀ (i : Nat) (v : V), X.N[i]? = some x → σ[i]? = some (some v) → (X.env.scope.names.lookup x = some .cell ∨ X.env.scope.names.lookup x = some .free) → ∃ u', u = some u' ∧ RelV v u'
  has : ∀ x, (X.env.scope.names.lookup x = some .cell ∨ X.env.scope.names.lookup x = some .free) → ∃ c, X.env.cells.lookup x = some c
  len : σ.length = X.N.length
theorem held_of {X : Cx} {pins : List (Addr × Obj)} {σ : L2.St} {H : Hp} {s : Shared} (I : Inv X pins σ H s) : HeldAt X σ H s.heap := by
  refine ⟨fun c hc => ?_, I.ok.inj, fun x c e => ?_, I.ok.has, I.len⟩
  · obtain ⟨x, e⟩ := mem_csOf.mp hc
    exact I.freeC x c e
  · obtain ⟨u, o, ho, hd⟩ := I.cell x c e
    refine ⟨o, u, ho, hd, fun i v e1 e2 e3 => ?_⟩
    obtain ⟨m, _, hl⟩ := I.loc
    obtain ⟨u', r, q⟩ := hl i x v e1 e2 (.inr e3)
    rcases q with ⟨k, _⟩ | ⟨_, c2, e4, o2, ho2, hd2⟩
    · exfalso
      have k : X.env.scope.names.lookup x = some .local := k
      rcases e3 with z | z <;> rw [k] at z <;> cases z
    · rw [e] at e4
      cases e4
      rw [ho] at ho2
      cases ho2
      rw [hd] at hd2
      cases hd2
      exact ⟨u', rfl, r⟩
section
variable {X : Cx} {σ : L2.St} {H : Hp} {h : Heap}
theorem HeldAt.celF (hh : HeldAt X σ H h) : CellsF (csOf X.env.cells) (heldH (csOf X.env.cells) h H) := fun b hb => by
  obtain ⟨x, e⟩ := mem_csOf.mp hb
  obtain ⟨o, u, ho, _⟩ := hh.at_ x b e
  exact ⟨o, by unfold heldH; rw [if_pos hb, ho]; rfl⟩
theorem HeldAt.same (hh : HeldAt X σ H h) : Same H (heldH (csOf X.env.cells) h H) := fun b o e => by
  rw [heldH_ne fun z => ?_]
  · exact e
  · rw [hh.off b z] at e
    cases e
theorem HeldAt.caps (hh : HeldAt X σ H h) {sc : Scope} (L : LamS X.env.scope sc) : CapsAt X sc σ (heldH (csOf X.env.cells) h H) := by
  refine ⟨hh.inj, fun y hy e => ?_, hh.len⟩
  have k := L.free y hy e
  obtain ⟨c, hc⟩ := hh.has _ k
  obtain ⟨o, u, h1, h2, h3⟩ := hh.at_ _ _ hc
  refine ⟨c, o, u, hc, ?_, h2, fun i v e1 e2 => h3 i v e1 e2 k⟩
  unfold heldH
  rw [if_pos (mem_csOf.mpr ⟨_, hc⟩), h1]
  rfl
theorem capCs_sub {sc : Scope} (hh : HeldAt X σ H h) (L : LamS X.env.scope sc) : ∀ b ∈ capCs X sc, b ∈ csOf X.env.cells := fun b hb => by
  obtain ⟨x, e⟩ := mem_csOf.mp hb
  exact mem_csOf.mpr ⟨x, (clo_in (fun y hy k => hh.has _ (L.free y hy k)) e).2⟩
/-- G is H' where the cells cs are held -/
structure Back (cs : List Addr) (H' G : Hp) : Prop where
  ne : ∀ b, b ∉ cs → G b = H' b
  cel : ∀ b ∈ cs, ∃ o, G b = some (celF o)
  off : ∀ b o, H' b = some o → (∀ ob, o ≠ celF ob) → b ∉ cs
/-- a lambda of a def that runs, as a thunk, while the cells are held -/
theorem LamAt.thk {k : Nat} {f : Addr} {t : XK → TE} (l : LamAt X k H f t) (hh : HeldAt X σ H h) : ∃ sp, Thk X.prog X.w X.K X.mg X.base (k + 1) (heldH (csOf X.env.cells) h H) f sp ∧
    ∀ (Q : VK) (E : XK), (∀ (H0 : Hp) (R : (Hp → Prop) → Hp → Prop), Same H H0 → (∀ b, H0 b = none → H b = none) → (∀ (C : Hp → Prop) (H' : Hp), (∀ G, Back (csOf X.env.cells) H' G → C G) → R C H') →
      t (fun cls d H' => R (E cls d) H') σ H0 fun v H' => R (Q v) H') → sp (heldH (csOf X.env.cells) h H) Q E := by
  obtain ⟨ar, bo, sc, c', h1, h2, O⟩ := l
  have hs := hh.same
  refine ⟨_, thk_of O (hs _ _ h1) (hs _ _ h2) (hh.caps O.L), fun Q E q => ?_⟩
  have sub := capCs_sub hh O.L
  have cf := hh.celF
  have bk : ∀ H', Und (capCs X sc) (heldH (csOf X.env.cells) h H) H' → Back (csOf X.env.cells) H' (againH (capCs X sc) (heldH (csOf X.env.cells) h H) H') := fun H' u => by
    have hcel : ∀ b ∈ csOf X.env.cells, b ∉ capCs X sc → ∃ o, H' b = some (celF o) := fun b hb n => by
      obtain ⟨o, e⟩ := cf b hb
      exact ⟨o, u.frz b o _ (by rw [freedH_ne n]; exact e)⟩
    refine ⟨fun b n => againH_ne fun z => n (sub b z), fun b hb => ?_, fun b o e ne hb => ?_⟩
    · by_cases n : b ∈ capCs X sc
      · rw [againH_in n]
        exact cf b hb
      · rw [againH_ne n]
        exact hcel b hb n
    · by_cases n : b ∈ capCs X sc
      · rw [u.off b n] at e
        cases e
      · obtain ⟨o', e'⟩ := hcel b hb n
        rw [e] at e'
        exact ne o' (Option.some.inj e')
  refine q (freedH (capCs X sc) (heldH (csOf X.env.cells) h H)) (fun C H' => Und (capCs X sc) (heldH (csOf X.env.cells) h H) H' → C (againH (capCs X sc) (heldH (csOf X.env.cells) h H) H')) (fun b o e => ?_) (fun b e => ?_) fun C H' z u => z _ (bk H' u)
  · rw [freedH_ne fun z => ?_]
    · exact hs b o e
    · rw [hh.off b (sub b z)] at e
      cases e
  · by_cases n : b ∈ csOf X.env.cells
    · exact hh.off b n
    · rw [freedH_ne (fun z => n (sub b z)), heldH_ne n] at e
      exact e
end
/-! ### a def called while the cells of the caller's frame are held -/
section
variable {X : Cx} {pins : List (Addr × Obj)} {σ : L2.St} {H : Hp} {s s' : Shared}
theorem env0_held (I : Inv X pins σ H s) (hfn : ∀ x, X.fn x = true) : Env0 X.prog X.w X.K X.mg X.base X.A X.stack s (heldH (csOf X.env.cells) s.heap H) := by
  have e0 := I.env0
  have hh := held_of I
  have ge : ∀ c ∈ csOf X.env.cells, X.s_0.heap.objs.size ≤ c := fun c hc => by
    obtain ⟨x, e⟩ := mem_csOf.mp hc
    exact I.ok.cab x c (hfn x) e
  refine ⟨e0.frames, e0.mod, fun b o q => ⟨(e0.bs b o q).1, ?_⟩, e0.bsz, e0.funs, fun b hb => ?_, fun b o e => ?_, e0.bare⟩
  · rw [heldH_ne fun z => ?_]
    · exact (e0.bs b o q).2
    · exact absurd (Nat.lt_of_lt_of_le (Heap.lt_size q) (Nat.le_trans I.ok.bsz (ge b z))) (Nat.lt_irrefl _)
  · rw [heldH_ne fun z => ?_]
    · exact e0.frf b hb
    · rcases List.mem_cons.mp (I.stkSub b hb) with e | hb
      · obtain ⟨x, q⟩ := mem_csOf.mp z
        exact I.cne x b q e
      · obtain ⟨_, o, ho, _⟩ := I.ok.funs.mem hb
        exact absurd (Nat.lt_of_lt_of_le (Heap.lt_size ho) (ge b z)) (Nat.lt_irrefl _)
  · by_cases hb : b ∈ csOf X.env.cells
    · obtain ⟨x, q⟩ := mem_csOf.mp hb
      obtain ⟨ob, u, ho, _⟩ := hh.at_ x b q
      unfold heldH at e
      rw [if_pos hb, ho] at e
      cases e
      exact ⟨ho, trivial, ⟨ob, ho⟩, fun _ _ _ _ => trivial⟩
    · rw [heldH_ne hb] at e
      refine (e0.hok b o e).stay (fun _ _ _ q => q) (fun d q => hh.same d _ q) fun d xs q => hh.same d _ q
/-- behind such a call -/
theorem ce_held {Q : VK} {u : Value} (I : Inv X pins σ H s) (hfn : ∀ x, X.fn x = true) (q : CE X.stack X.prog X.w (heldH (csOf X.env.cells) s.heap H) s (fun v G => CellsF (csOf X.env.cells) G → Q v (freedH (csOf X.env.cells) G)) u s') : CE X.stack X.prog X.w H s Q u s' := by
  obtain ⟨v, G, os, bare, un, hok, r, qq⟩ := q
  have hh := held_of I
  have cf : CellsF (csOf X.env.cells) G := fun b hb => by
    obtain ⟨o, e⟩ := hh.celF b hb
    exact ⟨o, un.frzs b o _ e⟩
  refine ⟨v, freedH (csOf X.env.cells) G, os, bare, ⟨fun b o e n hb hx => ?_, fun b o e n hb hx => ?_, fun b o e n hx => ?_, fun b o e hx => un.there b o e hx, fun b xs e => ?_, fun b o v e => ?_, fun b ps e => ?_⟩, hok_freed hok cf, r, qq cf⟩
  · by_cases z : b ∈ csOf X.env.cells
    · obtain ⟨ob, e2⟩ := hh.celF b z
      have h1 := ((env0_held I hfn).hok b _ e2).1
      rw [e] at h1
      cases h1
      exact (hok b _ (un.frzs b _ _ e2)).1
    · exact un.keep b o e (by rw [heldH_ne z]; exact n) hb hx
  · by_cases z : b ∈ csOf X.env.cells
    · obtain ⟨ob, e2⟩ := hh.celF b z
      have h1 := ((env0_held I hfn).hok b _ e2).1
      rw [e] at h1
      cases h1
      exact ⟨o.slots, (hok b _ (un.frzs b _ _ e2)).1⟩
    · exact un.slot b o e (by rw [heldH_ne z]; exact n) hb hx
  · by_cases z : b ∈ csOf X.env.cells
    · exact freedH_in z
    · rw [freedH_ne z]
      exact un.free b o e (by rw [heldH_ne z]; exact n) hx
  · have z : b ∉ csOf X.env.cells := fun z => by
      rw [hh.off b z] at e
      cases e
    rw [freedH_ne z]
    exact un.tups b xs (by rw [heldH_ne z]; exact e)
  · have z : b ∉ csOf X.env.cells := fun z => by
      rw [hh.off b z] at e
      cases e
    rw [freedH_ne z]
    exact un.frzs b o v (by rw [heldH_ne z]; exact e)
  · have z : b ∉ csOf X.env.cells := fun z => by
      rw [hh.off b z] at e
      cases e
    obtain ⟨more, q⟩ := un.tbls b ps (by rw [heldH_ne z]; exact e)
    exact ⟨more, by rw [freedH_ne z]; exact q⟩
end
/-- what is wanted behind a call while the cells are held -/
def HeldQ (X : Cx) (Q : VK) : VK := fun v G => CellsF (csOf X.env.cells) G → Q v (freedH (csOf X.env.cells) G)
def tCallH (X : Cx) (sp : Sp) (t : TA) : TE := fun σ H Q => t σ H fun vs H1 => ∀ h : Heap, HeldAt X σ H1 h → sp vs (heldH (csOf X.env.cells) h H1) (HeldQ X Q) L2.E0
/-- x(e, ..), the cells of X's frame held meanwhile -/
theorem pe_callH {X : Cx} {k : Nat} {f : Addr} {fd : FuncData} {ps : List Str} {sp : Sp} {x : Str} {p pos : Pos} {e : Expr} {es : List Expr} {t : TA} (F : FnOk X.prog X.w X.K X.mg X.base L2.CX0 k f fd ps sp) (hr : Room k X.A) (hg : Gl X x) (hm : X.mg x = some (.ref f)) (hk : PySem.W.keepIn X.K (.ref f) = true) (hb : Binds X.K fd ps [])
    (ha : PA X (e :: es) t) (hfn : ∀ x, X.fn x = true := by intro _; rfl) (hdb : (x == ("__debug__" : Str)) = false := by decide) (he : starEach (e :: es) X.env = (false, eval e X.env) :: starEach es X.env := by rfl) (hpl : (backTo pos (starEach es X.env)).any (·.1) = false := by rfl) :
    PE X (.Call (.Name x p) (e :: es) [] pos) (tCallH X sp t) := by
  refine ⟨fun pins s σ H Q I h => ?_⟩
  refine wpAny_Call_Name_kw (ld_glob I hg hm ?_ hdb)
  refine PySem.W.callWith_K (h₀ := X.base) I.ok.mod.kin hk (thn (ha.run pos pins s σ H _ I h) fun us s1 ⟨vs, H1, I1, r, q⟩ => ⟨I1.kIn, ?_⟩) he hpl
  have q := q s1.heap (held_of I1)
  have hl : us.length = ps.length := by
    rw [← r.length]
    exact F.len _ _ _ _ q
  have hl : (us ++ []).length = ps.length := by rw [List.append_nil]; exact hl
  have r2 : Vals vs (us ++ []) := by rw [List.append_nil]; exact r
  refine wpAny_call (codeAny_mono (F.run X.A X.stack s1 _ ⟨us, []⟩ (us ++ []) vs _ _ hr (env0_held I1 hfn) (hb s1 us I1.kIn hl) r2 q) fun r s' hq => ?_)
  cases r with
  | error e => exact False.elim hq
  | ok fl =>
    cases fl with
    | ret u => exact I1.after (ce_held I1 hfn hq)
    | next => exact False.elim hq
    | brk => exact False.elim hq
    | cont => exact False.elim hq
/-- what a tuple that was made while cells were held looks like behind -/
theorem freed_made {cs : List Addr} {H' G : Hp} {p : Addr} {o : HO} (bk : Back cs H' G) (np : G p = none) : p ∉ cs ∧ freedH cs (upd G p o) = upd (freedH cs H') p o := by
  have n : p ∉ cs := fun z => by
    obtain ⟨ob, e⟩ := bk.cel p z
    rw [np] at e
    cases e
  refine ⟨n, funext fun b => ?_⟩
  by_cases hb : b ∈ cs
  · rw [freedH_in hb, upd_ne (fun (z : b = p) => n (z ▸ hb)), freedH_in hb]
  · rw [freedH_ne hb]
    by_cases hp : b = p
    · rw [hp, upd_same, upd_same]
    · rw [upd_ne hp, upd_ne hp, freedH_ne hb, bk.ne b hb]

/-! ### defs that hand out lambdas: their cells are held from then on -/
/-- the end of a body: what is handed back, the cells held -/
def SPR (X : Cx) (R : VK) (f : Flow) (s' : Shared) : Prop := match f with
  | .ret u => ∃ (pins : List (Addr × Obj)) (v : V) (σ' : L2.St) (H' : Hp), Inv X pins σ' H' s' ∧ RelV v u ∧ R v (heldH (csOf X.env.cells) s'.heap H')
  | _ => False
structure PSr (X : Cx) (st : List Stmt) (t : VK → L2.St → Hp → Prop) : Prop where
  run : ∀ (pins : List (Addr × Obj)) (s : Shared) (σ : L2.St) (H : Hp) (R : VK), Inv X pins σ H s → t R σ H → wpAny (model X.prog X.w) X.A (execs st X.env) (SPR X R) X.xe s
def endR (u : L2.St → Hp → Prop) : Ends := { nx := u, rt := fun _ _ => False }
section
variable {X : Cx} {st : Stmt} {rest : List Stmt} {t : TS} {u : VK → L2.St → Hp → Prop} {e c : Expr} {te : TE} {tc : TT} {pos : Pos}
theorem psr_cons (h1 : PS X st t) (h2 : PSr X rest u) : PSr X (st :: rest) (fun R σ H => t (endR (u R)) σ H) := by
  refine ⟨fun pins s σ H R I h => wpAny_execs_cons (thn (h1.run pins s σ H (endR (u R)) I h) fun f s1 q => ?_)⟩
  cases f with
  | next =>
    obtain ⟨σ', H', I', q⟩ := q
    exact h2.run pins s1 σ' H' R I' q
  | ret v =>
    obtain ⟨_, _, _, _, _, z⟩ := q
    exact False.elim z
  | brk =>
    obtain ⟨_, _, _, z⟩ := q
    exact False.elim z
  | cont =>
    obtain ⟨_, _, _, z⟩ := q
    exact False.elim z
theorem psr_ret (he : PE X e te) : PSr X [.Return (some e) pos] (fun R σ H => te σ H fun v H1 => ∀ h, HeldAt X σ H1 h → R v (heldH (csOf X.env.cells) h H1)) := by
  refine ⟨fun pins s σ H R I h => wpAny_execs_cons (wpAny_Return_some (thn (he.run pins s σ H _ I h) fun v s1 q => ?_))⟩
  obtain ⟨x, H1, I1, r, q⟩ := q
  exact ⟨pins, x, σ, H1, I1, r, q s1.heap (held_of I1)⟩
theorem psr_if {a b : List Stmt} {ta tb : VK → L2.St → Hp → Prop} (hc : PT X c tc) (ha : PSr X a ta) (hb : PSr X b tb) : PSr X [.If c a b pos] (fun R σ H => tc σ H fun d H1 => if d = true then ta R σ H1 else tb R σ H1) := by
  refine ⟨fun pins s σ H R I h => wpAny_execs_cons (thn (wpAny_If (Q := SPR X R) (thn (hc.run pins s σ H _ I h) fun d s1 ⟨H1, I1, q1⟩ => ?_)) fun f s1 q => ?_)⟩
  · cases d with
    | true => exact ha.run pins s1 σ H1 R I1 q1
    | false => exact hb.run pins s1 σ H1 R I1 q1
  · cases f with
    | next => exact False.elim q
    | ret v => exact q
    | brk => exact q
    | cont => exact q
/-- if c: a; rest, where a hands something back -/
theorem psr_ifr {a : List Stmt} {ta : VK → L2.St → Hp → Prop} (hc : PT X c tc) (ha : PSr X a ta) (hb : PSr X rest u) : PSr X (.If c a [] pos :: rest) (fun R σ H => tc σ H fun d H1 => if d = true then ta R σ H1 else u R σ H1) := by
  refine ⟨fun pins s σ H R I h => wpAny_execs_cons (thn (wpAny_If (Q := fun f s' => match f with | .next => wpAny (model X.prog X.w) X.A (execs rest X.env) (SPR X R) X.xe s' | f => SPR X R f s') (thn (hc.run pins s σ H _ I h) fun d s1 ⟨H1, I1, q1⟩ => ?_)) fun f s1 q => ?_)⟩
  · cases d with
    | true =>
      refine thn (ha.run pins s1 σ H1 R I1 q1) fun f s2 q => ?_
      cases f with
      | next => exact False.elim q
      | ret v => exact q
      | brk => exact q
      | cont => exact q
    | false => exact wpAny_execs_nil (hb.run pins s1 σ H1 R I1 q1)
  · cases f with
    | next => exact q
    | ret v => exact q
    | brk => exact q
    | cont => exact q
end
/-- THE RULE for such a def -/
theorem FunL.okD {P : Program} {w : World} {K : PySem.W.Frag} {mg : Str → Option Value} {base : Heap} {x qual : Str} {st : Stmt} {f c : Addr} {fd : FuncData} {N ps : List Str} {k : Nat} {sp : Sp} (F : FunL K x qual st f fd c) (S : FnScope N ps (defScope st)) (len : ∀ vs H Q E, sp vs H Q E → vs.length = ps.length)
    (hbody : ∀ (A : Around) (outer : List Env) (s : Shared) (H : Hp) (vs : List V) (Q : VK) (E : XK), Room k (A.deeper (envOfC qual (defScope st) s.heap.objs.size f (.ref c))) → sp vs H Q E → ∃ t, PSr (cxOf C8.CX0 P w K mg base N qual (defScope st) f (.ref c) A outer s H E) (defBody st) t ∧ t Q (L2.start N vs) H) :
    FnOk P w K mg base CX0 (k + 1) f fd ps sp := by
  obtain ⟨oc, od, kV, doc, pm, an, ct, osl, e, lk, hcd⟩ := F.ex
  refine ⟨len, fun A outer s H args us vs Q E hr e0 hbt r h => ?_⟩
  rw [e] at lk hbt
  have hl := len _ _ _ _ h
  have keep : ∀ b o, base.get? b = some o → s.heap.get? b = some o := fun b o e => (e0.bs b o e).1
  have par : ∀ y ∈ ps.zip us, (defScope st).names.lookup y.1 = some .local ∨ ((defScope st).names.lookup y.1 = some .cell ∧ ((cellsFrom (s.heap.objs.size + 1) (defScope st).names []).lookup y.1).isSome = true) := fun ⟨n, v⟩ hy => by
    rcases S.par n (List.of_mem_zip hy).1 with q | q
    · exact .inl q
    · exact .inr ⟨q, PySem.W.cellsFrom_some _ _ _ (.inl q)⟩
  refine codeAny_call_function hr.depth ((e0.mod.kin.keeps keep) _ _ lk) rfl S.co S.gen rfl (PySem.W.codeRec_of (e0.mod.kin.keeps keep) hcd) (hbt _ _ _ _ ?_)
  refine wpAny_newFunctionEnv_cells S.kind par fun env he s1 z => ?_
  subst he
  refine ⟨(e0.mod.nolimit.keeps keep).keeps z.toInCall.keep, codeAny_func ?_⟩
  obtain ⟨t, ht, hq⟩ := hbody A outer s H vs Q E (hr.deeper _) h
  have I := inv_start (CX := C8.CX0) (E := E) (f := f) (cd := Value.ref c) S hr.hd e0 hl r z
  refine wpAny_mono (ht.run [] s1 (L2.start N vs) H Q I hq) (fun fl s' hs => ?_) fun e s' hs => hs
  cases fl with
  | next => exact False.elim hs
  | brk => exact False.elim hs
  | cont => exact False.elim hs
  | ret u =>
    obtain ⟨pins, v, σ', H', J, rv, q⟩ := hs
    have hh := held_of J
    have ge : ∀ b ∈ csOf (cxOf C8.CX0 P w K mg base N qual (defScope st) f (.ref c) A outer s H E).env.cells, s.heap.objs.size ≤ b := fun b hb => by
      obtain ⟨y, q⟩ := mem_csOf.mp hb
      exact J.ok.cab y b rfl q
    have nin : ∀ {b : Addr} {o : HO}, H' b = some o → b ∉ csOf (cxOf C8.CX0 P w K mg base N qual (defScope st) f (.ref c) A outer s H E).env.cells := fun {b o} e z => by
      rw [hh.off b z] at e
      cases e
    refine ⟨v, _, J.os, J.bare, ⟨J.base.keep, J.base.slot, fun b o e n hx => ?_, J.base.there, fun b xs e => ?_, fun b o y e => ?_, fun b ts e => ?_⟩, (env0_held J (fun _ => rfl)).hok, rv, q⟩
    · rw [heldH_ne fun z => ?_]
      · exact J.base.free b o e n hx
      · exact absurd (Nat.lt_of_lt_of_le (Heap.lt_size e) (ge b z)) (Nat.lt_irrefl _)
    · have e' := J.base.tups b xs e
      rw [heldH_ne (nin e')]
      exact e'
    · have e' := J.base.frzs b o y e
      rw [heldH_ne (nin e')]
      exact e'
    · obtain ⟨more, e'⟩ := J.base.tbls b ts e
      exact ⟨more, by rw [heldH_ne (nin e')]; exact e'⟩
/-- how a thunk is read whose cells are held for good -/
def spD (t : XK → TE) (σ : L2.St) : Hp → VK → XK → Prop := fun G Q E => ∀ (H0 : Hp) (R : (Hp → Prop) → Hp → Prop), (∀ b o, G b = some o → (∀ ob, o ≠ celF ob) → H0 b = some o) →
  (∀ (C : Hp → Prop) (H' : Hp), Same H0 H' → (∀ G', Same G G' → (∀ b o, H' b = some o → G' b = some o) → C G') → R C H') → t (fun cls d H' => R (E cls d) H') σ H0 fun v H' => R (Q v) H'
theorem LamAt.thkD {X : Cx} {σ : L2.St} {H : Hp} {h : Heap} {k : Nat} {f : Addr} {t : XK → TE} (l : LamAt X k H f t) (hh : HeldAt X σ H h) : Thk X.prog X.w X.K X.mg X.base (k + 1) (heldH (csOf X.env.cells) h H) f (spD t σ) := by
  obtain ⟨ar, bo, sc, c', h1, h2, O⟩ := l
  have hs := hh.same
  have sub := capCs_sub hh O.L
  refine (thk_of O (hs _ _ h1) (hs _ _ h2) (hh.caps O.L)).imp2 (cs := capCs X sc) (fun b hb => ?_) fun G Q E hG q => ?_
  · obtain ⟨o, e⟩ := hh.celF b (sub b hb)
    exact ⟨_, e, .inl ⟨_, _, rfl⟩⟩
  · refine q (freedH (capCs X sc) G) (fun C H' => Und (capCs X sc) G H' → C (againH (capCs X sc) G H')) (fun b o e ne => ?_) fun C H' s0 z u => z _ (fun b o e => ?_) fun b o e => ?_
    · rw [freedH_ne fun z => ?_]
      · exact e
      · obtain ⟨ob, e2⟩ := hh.celF b (sub b z)
        rw [hG b z, e2] at e
        exact ne ob (Option.some.inj e).symm
    · by_cases n : b ∈ capCs X sc
      · rw [againH_in n]
        exact e
      · rw [againH_ne n]
        exact s0 b o (by rw [freedH_ne n]; exact e)
    · rw [againH_ne fun n => ?_]
      · exact e
      · rw [u.off b n] at e
        cases e

/-! ### what a call comes to, as a law asks it: ('told', value) or the error's tuple -/
/-- an error of one of these classes has come: the tuple is made -/
def MetX (rs : List (Addr × Str × Str)) (Q : VK) : XK := fun cls d H' => ∃ (C : Addr) (tag fld : Str) (dd : Addr) (v : V), (C, tag, fld) ∈ rs ∧ cls = .ref C ∧ d = some dd ∧ H' dd = some (.xd [(fld, v)]) ∧ ∀ o, H' o = none → Q (.ref o) (upd H' o (.tup [.str tag, v, .bl true]))
def spMet (P : Program) (w : World) (K : PySem.W.Frag) (mg : Str → Option Value) (base : Heap) (k : Nat) (rs : List (Addr × Str × Str)) : Sp := fun vs H Q _ => ∃ (f : Addr) (sp : Hp → VK → XK → Prop), vs = [.ref f] ∧ Thk P w K mg base k H f sp ∧
  ∀ (Q' : VK) (E' : XK), (∀ v H', (∀ p, H' p = none → Q (.ref p) (upd H' p (.tup [.str "told", v]))) → Q' v H') → (∀ cls d H', MetX rs Q cls d H' → E' cls d H') → sp H Q' E'
/-- what has been made while the cells were held is there when they are let go -/
def Over (H' G : Hp) : Prop := ∀ b o, H' b = some o → (∀ ob, o ≠ celF ob) → G b = some o
/-- asked of a lambda that is made on the spot -/
theorem met_live {X : Cx} {σ : L2.St} {H1 : Hp} {h : Heap} {k kk : Nat} {t : XK → TE} {f : Addr} {rs : List (Addr × Str × Str)} {Q : VK} {E : XK} (hh : HeldAt X σ H1 h) (l : LamAt X k H1 f t) (hk : k + 1 ≤ kk)
    (q : ∀ (H0 : Hp) (told : VK) (err : XK), Same H1 H0 → (∀ b, H0 b = none → H1 b = none) →
      (∀ v H', Same H0 H' → (∀ p Hf, Same H1 Hf → Over H' Hf → Hf p = some (.tup [.str "told", v]) → Q (.ref p) Hf) → told v H') →
      (∀ C tag fld dd v H', (C, tag, fld) ∈ rs → Same H0 H' → H' dd = some (.xd [(fld, v)]) → (∀ p Hf, Same H1 Hf → Hf p = some (.tup [.str tag, v, .bl true]) → Q (.ref p) Hf) → err (.ref C) (some dd) H') →
      t err σ H0 told) :
    spMet X.prog X.w X.K X.mg X.base kk rs [.ref f] (heldH (csOf X.env.cells) h H1) (HeldQ X Q) E := by
  obtain ⟨sp, th, run⟩ := l.thk hh
  refine ⟨f, sp, rfl, th.mono hk, fun Q' E' hQ hE => run Q' E' fun H0 R s1 fr hR => ?_⟩
  have fin : ∀ {H' G : Hp} {p : Addr} {o : HO}, Same H0 H' → Back (csOf X.env.cells) H' G → G p = none → (∀ ob, o ≠ celF ob) →
      (Same H1 (freedH (csOf X.env.cells) (upd G p o)) ∧ Over H' (freedH (csOf X.env.cells) (upd G p o))) ∧ freedH (csOf X.env.cells) (upd G p o) p = some o := fun {H' G p o} s' bk np ne => by
    obtain ⟨n, e⟩ := freed_made (o := o) bk np
    rw [e]
    have up : ∀ b u, b ∉ csOf X.env.cells → H' b = some u → upd (freedH (csOf X.env.cells) H') p o b = some u := fun b u nb hb => by
      have nbp : b ≠ p := fun z => by
        rw [← z, bk.ne b nb, hb] at np
        cases np
      rw [upd_ne nbp, freedH_ne nb]
      exact hb
    refine ⟨⟨fun b u hb => up b u (fun z => ?_) (s' b u (s1 b u hb)), fun b u hb nu => up b u (bk.off b u hb nu) hb⟩, upd_same⟩
    rw [hh.off b z] at hb
    cases hb
  refine q H0 (fun v H' => R (Q' v) H') (fun cls d H' => R (E' cls d) H') s1 fr (fun v H' s' qq => hR _ _ fun G bk => hQ v G fun p np _ => ?_) (fun C tag fld dd v H' hm s' hd qq => hR _ _ fun G bk => hE _ _ _ ?_)
  · obtain ⟨⟨a1, a2⟩, a3⟩ := fin (o := .tup [.str "told", v]) s' bk np (fun ob z => by cases z)
    exact qq p _ a1 a2 a3
  · refine ⟨C, tag, fld, dd, v, hm, rfl, rfl, ?_, fun p np _ => ?_⟩
    · rw [bk.ne dd (bk.off dd _ hd fun ob z => by cases z)]
      exact hd
    · obtain ⟨⟨a1, _⟩, a3⟩ := fin (o := .tup [.str tag, v, .bl true]) s' bk np (fun ob z => by cases z)
      exact qq p _ a1 a3

/-! ### what stands behind draws, lambdas and calls -/
/-- lists and tuples stand as they stood -/
def KLT (H H' : Hp) : Prop := ∀ b o, H b = some o → (∃ xs, o = .lst xs ∨ o = .tup xs) → H' b = some o
theorem KLT.refl {H : Hp} : KLT H H := fun _ _ e _ => e
theorem KLT.trans {H H1 H2 : Hp} (x : KLT H H1) (y : KLT H1 H2) : KLT H H2 := fun b o e h => y b o (x b o e h) h
theorem klt_same {H H' : Hp} (s : Same H H') : KLT H H' := fun b o e _ => s b o e
theorem klt_but {d : Addr} {kvs : List (Key × V)} {H H' : Hp} (s : But d H H') (hd : H d = some (.dK kvs)) : KLT H H' := fun b o e ⟨xs, h⟩ => s b o e (ne_of e hd (by rcases h with rfl | rfl <;> intro z <;> cases z))
theorem klt_ext {H H' : Hp} (s : LamX.ExtN H H') : KLT H H' := fun b o e ⟨xs, h⟩ => s b o e fun ps z => by rcases h with rfl | rfl <;> cases z
theorem KLT.lst {H H' : Hp} (k : KLT H H') {b : Addr} {xs : List V} (e : H b = some (.lst xs)) : H' b = some (.lst xs) := k _ _ e ⟨_, .inl rfl⟩
theorem KLT.tup {H H' : Hp} (k : KLT H H') {b : Addr} {xs : List V} (e : H b = some (.tup xs)) : H' b = some (.tup xs) := k _ _ e ⟨_, .inr rfl⟩
theorem Pen.ext {H H' : Hp} {d c : Addr} {n : Nat} (p : Pen H d c n) (s : LamX.ExtN H H') : Pen H' d c n := by
  obtain ⟨ns, t, l, q, e⟩ := p
  exact ⟨ns, t, l, ⟨s _ _ q.dc (fun ps z => by unfold penD at z; cases z), s _ _ q.cs (fun ps z => by cases z), q.len, q.t0⟩, e⟩
theorem tabs_but {TT : List (Addr × Str)} {d : Addr} {kvs : List (Key × V)} {H H' : Hp} (h : LamX.Tabs TT H) (s : But d H H') (hd : H d = some (.dK kvs)) : LamX.Tabs TT H' := fun p hp => by
  obtain ⟨ps, h1, h2, h3⟩ := h p hp
  refine ⟨ps, s _ _ h1 (ne_of h1 hd (by intro z; cases z)), h2, fun pos cv hc => ?_⟩
  obtain ⟨c, e1, e2⟩ := h3 pos cv hc
  exact ⟨c, e1, s _ _ e2 (ne_of e2 hd (by intro z; unfold LamX.CodeO at z; cases z))⟩
/-- a pen, and the tables of code objects -/
structure PT2 (TT : List (Addr × Str)) (H : Hp) (d c : Addr) (n : Nat) : Prop where
  pen : Pen H d c n
  tabs : LamX.Tabs TT H
theorem PT2.same {TT : List (Addr × Str)} {H H' : Hp} {d c : Addr} {n : Nat} (p : PT2 TT H d c n) (s : Same H H') : PT2 TT H' d c n := ⟨p.pen.same s, p.tabs.ext s⟩
theorem PT2.but {TT : List (Addr × Str)} {H H' : Hp} {d c : Addr} {n m : Nat} (p : PT2 TT H d c n) (q : Pen H' d c m) (s : But d H H') : PT2 TT H' d c m ∧ KLT H H' := by
  obtain ⟨_, hd⟩ := p.pen.dict
  exact ⟨⟨q, tabs_but p.tabs s hd⟩, klt_but s hd⟩
theorem PT2.up {TT : List (Addr × Str)} {H : Hp} {d c : Addr} {n m : Nat} (p : PT2 TT H d c n) (h : n ≤ m) : PT2 TT H d c m := ⟨p.pen.up h, p.tabs⟩

/-! ### != by an own __eq__ (object.__ne__ turns its answer round), own == beside ints and tuples -/
inductive EqTy2 (H : Hp) : V → Value → Prop where
  | str (y : Str) : EqTy2 H (.str y) (.type "str")
  | int (i : Int) : EqTy2 H (.int i) (.type "int")
  | ins {p C : Addr} {dx : Addr} {fs : List (Str × V)} (e : H p = some (.ins C dx fs)) : EqTy2 H (.ref p) (.ref C)
  | tup {p : Addr} {xs : List V} (e : H p = some (.tup xs)) : EqTy2 H (.ref p) (.type "tuple")
  | lst {p : Addr} {xs : List V} (e : H p = some (.lst xs)) : EqTy2 H (.ref p) (.type "list")
theorem eqTy2_looks {X : Cx} {pins : List (Addr × Obj)} {σ : L2.St} {H : Hp} {s : Shared} {y : V} {u tb : Value} (I : Inv X pins σ H s) (ty : EqTy2 H y tb) (ry : RelV y u) : PySem.W.Looks (model X.prog X.w) s.heap (typeOf u) tb := by
  cases ty with
  | str z =>
    obtain ⟨t, q⟩ := (show ∃ t, u = Value.str z t from ry)
    cases q
    exact .now
  | int i =>
    obtain ⟨t, q⟩ := (show ∃ t, u = Value.int i t from ry)
    cases q
    exact .now
  | @ins b C' dy gs e =>
    cases (show u = Value.ref b from ry)
    obtain ⟨mB, J', _⟩ := ins_get I.hok e
    obtain ⟨od', J', _⟩ := J'.look
    exact J'.type
  | @tup b xs e =>
    cases (show u = Value.ref b from ry)
    obtain ⟨_, its, _, ob, ho, hc, _⟩ := I.hok b _ e
    rw [← hc]
    exact (PySem.W.Looks.ld ho).andThen .now
  | @lst b xs e =>
    cases (show u = Value.ref b from ry)
    obtain ⟨z, its, n, r, hl, e'⟩ := I.lstM e
    exact (PySem.W.Looks.ld e').andThen .now
def rEqOwn2 (K : PySem.W.Frag) (C : Addr) (sp : Sp) : R2 := fun x y H Q => ∃ (p dx : Addr) (fs : List (Str × V)) (tb : Value), x = .ref p ∧ H p = some (.ins C dx fs) ∧ EqTy2 H y tb ∧ PySem.W.notFirst K C tb = true ∧ sp [x, y] H (fun v H' => (∃ b, v = .bl b) ∧ Q v H') L2.E0
def rNeOwn2 (K : PySem.W.Frag) (C : Addr) (sp : Sp) : R2 := fun x y H Q => ∃ (p dx : Addr) (fs : List (Str × V)) (tb : Value), x = .ref p ∧ H p = some (.ins C dx fs) ∧ EqTy2 H y tb ∧ PySem.W.notFirst K C tb = true ∧ sp [x, y] H (fun v H' => ∃ b, v = .bl b ∧ Q (.bl (!b)) H') L2.E0
theorem op_eq_own2 {X : Cx} {n : Nat} {C f : Addr} {fd : FuncData} {ps : List Str} {sp : Sp} (F : FnOk X.prog X.w X.K X.mg X.base L2.CX0 n f fd ps sp) (hr : Room n X.A)
    (hs : PySem.W.findIn X.K (.ref C) "__eq__" = some (some (.ref f))) (hf : PySem.W.isFn X.K (.ref f) = true) (hb : Binds X.K fd ps []) : OpR X (compareOp .Eq) (rEqOwn2 X.K C sp) := by
  rintro pins s σ H x y v u Q I rx ry ⟨p, dx, fs, tb, rfl, hp, ty, hn, hsp⟩
  cases rx
  obtain ⟨mA, J, _⟩ := ins_get I.hok hp
  obtain ⟨od, J, _⟩ := J.look
  obtain ⟨m, hF⟩ := I.fr
  have hT := eqTy2_looks I ty ry
  show wpAny (model X.prog X.w) X.A (richCompare .Eq (.ref p) u) (EP X pins σ Q) X.xe s
  refine PySem.W.cmp_K (op := .Eq) (tb := tb) hr.units0 hF I.ok.mod.kin J hT hn hs hf ?_
  refine wpAny_mono (run_fn F hr hb .nil pass0 I (show Vals [V.ref p, y] [Value.ref p, u] from .cons rfl (.cons ry .nil)) hsp) (fun w s' z => ?_) fun _ _ h => h
  obtain ⟨z, H', I', rz, ⟨b, ez⟩, q⟩ := z
  subst ez
  cases (show w = Value.bool b from rz)
  exact ⟨.bl b, H', I', rfl, q⟩
theorem op_ne_own2 {X : Cx} {n : Nat} {C f : Addr} {fd : FuncData} {ps : List Str} {sp : Sp} (F : FnOk X.prog X.w X.K X.mg X.base L2.CX0 n f fd ps sp) (hr : Room (n + 1) X.A)
    (hs : PySem.W.findIn X.K (.ref C) "__eq__" = some (some (.ref f))) (hne : PySem.W.findIn X.K (.ref C) "__ne__" = some (some (.builtin "object.__ne__"))) (hob : PySem.W.mroIn X.K C (.type "object") = some true) (hf : PySem.W.isFn X.K (.ref f) = true) (hb : Binds X.K fd ps []) : OpR X (compareOp .NotEq) (rNeOwn2 X.K C sp) := by
  rintro pins s σ H x y v u Q I rx ry ⟨p, dx, fs, tb, rfl, hp, ty, hn, hsp⟩
  cases rx
  obtain ⟨mA, J, _⟩ := ins_get I.hok hp
  obtain ⟨od, J, _⟩ := J.look
  have hT := eqTy2_looks I ty ry
  have kX := I.kIn
  have r2 : Vals [V.ref p, y] [Value.ref p, u] := .cons rfl (.cons ry .nil)
  have hl : [Value.ref p, u].length = ps.length := by
    have e := F.len _ _ _ _ hsp
    exact e
  -- the own == is asked by object.__ne__
  have run : codeAny (model X.prog X.w) X.A (.call (.builtin "object.__ne__") ⟨[.ref p, u], []⟩) (fun r s' => ∃ b : Bool, r = .ok (.ret (.bool (!b))) ∧ ∃ H', Inv X pins σ H' s' ∧ Q (.bl (!b)) H') s := by
    have sub : PySem.W.Looks (model X.prog X.w) s.heap (isInstance (.ref p) (.type "object")) true := J.type.andThen (PySem.W.looks_mroIn kX hob)
    refine codeAny_call_builtin PySem.F.cmp_object.ne.plain PySem.F.cmpEntry_ne (PySem.W.check_slot PySem.F.cmpKind_ne PySem.F.cmpSplit_ne sub (PySem.F.cmpArgs_ne _ _) ?_)
    unfold Builtin.«object.__ne__»
    have hu1 : X.A.in1.units < cLine := (hr.in1).units0
    rw [show slotArgs "__ne__" 1 ⟨[.ref p, u], []⟩ = pure (.ref p, [u]) from rfl]
    refine wpAny_bind (wpAny_pure (wpAny_bind (wpAny_cRoomFor hu1 (wpAny_bind (PySem.W.ifBound_K kX J hs hf ?_)))))
    have inner : wpAny (model X.prog X.w) X.A.in1 (call (.ref f) [.ref p, u]) (fun w s' => ∃ b, w = .bool b ∧ ∃ H', Inv X pins σ H' s' ∧ Q (.bl (!b)) H') (fun e s' => ∃ b : Bool, (Except.error e : Result) = .ok (.ret (.bool (!b))) ∧ ∃ H', Inv X pins σ H' s' ∧ Q (.bl (!b)) H') s := by
      refine wpAny_call (codeAny_mono (F.run X.A.in1 X.stack s H ⟨[.ref p, u], []⟩ [.ref p, u] [V.ref p, y] _ _ hr.in1 I.env0.in1 (hb s [.ref p, u] kX hl) r2 hsp) fun r s' hq => ?_)
      cases r with
      | error e => exact False.elim hq
      | ok fl =>
        cases fl with
        | ret w =>
          obtain ⟨v', H', I', rz, b, ez, q⟩ := I.after hq
          subst ez
          exact ⟨b, rz, H', I', q⟩
        | next => exact False.elim hq
        | brk => exact False.elim hq
        | cont => exact False.elim hq
    refine wpAny_mono inner (fun w s' hq => ?_) fun _ _ h => h
    obtain ⟨b, rfl, H', I', q⟩ := hq
    refine wpAny_bind (wpAny_truthy_bool ?_)
    exact wpAny_pure ⟨b, rfl, H', I', q⟩
  have one : wpAny (model X.prog X.w) X.A (tryCompare (.ref p) "__ne__" u) (fun r s' => ∃ v, r = some v ∧ EP X pins σ Q v s') X.xe s := by
    unfold tryCompare
    simp only [callSpecialIfBound?, bindSpecialIfBound?]
    refine wpAny_bind (wpAny_holding (wpAny_bind (wpAny_bind (wpAny_bind (J.type.here ((PySem.W.looks_findIn kX hne).here ?_))))))
    simp only [PySem.F.cmp_object.ne.bind]
    have fin : wpAny (model X.prog X.w) X.A (call (.builtin "object.__ne__") [.ref p, u]) (fun v s' => ∃ b : Bool, v = .bool (!b) ∧ ∃ H', Inv X pins σ H' s' ∧ Q (.bl (!b)) H') X.xe s := wpAny_call (codeAny_mono run fun r s' hq => by
      obtain ⟨b, rfl, hq⟩ := hq
      exact ⟨b, rfl, hq⟩)
    refine wpAny_bind (wpAny_askSetting (wpAny_ite ?_))
    split
    · refine wpAny_bind (wpAny_pure (wpAny_pure ?_))
      show wpAny _ _ (call (.builtin "object.__ne__") ([.ref p] ++ [u]) >>= fun v => pure (some v)) _ _ _
      refine wpAny_bind (wpAny_mono fin (fun v s' hq => ?_) fun _ _ h => h)
      obtain ⟨b, rfl, H', I', q⟩ := hq
      exact wpAny_pure (wpAny_pure ⟨_, rfl, .bl (!b), H', I', rfl, q⟩)
    · refine wpAny_tryCatch (wpAny_bind (wpAny_pure (wpAny_pure ?_)))
      show wpAny _ _ (call (.builtin "object.__ne__") ([.ref p] ++ [u]) >>= fun v => pure (some v)) _ _ _
      refine wpAny_bind (wpAny_mono fin (fun v s' hq => ?_) fun _ _ h => h)
      obtain ⟨b, rfl, H', I', q⟩ := hq
      exact wpAny_pure (wpAny_pure ⟨_, rfl, .bl (!b), H', I', rfl, q⟩)
  show wpAny (model X.prog X.w) X.A (richCompare .NotEq (.ref p) u) (EP X pins σ Q) X.xe s
  unfold richCompare
  simp only [oneThing_ref]
  refine wpAny_holding (wpAny_bind (wpAny_cRoomFor hr.units0 ?_))
  refine wpAny_bind (J.type.here (wpAny_bind (hT.here ?_)))
  split
  · rename_i q
    have e : PySem.W.subIn X.K tb (.ref C) = some false := by
      rcases Bool.or_eq_true_iff.mp hn with e | e
      · rw [beq_iff_eq.mp e] at q
        simp at q
      · exact beq_iff_eq.mp e
    refine wpAny_bind ((PySem.W.looks_subIn kX e).here ?_)
    simp only [Bool.false_eq_true, if_false]
    refine wpAny_bind (wpAny_mono one (fun r s' z => ?_) fun _ _ e => e)
    obtain ⟨v, rfl, hq⟩ := z
    exact wpAny_pure hq
  · refine wpAny_bind (wpAny_pure ?_)
    simp only [Bool.false_eq_true, if_false]
    refine wpAny_bind (wpAny_mono one (fun r s' z => ?_) fun _ _ e => e)
    obtain ⟨v, rfl, hq⟩ := z
    exact wpAny_pure hq

/-! ### a list comprehension whose element may know what its block began with -/
section
variable {X : Cx}
/-- PE X e t, where the block's beginning is known to be a state of the def -/
theorem pe_lcG {elt tg iter : Expr} {scope : Scope} {own : List (Str × Nat)} {pos : Pos} {wi : TI} {g : TG} {te : L2.St → TE} (calm : X.calm = true) (nod : X.N.Nodup) (hi : PI X tg iter wi) (bk : BlkOk X.N X.env.scope scope own)
    (hg : ∀ (z : Shared) (G : Hp) (C : Addr) (cl : List (Str × Addr)) (fp : List Addr), PG (X.blk z G scope (compEnvC scope cl C X.env) fp) tg g)
    (he : ∀ (pins : List (Addr × Obj)) (σ : L2.St) (z : Shared) (G : Hp) (C : Addr) (cl : List (Str × Addr)) (fp : List Addr), Inv X pins σ G z → (∀ b ∈ fp, FpOk X pins G b) → PE (X.blk z G scope (compEnvC scope cl C X.env) fp) elt (te σ))
    (hs : ∀ x, foldedSetIterable iter X.env x = pure x := by intro _; rfl) :
    PE X (.ListComp elt [⟨tg, iter, [], 0⟩] scope pos) (fun σ H Q => tLc wi g tYes (te σ) (own.map (·.2)) σ H Q) := by
  refine ⟨fun pins s σ H Q I h => ?_⟩
  rw [eval_ListComp]
  have fr : ∀ y ∈ scope.names, y.2 = .free → ∃ c, X.env.cells.lookup y.1 = some c := fun y hy e => (bk.free y hy e).elim (fun k => I.ok.has _ (.inl k)) fun k => I.ok.has _ (.inr k)
  refine wpAny_comprehension_free (use := none) rfl hs (closure_ok fr) bk.kind (fun y hy e => (bk.uniq y hy).trans (congrArg some e)) (thn (hi.run pins s σ H _ I h) fun _ _ ha => thn ha fun _ a hb => ?_)
  obtain ⟨it, fp, tn, J, H2, rfl, I2, T, t0, f0, ask⟩ := hb
  refine wpAny_newObj_type (newEnv_comp ?_) (show 0 ≤ sizeLine by decide)
  -- the new list stands at D
  obtain ⟨D, hD⟩ : ∃ D, D = a.heap.objs.size := ⟨_, rfl⟩
  rw [← hD]
  obtain ⟨W, ⟨m0, w0⟩, turn⟩ := ask D (I2.hok.fresh (Nat.le_of_eq hD.symm))
  obtain ⟨b, hb⟩ : ∃ b : Shared, b = { a with heap := a.heap.push { cls := .type "list", data := .seq ([] : List Value).toArray } } := ⟨_, rfl⟩
  rw [← hb]
  have bh : b.heap = a.heap.push { cls := .type "list", data := .seq ([] : List Value).toArray } := by rw [hb]
  have pushes : ∀ c o, a.heap.get? c = some o → b.heap.get? c = some o := fun c o e => by
    rw [bh]
    exact Heap.get?_push_of_some _ e
  have I3 : Inv X pins σ (upd H2 D (.lst [])) b := by
    rw [hb]
    refine I2.laid (t' := a.toks) (fun _ _ e => Heap.get?_push_of_some _ e) (Nat.le_of_eq hD.symm) ⟨Nat.zero_le _, [], 0, .nil, ?_⟩
    rw [hD]
    exact Heap.get?_push_size _ rfl
  have lt : ∀ c ∈ fp, c < a.heap.objs.size := fun c hc => by
    obtain ⟨o, e, _⟩ := T.obj _ _ t0 c hc
    exact Heap.lt_size e
  have f1 : ∀ c ∈ fp, FpOk X pins (upd H2 D (.lst [])) c ∧ c < b.heap.objs.size := fun c hc => by
    have l := lt c hc
    refine ⟨⟨?_, (f0 c hc).2⟩, ?_⟩
    · rw [upd_ne (by rw [hD]; exact Nat.ne_of_lt l)]
      exact (f0 c hc).1
    · rw [bh, Heap.size_push]
      exact Nat.lt_succ_of_lt l
  have t1 : tn 0 b.heap := T.keep _ _ _ t0 fun c _ o e => pushes c o e
  have I4 := block_start I3 bk nod f1
  have off1 : ∀ c ∈ fp, (upd H2 D (.lst [])) c = none := fun c hc => (f1 c hc).1.1
  obtain ⟨G, hG⟩ : ∃ G, G = upd H2 D (.lst []) := ⟨_, rfl⟩
  rw [← hG] at I3 I4 f1 w0 off1
  have pg := hg b G b.heap.objs.size (cellsFrom (b.heap.objs.size + 1) scope.names (cloFrom X.env.cells scope.names [])) fp
  have pe := he pins σ b G b.heap.objs.size (cellsFrom (b.heap.objs.size + 1) scope.names (cloFrom X.env.cells scope.names [])) fp I3 fun c hc => (f1 c hc).1
  obtain ⟨ce, hce⟩ : ∃ ce, ce = compEnvC scope (cellsFrom (b.heap.objs.size + 1) scope.names (cloFrom X.env.cells scope.names [])) b.heap.objs.size X.env := ⟨_, rfl⟩
  rw [← hce] at I4 pg pe
  have cL : ce.locals = b.heap.objs.size := by rw [hce]; rfl
  obtain ⟨d, hd⟩ : ∃ d : Shared, d = { b with heap := pushCells (b.heap.push { cls := .type "dict", data := .dict #[] }) scope.names } := ⟨_, rfl⟩
  rw [← hd] at I4
  have t2 : tn 0 d.heap := T.keep _ _ _ t1 fun c _ o e => by
    rw [hd]
    exact pushCells_keeps _ _ _ _ (Heap.get?_push_of_some _ e)
  have rec_ : ∀ {σ' : L2.St} {H' : Hp} {s' : Shared}, Inv (X.blk b G scope ce fp) [] σ' H' s' → (∀ c ∈ fp, H' c = none) → ∀ c ∈ fp, FpOk (X.blk b G scope ce fp) [] H' c := fun {σ' H' s'} I' n c hc =>
    ⟨n c hc, (I'.ok.exf c hc).1, I'.ok.exfs c hc, .inl hc, fun x k e => (I'.ok.exf c hc).2 x k e, fun p hp => absurd (show p ∈ ([] : List (Addr × Obj)) ++ [] from hp) (by simp)⟩
  have loop : codeAny (model X.prog X.w) X.A (.compLoop (.ListComp elt [⟨tg, iter, [], 0⟩] scope pos) 0 (.ref it) (.ref D) ce) (compPost (model X.prog X.w) X.A X.xe none (EP X pins σ Q) (.ref D) b.heap.objs.size) d := by
    refine compLoop_any (fun n z => ∃ i K, Inv (X.blk b G scope ce fp) [] (wipe σ (own.map (·.2))) K z ∧ tn i z.heap ∧ (∀ c ∈ fp, K c = none) ∧ W i n K) ?_ m0 ⟨0, G, I4, t2, off1, w0⟩
    rintro n z ⟨i, K, IK, tK, nK, wK⟩
    rcases turn i n K wK with ⟨stop, fin⟩ | ⟨go, Nx, hNx, step⟩
    · refine thnF (T.done (X.blk b G scope ce fp) rfl rfl rfl calm i [] z _ K (fun _ _ => False) IK (rec_ IK nK) tK stop) fun r y ⟨hr, Iy⟩ => ?_
      subst hr
      have back : Inv X pins σ K y := I3.call' (ch := fp) Iy.os Iy.base Iy.hok Iy.bare fun c hc => ⟨(f1 c hc).1.2.2.2.1, (f1 c hc).1.2.1, (f1 c hc).1.2.2.2.2.1, (f1 c hc).1.2.2.2.2.2⟩
      have nL : K b.heap.objs.size = none := by
        have q : K ce.locals = none := Iy.free
        rw [cL] at q
        exact q
      obtain ⟨m, hn, _⟩ := Iy.loc
      have hn : y.heap.Ns ce.locals m := hn
      rw [cL] at hn
      refine ⟨m, hn, fun h'' sb => ?_⟩
      obtain ⟨_, g1, _, g3, g4, g5⟩ := I3.fpOk (H' := K) (Nat.le_refl _) nL
      exact ⟨.ref D, K, back.turned (t' := y.toks) (fun c o hc e => (sb.2 c hc).trans e) nL g1 g3 g4 g5, rfl, fin⟩
    · refine thnF (T.item (X.blk b G scope ce fp) rfl rfl rfl calm i [] z _ K (fun _ _ => False) IK (rec_ IK nK) tK go) fun r y ⟨u, hr, hy⟩ => ?_
      subst hr
      refine thnF hy fun _ y2 ⟨x, K2, I5, r5, yl, t5, n5⟩ => ?_
      refine thnF (pg.run _ y2 _ K2 x u _ (I5.pinned (rec_ I5 n5) (T.obj _ _ t5)) r5 (step x K2 yl)) fun _ y3 ⟨σ3, K3, I6, hw, q6⟩ => ?_
      refine wpAny_pure ?_
      simp only [if_true]
      have q6 : te σ σ3 K3 _ := q6
      refine thnF (pe.run _ y3 σ3 K3 _ I6 q6) fun v y4 ⟨yv, K4, I7, r7, acc, hDa, hz, nx⟩ => app_ok (X := X.blk b G scope ce fp) I7 hDa hz r7 fun y5 I8 => ?_
      obtain ⟨m', hm, w'⟩ := hNx _ nx
      have pin : ∀ c ∈ fp, ∀ o, y2.heap.get? c = some o → y5.heap.get? c = some o ∧ (upd K4 D (.lst (acc ++ [yv]))) c = none := fun c hc o e =>
        let q := I8.pin (c, o) (List.mem_append_right _ (List.mem_append_right _ (mem_pinsAt hc e)))
        ⟨q.1, q.2.1⟩
      refine ⟨m', hm, i + 1, _, (I8.unpinned (pins := [])).weak (by rw [← hw, wipe_length]) (fun j v e => ?_), T.keep _ _ _ t5 fun c hc o e => (pin c hc o e).1, fun c hc => ?_, w'⟩
      · rw [← hw] at e
        exact (wipe_some e).1
      · obtain ⟨o, e, _⟩ := T.obj _ _ t5 c hc
        exact (pin c hc o e).2
  have whole : codeAny (model X.prog X.w) X.A (.compStart (.ListComp elt [⟨tg, iter, [], 0⟩] scope pos) 0 (.ref it) (.ref D) ce) (compPost (model X.prog X.w) X.A X.xe none (EP X pins σ Q) (.ref D) b.heap.objs.size) d :=
    codeAny_compStart_list loop (T.self X.A 0 _ _ _ t2 loop)
  rw [hce, hd] at whole
  exact whole
end

/-! ### calls while the cells of a frame are held, also out of a block of its def -/
structure Hold (base : Heap) (fr : List Addr) (cs : List Addr) (H : Hp) (h : Heap) : Prop where
  off : ∀ c ∈ cs, H c = none
  cel : ∀ c ∈ cs, ∃ o, h.get? c = some o
  bas : ∀ c ∈ cs, base.objs.size ≤ c
  frm : ∀ c ∈ cs, c ∉ fr
section
variable {base : Heap} {fr cs : List Addr} {H : Hp} {h : Heap}
theorem Hold.celF (x : Hold base fr cs H h) : CellsF cs (heldH cs h H) := fun b hb => by
  obtain ⟨o, e⟩ := x.cel b hb
  exact ⟨o, by unfold heldH; rw [if_pos hb, e]; rfl⟩
theorem Hold.same (x : Hold base fr cs H h) : Same H (heldH cs h H) := fun b o e => by
  rw [heldH_ne fun z => ?_]
  · exact e
  · rw [x.off b z] at e
    cases e
end
section
variable {P : Program} {w : World} {K : PySem.W.Frag} {mg : Str → Option Value} {base : Heap} {A : Around} {outer : List Env} {s s' : Shared} {H : Hp} {cs : List Addr}
theorem env0_hold (e0 : Env0 P w K mg base A outer s H) (x : Hold base (frs outer) cs H s.heap) : Env0 P w K mg base A outer s (heldH cs s.heap H) := by
  refine ⟨e0.frames, e0.mod, fun b o q => ⟨(e0.bs b o q).1, ?_⟩, e0.bsz, e0.funs, fun b hb => ?_, fun b o e => ?_, e0.bare⟩
  · rw [heldH_ne fun z => ?_]
    · exact (e0.bs b o q).2
    · exact absurd (Nat.lt_of_lt_of_le (Heap.lt_size q) (x.bas b z)) (Nat.lt_irrefl _)
  · rw [heldH_ne fun z => x.frm b z hb]
    exact e0.frf b hb
  · by_cases hb : b ∈ cs
    · obtain ⟨ob, ho⟩ := x.cel b hb
      unfold heldH at e
      rw [if_pos hb, ho] at e
      cases e
      exact ⟨ho, trivial, ⟨ob, ho⟩, fun _ _ _ _ => trivial⟩
    · rw [heldH_ne hb] at e
      refine (e0.hok b o e).stay (fun _ _ _ q => q) (fun d q => x.same d _ q) fun d xs q => x.same d _ q
theorem ce_hold {Q : VK} {u : Value} (e0 : Env0 P w K mg base A outer s H) (x : Hold base (frs outer) cs H s.heap) (q : CE outer P w (heldH cs s.heap H) s (fun v G => CellsF cs G → Q v (freedH cs G)) u s') : CE outer P w H s Q u s' := by
  obtain ⟨v, G, os, bare, un, hok, r, qq⟩ := q
  have cf : CellsF cs G := fun b hb => by
    obtain ⟨o, e⟩ := x.celF b hb
    exact ⟨o, un.frzs b o _ e⟩
  have stands : ∀ b ∈ cs, ∀ o, s.heap.get? b = some o → s'.heap.get? b = some o := fun b z o e => by
    obtain ⟨ob, e2⟩ := x.celF b z
    have h1 := ((env0_hold e0 x).hok b _ e2).1
    rw [e] at h1
    cases h1
    exact (hok b _ (un.frzs b _ _ e2)).1
  refine ⟨v, freedH cs G, os, bare, ⟨fun b o e n hb hx => ?_, fun b o e n hb hx => ?_, fun b o e n hx => ?_, fun b o e hx => un.there b o e hx, fun b xs e => ?_, fun b o v e => ?_, fun b ps e => ?_⟩, hok_freed hok cf, r, qq cf⟩
  · by_cases z : b ∈ cs
    · exact stands b z o e
    · exact un.keep b o e (by rw [heldH_ne z]; exact n) hb hx
  · by_cases z : b ∈ cs
    · exact ⟨o.slots, stands b z o e⟩
    · exact un.slot b o e (by rw [heldH_ne z]; exact n) hb hx
  · by_cases z : b ∈ cs
    · exact freedH_in z
    · rw [freedH_ne z]
      exact un.free b o e (by rw [heldH_ne z]; exact n) hx
  · have z : b ∉ cs := fun z => by
      rw [x.off b z] at e
      cases e
    rw [freedH_ne z]
    exact un.tups b xs (by rw [heldH_ne z]; exact e)
  · have z : b ∉ cs := fun z => by
      rw [x.off b z] at e
      cases e
    rw [freedH_ne z]
    exact un.frzs b o v (by rw [heldH_ne z]; exact e)
  · have z : b ∉ cs := fun z => by
      rw [x.off b z] at e
      cases e
    obtain ⟨more, q⟩ := un.tbls b ps (by rw [heldH_ne z]; exact e)
    exact ⟨more, by rw [freedH_ne z]; exact q⟩
end
section
variable {X : Cx} {pins : List (Addr × Obj)} {σ : L2.St} {G : Hp} {b : Shared} {scope : Scope} {ce : Env} {fp : List Addr}
/-- in a block of X's def that began at b: X's cells stand there as they stood -/
theorem blk_cells {q : List (Addr × Obj)} {τ : L2.St} {H : Hp} {s : Shared} (I0 : Inv X pins σ G b) (hfn : ∀ x, X.fn x = true) (f0 : ∀ c ∈ fp, FpOk X pins G c) (I : Inv (X.blk b G scope ce fp) q τ H s) :
    HeldAt X σ H s.heap ∧ Hold X.base (frs X.stack) (csOf X.env.cells) H s.heap := by
  have fr : ∀ x c, X.env.cells.lookup x = some c → c ∉ frs X.stack := fun x c e z => by
    rcases List.mem_cons.mp (I0.stkSub c z) with k | k
    · exact I0.cne x c e k
    · obtain ⟨_, o, ho, _⟩ := I0.ok.funs.mem k
      exact absurd (Nat.lt_of_lt_of_le (Heap.lt_size ho) (I0.ok.cab x c (hfn x) e)) (Nat.lt_irrefl _)
  have nfp : ∀ x c, X.env.cells.lookup x = some c → c ∉ fp := fun x c e z => (f0 c z).2.2.2.2.1 x c e rfl
  have st : ∀ x c, X.env.cells.lookup x = some c → ∀ o, b.heap.get? c = some o → s.heap.get? c = some o := fun x c e o ho =>
    I.base.keep c o ho (I0.freeC x c e) (fr x c e) (nfp x c e)
  have off : ∀ x c, X.env.cells.lookup x = some c → H c = none := fun x c e => by
    obtain ⟨u, o, ho, _⟩ := I0.cell x c e
    exact I.base.free c o ho (I0.freeC x c e) (nfp x c e)
  have h0 := held_of I0
  refine ⟨⟨fun c hc => ?_, h0.inj, fun x c e => ?_, h0.has, h0.len⟩, ⟨fun c hc => ?_, fun c hc => ?_, fun c hc => ?_, fun c hc => ?_⟩⟩
  · obtain ⟨x, e⟩ := mem_csOf.mp hc
    exact off x c e
  · obtain ⟨o, u, h1, h2, h3⟩ := h0.at_ x c e
    exact ⟨o, u, st x c e o h1, h2, h3⟩
  · obtain ⟨x, e⟩ := mem_csOf.mp hc
    exact off x c e
  · obtain ⟨x, e⟩ := mem_csOf.mp hc
    obtain ⟨u, o, ho, _⟩ := I0.cell x c e
    exact ⟨o, st x c e o ho⟩
  · obtain ⟨x, e⟩ := mem_csOf.mp hc
    exact Nat.le_trans I0.ok.bsz (I0.ok.cab x c (hfn x) e)
  · obtain ⟨x, e⟩ := mem_csOf.mp hc
    exact fr x c e
def tCallB (X : Cx) (sp : Sp) (t : TA) (σ : L2.St) : TE := fun τ H Q => t τ H fun vs H1 => ∀ h : Heap, HeldAt X σ H1 h → sp vs (heldH (csOf X.env.cells) h H1) (HeldQ X Q) L2.E0
/-- x(e, ..) in a block, the cells of the def's frame held meanwhile -/
theorem pe_callBk (I0 : Inv X pins σ G b) (f0 : ∀ c ∈ fp, FpOk X pins G c) {k : Nat} {f : Addr} {fd : FuncData} {ps : List Str} {sp : Sp} {x : Str} {p pos : Pos} {e : Expr} {es : List Expr} {t : TA} (F : FnOk X.prog X.w X.K X.mg X.base L2.CX0 k f fd ps sp) (hr : Room k X.A) (hg : Gl (X.blk b G scope ce fp) x) (hm : X.mg x = some (.ref f)) (hk : PySem.W.keepIn X.K (.ref f) = true) (hb : Binds X.K fd ps [])
    (ha : PA (X.blk b G scope ce fp) (e :: es) t) (hfn : ∀ x, X.fn x = true := by intro _; rfl) (hdb : (x == ("__debug__" : Str)) = false := by decide) (he : starEach (e :: es) ce = (false, eval e ce) :: starEach es ce := by rfl) (hpl : (backTo pos (starEach es ce)).any (·.1) = false := by rfl) :
    PE (X.blk b G scope ce fp) (.Call (.Name x p) (e :: es) [] pos) (tCallB X sp t σ) := by
  refine ⟨fun pins' s τ H Q I h => ?_⟩
  refine wpAny_Call_Name_kw (ld_glob I hg hm ?_ hdb)
  refine PySem.W.callWith_K (h₀ := X.base) I.ok.mod.kin hk (thn (ha.run pos pins' s τ H _ I h) fun us s1 ⟨vs, H1, I1, r, q⟩ => ⟨I1.kIn, ?_⟩) he hpl
  obtain ⟨hh, hd⟩ := blk_cells I0 hfn f0 I1
  have q := q s1.heap hh
  have e0 : Env0 X.prog X.w X.K X.mg X.base X.A X.stack s1 H1 := I1.env0
  have hl : us.length = ps.length := by
    rw [← r.length]
    exact F.len _ _ _ _ q
  have hl : (us ++ []).length = ps.length := by rw [List.append_nil]; exact hl
  have r2 : Vals vs (us ++ []) := by rw [List.append_nil]; exact r
  refine wpAny_call (codeAny_mono (F.run X.A X.stack s1 _ ⟨us, []⟩ (us ++ []) vs _ _ hr (env0_hold e0 hd) (hb s1 us I1.kIn hl) r2 q) fun r s' hq => ?_)
  cases r with
  | error e => exact False.elim hq
  | ok fl =>
    cases fl with
    | ret u => exact I1.after (ce_hold e0 hd hq)
    | next => exact False.elim hq
    | brk => exact False.elim hq
    | cont => exact False.elim hq
end

/-! ### sorted(l), l a list of tuples of ints of which two with one first are alike -/
theorem kat_alike {prog : Program} {w : World} {A : Around} {s : Shared} {b fin : Bool} {Q : Bool → Shared → Prop} (hq : Q fin s) : ∀ {xs ys : List Value} {ns : List Int} {i : Nat}, IntsAre xs ns → IntsAre ys ns → PySem.W.KatLex prog w A b fin Q (xs.zip ys) i s
  | _, _, _, _, .nil, .nil => PySem.W.kat_nil hq
  | _, _, _, _, .cons p t hx, .cons _ u hy => by
    rw [List.zip_cons_cons]
    refine PySem.W.kat_cons (wpAny_eqBool_int ?_)
    rw [beq_self_eq_true]
    exact PySem.W.kat_yes (kat_alike hq hx hy)
def fstOf (h : Heap) (v : Value) : Int := (TS.intsOf h v).headD 0
/-- what is sorted: tuples with a first; one first, one tuple -/
structure FstOk (h : Heap) (vs : List Value) : Prop where
  tup : ∀ v ∈ vs, ∃ n ns, TS.TupInts h v (n :: ns)
  one : ∀ v ∈ vs, ∀ u ∈ vs, ∀ n ns ms, TS.TupInts h v (n :: ns) → TS.TupInts h u (n :: ms) → ns = ms
  len : ∃ d, ∀ v ∈ vs, ∀ ns, TS.TupInts h v ns → ns.length = d
theorem FstOk.keeps {h h' : Heap} {vs : List Value} (x : FstOk h vs) (k : ∀ b o, h.get? b = some o → o.cls = .type "tuple" → h'.get? b = some o) : FstOk h' vs := by
  have same : ∀ v ∈ vs, ∀ ns, TS.TupInts h' v ns → TS.TupInts h v ns := fun v hv ns t => by
    obtain ⟨n, ms, tm⟩ := x.tup v hv
    have e : ns = n :: ms := t.ints.symm.trans (tm.keeps k).ints
    rw [e]
    exact tm
  refine ⟨fun v hv => ?_, fun v hv u hu n ns ms t1 t2 => x.one v hv u hu n ns ms (same v hv _ t1) (same u hu _ t2), ?_⟩
  · obtain ⟨n, ns, t⟩ := x.tup v hv
    exact ⟨n, ns, t.keeps k⟩
  · obtain ⟨d, hd⟩ := x.len
    exact ⟨d, fun v hv ns t => hd v hv ns (same v hv _ t)⟩
theorem fst_kat {h : Heap} : ∀ vs : List Value, (∀ v ∈ vs, ∃ n ns, TS.TupInts h v (n :: ns)) → ∃ fs, PySem.W.KatTups h vs fs ∧ fs.length = vs.length ∧ ∀ f ∈ fs, ∃ n t, f = Value.int n t
  | [], _ => ⟨[], .nil, rfl, fun _ hf => nomatch hf⟩
  | v :: vs, x => by
    obtain ⟨fs, k, hl, hi⟩ := fst_kat vs fun u hu => x u (.tail _ hu)
    obtain ⟨n, ns, a, xs, rfl, ⟨o, ho, hc, m, hd⟩, i⟩ := x v (.head _)
    cases q : xs.toList with
    | nil =>
      rw [q] at i
      cases i
    | cons y ys =>
      rw [q] at i
      cases i with
      | cons _ t i =>
        have z := congrArg (fun l : List Value => l[0]?) q
        refine ⟨.int n t :: fs, .cons ho hc hd (by simpa using z) k, congrArg (· + 1) hl, fun f hf => ?_⟩
        rcases List.mem_cons.mp hf with e | hf
        · exact ⟨n, t, e⟩
        · exact hi f hf
theorem fst_swo (h : Heap) : SrtO.Swo fun v u => decide (fstOf h v < fstOf h u) := by
  refine ⟨fun x y e => ?_, fun x y z e1 e2 => ?_⟩
  · have := of_decide_eq_true e
    exact decide_eq_false (by omega)
  · have a1 := of_decide_eq_false e1
    have a2 := of_decide_eq_false e2
    exact decide_eq_false (by omega)
section
variable {prog : Program} {w : World} {A : Around} {E : Value → Shared → Prop} {s : Shared}
theorem fst_cmp {h0 : Heap} {vs : List Value} (x : FstOk s.heap vs) (hk : ∀ v ∈ vs, ∀ ns, TS.TupInts s.heap v ns → fstOf h0 v = ns.headD 0) : SrtO.Cmp prog w A s (tuples' true) (fun p => p.1 ∈ vs) (SrtO.lt2 fun v u => decide (fstOf h0 v < fstOf h0 u)) := by
  intro p q hm hm'
  obtain ⟨n, ns, t1⟩ := x.tup _ hm
  obtain ⟨m, ms, t2⟩ := x.tup _ hm'
  obtain ⟨d, hd⟩ := x.len
  have l1 := hd _ hm _ t1
  have l2 := hd _ hm' _ t2
  have k1 := hk _ hm _ t1
  have k2 := hk _ hm' _ t2
  show wpAny (model prog w) A (keyLt' (tuples' true) p.1 q.1) (fun r s' => s' = s ∧ r = decide (fstOf h0 p.1 < fstOf h0 q.1)) (fun _ _ => False) s
  rw [k1, k2]
  show wpAny (model prog w) A (keyLt' (tuples' true) p.1 q.1) (fun r s' => s' = s ∧ r = decide (n < m)) (fun _ _ => False) s
  have one := x.one _ hm _ hm'
  have t1' := t1
  have t2' := t2
  obtain ⟨a, xs, e1, ⟨o, ho, hc, c, hdt⟩, i1⟩ := t1
  obtain ⟨a', ys, e2, ⟨o', ho', hc', c', hdt'⟩, i2⟩ := t2
  rw [e1, e2]
  refine PySem.W.kat_lt ho hdt ho' hdt' ?_
  have sz : decide (xs.size < ys.size) = false := by
    have z1 := i1.length
    have z2 := i2.length
    rw [Array.length_toList] at z1 z2
    exact decide_eq_false (by omega)
  rw [sz]
  generalize xs.toList = xl at i1 ⊢
  generalize ys.toList = yl at i2 ⊢
  cases i1 with
  | cons _ t i1 =>
    cases i2 with
    | cons _ u i2 =>
      rw [List.zip_cons_cons]
      refine PySem.W.kat_cons (wpAny_eqBool_int ?_)
      by_cases e : n = m
      · subst e
        rw [beq_self_eq_true]
        have e3 := one n ns ms t1' t2'
        subst e3
        exact PySem.W.kat_yes (kat_alike ⟨rfl, (decide_eq_false (Int.lt_irrefl _)).symm⟩ i1 i2)
      · rw [show (n == m) = false from beq_eq_false_iff_ne.mpr e]
        exact PySem.W.kat_no (oneLt_int ⟨rfl, rfl⟩)
theorem sorted_fst {l : Addr} {vs : List Value} {Q : Value → Shared → Prop} (hl : s.heap.IsList l vs.toArray) (hz : vs.length ≤ sizeLine) (x : FstOk s.heap vs)
    (h : ∀ out : List Value, out.Perm vs → out.Pairwise (fun v u => fstOf s.heap v ≤ fstOf s.heap u) → Q (.ref (s.heap.objs.size + 1)) { s with heap := sortedAll s.heap vs out.toArray }) :
    wpAny (model prog w) A (call (.builtin "sorted") [.ref l]) Q E s := by
  refine SrtO.sorted_ord (fst_swo s.heap) hl hz (fun h2 h₁ a ha kk => ?_) fun out hs hb => h out hb.perm (List.Pairwise.imp (fun {v u} z => ?_) hs)
  · intro h' keep
    have kp : ∀ b o, s.heap.get? b = some o → o.cls = .type "tuple" → h'.get? b = some o := fun b o e _ => keep b o (kk b o e).1 (kk b o e).2
    have x' : FstOk h' vs := x.keeps kp
    obtain ⟨fs, f1, f2, f3⟩ := fst_kat vs x'.tup
    refine ⟨tuples' true, fun Q E hq => ?_, fst_cmp x' fun v hv ns t => ?_⟩
    · refine PySem.W.kat_kind (T := .type "int") f1 (by omega) (fun f hm => ?_) rfl ?_
      · obtain ⟨n, t, rfl⟩ := f3 f hm
        exact PySem.W.Looks.now
      · rw [show (Value.type "int" != Value.type "tuple") = true by decide +kernel]
        exact hq
    · obtain ⟨n, ms, tm⟩ := x.tup v hv
      have e : ns = n :: ms := t.ints.symm.trans (tm.keeps kp).ints
      unfold fstOf
      rw [e, tm.ints]
  · have := of_decide_eq_false z
    omega
end
theorem perm_map_inv {α β : Type} {f : α → β} {out : List β} {m : List β} (h : out.Perm m) : ∀ {L : List α}, m = L.map f → ∃ L' : List α, out = L'.map f ∧ L'.Perm L := by
  induction h with
  | nil =>
    intro L e
    cases L with
    | nil => exact ⟨[], rfl, .refl _⟩
    | cons a b => cases e
  | cons x _ ih =>
    intro L e
    cases L with
    | nil => cases e
    | cons a b =>
      obtain ⟨rfl, e2⟩ := List.cons.inj e
      obtain ⟨L', e3, p⟩ := ih e2
      exact ⟨a :: L', by rw [List.map_cons, e3], p.cons a⟩
  | swap x y l =>
    intro L e
    match L, e with
    | a :: b :: r, e =>
      obtain ⟨rfl, e2⟩ := List.cons.inj e
      obtain ⟨rfl, e3⟩ := List.cons.inj e2
      exact ⟨b :: a :: r, by rw [List.map_cons, List.map_cons, e3], .swap a b r⟩
  | trans _ _ h1 h2 =>
    intro L e
    obtain ⟨L1, e1, p1⟩ := h2 e
    obtain ⟨L2, e2, p2⟩ := h1 e1
    exact ⟨L2, e2, p2.trans p1⟩
/-- sorted(xs), xs a list of tuples of d + 1 ints of which two with one first are alike: a new list of the same, ascending by the firsts -/
def rSortF (K : PySem.W.Frag) : List V → Hp → VK → Prop := fun vs H Q => ∃ (α : Type) (ad : α → Addr) (ky : α → List Int) (L : List α) (a : Addr) (d : Nat), vs = [V.ref a] ∧ SqL K H a (L.map fun e => V.ref (ad e)) ∧ (∀ e ∈ L, SqT K H (ad e) ((ky e).map V.int) ∧ (ky e).length = d + 1) ∧
  (∀ e ∈ L, ∀ f ∈ L, (ky e).headD 0 = (ky f).headD 0 → ky e = ky f) ∧
  ∀ (L' : List α) (p : Addr), L'.Perm L → L'.Pairwise (fun e f => (ky e).headD 0 ≤ (ky f).headD 0) → H p = none → Q (.ref p) (upd H p (.lst (L'.map fun e => V.ref (ad e))))
theorem refs_of {α : Type} {ad : α → Addr} : ∀ {L : List α} {us : List Value}, Vals (L.map fun e => V.ref (ad e)) us → us = L.map fun e => Value.ref (ad e)
  | [], _, .nil => rfl
  | e :: r, u :: us, .cons h t => by
    obtain rfl : u = Value.ref (ad e) := h
    rw [refs_of t]
    rfl
theorem refs_vals {α : Type} {ad : α → Addr} : ∀ (L : List α), Vals (L.map fun e => V.ref (ad e)) (L.map fun e => Value.ref (ad e))
  | [] => .nil
  | e :: r => .cons rfl (refs_vals r)
theorem cr_sortF {X : Cx} : CallR X (.builtin "sorted") (rSortF X.K) := by
  intro pins s σ H vs us Q I r h
  obtain ⟨α, ad, ky, L, a, d, rfl, hs, hx, ho, q⟩ := h
  obtain ⟨its, rv, hl, hz⟩ := I.list hs
  rw [Vals.ref1 r]
  have e1 := refs_of rv
  have raw : ∀ v ∈ its, ∃ e ∈ L, v = .ref (ad e) ∧ TS.TupInts s.heap v (ky e) := fun v hv => by
    rw [e1] at hv
    obtain ⟨e, he, rfl⟩ := List.mem_map.mp hv
    exact ⟨e, he, rfl, tupI_raw I (hx e he).1⟩
  have kc : ∀ e ∈ L, ∃ n ns, ky e = n :: ns ∧ ns.length = d := fun e he => by
    have hd := (hx e he).2
    cases k : ky e with
    | nil =>
      rw [k] at hd
      cases hd
    | cons n ns =>
      rw [k] at hd
      exact ⟨n, ns, rfl, Nat.succ.inj hd⟩
  have ok : FstOk s.heap its := by
    refine ⟨fun v hv => ?_, fun v hv u hu n ns ms t1 t2 => ?_, d + 1, fun v hv ns t => ?_⟩
    · obtain ⟨e, he, rfl, t⟩ := raw v hv
      obtain ⟨n, ns, k, _⟩ := kc e he
      rw [k] at t
      exact ⟨n, ns, t⟩
    · obtain ⟨e, he, _, k1⟩ := raw v hv
      obtain ⟨f, hf, _, k2⟩ := raw u hu
      have z1 : n :: ns = ky e := t1.ints.symm.trans k1.ints
      have z2 : n :: ms = ky f := t2.ints.symm.trans k2.ints
      have z3 := ho e he f hf (by rw [← z1, ← z2]; rfl)
      rw [← z1, ← z2] at z3
      exact (List.cons.inj z3).2
    · obtain ⟨e, he, _, k1⟩ := raw v hv
      rw [t.ints.symm.trans k1.ints]
      exact (hx e he).2
  refine sorted_fst hl.isList (by rw [← rv.length]; exact hz) ok fun out h1 h2 => ?_
  obtain ⟨ep, he'⟩ := PyProof.Rows.sortedAll_at s.heap its out.toArray
  obtain ⟨L', eL, pL⟩ := perm_map_inv h1 e1
  subst eL
  refine ⟨.ref _, upd H (s.heap.objs.size + 1) (.lst (L'.map fun e => V.ref (ad e))), I.laid (t' := s.toks) (fun _ _ => PyProof.Rows.sortedAll_old) (Nat.le_succ _) ⟨?_, _, ep, refs_vals L', he'⟩, rfl, q _ _ pL ?_ (I.hok.fresh (Nat.le_succ _))⟩
  · rw [List.length_map, pL.length_eq, ← List.length_map (f := fun e => V.ref (ad e))]
    exact hz
  · rw [List.pairwise_map] at h2
    refine List.Pairwise.imp_of_mem (fun {e f} he hf h => ?_) h2
    unfold fstOf at h
    rw [(tupI_raw I (hx e (pL.mem_iff.mp he)).1).ints, (tupI_raw I (hx f (pL.mem_iff.mp hf)).1).ints] at h
    exact h

/-! ### x * y and ~x by the class's own methods; what is raised is wished for at the caller's slots -/
def tOpS (r : L2.St → R2) (ta tb : TE) : TE := fun σ H Q => ta σ H fun x H1 => tb σ H1 fun y H2 => r σ x y H2 Q
def rMulOwn (C : Addr) (sp : Sp) (E : L2.St → XK) : L2.St → R2 := fun σ x y H Q => ∃ (p dx : Addr) (fs : List (Str × V)) (q dy : Addr) (gs : List (Str × V)), x = .ref p ∧ y = .ref q ∧ H p = some (.ins C dx fs) ∧ H q = some (.ins C dy gs) ∧
  sp [x, y] H (fun v H' => (∃ r, v = .ref r) ∧ Q v H') (E σ)
section
variable {X : Cx} {n : Nat} {C f : Addr} {fd : FuncData} {ps : List Str} {sp : Sp} {W : WX} {a b : Expr} {ta tb : TE} {pos : Pos}
theorem pe_mulS (M : MulC X.K C f) (F : FnOk X.prog X.w X.K X.mg X.base (L2.CX X.prog X.w) n f fd ps sp) (hr : Room n X.A) (hb : Binds X.K fd ps []) (tk : Takes X W) (ha : PE X a ta) (hbb : PE X b tb) : PE X (.BinOp a .Mult b pos) (tOpS (rMulOwn C sp (WE W)) ta tb) := by
  refine ⟨fun pins s σ H Q I h => ?_⟩
  refine wpAny_BinOp (binT ha hbb I h fun v u s2 x y H2 I2 rx ry q => ?_)
  obtain ⟨p, dx, fs, q0, dy, gs, rfl, rfl, hp, hq, hsp⟩ := q
  cases rx
  cases ry
  obtain ⟨mA, J, _⟩ := ins_get I2.hok hp
  obtain ⟨od, J, _⟩ := J.look
  obtain ⟨mB, J', _⟩ := ins_get I2.hok hq
  obtain ⟨od', J', _⟩ := J'.look
  have kX := I2.kIn
  obtain ⟨cd, rest, hcd, hm⟩ := PySem.W.ksp_first M.sf
  have go : wpAny (model X.prog X.w) X.A (call (.ref f) [.ref p, .ref q0]) (PySem.W.CmpBack (EP X pins σ Q)) X.xe s2 :=
    wpAny_mono (run_fnS F hr hb (passAt tk σ) I2 (show Vals [V.ref p, V.ref q0] [Value.ref p, Value.ref q0] from .cons rfl (.cons rfl .nil)) hsp) (fun w s' z => by
      obtain ⟨z, H', I', rz, ⟨r, ez⟩, q⟩ := z
      subst ez
      cases (show w = Value.ref r from rz)
      exact ⟨.ref r, H', I', rfl, q⟩) fun _ _ e => e
  have one := PySem.W.ksp_try (Q := EP X pins σ Q) (E := X.xe) kX J M.mul M.fn go
  have L1 : PySem.W.Looks (model X.prog X.w) s2.heap (typeOf (.ref p)) (.ref C) := J.type
  have L2' : PySem.W.Looks (model X.prog X.w) s2.heap (typeOf (.ref q0)) (.ref C) := J'.type
  have L3 : PySem.W.Looks (model X.prog X.w) s2.heap (fillsNumberSlot (.ref C) "mul") true := PySem.W.fills_K kX hcd hm M.mul
  show wpAny (model X.prog X.w) X.A (binaryOp .Mult (.ref p) (.ref q0)) (EP X pins σ Q) X.xe s2
  unfold binaryOp
  refine wpAny_holding (wpAny_bind ?_)
  show wpAny (model X.prog X.w) X.A (binaryOp1 "mul" (.ref p) (.ref q0)) _ X.xe s2
  unfold binaryOp1
  refine wpAny_bind (L1.here (wpAny_bind (L2'.here (wpAny_bind (L3.here ?_)))))
  simp only [beq_self_eq_true, if_true]
  ksp_lk
  refine wpAny_mono one (fun r s' hr' => ?_) fun _ _ e => e
  obtain ⟨v, rfl, hq⟩ := hr'
  ksp_lk
  exact hq
theorem pe_invN (M : InvC X.K C f) (F : FnOk X.prog X.w X.K X.mg X.base L2.CX0 n f fd ps sp) (hr : Room n X.A) (hb : Binds X.K fd ps []) (ha : PE X a ta) : PE X (.UnaryOp .Invert a pos) (fun σ H Q => ta σ H fun x H1 => ∃ (p dx : Addr) (fs : List (Str × V)), x = .ref p ∧ H1 p = some (.ins C dx fs) ∧ sp [x] H1 Q L2.E0) := by
  refine ⟨fun pins s σ H Q I h => ?_⟩
  refine UnaryOp_ (thn (ha.run pins s σ H _ I h) fun v s1 ⟨x, H1, I1, r1, q1⟩ => ?_)
  obtain ⟨p, dx, fs, rfl, hp, hsp⟩ := q1
  cases r1
  obtain ⟨mA, J, _⟩ := ins_get I1.hok hp
  obtain ⟨od, J, _⟩ := J.look
  obtain ⟨m, hF⟩ := I1.fr
  refine PySem.W.ksp_inv hF I1.ok.mod.kin J M.inv M.fn ?_
  exact run_fn F hr hb .nil pass0 I1 (show Vals [V.ref p] [Value.ref p] from .cons rfl .nil) hsp
end

/-! ### comprehensions with two clauses -/
section
variable {J : It} {n : Nat} {G : Hp → Prop} {Y : Nat → Hp → V → Hp → Prop}
/-- the first clause: Pv by the turn and the heap -/
theorem lc2_it (w : Walk J n G Y) {g : TG} {tt : TT} {bd : (Hp → Prop) → L2.St → Hp → Prop} {vs : List Nat} {σ : L2.St} {H0 : Hp} {Qd : Hp → Prop} (Pv : Nat → Hp → Prop) (h0 : Pv 0 H0) (hG : ∀ i H, i ≤ n → Pv i H → G H)
    (hs : ∀ i x H H', i < n → Pv i H → Y i H x H' → g x (wipe σ vs) H' fun σ2 H2 => wipe σ2 vs = wipe σ vs ∧ tt σ2 H2 fun b H3 => if b = true then bd (Pv (i + 1)) σ2 H3 else Pv (i + 1) H3) (hd : ∀ H, Pv n H → Qd H) :
    ∃ W : Nat → Nat → Hp → Prop, (∃ m, W 0 m H0) ∧ ∀ i m H, W i m H →
      (J.stop i H ∧ Qd H) ∨ (J.go i H ∧ ∃ Nx : Hp → Prop, (∀ H', Nx H' → ∃ m', m' < m ∧ W (i + 1) m' H') ∧ ∀ x H', J.yld i H x H' → g x (wipe σ vs) H' fun σ2 H2 => wipe σ2 vs = wipe σ vs ∧ tt σ2 H2 fun b H3 => if b = true then bd Nx σ2 H3 else Nx H3) := by
  refine ⟨fun i m H => m = n - i ∧ i ≤ n ∧ Pv i H, ⟨n, by simp, Nat.zero_le _, h0⟩, ?_⟩
  rintro i m H ⟨rfl, hi, p⟩
  have q := hG i H hi p
  rcases Nat.lt_or_ge i n with hlt | hge
  · exact .inr ⟨w.goes i H hlt q, Pv (i + 1), fun H' p' => ⟨n - (i + 1), by omega, rfl, hlt, p'⟩, fun x H' y => hs i x H H' hlt p (w.yields i H x H' hlt q y)⟩
  · obtain rfl : i = n := by omega
    exact .inl ⟨w.stops H q, hd H p⟩
/-- the second clause: from the heap in which it begins -/
theorem lc1_it (w : Walk J n G Y) {g : TG} {tt : TT} {te : TE} {vs : List Nat} {σ : L2.St} {H4 : Hp} {D : Addr} {Nx : Hp → Prop} (Pv : Nat → Hp → Prop) (h0 : Pv 0 H4) (hG : ∀ i H, i ≤ n → Pv i H → G H)
    (hs : ∀ i x H H', i < n → Pv i H → Y i H x H' → g x (wipe σ vs) H' fun σ3 H5 => wipe σ3 vs = wipe σ vs ∧ tt σ3 H5 fun b H6 => if b = true then te σ3 H6 fun y H7 => ∃ acc, H7 D = some (.lst acc) ∧ acc.length < sizeLine ∧ Pv (i + 1) (upd H7 D (.lst (acc ++ [y]))) else Pv (i + 1) H6) (hd : ∀ H, Pv n H → Nx H) :
    ∃ W1 : Nat → Nat → Hp → Prop, (∃ m, W1 0 m H4) ∧ ∀ j k H, W1 j k H →
      (J.stop j H ∧ Nx H) ∨ (J.go j H ∧ ∃ Nx1 : Hp → Prop, (∀ H', Nx1 H' → ∃ k', k' < k ∧ W1 (j + 1) k' H') ∧ ∀ x H', J.yld j H x H' → g x (wipe σ vs) H' fun σ3 H5 => wipe σ3 vs = wipe σ vs ∧ tt σ3 H5 fun b H6 => if b = true then te σ3 H6 fun y H7 => ∃ acc, H7 D = some (.lst acc) ∧ acc.length < sizeLine ∧ Nx1 (upd H7 D (.lst (acc ++ [y]))) else Nx1 H6) := by
  refine ⟨fun i m H => m = n - i ∧ i ≤ n ∧ Pv i H, ⟨n, by simp, Nat.zero_le _, h0⟩, ?_⟩
  rintro i m H ⟨rfl, hi, p⟩
  have q := hG i H hi p
  rcases Nat.lt_or_ge i n with hlt | hge
  · exact .inr ⟨w.goes i H hlt q, Pv (i + 1), fun H' p' => ⟨n - (i + 1), by omega, rfl, hlt, p'⟩, fun x H' y => hs i x H H' hlt p (w.yields i H x H' hlt q y)⟩
  · obtain rfl : i = n := by omega
    exact .inl ⟨w.stops H q, hd H p⟩
end

/-! ### place words -/
def figs : List V := [.str "1", .str "2", .str "3", .str "4", .str "5", .str "6", .str "7", .str "8", .str "9"]
def fronts4 : List V := [.str "", .str "-", .str "half-", .str "half+"]
def figM (fr : List V) (z : Str) : Bool := inV (.str (cutS z none (some (-1)))) fr && inV (.str (cutS z (some (-1)) none)) figs
def ipM (z : Str) : Bool := inV (.str z) [.str "0", .str "half"] || figM fronts4 z
/-- the 38 place words, by their numbers -/
def wt : List Str := (["0", "1", "2", "3", "4", "5", "6", "7", "8", "9", "-1", "-2", "-3", "-4", "-5", "-6", "-7", "-8", "-9", "half", "half+1", "half+2", "half+3", "half+4", "half+5", "half+6", "half+7", "half+8", "half+9", "half-1", "half-2", "half-3", "half-4", "half-5", "half-6", "half-7", "half-8", "half-9"] : List String).map Str.ofString
/-- from where a place word counts (0: the front, 1: the end, 2: the middle), and how far -/
def poM (z : Str) : Option (Nat × Int) :=
  if z = "half" then some (2, 0)
  else if Txt.startswith z "half" then (PySem.intText? (Txt.removeprefix z "half")).map fun n => (2, n)
  else if Txt.startswith z "-" then (PySem.intText? z).map fun n => (1, n)
  else (PySem.intText? z).map fun n => (0, n)
def plB (b : Nat) (k : Int) : Int := if b = 2 then k.fdiv 2 else if b = 1 then k else 0
def plV (z : Str) (k : Int) : Int := match poM z with
  | some (b, n) => plB b k + n
  | none => 0
/-- what a law reckons of a place word -/
def loM (z : Str) : Option (Nat × Int) :=
  if cutS z none (some 4) = "half" then (if z = "half" then some (2, 0) else (PySem.intText? (cutS z (some 4) none)).map fun n => (2, n))
  else if cutS z none (some 1) = "-" then (PySem.intText? z).map fun n => (1, n)
  else (PySem.intText? z).map fun n => (0, n)
def chkW (z : Str) : Bool := (poM z).isSome && decide (z.length ≤ 100) && decide ((Txt.removeprefix z "half").length ≤ 100) && ipM z && decide (loM z = poM z) && decide ((cutS z (some 4) none).length ≤ 100) && decide (32 ∉ z.cps.toList) && PyData.strOk z
theorem wt_all : wt.all chkW = true := by decide +kernel
theorem wt_chk {z : Str} (h : z ∈ wt) : (poM z).isSome = true ∧ z.length ≤ 100 ∧ (Txt.removeprefix z "half").length ≤ 100 ∧ ipM z = true ∧ loM z = poM z ∧ (cutS z (some 4) none).length ≤ 100 ∧ 32 ∉ z.cps.toList ∧ PyData.strOk z = true := by
  have e := List.all_eq_true.mp wt_all z h
  simp only [chkW, Bool.and_eq_true, decide_eq_true_eq] at e
  obtain ⟨⟨⟨⟨⟨⟨⟨h1, h2⟩, h3⟩, h4⟩, h5⟩, h6⟩, h7⟩, h8⟩ := e
  exact ⟨h1, h2, h3, h4, h5, h6, h7, h8⟩
section
variable {P : Program} {w : World} {K : PySem.W.Frag} {mg : Str → Option Value} {base : Heap} {a : Ad}
def spFig (K : PySem.W.Frag) : Sp := fun vs H Q _ => ∃ p fr z, vs = [.ref p, .str z] ∧ SqT K H p fr ∧ fr.all flatV = true ∧ z.length ≤ sizeLine ∧ Q (.bl (figM fr z)) H
theorem ok_is_figure_behind (T : Tx w K mg a) : FnOk P w K mg base CX0 1 a.f_is_figure_behind a.d_is_figure_behind ["fronts", "text"] (spFig K) := by
  refine T.F_is_figure_behind.ok sc_is_figure_behind (fun vs H Q E h => ?_) (fun cdv A outer s H vs Q E hr h => ?_)
  · obtain ⟨p, fr, z, rfl, _⟩ := h
    rfl
  · obtain ⟨p, fr, z, rfl, hp, hf, hz, q⟩ := h
    refine ⟨_, 
(pss_one (ps_ret (pe_and (pe_cmpR op_in_seq (pe_slice sl_str (pv 1) po_none (po_some (pe_un un_neg pe_int))) (pv 0) (by rfl)) (pe_one (pe_cmpR op_in_seq (pe_slice sl_str (pv 1) (po_some (pe_un un_neg pe_int)) po_none) (pe_glob (v := .ref a.a_FIGURES) (by rfl) T.m_FIGURES rfl) (by rfl)))))), ?_⟩
    refine ⟨.str z, rfl, 1, rfl, -1, rfl, z, rfl, hz, .ref p, rfl, p, fr, rfl, .inr hp, rfl, hf, _, rfl, ?_⟩
    show if (inV (.str (cutS z none (some (-1)))) fr) = true then _ else _
    unfold figM at q
    by_cases h1 : inV (.str (cutS z none (some (-1)))) fr = true
    · rw [h1] at q ⊢
      exact ⟨.str z, rfl, 1, rfl, -1, rfl, z, rfl, hz, a.a_FIGURES, figs, rfl, .inr (T.q_FIGURES H), rfl, rfl, q⟩
    · rw [Bool.not_eq_true] at h1
      rw [h1] at q ⊢
      exact q
def spIsPlaceWord : Sp := fun vs H Q _ => ∃ z : Str, vs = [.str z] ∧ z.length ≤ sizeLine ∧ ∀ H', Same H H' → Q (.bl (ipM z)) H'
theorem ok_is_place_word (T : Tx w K mg a) : FnOk P w K mg base CX0 2 a.f_is_place_word a.d_is_place_word ["text"] spIsPlaceWord := by
  refine T.F_is_place_word.ok sc_is_place_word (fun vs H Q E h => ?_) (fun cdv A outer s H vs Q E hr h => ?_)
  · obtain ⟨z, rfl, _⟩ := h
    rfl
  · obtain ⟨z, rfl, hz, q⟩ := h
    refine ⟨_, 
(pss_one (ps_ret (pe_or (pe_cmpR op_in_seq (pv 0) (pe_tup (pa_cons pe_str (pa_cons pe_str pa_nil))) (by rfl)) (pe_one (pe_call (ok_is_figure_behind T) hr (by rfl) T.m_is_figure_behind T.F_is_figure_behind.kp T.b_is_figure_behind .nil pass0 (pa_cons (pe_glob (v := .ref a.a_PLACE_FRONTS) (by rfl) T.m_PLACE_FRONTS rfl) (pa_cons (pv 0) pa_nil))))))), ?_⟩
    refine ⟨.str z, rfl, (show 2 ≤ sizeLine by decide), fun p hp => ?_⟩
    have s1 : Same H (upd H p (.tup [.str "0", .str "half"])) := same_upd hp
    refine ⟨p, [.str "0", .str "half"], rfl, .inr (SqT.at upd_same), rfl, rfl, _, rfl, ?_⟩
    show if (inV (.str z) [.str "0", .str "half"]) = true then _ else _
    unfold ipM at q
    by_cases h1 : inV (.str z) [.str "0", .str "half"] = true
    · rw [h1] at q ⊢
      exact q _ s1
    · rw [Bool.not_eq_true] at h1
      rw [h1] at q ⊢
      exact ⟨.str z, rfl, a.a_PLACE_FRONTS, fronts4, z, rfl, T.q_PLACE_FRONTS _, rfl, hz, q _ s1⟩
def spPlaceOf : Sp := fun vs H Q _ => ∃ (z : Str) (k : Int), vs = [.str z, .int k] ∧ z ∈ wt ∧ Q (.int (plV z k)) H
theorem ok_place_of (T : Tx w K mg a) : FnOk P w K mg base CX0 1 a.f_place_of a.d_place_of ["word", "size"] spPlaceOf := by
  refine T.F_place_of.ok sc_place_of (fun vs H Q E h => ?_) (fun cdv A outer s H vs Q E hr h => ?_)
  · obtain ⟨z, k, rfl, _⟩ := h
    rfl
  · obtain ⟨z, k, rfl, hw, q⟩ := h
    obtain ⟨hp, hz, hrp, _⟩ := wt_chk hw
    refine ⟨_, 
(pss_cons (ps_if (pt_cmpR op_eq (pv 0) pe_str (nomark _))
  (pss_one (ps_ret (pe_op op_fdivN (pv 1) pe_int)))
  pss_nil)
  (pss_cons (ps_if (pt_val (pe_bm PySem.F.plainAttrs_str PySem.F.slot_str_startswith PySem.F.type_str_startswith mt_startswith (pv 0) (pa_cons pe_str pa_nil)))
  (pss_one (ps_ret (pe_op op_add (pe_op op_fdivN (pv 1) pe_int) (pe_callTy call_int_str (by rfl) T.z_int (by decide +kernel) (pa_cons (pe_bm PySem.F.plainAttrs_str PySem.F.slot_str_removeprefix PySem.F.type_str_removeprefix mt_removeprefix (pv 0) (pa_cons pe_str pa_nil)) pa_nil)))))
  pss_nil)
  (pss_cons (ps_if (pt_val (pe_bm PySem.F.plainAttrs_str PySem.F.slot_str_startswith PySem.F.type_str_startswith mt_startswith (pv 0) (pa_cons pe_str pa_nil)))
  (pss_one (ps_ret (pe_op op_add (pv 1) (pe_callTy call_int_str (by rfl) T.z_int (by decide +kernel) (pa_cons (pv 0) pa_nil)))))
  pss_nil)
  (pss_one (ps_ret (pe_callTy call_int_str (by rfl) T.z_int (by decide +kernel) (pa_cons (pv 0) pa_nil))))))), ?_⟩
    unfold plV at q
    unfold poM at q hp
    refine ⟨.str z, rfl, rfl, _, rfl, ?_⟩
    by_cases h1 : z = "half"
    · rw [if_pos h1] at q
      rw [decide_eq_true (show V.str z = V.str "half" by rw [h1])]
      refine ⟨.int k, rfl, k, 2, rfl, rfl, ⟨by decide, by decide⟩, ?_⟩
      simpa [plB] using q
    · rw [if_neg h1] at q hp
      rw [decide_eq_false (show ¬ V.str z = V.str "half" from fun e => h1 (V.str.inj e))]
      refine ⟨.str z, rfl, rfl, z, "half", rfl, rfl, _, rfl, ?_⟩
      by_cases h2 : Txt.startswith z "half" = true
      · rw [if_pos h2] at q hp
        rw [h2]
        cases hn : PySem.intText? (Txt.removeprefix z "half") with
        | none =>
          rw [hn] at hp
          cases hp
        | some n =>
          rw [hn] at q
          refine ⟨.int k, rfl, k, 2, rfl, rfl, ⟨by decide, by decide⟩, .str z, rfl, rfl, z, "half", rfl, rfl, sz (by omega), _, n, rfl, hn, by omega, _, n, rfl, rfl, q⟩
      · rw [if_neg h2] at q hp
        rw [Bool.not_eq_true] at h2
        rw [h2]
        refine ⟨.str z, rfl, rfl, z, "-", rfl, rfl, _, rfl, ?_⟩
        cases hn : PySem.intText? z with
        | none =>
          rw [hn] at hp
          simp at hp
        | some n =>
          rw [hn] at q
          by_cases h3 : Txt.startswith z "-" = true
          · rw [if_pos h3] at q
            rw [h3]
            exact ⟨.int k, rfl, .str z, rfl, z, n, rfl, hn, by omega, k, n, rfl, rfl, q⟩
          · rw [if_neg h3] at q
            rw [Bool.not_eq_true] at h3
            rw [h3]
            refine ⟨.str z, rfl, z, n, rfl, hn, by omega, ?_⟩
            simpa [plB] using q
def spLawValue : Sp := fun vs H Q _ => ∃ (z : Str) (k : Int), vs = [.str z, .int k] ∧ z ∈ wt ∧ Q (.int (plV z k)) H
theorem ok__law_value (T : Tx w K mg a) : FnOk P w K mg base CX0 1 a.f__law_value a.d__law_value ["word", "k"] spLawValue := by
  refine T.F__law_value.ok sc__law_value (fun vs H Q E h => ?_) (fun cdv A outer s H vs Q E hr h => ?_)
  · obtain ⟨z, k, rfl, _⟩ := h
    rfl
  · obtain ⟨z, k, rfl, hw, q⟩ := h
    obtain ⟨hp, hz, hrp, _, hlo, hc, _⟩ := wt_chk hw
    refine ⟨_, 
(pss_cons (ps_if (pt_cmpR op_eq (pe_slice sl_str (pv 0) po_none (po_some pe_int)) pe_str (nomark _))
  (pss_one (ps_ret (pe_op op_add (pe_op op_fdivN (pv 1) pe_int) (pe_ifExp (pt_cmpR op_eq (pv 0) pe_str (nomark _)) pe_int (pe_callTy call_int_str (by rfl) T.z_int (by decide +kernel) (pa_cons (pe_slice sl_str (pv 0) (po_some pe_int) po_none) pa_nil))))))
  pss_nil)
  (pss_one (ps_ret (pe_ifExp (pt_cmpR op_ne (pe_slice sl_str (pv 0) po_none (po_some pe_int)) pe_str (nomark _)) (pe_callTy call_int_str (by rfl) T.z_int (by decide +kernel) (pa_cons (pv 0) pa_nil)) (pe_op op_add (pv 1) (pe_callTy call_int_str (by rfl) T.z_int (by decide +kernel) (pa_cons (pv 0) pa_nil))))))), ?_⟩
    unfold plV at q
    rw [← hlo] at q hp
    unfold loM at q hp
    have hz' : z.length ≤ sizeLine := sz (by omega)
    refine ⟨.str z, rfl, 4, rfl, z, rfl, hz', rfl, _, rfl, ?_⟩
    by_cases h1 : cutS z none (some 4) = "half"
    · rw [if_pos h1] at q hp
      rw [decide_eq_true (show V.str (cutS z none (some 4)) = V.str "half" by rw [h1])]
      refine ⟨.int k, rfl, k, 2, rfl, rfl, ⟨by decide, by decide⟩, .str z, rfl, rfl, _, rfl, ?_⟩
      by_cases h2 : z = "half"
      · rw [if_pos h2] at q
        rw [decide_eq_true (show V.str z = V.str "half" by rw [h2])]
        exact ⟨_, 0, rfl, rfl, by simpa [plB] using q⟩
      · rw [if_neg h2] at q hp
        rw [decide_eq_false (show ¬ V.str z = V.str "half" from fun e => h2 (V.str.inj e))]
        cases hn : PySem.intText? (cutS z (some 4) none) with
        | none =>
          rw [hn] at hp
          cases hp
        | some n =>
          rw [hn] at q
          exact ⟨.str z, rfl, 4, rfl, z, rfl, hz', _, n, rfl, hn, by omega, _, n, rfl, rfl, q⟩
    · rw [if_neg h1] at q hp
      rw [decide_eq_false (show ¬ V.str (cutS z none (some 4)) = V.str "half" from fun e => h1 (V.str.inj e))]
      cases hn : PySem.intText? z with
      | none =>
        rw [hn] at hp
        simp at hp
      | some n =>
        rw [hn] at q
        refine ⟨.str z, rfl, 1, rfl, z, rfl, hz', rfl, _, rfl, ?_⟩
        by_cases h2 : cutS z none (some 1) = "-"
        · rw [if_pos h2] at q
          rw [decide_eq_true (show V.str (cutS z none (some 1)) = V.str "-" by rw [h2])]
          exact ⟨.int k, rfl, .str z, rfl, z, n, rfl, hn, by omega, k, n, rfl, rfl, q⟩
        · rw [if_neg h2] at q
          rw [decide_eq_false (show ¬ V.str (cutS z none (some 1)) = V.str "-" from fun e => h2 (V.str.inj e))]
          refine ⟨.str z, rfl, z, n, rfl, hn, by omega, ?_⟩
          simpa [plB] using q
def spLawPlaceWord : Sp := fun vs H Q _ => ∃ (d c : Addr) (n : Nat), vs = [.ref d] ∧ Pen H d c n ∧ n < 2 ^ 40 ∧ ∀ z H', z ∈ wt → Pen H' d c (n + 1) → But d H H' → Q (.str z) H'
def lwM (k : Int) : Str := if k < 10 then toString k else if k < 19 then Str.append "-" (toString (k - 9)) else if k = 19 then "half" else if k < 29 then Str.append "half+" (toString (k - 19)) else Str.append "half-" (toString (k - 28))
theorem lw_wt : ∀ k : Fin 38, lwM ((k.val : Nat) : Int) ∈ wt := by decide +kernel
theorem num_len : ∀ i : Fin 40, (Str.ofString (toString ((i.val : Nat) : Int))).length ≤ 20 := by decide +kernel
theorem lg (i : Int) (h0 : 0 ≤ i) (h1 : i < 40) : i.natAbs.log2 < 1920 := by
  have : i.natAbs < 2 ^ 6 := by omega
  exact Nat.lt_of_lt_of_le (PySem.Flt.log2_lt_of (by decide) this) (by decide)
theorem ln (x : Str) (i : Int) (hx : x.length ≤ 20) (h0 : 0 ≤ i) (h1 : i < 40) : x.length + (Str.ofString (toString i)).length ≤ 100000 := by
  have e := num_len ⟨i.toNat, by omega⟩
  have e2 : ((i.toNat : Nat) : Int) = i := by omega
  rw [show (((⟨i.toNat, by omega⟩ : Fin 40).val : Nat) : Int) = i from e2] at e
  omega
theorem ok__law_place_word (T : Tx w K mg a) : FnOk P w K mg base CX0 2 a.f__law_place_word a.d__law_place_word ["pen"] spLawPlaceWord := by
  refine T.F__law_place_word.ok sc__law_place_word (fun vs H Q E h => ?_) (fun cdv A outer s H vs Q E hr h => ?_)
  · obtain ⟨d, c, n, rfl, _⟩ := h
    rfl
  · obtain ⟨d, c, n, rfl, hp, hn, q⟩ := h
    refine ⟨_, 
(pss_cons (ps_set (i := 1) sc__law_place_word.nd rfl (.inl rfl) (pe_call (ok__law_draw T) hr (by rfl) T.m__law_draw T.F__law_draw.kp T.b__law_draw .nil pass0 (pa_cons (pv 0) (pa_cons pe_int pa_nil))))
  (pss_cons (ps_if (pt_cmpR op_lt (pv 1) pe_int (nomark _))
  (pss_one (ps_ret (pe_callTy call_str_int (by rfl) T.z_str (by decide +kernel) (pa_cons (pv 1) pa_nil))))
  pss_nil)
  (pss_cons (ps_if (pt_cmpR op_lt (pv 1) pe_int (nomark _))
  (pss_one (ps_ret (pe_op op_add_str pe_str (pe_callTy call_str_int (by rfl) T.z_str (by decide +kernel) (pa_cons (pe_op op_sub (pv 1) pe_int) pa_nil)))))
  pss_nil)
  (pss_cons (ps_if (pt_cmpR op_eq (pv 1) pe_int (nomark _))
  (pss_one (ps_ret pe_str))
  pss_nil)
  (pss_one (ps_ret (pe_ifExp (pt_cmpR op_lt (pv 1) pe_int (nomark _)) (pe_op op_add_str pe_str (pe_callTy call_str_int (by rfl) T.z_str (by decide +kernel) (pa_cons (pe_op op_sub (pv 1) pe_int) pa_nil))) (pe_op op_add_str pe_str (pe_callTy call_str_int (by rfl) T.z_str (by decide +kernel) (pa_cons (pe_op op_sub (pv 1) pe_int) pa_nil)))))))))), ?_⟩
    refine ⟨.ref d, rfl, d, c, n, 38, rfl, hp, hn, by decide, by decide, fun k H1 k0 k1 hp1 hb => ?_⟩
    have q1 := fun z hz => q z H1 hz hp1 hb
    have hw : lwM k ∈ wt := by
      have e := lw_wt ⟨k.toNat, by omega⟩
      have e2 : ((k.toNat : Nat) : Int) = k := by omega
      rw [show (((⟨k.toNat, by omega⟩ : Fin 38).val : Nat) : Int) = k from e2] at e
      exact e
    have hq := q1 _ hw
    unfold lwM at hq
    refine ⟨.int k, rfl, k, 10, rfl, rfl, _, rfl, ite2 (fun e1 => ?_) (fun e1 => ?_)⟩
    · rw [if_pos (of_decide_eq_true e1)] at hq
      exact ⟨.int k, rfl, k, rfl, lg k k0 (by omega), hq⟩
    have e1' : ¬ k < 10 := fun z => e1 (decide_eq_true z)
    rw [if_neg e1'] at hq
    refine ⟨.int k, rfl, k, 19, rfl, rfl, _, rfl, ite2 (fun e2 => ?_) (fun e2 => ?_)⟩
    · rw [if_pos (of_decide_eq_true e2)] at hq
      have := of_decide_eq_true e2
      exact ⟨.int k, rfl, k, 9, rfl, rfl, k - 9, rfl, lg _ (by omega) (by omega), _, _, rfl, rfl, sz (ln _ _ (by decide) (by omega) (by omega)), hq⟩
    have e2' : ¬ k < 19 := fun z => e2 (decide_eq_true z)
    rw [if_neg e2'] at hq
    refine ⟨.int k, rfl, rfl, _, rfl, ite2 (fun e3 => ?_) (fun e3 => ?_)⟩
    · rw [if_pos (V.int.inj (of_decide_eq_true e3))] at hq
      exact hq
    have e3' : ¬ k = 19 := fun z => e3 (decide_eq_true (by rw [z]))
    rw [if_neg e3'] at hq
    refine ⟨.int k, rfl, k, 29, rfl, rfl, _, rfl, ite2 (fun e4 => ?_) (fun e4 => ?_)⟩
    · rw [if_pos (of_decide_eq_true e4)] at hq
      have := of_decide_eq_true e4
      exact ⟨.int k, rfl, k, 19, rfl, rfl, k - 19, rfl, lg _ (by omega) (by omega), _, _, rfl, rfl, sz (ln _ _ (by decide) (by omega) (by omega)), hq⟩
    have e4' : ¬ k < 29 := fun z => e4 (decide_eq_true z)
    rw [if_neg e4'] at hq
    exact ⟨.int k, rfl, k, 28, rfl, rfl, k - 28, rfl, lg _ (by omega) (by omega), _, _, rfl, rfl, sz (ln _ _ (by decide) (by omega) (by omega)), hq⟩
end

/-! ### enumerate(tuple, start=k) -/
theorem callWith_typeKw {M : Model} {A : Around} {E : Value → Shared → Prop} {s : Shared} {env : Env} {pos : Pos} {T : String} {e : Expr} {rest : List Expr} {kws : List Keyword} {Q : Value → Shared → Prop}
    (h : wpAny M A (spliced (backTo pos (starEach (e :: rest) env))) (fun vs s₁ => wpAny M A (evalAll ((backToKw pos (keywordEach kws env)).map (·.2))) (fun us s₂ => wpAny M A (call (.type T) vs (((backToKw pos (keywordEach kws env)).filterMap (·.1)).zip us)) Q E s₂) E s₁) E s)
    (he : backTo pos (starEach (e :: rest) env) = (false, eval e env) :: backTo pos (starEach rest env) := by rfl)
    (hpl : (backTo pos (starEach (e :: rest) env)).any (·.1) = false := by rfl) (hall : (backToKw pos (keywordEach kws env)).all (·.1.isSome) = true := by rfl) (hkw : (backToKw pos (keywordEach kws env)).any (·.1.isNone) = false := by rfl) :
    wpAny M A (callWith pos (.type T) [] (backTo pos (starEach (e :: rest) env)) (backToKw pos (keywordEach kws env))) Q E s := by
  have key : wpAny M A (evalArgs (.type T) true (backTo pos (starEach (e :: rest) env)) (backToKw pos (keywordEach kws env))) (fun x s₁ => wpAny M A (call (.type T) ([] ++ x.pos) x.kw) Q E s₁) E s := by
    rw [he] at h ⊢
    exact evalArgs_kwB hall h
  unfold callWith
  refine wpAny_bind (wpAny_holding (thn key fun x s₁ h₁ => wpAny_bind (wpAny_standAt ?_)))
  simp only [hpl, hkw, Bool.or_false]
  exact wpAny_bind (wpAny_pure (wpAny_bind (thn h₁ fun r s₂ hr => wpAny_bind (wpAny_holding (wpAny_point (wpAny_pure hr))))))
def IteF (K : PySem.W.Frag) (p : Addr) (k : Int) : It where
  go := fun i H => ∃ (xs : List V) (x : V), SqT K H p xs ∧ xs[i]? = some x
  yld := fun i H v H' => ∃ q x, v = .ref q ∧ H q = none ∧ H' = upd H q (.tup [.int (k + (i : Nat)), x]) ∧ ∀ xs, SqT K H p xs → xs[i]? = some x
  stop := fun i H => ∃ xs : List V, SqT K H p xs ∧ xs.length = i
theorem turn_enumF {P : Program} {w : World} {K : PySem.W.Frag} {elts : List Expr} {kk : Nat} {tpos : Pos} (p e it : Addr) (k : Int) :
    Turn P w K (.Tuple elts kk tpos) (IteF K p k) [e, it] e (fun i h => (∃ old, IsEnum h e it (k + ((i : Nat) : Int)) old) ∧ h.IsTupleIter it p i ∧ e ≠ it) where
  mem := List.mem_cons_self ..
  obj := by
    rintro i h ⟨⟨old, he⟩, ⟨o, ho, hc, hd⟩, _⟩ b hb
    simp only [List.mem_cons, List.not_mem_nil, or_false] at hb
    rcases hb with rfl | rfl
    · exact ⟨_, he, fun v q => nomatch q⟩
    · exact ⟨o, ho, fun v q => by rw [hd] at q; cases q⟩
  keep := by
    rintro i h h' ⟨⟨old, he⟩, hi, hne⟩ kp
    exact ⟨⟨old, kp e (by simp) _ he⟩, hi.at fun o q => kp it (by simp) o q, hne⟩
  item := by
    rintro X rfl rfl rfl hc i pins s σ H E I hf ⟨⟨old, he⟩, hit, hne⟩ ⟨xs, x, hq, hx⟩
    obtain ⟨its, rv, z, hz⟩ := I.tuple hq
    obtain ⟨u, hu, ru⟩ := rv.get hx
    have hel : e < s.heap.objs.size := Heap.lt_size he
    have hil : it < s.heap.objs.size := by
      obtain ⟨_, q, _⟩ := hit
      exact Heap.lt_size q
    have hpe : e ≠ p := fun q => by
      obtain ⟨o, ho, hc1, _⟩ := (show s.heap.IsTuple p its.toArray from z)
      rw [← q] at ho
      rw [Option.some.inj (ho.symm.trans he)] at hc1
      injection hc1 with hc1
      exact absurd hc1 (by decide)
    have hpi : p ≠ it := fun q => by
      obtain ⟨o, ho, hc1, _⟩ := (show s.heap.IsTuple p its.toArray from z)
      obtain ⟨o2, ho2, hc2, _⟩ := hit
      rw [q] at ho
      rw [Option.some.inj (ho.symm.trans ho2), hc2] at hc1
      injection hc1 with hc1
      exact absurd hc1 (by decide)
    have D := Draws.tuple (prog := X.prog) (w := X.w) (A := X.A.in1) (I.ok.hd hc) it p hpi its.toArray
    have hlt : i < its.toArray.size := by
      have := (List.getElem?_eq_some_iff.mp hu).1
      simpa using this
    refine wpAny_pyNext_enum_itemC (i := i) (c := k + (i : Int)) D he ⟨hit, z⟩ hlt hne (by simp [hne, hpe]) ?_
    intro v h' tk hv ho hst' hT hsz hk
    have ev : v = u := by
      have h1 : its[i]? = some v := by simpa using hv
      exact Option.some.inj (h1.symm.trans hu)
    subst ev
    refine ⟨_, rfl, wpAny_letOwnedTupleGo_enum (s := { s with heap := h', toks := tk + 1 }) ho ?_⟩
    intro h'' he' sb
    have hT2 : h''.get? s.heap.objs.size = some { cls := .type "tuple", data := .seq #[.int (k + (i : Int)) tk, v] } := (sb.2 _ (Nat.ne_of_gt hel)).trans hT
    have new : ObjOk X.prog X.w (upd H s.heap.objs.size (.tup [.int (k + (i : Nat)), x])) h'' s.heap.objs.size (.tup [.int (k + (i : Nat)), x]) :=
      ⟨(by decide : 2 ≤ sizeLine), [.int (k + (i : Int)) tk, v], .cons ⟨_, rfl⟩ (.cons ru .nil), _, hT2, rfl, _, rfl⟩
    have I1 : Inv X pins σ (upd H s.heap.objs.size (.tup [.int (k + (i : Nat)), x])) { s with heap := h'', toks := tk + 1 } := by
      refine I.turnedNew (ch := [e, it]) (fun b ob hb q => ?_) hf (Nat.le_refl _) new
      have n1 : b ≠ e := fun y => hb (by simp [y])
      have n2 : b ≠ it := fun y => hb (by simp [y])
      exact (sb.2 b n1).trans (hk b ob n1 n2 q)
    refine ⟨.ref s.heap.objs.size, _, I1, rfl, ⟨_, x, rfl, I.hok.fresh (Nat.le_refl _), rfl, fun ys hy => ?_⟩, ⟨⟨v, ?_⟩, hst'.1.at fun o q => (sb.2 it hne.symm).trans q, hne⟩, fun b hb => ?_⟩
    · rw [I.tuple_inj hy hq]
      exact hx
    · rw [show k + ((i + 1 : Nat) : Int) = k + (i : Int) + 1 by omega]
      exact he'
    · have hb' : b < s.heap.objs.size := by
        simp only [List.mem_cons, List.not_mem_nil, or_false] at hb
        rcases hb with rfl | rfl
        · exact hel
        · exact hil
      rw [upd_ne (Nat.ne_of_lt hb')]
      exact (hf b hb).1
  done := by
    rintro X rfl rfl rfl hc i pins s σ H E I hf ⟨⟨old, he⟩, hit, hne⟩ ⟨xs, hq, hx⟩
    obtain ⟨its, rv, z, hz⟩ := I.tuple hq
    obtain ⟨f0, f1, f2, f3, f4, f5⟩ := hf it (by simp)
    have hl := rv.length
    have hpi : p ≠ it := fun q => by
      obtain ⟨o, ho, hc1, _⟩ := (show s.heap.IsTuple p its.toArray from z)
      obtain ⟨o2, ho2, hc2, _⟩ := hit
      rw [q] at ho
      rw [Option.some.inj (ho.symm.trans ho2), hc2] at hc1
      injection hc1 with hc1
      exact absurd hc1 (by decide)
    have D := Draws.tuple (prog := X.prog) (w := X.w) (A := X.A.in1) (I.ok.hd hc) it p hpi its.toArray
    have ei : i = its.toArray.size := by
      simp only [List.size_toArray]
      omega
    subst ei
    exact wpAny_pyNext_enum_endD D he ⟨hit, z⟩ fun h' eb => ⟨rfl, I.turned (t' := s.toks) (fun b o hb e => eb b o hb e) f0 f1 f3 f4 f5⟩
  self := by
    rintro A i s Q E ⟨⟨_, he⟩, _⟩ h
    exact wpAny_pyIter_enum he h
def iEnF (K : PySem.W.Frag) (ta : TA) (tk : TE) : TI := fun σ H R => ta σ H fun vs H1 => tk σ H1 fun y H2 => ∃ p xs k, vs = [.ref p] ∧ y = .int k ∧ -(2 ^ 63) ≤ k ∧ k < 2 ^ 63 ∧ SqT K H2 p xs ∧ R (IteF K p k) H2
theorem pi_enumF {X : Cx} {e e2 : Expr} {ta : TA} {tk : TE} {p pos tpos kp : Pos} {elts : List Expr} {kk : Nat} (hg : Gl X "enumerate") (hm : X.mg "enumerate" = none) (ha : PA X [e] ta) (hk : PE X e2 tk) (hs : starEach [e] X.env = [(false, eval e X.env)] := by rfl) :
    PI X (.Tuple elts kk tpos) (.Call (.Name "enumerate" p) [e] [⟨some "start", e2, kp⟩] pos) (iEnF X.K ta tk) := by
  constructor
  intro pins s σ H R I h
  refine wpAny_Call_Name_kw (ld_blt I hg hm boot_enumerate (callWith_typeKw (thn (ha.run pos pins s σ H _ I h) ?_) (by rw [hs]; rfl) (by rw [hs]; rfl)))
  rintro us s1 ⟨vs, H1, I1, r1, q1⟩
  refine kws_cons (thn (hk.run pins s1 σ H1 _ I1 q1) ?_)
  rintro u2 s2 ⟨y, H2, I2, r2, q0, xs, k, rfl, rfl, hk0, hk1, hq, q⟩
  refine kws_nil ?_
  obtain ⟨t2, rfl⟩ := r2
  cases r1 with
  | cons r rr =>
    cases rr
    cases r
    obtain ⟨its, _, z, _⟩ := I2.tuple hq
    refine enum_begins_start (begins_tuple q0 its.toArray) z hk0 hk1 ?_
    intro h' he hit hsz hkp
    have fp : ∀ b ∈ [s2.heap.objs.size + 1, s2.heap.objs.size], FpOk X pins H2 b := by
      intro b hb
      simp only [List.mem_cons, List.not_mem_nil, or_false] at hb
      have hle : s2.heap.objs.size ≤ b := by
        rcases hb with rfl | rfl
        · exact Nat.le_add_right _ _
        · exact Nat.le_refl _
      exact I2.fpOk hle (I2.hok.fresh hle)
    have he' : IsEnum h' (s2.heap.objs.size + 1) s2.heap.objs.size (k + ((0 : Nat) : Int)) .none := by
      rw [show k + ((0 : Nat) : Int) = k by omega]
      exact he
    exact wpAny_pyIter_enum he ⟨s2.heap.objs.size + 1, [s2.heap.objs.size + 1, s2.heap.objs.size], _, _, H2, rfl, I2.kept (t' := s2.toks) hkp, turn_enumF q0 (s2.heap.objs.size + 1) s2.heap.objs.size k, ⟨⟨.none, he'⟩, ⟨_, hit, rfl, rfl⟩, Nat.succ_ne_self _⟩, fp, q⟩
theorem walk_enumF {K : PySem.W.Frag} {p : Addr} {xs : List V} {k : Int} : Walk (IteF K p k) xs.length (fun H => SqT K H p xs) (YPair (fun i => some (.int (k + (i : Nat)))) (fun i => xs[i]?)) where
  goes := fun i H hi h => ⟨xs, xs[i], h, List.getElem?_eq_getElem hi⟩
  stops := fun H h => ⟨xs, h, rfl⟩
  yields := by
    rintro i H v H' hi h ⟨q, x, rfl, hn, rfl, hx⟩
    exact ⟨q, _, x, rfl, hn, rfl, rfl, hx xs h⟩

/-! ### rearrangements as lists of ints -/
def ri (n : Nat) : List Int := (List.range n).map fun i : Nat => (i : Int)
theorem ri_len (n : Nat) : (ri n).length = n := by
  unfold ri
  rw [List.length_map, List.length_range]
theorem ri_mem {n : Nat} {x : Int} : x ∈ ri n ↔ 0 ≤ x ∧ x < (n : Int) := by
  unfold ri
  simp only [List.mem_map, List.mem_range]
  constructor
  · rintro ⟨k, hk, rfl⟩
    omega
  · rintro ⟨h0, h1⟩
    exact ⟨x.toNat, by omega, by omega⟩
theorem ri_get {n i : Nat} (h : i < n) : (ri n)[i]? = some (i : Int) := by
  unfold ri
  rw [List.getElem?_map, List.getElem?_range h]
  rfl
theorem ri_nodup (n : Nat) : (ri n).Nodup := by
  unfold ri
  refine List.Pairwise.map _ (fun i j (h : i ≠ j) => ?_) List.nodup_range
  omega
theorem rgV_ri (n : Nat) : rgV 0 (n : Int) = (ri n).map V.int := by
  unfold rgV ri
  rw [List.map_map]
  have e : ((n : Int) - 0).toNat = n := by omega
  rw [e]
  refine List.map_congr_left fun i _ => ?_
  show V.int (0 + (i : Nat)) = V.int (i : Int)
  rw [Int.zero_add]
/-- a rearrangement: the ints from 0 on, each once -/
def IsRow (xs : List Int) : Prop := xs.Perm (ri xs.length)
theorem IsRow.mem {xs : List Int} (h : IsRow xs) {x : Int} : x ∈ xs ↔ 0 ≤ x ∧ x < (xs.length : Int) := by
  rw [h.mem_iff, ri_mem]
theorem IsRow.nodup {xs : List Int} (h : IsRow xs) : xs.Nodup := h.nodup_iff.mpr (ri_nodup _)
theorem IsRow.at {xs : List Int} (h : IsRow xs) {i : Nat} (hi : i < xs.length) : 0 ≤ xs[i] ∧ xs[i].toNat < xs.length := by
  have := h.mem.mp (List.getElem_mem hi)
  omega
theorem isRow_ri (n : Nat) : IsRow (ri n) := by
  unfold IsRow
  rw [ri_len]
theorem isRow_of {xs : List Int} (n : Nat) (h : xs.Perm (ri n)) : IsRow xs := by
  unfold IsRow
  have := h.length_eq
  rw [ri_len] at this
  rw [this]
  exact h
/-- without doubles and within bounds: a rearrangement -/
theorem nodup_sub_len : ∀ {xs ys : List Int}, xs.Nodup → (∀ x ∈ xs, x ∈ ys) → xs.length ≤ ys.length
  | [], _, _, _ => Nat.zero_le _
  | x :: r, ys, hn, hs => by
    have hx := hs x (List.mem_cons_self ..)
    have hn' := List.nodup_cons.mp hn
    have h2 := nodup_sub_len (xs := r) (ys := ys.erase x) hn'.2 fun y hy => by
      have hne : y ≠ x := fun e => hn'.1 (e ▸ hy)
      exact (List.mem_erase_of_ne hne).mpr (hs y (List.mem_cons_of_mem _ hy))
    rw [List.length_erase_of_mem hx] at h2
    have : 0 < ys.length := List.length_pos_of_mem hx
    simp only [List.length_cons]
    omega
theorem perm_of_nodup : ∀ {xs ys : List Int}, xs.Nodup → ys.Nodup → (∀ x ∈ xs, x ∈ ys) → xs.length = ys.length → xs.Perm ys
  | [], ys, _, _, _, e => by
    have : ys = [] := List.eq_nil_of_length_eq_zero e.symm
    subst this
    exact List.Perm.refl _
  | x :: r, ys, hn, hy, hs, e => by
    have hx := hs x (List.mem_cons_self ..)
    have hn' := List.nodup_cons.mp hn
    have hl : r.length = (ys.erase x).length := by
      rw [List.length_erase_of_mem hx]
      simp only [List.length_cons] at e
      omega
    have p := perm_of_nodup (xs := r) (ys := ys.erase x) hn'.2 (hy.erase x) (fun y h => by
      have hne : y ≠ x := fun e => hn'.1 (e ▸ h)
      exact (List.mem_erase_of_ne hne).mpr (hs y (List.mem_cons_of_mem _ h))) hl
    exact (p.cons x).trans (List.perm_cons_erase hx).symm
theorem isRow_mk {xs : List Int} (hn : xs.Nodup) (hb : ∀ x ∈ xs, 0 ≤ x ∧ x < (xs.length : Int)) : IsRow xs :=
  perm_of_nodup hn (ri_nodup _) (fun x hx => ri_mem.mpr (hb x hx)) (ri_len _).symm
/-- all places are there -/
theorem IsRow.all {xs : List Int} (h : IsRow xs) {v : Nat} (hv : v < xs.length) : (v : Int) ∈ xs := h.mem.mpr (by omega)
/-! ### picking members -/
def pickI (ts rs : List Int) : List Int := rs.map fun r => ts.getD r.toNat 0
theorem pick_len (ts rs : List Int) : (pickI ts rs).length = rs.length := by
  unfold pickI
  rw [List.length_map]
theorem pick_get {ts rs : List Int} {i : Nat} (h : i < rs.length) : (pickI ts rs)[i]'(by rw [pick_len]; exact h) = ts.getD rs[i].toNat 0 := by
  simp [pickI]
/-- done one behind the other -/
theorem pick_pick {ts xs ys : List Int} (hx : ∀ y ∈ ys, 0 ≤ y ∧ y.toNat < xs.length) : pickI (pickI ts xs) ys = pickI ts (pickI xs ys) := by
  unfold pickI
  rw [List.map_map]
  refine List.map_congr_left fun y hy => ?_
  have h := (hx y hy).2
  show (List.map (fun r : Int => ts.getD r.toNat 0) xs).getD y.toNat 0 = ts.getD (xs.getD y.toNat 0).toNat 0
  rw [List.getD_eq_getElem?_getD, List.getElem?_map, List.getElem?_eq_getElem h, List.getD_eq_getElem?_getD (l := xs), List.getElem?_eq_getElem h]
  rfl
theorem pick_ri (xs : List Int) : pickI xs (ri xs.length) = xs := by
  refine List.ext_getElem (by rw [pick_len, ri_len]) fun i h1 h2 => ?_
  rw [pick_get (by rw [ri_len]; exact h2)]
  have e : (ri xs.length)[i]'(by rw [ri_len]; exact h2) = (i : Int) := by
    have := ri_get h2
    rw [List.getElem?_eq_getElem (by rw [ri_len]; exact h2)] at this
    exact Option.some.inj this
  rw [e, Int.toNat_natCast, getD_get h2]
theorem ri_pick {xs : List Int} {n : Nat} (h : ∀ x ∈ xs, 0 ≤ x ∧ x < (n : Int)) : pickI (ri n) xs = xs := by
  unfold pickI
  conv => rhs; rw [← List.map_id xs]
  refine List.map_congr_left fun x hx => ?_
  have := h x hx
  show (ri n).getD x.toNat 0 = x
  rw [List.getD_eq_getElem?_getD, ri_get (by omega)]
  show ((x.toNat : Nat) : Int) = x
  omega
/-- a rearrangement of a rearrangement's members -/
theorem pick_perm {ts rs : List Int} (hr : IsRow rs) (hl : rs.length = ts.length) : (pickI ts rs).Perm ts := by
  have p : (pickI ts rs).Perm (pickI ts (ri rs.length)) := List.Perm.map _ hr
  rw [hl, pick_ri] at p
  exact p
theorem isRow_pick {xs ys : List Int} (hx : IsRow xs) (hy : IsRow ys) (hl : ys.length = xs.length) : IsRow (pickI xs ys) := by
  refine isRow_of xs.length ((pick_perm hy hl).trans hx)
/-! ### taking back -/
/-- bs takes xs back -/
def InvOf (xs bs : List Int) : Prop := bs.length = xs.length ∧ ∀ (j : Nat) (h : j < xs.length), bs[xs[j].toNat]? = some (j : Int)
theorem InvOf.pick {xs bs : List Int} (h : InvOf xs bs) (hx : IsRow xs) : pickI bs xs = ri xs.length := by
  refine List.ext_getElem (by rw [pick_len, ri_len]) fun i h1 h2 => ?_
  rw [pick_len] at h1
  rw [pick_get h1, List.getD_eq_getElem?_getD, h.2 i h1]
  have := ri_get h1
  rw [List.getElem?_eq_getElem h2] at this
  exact (Option.some.inj this).symm
theorem InvOf.mem {xs bs : List Int} (h : InvOf xs bs) (hx : IsRow xs) {v : Nat} (hv : v < xs.length) : ∃ (j : Nat) (hj : j < xs.length), xs[j] = (v : Int) ∧ bs[v]? = some (j : Int) := by
  obtain ⟨j, hj, e⟩ := List.getElem_of_mem (hx.all hv)
  have := h.2 j hj
  rw [e, Int.toNat_natCast] at this
  exact ⟨j, hj, e, this⟩
theorem InvOf.pick2 {xs bs : List Int} (h : InvOf xs bs) (hx : IsRow xs) : pickI xs bs = ri xs.length := by
  refine List.ext_getElem (by rw [pick_len, ri_len, h.1]) fun i h1 h2 => ?_
  rw [pick_len, h.1] at h1
  obtain ⟨j, hj, e, eb⟩ := h.mem hx h1
  have hb : i < bs.length := by rw [h.1]; exact h1
  rw [pick_get hb]
  have e2 : bs[i] = (j : Int) := by
    rw [List.getElem?_eq_getElem hb] at eb
    exact Option.some.inj eb
  rw [e2, Int.toNat_natCast, getD_get hj, e]
  have := ri_get h1
  rw [List.getElem?_eq_getElem h2] at this
  exact (Option.some.inj this).symm
theorem InvOf.bound {xs bs : List Int} (h : InvOf xs bs) (hx : IsRow xs) : ∀ y ∈ bs, 0 ≤ y ∧ y.toNat < xs.length := by
  intro y hy
  obtain ⟨i, hi, e⟩ := List.getElem_of_mem hy
  obtain ⟨j, hj, _, eb⟩ := h.mem hx (v := i) (by rw [← h.1]; exact hi)
  rw [List.getElem?_eq_getElem hi] at eb
  have := Option.some.inj eb
  omega
theorem InvOf.row {xs bs : List Int} (h : InvOf xs bs) (hx : IsRow xs) : IsRow bs := by
  refine isRow_mk ?_ fun y hy => ?_
  · rw [List.nodup_iff_pairwise_ne, List.pairwise_iff_getElem]
    intro i j hi hj hij e
    obtain ⟨u, hu, e1, b1⟩ := h.mem hx (v := i) (by rw [← h.1]; exact hi)
    obtain ⟨v, hv, e2, b2⟩ := h.mem hx (v := j) (by rw [← h.1]; exact hj)
    rw [List.getElem?_eq_getElem hi] at b1
    rw [List.getElem?_eq_getElem hj] at b2
    have q1 := Option.some.inj b1
    have q2 := Option.some.inj b2
    have : u = v := by omega
    subst this
    rw [e1] at e2
    omega
  · have := h.bound hx y hy
    rw [h.1]
    omega
theorem InvOf.uniq {xs b1 b2 : List Int} (h1 : InvOf xs b1) (h2 : InvOf xs b2) (hx : IsRow xs) : b1 = b2 := by
  refine List.ext_getElem (by rw [h1.1, h2.1]) fun i q1 q2 => ?_
  obtain ⟨u, hu, e1, y1⟩ := h1.mem hx (v := i) (by rw [← h1.1]; exact q1)
  have y2 := h2.2 u hu
  rw [e1, Int.toNat_natCast] at y2
  rw [List.getElem?_eq_getElem q1] at y1
  rw [List.getElem?_eq_getElem q2] at y2
  exact (Option.some.inj y1).trans (Option.some.inj y2).symm
theorem fwI_none : ∀ (n : Nat) (xs : List Int) (seen : List Int) (k : Nat), xs.Nodup → (∀ x ∈ xs, 0 ≤ x ∧ x < (n : Int) ∧ x ∉ seen) → fwI n seen k (xs.map V.int) = none
  | _, [], _, _, _, _ => rfl
  | n, x :: r, seen, k, hn, hb => by
    have hn' := List.nodup_cons.mp hn
    have hx := hb x (List.mem_cons_self ..)
    simp only [List.map_cons, fwI, if_pos hx]
    refine fwI_none n r (x :: seen) (k + 1) hn'.2 fun y hy => ?_
    have := hb y (List.mem_cons_of_mem _ hy)
    refine ⟨this.1, this.2.1, ?_⟩
    intro q
    rcases List.mem_cons.mp q with e | q
    · exact hn'.1 (e ▸ hy)
    · exact this.2.2 q
theorem fwI_row {xs : List Int} (h : IsRow xs) : fwI xs.length [] 0 (xs.map V.int) = none :=
  fwI_none _ _ _ _ h.nodup fun x hx => ⟨(h.mem.mp hx).1, (h.mem.mp hx).2, List.not_mem_nil⟩

/-! ### amounts, moves -/
def am : List Str := ([ "1", "2", "3", "4", "5", "6", "7", "8", "9", "-1", "-2", "-3", "-4", "-5", "-6", "-7", "-8", "-9", "half"] : List String).map Str.ofString
def fronts2 : List V := [.str "", .str "-"]
def iaM (z : Str) : Bool := decide (z = "half") || figM fronts2 z
def amV (z : Str) (m : Int) : Int := if z = "half" then m.fdiv 2 else (PySem.intText? z).getD 0
def chkA (z : Str) : Bool := (decide (z = "half") || (PySem.intText? z).isSome) && decide (z.length ≤ 100) && iaM z && decide (32 ∉ z.cps.toList) && PyData.strOk z
theorem am_all : am.all chkA = true := by decide +kernel
theorem am_chk {z : Str} (h : z ∈ am) : (z = "half" ∨ (PySem.intText? z).isSome = true) ∧ z.length ≤ 100 ∧ iaM z = true ∧ 32 ∉ z.cps.toList ∧ PyData.strOk z = true := by
  have e := List.all_eq_true.mp am_all z h
  simp only [chkA, Bool.and_eq_true, Bool.or_eq_true, decide_eq_true_eq] at e
  obtain ⟨⟨⟨⟨h1, h2⟩, h3⟩, h4⟩, h5⟩ := e
  exact ⟨h1, h2, h3, h4, h5⟩
inductive Mv where
  | exch (x y : Str) | roll (x y c : Str) | turn
  deriving DecidableEq
def Mv.parts : Mv → List Str
  | .exch x y => ["exchange", x, y]
  | .roll x y c => ["roll", x, y, c]
  | .turn => ["turn"]
def Mv.ok : Mv → Prop
  | .exch x y => x ∈ wt ∧ y ∈ wt
  | .roll x y c => x ∈ wt ∧ y ∈ wt ∧ c ∈ am
  | .turn => True
def strsV (zs : List Str) : List V := zs.map V.str
theorem strs_flat (zs : List Str) : (strsV zs).all flatV = true := by
  unfold strsV
  rw [List.all_map]
  exact List.all_eq_true.mpr fun z _ => rfl
theorem strs_get {zs : List Str} {i : Nat} {z : Str} (h : zs[i]? = some z) : atI (strsV zs) (i : Int) = some (.str z) := by
  refine atI_nat ?_
  unfold strsV
  rw [List.getElem?_map, h]
  rfl
section
variable {P : Program} {w : World} {K : PySem.W.Frag} {mg : Str → Option Value} {base : Heap} {a : Ad}
def spIsAmount : Sp := fun vs H Q _ => ∃ z : Str, vs = [.str z] ∧ z.length ≤ sizeLine ∧ Q (.bl (iaM z)) H
theorem ok_is_amount (T : Tx w K mg a) : FnOk P w K mg base CX0 2 a.f_is_amount a.d_is_amount ["text"] spIsAmount := by
  refine T.F_is_amount.ok sc_is_amount (fun vs H Q E h => ?_) (fun cdv A outer s H vs Q E hr h => ?_)
  · obtain ⟨z, rfl, _⟩ := h
    rfl
  · obtain ⟨z, rfl, hz, q⟩ := h
    refine ⟨_, 
(pss_one (ps_ret (pe_or (pe_cmpR op_eq (pv 0) pe_str (nomark _)) (pe_one (pe_call (ok_is_figure_behind T) hr (by rfl) T.m_is_figure_behind T.F_is_figure_behind.kp T.b_is_figure_behind .nil pass0 (pa_cons (pe_glob (v := .ref a.a_AMOUNT_FRONTS) (by rfl) T.m_AMOUNT_FRONTS rfl) (pa_cons (pv 0) pa_nil))))))), ?_⟩
    refine ⟨.str z, rfl, rfl, _, rfl, ?_⟩
    unfold iaM at q
    by_cases h1 : z = "half"
    · rw [decide_eq_true h1] at q
      rw [decide_eq_true (show V.str z = V.str "half" by rw [h1])]
      exact q
    · rw [decide_eq_false h1] at q
      rw [decide_eq_false (show ¬ V.str z = V.str "half" from fun e => h1 (V.str.inj e))]
      exact ⟨.str z, rfl, a.a_AMOUNT_FRONTS, fronts2, z, rfl, T.q_AMOUNT_FRONTS _, rfl, hz, q⟩
def spAmountOf : Sp := fun vs H Q _ => ∃ (z : Str) (m : Int), vs = [.str z, .int m] ∧ z ∈ am ∧ Q (.int (amV z m)) H
theorem ok_amount_of (T : Tx w K mg a) : FnOk P w K mg base CX0 1 a.f_amount_of a.d_amount_of ["text", "length"] spAmountOf := by
  refine T.F_amount_of.ok sc_amount_of (fun vs H Q E h => ?_) (fun cdv A outer s H vs Q E hr h => ?_)
  · obtain ⟨z, m, rfl, _⟩ := h
    rfl
  · obtain ⟨z, m, rfl, hz, q⟩ := h
    obtain ⟨hi, hl, _⟩ := am_chk hz
    refine ⟨_, 
(pss_cons (ps_if (pt_cmpR op_eq (pv 0) pe_str (nomark _))
  (pss_one (ps_ret (pe_op op_fdivN (pv 1) pe_int)))
  pss_nil)
  (pss_one (ps_ret (pe_callTy call_int_str (by rfl) T.z_int (by decide +kernel) (pa_cons (pv 0) pa_nil))))), ?_⟩
    refine ⟨.str z, rfl, rfl, _, rfl, ?_⟩
    unfold amV at q
    by_cases h1 : z = "half"
    · rw [if_pos h1] at q
      rw [decide_eq_true (show V.str z = V.str "half" by rw [h1])]
      exact ⟨.int m, rfl, m, 2, rfl, rfl, ⟨by decide, by decide⟩, q⟩
    · rw [if_neg h1] at q
      rw [decide_eq_false (show ¬ V.str z = V.str "half" from fun e => h1 (V.str.inj e))]
      obtain ⟨n, hn⟩ := Option.isSome_iff_exists.mp (hi.resolve_left h1)
      rw [hn] at q
      exact ⟨.str z, rfl, z, n, rfl, hn, by omega, q⟩
def ptM (z : Str) (k : Str) : Bool := if k = "place" then ipM z else iaM z
def spIsPart : Sp := fun vs H Q _ => ∃ z k : Str, vs = [.str z, .str k] ∧ z.length ≤ sizeLine ∧ ∀ H', Same H H' → Q (.bl (ptM z k)) H'
theorem ok_is_part (T : Tx w K mg a) : FnOk P w K mg base CX0 3 a.f_is_part a.d_is_part ["text", "kind"] spIsPart := by
  refine T.F_is_part.ok sc_is_part (fun vs H Q E h => ?_) (fun cdv A outer s H vs Q E hr h => ?_)
  · obtain ⟨z, k, rfl, _⟩ := h
    rfl
  · obtain ⟨z, k, rfl, hz, q⟩ := h
    refine ⟨_, 
(pss_cons (ps_if (pt_cmpR op_eq (pv 1) pe_str (nomark _))
  (pss_one (ps_ret (pe_call (ok_is_place_word T) hr (by rfl) T.m_is_place_word T.F_is_place_word.kp T.b_is_place_word .nil pass0 (pa_cons (pv 0) pa_nil))))
  pss_nil)
  (pss_one (ps_ret (pe_call (ok_is_amount T) hr (by rfl) T.m_is_amount T.F_is_amount.kp T.b_is_amount .nil pass0 (pa_cons (pv 0) pa_nil))))), ?_⟩
    refine ⟨.str k, rfl, rfl, _, rfl, ?_⟩
    unfold ptM at q
    by_cases h1 : k = "place"
    · simp only [if_pos h1] at q
      rw [decide_eq_true (show V.str k = V.str "place" by rw [h1])]
      exact ⟨.str z, rfl, z, rfl, hz, q⟩
    · simp only [if_neg h1] at q
      rw [decide_eq_false (show ¬ V.str k = V.str "place" from fun e => h1 (V.str.inj e))]
      exact ⟨.str z, rfl, z, rfl, hz, q H (Same.refl H)⟩
/-- the kinds of the parts behind the first one -/
def Mv.kinds : Mv → List Str
  | .exch _ _ => ["place", "place"]
  | .roll _ _ _ => ["place", "place", "amount"]
  | .turn => []
def Mv.head : Mv → Str
  | .exch _ _ => "exchange"
  | .roll _ _ _ => "roll"
  | .turn => "turn"
def Mv.args : Mv → List Str
  | .exch x y => [x, y]
  | .roll x y c => [x, y, c]
  | .turn => []
theorem Mv.parts_eq (m : Mv) : m.parts = m.head :: m.args := by cases m <;> rfl
theorem Mv.len (m : Mv) : m.kinds.length = m.args.length := by cases m <;> rfl
theorem Mv.arg_ok {m : Mv} (h : m.ok) {j : Nat} {z k : Str} (hz : m.args[j]? = some z) (hk : m.kinds[j]? = some k) : ptM z k = true ∧ z.length ≤ 100 := by
  have pw : ∀ {z : Str}, z ∈ wt → ptM z "place" = true ∧ z.length ≤ 100 := fun hz => ⟨(wt_chk hz).2.2.2.1, (wt_chk hz).2.1⟩
  have aw : ∀ {z : Str}, z ∈ am → ptM z "amount" = true ∧ z.length ≤ 100 := fun hz => ⟨(am_chk hz).2.2.1, (am_chk hz).2.1⟩
  cases m with
  | turn => simp [Mv.args] at hz
  | exch x y =>
    match j, hz, hk with
    | 0, hz, hk => cases hz; cases hk; exact pw h.1
    | 1, hz, hk => cases hz; cases hk; exact pw h.2
    | j + 2, hz, hk => simp [Mv.args] at hz
  | roll x y c =>
    match j, hz, hk with
    | 0, hz, hk => cases hz; cases hk; exact pw h.1
    | 1, hz, hk => cases hz; cases hk; exact pw h.2.1
    | 2, hz, hk => cases hz; cases hk; exact aw h.2.2
    | j + 3, hz, hk => simp [Mv.args] at hz
theorem kd_of {m : Mv} (T : Tx w K mg a) : ∃ p, PySem.W.nsIn K a.a_SHAPES m.head = some (some (.ref p)) ∧ ∀ H : Hp, SqT K H p (strsV m.kinds) := by
  cases m with
  | exch x y => exact T.v_SHAPES_0
  | roll x y c => exact T.v_SHAPES_1
  | turn => exact T.v_SHAPES_2
def spReadMove : Sp := fun vs H Q _ => ∃ (p : Addr) (ps : List Str) (i : Nat) (may : Bool) (m : Mv) (rest : List Str), vs = [.ref p, .int (i : Int), .bl may] ∧ H p = some (.lst (strsV ps)) ∧ ps.drop i = m.parts ++ rest ∧ ps.length ≤ 100000 ∧ m.ok ∧ (m = .turn → may = true) ∧
  ∀ t H', H t = none → H' t = some (.tup (strsV m.parts)) → Same H H' → Q (.ref t) H'
theorem ok_read_move (T : Tx w K mg a) : FnOk P w K mg base CX0 4 a.f_read_move a.d_read_move ["parts", "start", "may_turn"] spReadMove := by
  refine T.F_read_move.ok sc_read_move (fun vs H Q E h => ?_) (fun cdv A outer s H vs Q E hr h => ?_)
  · obtain ⟨p, ps, i, may, m, rest, rfl, _⟩ := h
    rfl
  · obtain ⟨p, ps, i, may, m, rest, rfl, hp, hd, hl, hm, hmay, q⟩ := h
    obtain ⟨es, n, D⟩ := T.D_SHAPES
    obtain ⟨kp, hk1, hk2⟩ := kd_of (m := m) T
    have g : ∀ j, ps[i + j]? = (m.parts ++ rest)[j]? := fun j => by rw [← hd, List.getElem?_drop]
    have g0 : ps[i]? = some m.head := by
      have := g 0
      rw [Nat.add_zero, Mv.parts_eq] at this
      exact this
    have hil : i + (m.args.length + 1) ≤ ps.length := by
      have := congrArg List.length hd
      rw [List.length_drop, List.length_append, Mv.parts_eq, List.length_cons] at this
      omega
    have gj : ∀ j, j < m.args.length → ps[i + 1 + j]? = m.args[j]? := fun j hj => by
      have := g (1 + j)
      rw [Mv.parts_eq, Nat.add_comm 1 j, List.cons_append, List.getElem?_cons_succ, List.getElem?_append_left hj] at this
      rw [show i + 1 + j = i + (j + 1) by omega]
      exact this
    refine ⟨_, 
(pss_cons (ps_set (i := 3) sc_read_move.nd rfl (.inl rfl) (pe_ix ix_list (pv 0) (pv 1) (fun _ _ => rfl)))
  (C8.pss_cut (ps_if (PW.pt (pw_or (pt_cmpR (op_notIn_kd D) (pv 3) (pe_glob (v := .ref a.a_SHAPES) (by rfl) T.m_SHAPES rfl) (by rfl)) (pw_or1 (PW.pt (pw_and (pt_cmpR op_eq (pv 3) pe_str (nomark _)) (pw_and1 (pt_not (pt_val (pv 2)))))))))
  (pss_one ps_never)
  pss_nil)
  (pss_cons (ps_set (i := 4) sc_read_move.nd rfl (.inl rfl) (pe_ix ix_kdict (pe_glob (v := .ref a.a_SHAPES) (by rfl) T.m_SHAPES rfl) (pv 3) (fun _ _ => rfl)))
  (pss_cons (ps_for PassesOwn.never rfl (pi_enumF (by rfl) T.z_enumerate (pa_cons (pv 4) pa_nil) (pe_op op_add (pv 1) pe_int)) (pg_tup rfl (pgs_cons (pg_name (i := 5) sc_read_move.nd rfl (.inl rfl)) (pgs_cons (pg_name (i := 6) sc_read_move.nd rfl (.inl rfl)) pgs_nil)))
  (pss_one (ps_if (pt_not (pt_val (pe_call (ok_is_part T) hr (by rfl) T.m_is_part T.F_is_part.kp T.b_is_part .nil pass0 (pa_cons (pe_ix ix_list (pv 0) (pv 5) (fun _ _ => rfl)) (pa_cons (pv 6) pa_nil)))))
  (pss_one ps_never)
  pss_nil)))
  (pss_one (ps_ret (pe_callTy call_tuple_of (by rfl) T.z_tuple (by decide +kernel) (pa_cons (pe_slice sl_list (pv 0) (po_some (pv 1)) (po_some (pe_op op_add (pe_op op_add (pv 1) pe_int) (pe_callB call_len_seq (by rfl) T.z_len PySem.boot_len (pa_cons (pv 4) pa_nil))))) pa_nil)))))))), ?_⟩
    -- head = parts[start]
    refine ⟨.ref p, rfl, .int i, rfl, p, _, i, _, rfl, rfl, SqL.at hp, strs_get g0, ?_⟩
    -- head not in SHAPES or ..
    refine ⟨fun σ' H' => σ' = [some (.ref p), some (.int i), some (.bl may), some (.str m.head), none, none, none] ∧ H' = H, ?_, ?_⟩
    · refine ⟨.str m.head, rfl, m.head, some (.ref kp), rfl, rfl, hk1, _, rfl, .str m.head, rfl, rfl, _, rfl, ?_⟩
      by_cases hm' : m = .turn
      · rw [decide_eq_true (show V.str m.head = V.str "turn" by rw [hm']; rfl)]
        refine ⟨.bl may, rfl, _, rfl, ?_⟩
        rw [hmay hm']
        exact ⟨rfl, rfl⟩
      · have e : decide (V.str m.head = V.str "turn") = false := by
          cases m with
          | turn => exact absurd rfl hm'
          | exch x y => rfl
          | roll x y c => rfl
        rw [e]
        exact ⟨rfl, rfl⟩
    rintro σ' H' ⟨rfl, rfl⟩
    -- shape = SHAPES[head]
    refine ⟨.str m.head, rfl, a.a_SHAPES, m.head, .ref kp, rfl, rfl, ⟨es, n, _, D.at_, D.lit, hk1, rfl⟩, ?_⟩
    -- for index, kind in enumerate(shape, start=start + 1)
    refine ⟨.ref kp, rfl, .int i, rfl, i, 1, rfl, rfl, kp, strsV m.kinds, (i : Int) + 1, rfl, rfl, by omega, by omega, hk2 _, ?_⟩
    refine for_it (walk_enumF (xs := strsV m.kinds)) (fun j σ H3 => ∃ y5 y6, σ = [some (.ref p), some (.int i), some (.bl may), some (.str m.head), some (.ref kp), y5, y6] ∧ Same H' H3) ?h0 ?hG ?hs ?hd
    case h0 => exact ⟨none, none, rfl, Same.refl _⟩
    case hG =>
      rintro j σ H3 hj _
      exact hk2 _
    case hs =>
      rintro j v σ H3 H4 hj ⟨y5, y6, rfl, s3⟩ ⟨t, x1, x, rfl, nt, rfl, e1, e2⟩
      cases e1
      have hjk : j < m.kinds.length := by
        have : (strsV m.kinds).length = m.kinds.length := List.length_map ..
        omega
      have hja : j < m.args.length := by
        rw [← Mv.len]
        exact hjk
      have e2 : (strsV m.kinds)[j]? = some x := e2
      unfold strsV at e2
      rw [List.getElem?_map, List.getElem?_eq_getElem hjk] at e2
      cases e2
      have s4 := s3.trans (same_upd (o := .tup [.int ((i : Int) + 1 + (j : Nat)), .str m.kinds[j]]) nt)
      have hat : atI (strsV ps) ((i : Int) + 1 + (j : Nat)) = some (.str m.args[j]) := by
        have := strs_get (i := i + 1 + j) ((gj j hja).trans (List.getElem?_eq_getElem hja))
        rw [show ((i + 1 + j : Nat) : Int) = (i : Int) + 1 + (j : Nat) by omega] at this
        exact this
      obtain ⟨ok1, ok2⟩ := Mv.arg_ok hm (List.getElem?_eq_getElem hja) (List.getElem?_eq_getElem hjk)
      refine ⟨t, [.int ((i : Int) + 1 + (j : Nat)), .str m.kinds[j]], rfl, SqT.at upd_same, rfl, _, [.str m.kinds[j]], rfl, .str m.kinds[j], [], rfl, rfl, ?_⟩
      refine ⟨.ref p, rfl, _, rfl, p, _, _, _, rfl, rfl, SqL.at (s4 _ _ hp), hat, .str m.kinds[j], rfl, m.args[j], m.kinds[j], rfl, sz (by omega), fun H5 s5 => ?_⟩
      rw [ok1]
      exact ⟨_, rfl, _, _, rfl, s4.trans s5⟩
    case hd =>
      rintro σ H3 ⟨y5, y6, rfl, s3⟩
      have hkl : (strsV m.kinds).length = m.args.length := by
        unfold strsV
        rw [List.length_map, Mv.len]
      have cut : cutV (strsV ps) (some (i : Int)) (some ((i : Int) + 1 + ((strsV m.kinds).length : Int))) = strsV m.parts := by
        have hsl : (strsV ps).length = ps.length := List.length_map ..
        unfold cutV
        rw [hkl, show (i : Int) + 1 + (m.args.length : Int) = ((i + 1 + m.args.length : Nat) : Int) by omega, HT.sIx_nat, HT.sIx_nat, hsl, Nat.min_eq_left (by omega), Nat.min_eq_left (by omega)]
        unfold strsV
        rw [← List.map_drop, hd, ← List.map_take, show i + 1 + m.args.length - i = m.parts.length by rw [Mv.parts_eq, List.length_cons]; omega, List.take_left]
      refine ⟨.ref p, rfl, .int i, rfl, _, rfl, .int i, rfl, i, 1, rfl, rfl, .ref kp, rfl, kp, _, rfl, .inr (hk2 _), _, _, rfl, rfl, _, rfl, p, _, rfl, SqL.at (s3 _ _ hp), fun o no => ?_⟩
      rw [cut]
      have s4 := same_upd (o := .lst (strsV m.parts)) no
      refine ⟨o, _, rfl, .inl ⟨SqL.at upd_same, fun t nt => ?_⟩⟩
      exact q t _ (s3.free (s4.free nt)) upd_same (s3.trans (s4.trans (same_upd nt)))
/-- tuples of the parts stand at these places -/
def Held (H : Hp) : List Addr → List Mv → Prop
  | [], [] => True
  | r :: rs, m :: ms => H r = some (.tup (strsV m.parts)) ∧ Held H rs ms
  | _, _ => False
theorem Held.same {H H' : Hp} (e : Same H H') : ∀ {rs : List Addr} {ms : List Mv}, Held H rs ms → Held H' rs ms
  | [], [], _ => trivial
  | _ :: _, _ :: _, h => ⟨e _ _ h.1, Held.same e h.2⟩
theorem Held.snoc {H : Hp} {t : Addr} {m : Mv} (ht : H t = some (.tup (strsV m.parts))) : ∀ {rs : List Addr} {ms : List Mv}, Held H rs ms → Held H (rs ++ [t]) (ms ++ [m])
  | [], [], _ => ⟨ht, trivial⟩
  | _ :: _, _ :: _, h => ⟨h.1, Held.snoc ht h.2⟩
theorem Held.but {H : Hp} {l : Addr} {xs : List V} {o : HO} (hl : H l = some (.lst xs)) : ∀ {rs : List Addr} {ms : List Mv}, Held H rs ms → Held (upd H l o) rs ms
  | [], [], _ => trivial
  | _ :: _, _ :: _, h => ⟨by rw [upd_ne (ne_of h.1 hl (by intro z; cases z))]; exact h.1, Held.but hl h.2⟩
theorem Held.off {H : Hp} {p C dx : Addr} {fs : List (Str × V)} {o : HO} (hp : H p = some (.ins C dx fs)) : ∀ {rs : List Addr} {ms : List Mv}, Held H rs ms → Held (upd H p o) rs ms
  | [], [], _ => trivial
  | _ :: _, _ :: _, h => ⟨by rw [upd_ne (ne_of h.1 hp (by intro z; cases z))]; exact h.1, Held.off hp h.2⟩
theorem Held.butd {d : Addr} {H H' : Hp} {kvs : List (Key × V)} (x : But d H H') (hd : H d = some (.dK kvs)) : ∀ {rs : List Addr} {ms : List Mv}, Held H rs ms → Held H' rs ms
  | [], [], _ => trivial
  | _ :: _, _ :: _, h => ⟨x.tup hd h.1, Held.butd x hd h.2⟩
theorem Held.len {H : Hp} : ∀ {rs : List Addr} {ms : List Mv}, Held H rs ms → rs.length = ms.length
  | [], [], _ => rfl
  | _ :: rs, _ :: ms, h => by
    rw [List.length_cons, List.length_cons, Held.len h.2]
def mvD (m : Mv) : PyData := .tuple (m.parts.map PyData.str)
theorem dp_strs {K : PySem.W.Frag} {H : Hp} : ∀ zs : List Str, DpAll K H (strsV zs) (zs.map PyData.str)
  | [] => .nil
  | _ :: r => .cons (.str _) (dp_strs r)
theorem dp_mvs {K : PySem.W.Frag} {H : Hp} : ∀ {rs : List Addr} {ms : List Mv}, Held H rs ms → DpAll K H (rs.map V.ref) (ms.map mvD)
  | [], [], _ => .nil
  | _ :: _, _ :: _, h => .cons (.tup (SqT.at h.1) (dp_strs _)) (dp_mvs h.2)
theorem op_inDT {X : Cx} (hu : X.A.units + 65 < cLine) : OpR X (compareOp .In) (fun x y H Q => ∃ d ds, Dp X.K H x d ∧ Dp X.K H y (.tuple ds) ∧ SeqAt.shaped d = true ∧ SeqAt.shaped (.tuple ds) = true ∧ Q (.bl (ds.any fun z => PyData.eqv z d)) H) := by
  rintro pins s σ H x y v u Q I rx ry ⟨d, ds, hd, he, sd, se, q⟩
  obtain ⟨as, r1⟩ := Dp.reads I d x v hd rx
  obtain ⟨bs, r2⟩ := Dp.reads I (.tuple ds) y u he ry
  exact SeqAt.in_tuple_reads r2 r1 (SeqAt.canLay_of_shaped se) (SeqAt.canLay_of_shaped sd) (room_in_shaped sd hu) ⟨.bl _, H, I, rfl, q⟩
theorem room65 {k : Nat} {A : Around} (hr : Room k A) : A.units + 65 < cLine := by
  have := hr.un
  omega
theorem Mv.str_ok {m : Mv} (h : m.ok) : ∀ z ∈ m.parts, PyData.strOk z = true ∧ z.length ≤ 100 ∧ 32 ∉ z.cps.toList := by
  have pw : ∀ {z : Str}, z ∈ wt → PyData.strOk z = true ∧ z.length ≤ 100 ∧ 32 ∉ z.cps.toList := fun hz => ⟨(wt_chk hz).2.2.2.2.2.2.2, (wt_chk hz).2.1, (wt_chk hz).2.2.2.2.2.2.1⟩
  have aw : ∀ {z : Str}, z ∈ am → PyData.strOk z = true ∧ z.length ≤ 100 ∧ 32 ∉ z.cps.toList := fun hz => ⟨(am_chk hz).2.2.2.2, (am_chk hz).2.1, (am_chk hz).2.2.2.1⟩
  have lit : ∀ z ∈ (["exchange", "roll", "turn"] : List Str), PyData.strOk z = true ∧ z.length ≤ 100 ∧ 32 ∉ z.cps.toList := by decide +kernel
  intro z hz
  cases m with
  | turn =>
    rw [List.mem_singleton.mp hz]
    exact lit _ (by decide +kernel)
  | exch x y =>
    simp only [Mv.parts, List.mem_cons, List.not_mem_nil, or_false] at hz
    rcases hz with rfl | rfl | rfl
    · exact lit _ (by decide +kernel)
    · exact pw h.1
    · exact pw h.2
  | roll x y c =>
    simp only [Mv.parts, List.mem_cons, List.not_mem_nil, or_false] at hz
    rcases hz with rfl | rfl | rfl | rfl
    · exact lit _ (by decide +kernel)
    · exact pw h.1
    · exact pw h.2.1
    · exact aw h.2.2
theorem lay_strs : ∀ {zs : List Str}, (∀ z ∈ zs, PyData.strOk z = true) → PyData.canLayAll0 (zs.map PyData.str) = true
  | [], _ => by simp [PyData.canLayAll0]
  | z :: r, h => by
    simp only [List.map_cons, PyData.canLayAll0, PyData.canLay0, Bool.and_eq_true]
    exact ⟨h z (List.mem_cons_self ..), lay_strs fun y hy => h y (List.mem_cons_of_mem _ hy)⟩
theorem deep_strs : ∀ zs : List Str, PyData.depthAll (zs.map PyData.str) ≤ 1
  | [] => by simp [PyData.depthAll]
  | _ :: r => by
    have := deep_strs r
    simp only [List.map_cons, PyData.depthAll, PyData.depth]
    omega
theorem shaped_strs {zs : List Str} (h : ∀ z ∈ zs, PyData.strOk z = true) : SeqAt.shaped (.tuple (zs.map PyData.str)) = true := by
  unfold SeqAt.shaped
  rw [Bool.and_eq_true, decide_eq_true_eq]
  refine ⟨by rw [PyData.canLay0]; exact lay_strs h, ?_⟩
  have := deep_strs zs
  rw [PyData.depth]
  omega
theorem shaped_mvs {ms : List Mv} (h : ∀ m ∈ ms, m.ok) : SeqAt.shaped (.tuple (ms.map mvD)) = true ∧ SeqAt.shaped (.list (ms.map mvD)) = true := by
  have hl : PyData.canLayAll0 (ms.map mvD) = true := by
    induction ms with
    | nil => simp [PyData.canLayAll0]
    | cons m r ih =>
      simp only [List.map_cons, PyData.canLayAll0, Bool.and_eq_true]
      exact ⟨by unfold mvD; rw [PyData.canLay0]; exact lay_strs fun z hz => (Mv.str_ok (h m (List.mem_cons_self ..)) z hz).1, ih fun y hy => h y (List.mem_cons_of_mem _ hy)⟩
  have hd : PyData.depthAll (ms.map mvD) ≤ 2 := by
    clear h hl
    induction ms with
    | nil => simp [PyData.depthAll]
    | cons m r ih =>
      have := deep_strs m.parts
      simp only [List.map_cons, PyData.depthAll, mvD, PyData.depth]
      omega
  unfold SeqAt.shaped
  simp only [Bool.and_eq_true, decide_eq_true_eq]
  refine ⟨⟨by rw [PyData.canLay0]; exact hl, ?_⟩, by rw [PyData.canLay0]; exact hl, ?_⟩
  · rw [PyData.depth]
    omega
  · rw [PyData.depth]
    omega
theorem eqv_all_strs : ∀ xs ys : List Str, PyData.eqvAll (xs.map PyData.str) (ys.map PyData.str) = decide (xs = ys)
  | [], [] => by simp [PyData.eqvAll]
  | [], _ :: _ => by simp [PyData.eqvAll]
  | _ :: _, [] => by simp [PyData.eqvAll]
  | x :: r, y :: u => by
    simp only [List.map_cons, PyData.eqvAll, PyData.eqv, eqv_all_strs r u, List.cons.injEq]
    by_cases h1 : x = y <;> by_cases h2 : r = u <;> simp [h1, h2]
theorem Mv.inj {m n : Mv} : m.parts = n.parts ↔ m = n := by
  constructor
  · intro h
    cases m <;> cases n <;> simp [Mv.parts] at h ⊢ <;> first | exact h | exact absurd h.1 (by decide +kernel) | skip
  · intro h
    rw [h]
theorem eqv_mv (m n : Mv) : PyData.eqv (mvD m) (mvD n) = decide (m = n) := by
  unfold mvD
  rw [PyData.eqv, eqv_all_strs]
  by_cases h : m = n
  · simp [h]
  · have : ¬ m.parts = n.parts := fun e => h (Mv.inj.mp e)
    simp [h, this]
theorem any_mv (ms : List Mv) (n : Mv) : (ms.map mvD).any (fun z => PyData.eqv z (mvD n)) = decide (n ∈ ms) := by
  induction ms with
  | nil => simp
  | cons m r ih =>
    rw [List.map_cons, List.any_cons, ih, eqv_mv]
    by_cases h : m = n
    · simp [h]
    · have : ¬ n = m := fun e => h e.symm
      simp [h, this]
abbrev sThen : Str := "then"
abbrev sNo : Str := ""
/-- the parts of a word -/
def wp : List Mv → List Str
  | [] => []
  | [m] => m.parts
  | m :: n :: r => m.parts ++ sThen :: wp (n :: r)
def oneTurn (ms : List Mv) : Prop := ∀ pre m post, ms = pre ++ m :: post → m = .turn → Mv.turn ∉ pre
theorem wp_len : ∀ ms : List Mv, (wp ms).length ≤ 5 * ms.length
  | [] => by simp [wp]
  | [m] => by cases m <;> simp [wp, Mv.parts]
  | m :: n :: r => by
    have := wp_len (n :: r)
    simp only [wp, List.length_append, List.length_cons] at this ⊢
    have hm : m.parts.length ≤ 4 := by cases m <;> simp [Mv.parts]
    omega
def spReadMoves : Sp := fun vs H Q _ => ∃ (p : Addr) (ms : List Mv), vs = [.ref p, .int 0] ∧ H p = some (.lst (strsV (wp ms ++ [sNo]))) ∧ ms ≠ [] ∧ ms.length ≤ 4 ∧ (∀ m ∈ ms, m.ok) ∧ oneTurn ms ∧
  ∀ o t rs H', H o = none → H t = none → H' o = some (.tup [.ref t, .int ((wp ms).length : Int)]) → H' t = some (.tup (rs.map V.ref)) → Held H' rs ms → Same H H' → Q (.ref o) H'
theorem ok_read_moves (T : Tx w K mg a) : FnOk P w K mg base CX0 5 a.f_read_moves a.d_read_moves ["parts", "start"] spReadMoves := by
  refine T.F_read_moves.ok sc_read_moves (fun vs H Q E h => ?_) (fun cdv A outer s H vs Q E hr h => ?_)
  · obtain ⟨p, ms, rfl, _⟩ := h
    rfl
  · obtain ⟨p, ms, rfl, hp, hne, h4, hok, hone, q⟩ := h
    refine ⟨_, 
(pss_cons (ps_set (i := 2) sc_read_moves.nd rfl (.inl rfl) (pe_lst pa_nil))
  (pss_cons (ps_set (i := 3) sc_read_moves.nd rfl (.inl rfl) (pv 1))
  (pss_one (ps_while PassesOwn.never (pt_val pe_bl)
  (pss_cons (ps_set (i := 4) sc_read_moves.nd rfl (.inl rfl) (pe_call (ok_read_move T) hr (by rfl) T.m_read_move T.F_read_move.kp T.b_read_move .nil pass0 (pa_cons (pv 0) (pa_cons (pv 3) (pa_cons (pe_cmpR (op_notInD (room65 hr)) (pe_tup (pa_cons pe_str pa_nil)) (pv 2) (by rfl)) pa_nil)))))
  (pss_cons (ps_expr (pe_bm PySem.F.plainAttrs_list PySem.F.slot_list_append PySem.F.type_list_append mt_append (pv 2) (pa_cons (pv 4) pa_nil)))
  (pss_cons (ps_set (i := 3) sc_read_moves.nd rfl (.inl rfl) (pe_op op_add (pv 3) (pe_callB call_len_seq (by rfl) T.z_len PySem.boot_len (pa_cons (pv 4) pa_nil))))
  (pss_cons (ps_if (PW.pt (pw_or (pt_cmpR op_eq (pe_callB call_len_seq (by rfl) T.z_len PySem.boot_len (pa_cons (pv 2) pa_nil)) (pe_glob (v := .int 4) (by rfl) T.m_MOST_MOVES.choose_spec ⟨_, rfl⟩) (nomark _)) (pw_or1 (pt_cmpR op_ne (pe_ix ix_list (pv 0) (pv 3) (fun _ _ => rfl)) pe_str (nomark _)))))
  (pss_one (ps_ret (pe_tup (pa_cons (pe_callTy call_tuple_of (by rfl) T.z_tuple (by decide +kernel) (pa_cons (pv 2) pa_nil)) (pa_cons (pv 3) pa_nil)))))
  pss_nil)
  (pss_one (ps_set (i := 3) sc_read_moves.nd rfl (.inl rfl) (pe_op op_add (pv 3) pe_int))))))))))), ?_⟩
    refine ⟨Nat.zero_le _, fun l nl => ?_⟩
    refine ⟨.int 0, rfl, ?_⟩
    have s1 : Same H (upd H l (.lst [])) := same_upd nl
    have nlp : p ≠ l := ne_of_none hp nl
    refine ⟨fun k σ H3 => ∃ (done todo : List Mv) (rs : List Addr) (pre : List Str) (y4 : Option V), ms = done ++ todo ∧ todo.length = k ∧ todo ≠ [] ∧ wp ms ++ [sNo] = pre ++ (wp todo ++ [sNo]) ∧ σ = [some (.ref p), some (.int 0), some (.ref l), some (.int (pre.length : Int)), y4] ∧ H3 l = some (.lst (rs.map V.ref)) ∧ Held H3 rs done ∧ Same H H3,
      ⟨ms.length, [], ms, [], [], none, rfl, rfl, hne, rfl, rfl, upd_same, trivial, s1⟩, ?_⟩
    rintro k σ H3 ⟨done, todo, rs, pre, y4, e1, rfl, hne2, e2, rfl, hl3, held, s3⟩
    obtain ⟨m, todo', rfl⟩ : ∃ m r, todo = m :: r := by
      cases todo with
      | nil => exact absurd rfl hne2
      | cons m r => exact ⟨m, r, rfl⟩
    have hp3 := s3 _ _ hp
    have hpl : (wp ms ++ [sNo]).length ≤ 100 := by
      have := wp_len ms
      rw [List.length_append]
      simp
      omega
    obtain ⟨rest, er⟩ : ∃ rest, wp (m :: todo') ++ [sNo] = m.parts ++ rest := by
      cases todo' with
      | nil => exact ⟨[sNo], rfl⟩
      | cons n r => exact ⟨sThen :: wp (n :: r) ++ [sNo], by simp [wp]⟩
    have hdrop : (wp ms ++ [sNo]).drop pre.length = m.parts ++ rest := by
      rw [e2, List.drop_left, er]
    have hmok : m.ok := hok m (by rw [e1]; simp)
    have hdok : ∀ x ∈ done, x.ok := fun x hx => hok x (by rw [e1]; simp [hx])
    refine ⟨true, rfl, fun σ' H' => ∃ k', k' < (m :: todo').length ∧ ∃ (done todo : List Mv) (rs : List Addr) (pre : List Str) (y4 : Option V), ms = done ++ todo ∧ todo.length = k' ∧ todo ≠ [] ∧ wp ms ++ [sNo] = pre ++ (wp todo ++ [sNo]) ∧ σ' = [some (.ref p), some (.int 0), some (.ref l), some (.int (pre.length : Int)), y4] ∧ H' l = some (.lst (rs.map V.ref)) ∧ Held H' rs done ∧ Same H H', fun σ' H' h => h, ?_⟩
    -- move = read_move(parts, end, ('turn',) not in moves)
    refine ⟨.ref p, rfl, _, rfl, sz (show 1 ≤ 100000 by decide), fun t0 nt0 => ?_⟩
    have s4 := same_upd (o := .tup [V.str "turn"]) nt0
    refine ⟨.ref l, rfl, mvD .turn, done.map mvD, .tup (SqT.at upd_same) (dp_strs ["turn"]), .lst (SqL.at (s4 _ _ hl3)) (dp_mvs (held.same s4)), shaped_strs (by decide +kernel), (shaped_mvs hdok).2, ?_⟩
    rw [any_mv]
    have s5 := s3.trans s4
    refine ⟨p, wp ms ++ [sNo], pre.length, !decide (Mv.turn ∈ done), m, rest, rfl, s5 _ _ hp, hdrop, by omega, hmok, fun hmt => ?_, fun t H4 nt ht s6 => ?_⟩
    · have := hone done m todo' e1 hmt
      simp [this]
    have s7 := s5.trans s6
    have hl4 := s6 _ _ (s4 _ _ hl3)
    have hp4 := s7 _ _ hp
    have held4 := held.same (s4.trans s6)
    -- moves.append(move)
    refine ⟨.ref l, rfl, .inl ⟨rfl, _, SqL.at hl4⟩, .ref t, rfl, l, rs.map V.ref, .ref t, rfl, rfl, hl4, ?_, ?_⟩
    · rw [List.length_map, held.len]
      have := congrArg List.length e1
      simp at this
      exact szlt (by omega)
    have s8 := keep_upd (o := .lst (rs.map V.ref ++ [.ref t])) s7 nl
    have ntl : t ≠ l := ne_of ht hl4 (by intro z; cases z)
    have hl5 : (upd H4 l (.lst (rs.map V.ref ++ [.ref t]))) l = some (.lst ((rs ++ [t]).map V.ref)) := by
      rw [upd_same, List.map_append]
      rfl
    have ht5 : (upd H4 l (.lst (rs.map V.ref ++ [.ref t]))) t = some (.tup (strsV m.parts)) := by
      rw [upd_ne ntl]
      exact ht
    have held5 : Held (upd H4 l (.lst (rs.map V.ref ++ [.ref t]))) (rs ++ [t]) (done ++ [m]) := Held.snoc ht5 (Held.but hl4 held4)
    have hp5 := s8 _ _ hp
    generalize upd H4 l (.lst (rs.map V.ref ++ [.ref t])) = H5 at s8 hl5 ht5 held5 hp5
    -- end = end + len(move)
    refine ⟨_, rfl, .ref t, rfl, t, _, rfl, .inr (SqT.at ht5), _, _, rfl, rfl, ?_⟩
    have ep : (pre.length : Int) + ((strsV m.parts).length : Int) = ((pre ++ m.parts).length : Int) := by
      unfold strsV
      rw [List.length_map, List.length_append]
      omega
    -- if len(moves) == MOST_MOVES or parts[end] != 'then'
    refine ⟨.ref l, rfl, l, _, rfl, .inl (SqL.at hl5), rfl, _, rfl, ?_⟩
    have ehl : ((rs ++ [t]).map V.ref).length = done.length + 1 := by
      rw [List.length_map, List.length_append, held.len]
      rfl
    rw [ehl]
    cases todo' with
    | nil =>
      have e3 : pre ++ m.parts = wp ms := by
        have := e2
        simp only [wp] at this
        rw [← List.append_assoc] at this
        exact (List.append_cancel_right this).symm
      have edone : done ++ [m] = ms := e1.symm
      rw [edone] at held5
      have hat : atI (strsV (wp ms ++ [sNo])) ((pre.length : Int) + ((strsV m.parts).length : Int)) = some (.str sNo) := by
        rw [ep, e3]
        exact strs_get (by rw [List.getElem?_append_right (Nat.le_refl _), Nat.sub_self]; rfl)
      by_cases h : done.length + 1 = 4
      · rw [decide_eq_true (show V.int ((done.length + 1 : Nat) : Int) = V.int 4 by rw [h]; rfl)]
        refine ⟨.ref l, rfl, l, _, rfl, .inl ⟨SqL.at hl5, fun o1 no1 => ⟨_, rfl, sz (show 2 ≤ 100000 by decide), fun o2 no2 => ?_⟩⟩⟩
        have u1 := same_upd (o := .tup ((rs ++ [t]).map V.ref)) no1
        have u2 := same_upd (o := .tup [V.ref o1, .int ((pre.length : Int) + ((strsV m.parts).length : Int))]) no2
        have u12 := s8.trans (u1.trans u2)
        exact q o2 o1 (rs ++ [t]) _ (s8.free (u1.free no2)) (s8.free no1) (by rw [upd_same, ← e3, ← ep]) (u2 _ _ upd_same) (held5.same (u1.trans u2)) u12
      · rw [decide_eq_false (show ¬ V.int ((done.length + 1 : Nat) : Int) = V.int 4 from fun e => h (by have := V.int.inj e; omega))]
        refine ⟨.ref p, rfl, _, rfl, p, _, _, _, rfl, rfl, SqL.at hp5, hat, rfl, _, rfl, ?_⟩
        rw [show decide (V.str sNo = V.str "then") = false from by decide +kernel]
        refine ⟨.ref l, rfl, l, _, rfl, .inl ⟨SqL.at hl5, fun o1 no1 => ⟨_, rfl, sz (show 2 ≤ 100000 by decide), fun o2 no2 => ?_⟩⟩⟩
        have u1 := same_upd (o := .tup ((rs ++ [t]).map V.ref)) no1
        have u2 := same_upd (o := .tup [V.ref o1, .int ((pre.length : Int) + ((strsV m.parts).length : Int))]) no2
        have u12 := s8.trans (u1.trans u2)
        exact q o2 o1 (rs ++ [t]) _ (s8.free (u1.free no2)) (s8.free no1) (by rw [upd_same, ← e3, ← ep]) (u2 _ _ upd_same) (held5.same (u1.trans u2)) u12
    | cons n r =>
      have e3 : wp ms ++ [sNo] = (pre ++ m.parts ++ [sThen]) ++ (wp (n :: r) ++ [sNo]) := by
        rw [e2, show wp (m :: n :: r) = m.parts ++ sThen :: wp (n :: r) from rfl]
        simp only [List.append_assoc, List.cons_append, List.nil_append]
      have hat : atI (strsV (wp ms ++ [sNo])) ((pre.length : Int) + ((strsV m.parts).length : Int)) = some (.str sThen) := by
        rw [ep, e3]
        refine strs_get ?_
        rw [List.append_assoc (pre ++ m.parts), List.getElem?_append_right (Nat.le_refl _), Nat.sub_self]
        rfl
      have h : ¬ done.length + 1 = 4 := by
        have := congrArg List.length e1
        simp at this
        omega
      rw [decide_eq_false (show ¬ V.int ((done.length + 1 : Nat) : Int) = V.int 4 from fun e => h (by have := V.int.inj e; omega))]
      refine ⟨.ref p, rfl, _, rfl, p, _, _, _, rfl, rfl, SqL.at hp5, hat, rfl, _, rfl, ?_⟩
      rw [show decide (V.str sThen = V.str "then") = true from by decide +kernel]
      refine ⟨_, rfl, _, _, rfl, rfl, ?_⟩
      refine ⟨(n :: r).length, Nat.lt_succ_self _, done ++ [m], n :: r, rs ++ [t], pre ++ m.parts ++ [sThen], some (.ref t), by rw [e1]; simp, rfl, by simp, e3, ?_, hl5, held5, s8⟩
      rw [show ((pre ++ m.parts ++ [sThen]).length : Int) = (pre.length : Int) + ((strsV m.parts).length : Int) + 1 by
        rw [ep, List.length_append (bs := [sThen]), List.length_singleton]
        omega]
      rfl
/-! ### what a move makes of a row -/
def exF (xs : List Int) (x y : Nat) : List Int := (xs.set x (xs.getD y 0)).set y (xs.getD x 0)
def roF (xs : List Int) (x y : Nat) (c : Int) : List Int :=
  let b := (xs.drop x).take (y + 1 - x)
  let k := (b.length - Int.fmod c b.length).toNat
  xs.take x ++ b.drop k ++ b.take k ++ xs.drop (y + 1)
def inB (v : Int) (n : Nat) : Bool := decide (0 ≤ v) && decide (v < (n : Int))
def mvF (m : Mv) (xs : List Int) : List Int := match m with
  | .turn => xs.reverse
  | .exch x y => if inB (plV x xs.length) xs.length && inB (plV y xs.length) xs.length then exF xs (plV x xs.length).toNat (plV y xs.length).toNat else xs
  | .roll x y c => if inB (plV x xs.length) xs.length && inB (plV y xs.length) xs.length && decide (plV x xs.length ≤ plV y xs.length) then roF xs (plV x xs.length).toNat (plV y xs.length).toNat (amV c ((plV y xs.length).toNat + 1 - (plV x xs.length).toNat : Nat)) else xs
theorem ex_len (xs : List Int) (x y : Nat) : (exF xs x y).length = xs.length := by
  unfold exF
  rw [List.length_set, List.length_set]
theorem ro_len (xs : List Int) (x y : Nat) (c : Int) (hxy : x ≤ y) (hy : y < xs.length) : (roF xs x y c).length = xs.length := by
  unfold roF
  simp only [List.length_append, List.length_take, List.length_drop]
  omega
theorem mv_len (m : Mv) (xs : List Int) : (mvF m xs).length = xs.length := by
  cases m with
  | turn => exact List.length_reverse
  | exch x y =>
    simp only [mvF]
    split
    · exact ex_len _ _ _
    · rfl
  | roll x y c =>
    simp only [mvF]
    split
    · rename_i h
      simp only [inB, Bool.and_eq_true, decide_eq_true_eq] at h
      exact ro_len _ _ _ _ (by omega) (by omega)
    · rfl
def spExchanged (K : PySem.W.Frag) : Sp := fun vs H Q _ => ∃ (p : Addr) (xs : List Int) (x y : Nat), vs = [.ref p, .int (x : Int), .int (y : Int)] ∧ SqL K H p (xs.map V.int) ∧ xs.length ≤ 100000 ∧ x < xs.length ∧ y < xs.length ∧
  ∀ o H', H o = none → H' o = some (.lst ((exF xs x y).map V.int)) → Same H H' → Q (.ref o) H'
theorem ok_exchanged (T : Tx w K mg a) : FnOk P w K mg base CX0 1 a.f_exchanged a.d_exchanged ["old", "x", "y"] (spExchanged K) := by
  refine T.F_exchanged.ok sc_exchanged (fun vs H Q E h => ?_) (fun cdv A outer s H vs Q E hr h => ?_)
  · obtain ⟨p, xs, x, y, rfl, _⟩ := h
    rfl
  · obtain ⟨p, xs, x, y, rfl, hp, hl, hx, hy, q⟩ := h
    have at_ : ∀ {i : Nat}, i < xs.length → atI (xs.map V.int) (i : Int) = some (.int (xs.getD i 0)) := fun {i} hi => by
      refine atI_nat ?_
      rw [List.getElem?_map, List.getElem?_eq_getElem hi, getD_get hi]
      rfl
    refine ⟨_, 
(pss_cons (ps_set (i := 3) sc_exchanged.nd rfl (.inl rfl) (pe_callTy call_list_of (by rfl) T.z_list (by decide +kernel) (pa_cons (pv 0) pa_nil)))
  (pss_cons (ps_asg (pe_ix ix_list (pv 0) (pv 2) (fun _ _ => rfl)) (pg_sub (pv 3) (pv 1) set_list))
  (pss_cons (ps_asg (pe_ix ix_list (pv 0) (pv 1) (fun _ _ => rfl)) (pg_sub (pv 3) (pv 2) set_list))
  (pss_one (ps_ret (pv 3)))))), ?_⟩
    refine ⟨.ref p, rfl, p, _, rfl, .inl hp, fun o no => ?_⟩
    have s1 := same_upd (o := .lst (xs.map V.int)) no
    refine ⟨.ref p, rfl, _, rfl, p, _, _, _, rfl, rfl, s1.seq hp, at_ hy, .ref o, rfl, _, rfl, o, _, _, x, rfl, rfl, upd_same, by rw [List.length_map]; exact ixN_nat (by omega) (by omega), ?_⟩
    have s2 := keep_upd (o := .lst ((xs.map V.int).set x (.int (xs.getD y 0)))) s1 no
    refine ⟨.ref p, rfl, _, rfl, p, _, _, _, rfl, rfl, s2.seq hp, at_ hx, .ref o, rfl, _, rfl, o, _, _, y, rfl, rfl, upd_same, by rw [List.length_set, List.length_map]; exact ixN_nat (by omega) (by omega), ?_⟩
    refine ⟨_, rfl, q o _ no ?_ (keep_upd s2 no)⟩
    rw [upd_same]
    unfold exF
    rw [List.map_set, List.map_set]
/-- slices of lists of ints -/
theorem cut_to (xs : List Int) (n : Nat) : cutV (xs.map V.int) none (some (n : Int)) = (xs.take n).map V.int := by
  unfold cutV
  rw [HT.sIx_none, HT.sIx_nat, List.drop_zero, Nat.sub_zero, List.map_take, List.take_eq_take_iff, List.length_map]
  omega
theorem cut_from (xs : List Int) (n : Nat) (h : n ≤ xs.length) : cutV (xs.map V.int) (some (n : Int)) none = (xs.drop n).map V.int := by
  unfold cutV
  rw [HT.sIx_nat, HT.sIx_none, List.length_map, Nat.min_eq_left h, ← List.map_drop, List.take_of_length_le (by rw [List.length_map, List.length_drop]; exact Nat.le_refl _)]
theorem cut_mid (xs : List Int) (n m : Nat) (h : n ≤ xs.length) (hm : m ≤ xs.length) : cutV (xs.map V.int) (some (n : Int)) (some (m : Int)) = ((xs.drop n).take (m - n)).map V.int := by
  unfold cutV
  rw [HT.sIx_nat, HT.sIx_nat, List.length_map, Nat.min_eq_left h, Nat.min_eq_left hm, ← List.map_drop, ← List.map_take]
theorem blk_len (xs : List Int) (x y : Nat) (hxy : x ≤ y) (hy : y < xs.length) : ((xs.drop x).take (y + 1 - x)).length = y + 1 - x := by
  rw [List.length_take, List.length_drop]
  omega
def spRolled (K : PySem.W.Frag) : Sp := fun vs H Q _ => ∃ (p : Addr) (xs : List Int) (x y : Nat) (c : Str), vs = [.ref p, .int (x : Int), .int (y : Int), .str c] ∧ SqL K H p (xs.map V.int) ∧ xs.length ≤ 100000 ∧ x < xs.length ∧ y < xs.length ∧ c ∈ am ∧
  ∀ o H', H o = none → H' o = some (.lst ((if x ≤ y then roF xs x y (amV c (y + 1 - x : Nat)) else xs).map V.int)) → Same H H' → Q (.ref o) H'
theorem ok_rolled (T : Tx w K mg a) : FnOk P w K mg base CX0 2 a.f_rolled a.d_rolled ["old", "x", "y", "amount"] (spRolled K) := by
  refine T.F_rolled.ok sc_rolled (fun vs H Q E h => ?_) (fun cdv A outer s H vs Q E hr h => ?_)
  · obtain ⟨p, xs, x, y, c, rfl, _⟩ := h
    rfl
  · obtain ⟨p, xs, x, y, c, rfl, hp, hl, hx, hy, hc, q⟩ := h
    refine ⟨_, 
(pss_cons (ps_if (pt_cmpR op_gt (pv 1) (pv 2) (nomark _))
  (pss_one (ps_ret (pe_callTy call_list_of (by rfl) T.z_list (by decide +kernel) (pa_cons (pv 0) pa_nil))))
  pss_nil)
  (pss_cons (ps_set (i := 4) sc_rolled.nd rfl (.inl rfl) (pe_slice sl_list (pv 0) (po_some (pv 1)) (po_some (pe_op op_add (pv 2) pe_int))))
  (pss_cons (ps_set (i := 5) sc_rolled.nd rfl (.inl rfl) (pe_op op_sub (pe_callB call_len_seq (by rfl) T.z_len PySem.boot_len (pa_cons (pv 4) pa_nil)) (pe_op op_modN (pe_call (ok_amount_of T) hr (by rfl) T.m_amount_of T.F_amount_of.kp T.b_amount_of .nil pass0 (pa_cons (pv 3) (pa_cons (pe_callB call_len_seq (by rfl) T.z_len PySem.boot_len (pa_cons (pv 4) pa_nil)) pa_nil))) (pe_callB call_len_seq (by rfl) T.z_len PySem.boot_len (pa_cons (pv 4) pa_nil)))))
  (pss_one (ps_ret (pe_op op_cat (pe_op op_cat (pe_op op_cat (pe_slice sl_list (pv 0) po_none (po_some (pv 1))) (pe_slice sl_list (pv 4) (po_some (pv 5)) po_none)) (pe_slice sl_list (pv 4) po_none (po_some (pv 5)))) (pe_slice sl_list (pv 0) (po_some (pe_op op_add (pv 2) pe_int)) po_none))))))), ?_⟩
    refine ⟨_, rfl, _, rfl, x, y, rfl, rfl, _, rfl, ite2 (fun e => ?_) (fun e => ?_)⟩
    · have hxy : ¬ x ≤ y := by
        have := of_decide_eq_true e
        omega
      refine ⟨.ref p, rfl, p, _, rfl, .inl hp, fun o no => q o _ no ?_ (same_upd no)⟩
      rw [upd_same, if_neg hxy]
    have hxy : x ≤ y := by
      have : ¬ (y : Int) < x := fun z => e (decide_eq_true z)
      omega
    rw [if_pos hxy] at q
    have bl := blk_len xs x y hxy hy
    have em := cut_mid xs x (y + 1) (by omega) (by omega)
    have et := cut_to xs x
    have ef := cut_from xs (y + 1) (by omega)
    -- block = old[x:y + 1]
    refine ⟨.ref p, rfl, _, rfl, _, rfl, _, rfl, y, 1, rfl, rfl, _, rfl, p, _, rfl, hp, fun b nb => ?_⟩
    rw [show (y : Int) + 1 = ((y + 1 : Nat) : Int) by omega, em]
    generalize eb : (xs.drop x).take (y + 1 - x) = B at bl em
    have s1 := same_upd (o := .lst (B.map V.int)) nb
    have hb : (upd H b (.lst (B.map V.int))) b = some (.lst (B.map V.int)) := upd_same
    generalize upd H b (.lst (B.map V.int)) = H1 at s1 hb ⊢
    have bp : 0 < B.length := by omega
    -- cut = len(block) - amount_of(amount, len(block)) % len(block)
    refine ⟨.ref b, rfl, b, _, rfl, .inl (SqL.at hb), .str c, rfl, .ref b, rfl, b, _, rfl, .inl (SqL.at hb), c, _, rfl, hc, .ref b, rfl, b, _, rfl, .inl (SqL.at hb), _, _, rfl, rfl, ?_, _, _, rfl, rfl, ?_⟩
    · rw [List.length_map]
      show ((B.length : Nat) : Int) ≠ 0
      omega
    rw [List.length_map]
    have f0 := Int.fmod_nonneg_of_pos (amV c (B.length : Int)) (b := (B.length : Int)) (by omega)
    have f1 := Int.fmod_lt_of_pos (amV c (B.length : Int)) (b := (B.length : Int)) (by omega)
    obtain ⟨k, ek, hk⟩ : ∃ k : Nat, (B.length : Int) - Int.fmod (amV c (B.length : Int)) (B.length : Int) = (k : Int) ∧ k ≤ B.length := ⟨((B.length : Int) - Int.fmod (amV c (B.length : Int)) (B.length : Int)).toNat, by omega, by omega⟩
    have e2 := cut_from B k hk
    have e3 := cut_to B k
    -- old[:x] + block[cut:] + block[:cut] + old[y + 1:]
    refine ⟨.ref p, rfl, _, rfl, _, rfl, p, _, rfl, s1.seq hp, fun o1 no1 => ?_⟩
    rw [et]
    have u1 := same_upd (o := .lst ((xs.take x).map V.int)) no1
    have b1 := u1 _ _ hb
    have h1 : (upd H1 o1 (.lst ((xs.take x).map V.int))) o1 = _ := upd_same
    generalize upd H1 o1 (.lst ((xs.take x).map V.int)) = H2 at u1 b1 h1 ⊢
    refine ⟨.ref b, rfl, _, rfl, _, rfl, b, _, rfl, SqL.at b1, fun o2 no2 => ?_⟩
    rw [ek, e2]
    have u2 := same_upd (o := .lst ((B.drop k).map V.int)) no2
    have b2 := u2 _ _ b1
    have h12 := u2 _ _ h1
    have h2 : (upd H2 o2 (.lst ((B.drop k).map V.int))) o2 = _ := upd_same
    generalize upd H2 o2 (.lst ((B.drop k).map V.int)) = H3 at u2 b2 h12 h2 ⊢
    refine ⟨o1, o2, _, _, rfl, rfl, h12, h2, sz (by simp; omega), fun o3 no3 => ?_⟩
    rw [← List.map_append]
    have u3 := same_upd (o := .lst ((xs.take x ++ B.drop k).map V.int)) no3
    have b3 := u3 _ _ b2
    have h3 : (upd H3 o3 (.lst ((xs.take x ++ B.drop k).map V.int))) o3 = _ := upd_same
    generalize upd H3 o3 (.lst ((xs.take x ++ B.drop k).map V.int)) = H4 at u3 b3 h3 ⊢
    refine ⟨.ref b, rfl, _, rfl, _, rfl, b, _, rfl, SqL.at b3, fun o4 no4 => ?_⟩
    rw [ek, e3]
    have u4 := same_upd (o := .lst ((B.take k).map V.int)) no4
    have h34 := u4 _ _ h3
    have h4 : (upd H4 o4 (.lst ((B.take k).map V.int))) o4 = _ := upd_same
    generalize upd H4 o4 (.lst ((B.take k).map V.int)) = H5 at u4 h34 h4 ⊢
    refine ⟨o3, o4, _, _, rfl, rfl, h34, h4, sz (by simp; omega), fun o5 no5 => ?_⟩
    rw [← List.map_append]
    have u5 := same_upd (o := .lst ((xs.take x ++ B.drop k ++ B.take k).map V.int)) no5
    have h5 : (upd H5 o5 (.lst ((xs.take x ++ B.drop k ++ B.take k).map V.int))) o5 = _ := upd_same
    generalize upd H5 o5 (.lst ((xs.take x ++ B.drop k ++ B.take k).map V.int)) = H6 at u5 h5 ⊢
    have u06 := s1.trans (u1.trans (u2.trans (u3.trans (u4.trans u5))))
    refine ⟨.ref p, rfl, _, rfl, y, 1, rfl, rfl, _, rfl, p, _, rfl, u06.seq hp, fun o6 no6 => ?_⟩
    rw [show (y : Int) + 1 = ((y + 1 : Nat) : Int) by omega, ef]
    have u6 := same_upd (o := .lst ((xs.drop (y + 1)).map V.int)) no6
    have h56 := u6 _ _ h5
    have h6 : (upd H6 o6 (.lst ((xs.drop (y + 1)).map V.int))) o6 = _ := upd_same
    generalize upd H6 o6 (.lst ((xs.drop (y + 1)).map V.int)) = H7 at u6 h56 h6 ⊢
    refine ⟨o5, o6, _, _, rfl, rfl, h56, h6, sz (by simp; omega), fun o7 no7 => ?_⟩
    rw [← List.map_append]
    have u07 := u06.trans (u6.trans (same_upd (o := .lst ((xs.take x ++ B.drop k ++ B.take k ++ xs.drop (y + 1)).map V.int)) no7))
    refine q o7 _ (u06.free (u6.free no7)) ?_ u07
    rw [upd_same]
    unfold roF
    simp only [eb]
    rw [← bl, ek, Int.toNat_natCast]
end

section
variable {P : Program} {w : World} {K : PySem.W.Frag} {mg : Str → Option Value} {base : Heap} {a : Ad}
theorem btM_in {v : Int} {n : Nat} : btM 0 ((n : Int) - 1) (.int v) = inB v n := by
  simp only [btM, inB]
  congr 1
  exact decide_eq_decide.mpr (by omega)
theorem in_nat {v : Int} {n : Nat} (h : inB v n = true) : ∃ x : Nat, v = (x : Int) ∧ x < n := by
  simp only [inB, Bool.and_eq_true, decide_eq_true_eq] at h
  exact ⟨v.toNat, by omega, by omega⟩
def spMoved (K : PySem.W.Frag) : Sp := fun vs H Q _ => ∃ (p t : Addr) (xs : List Int) (m : Mv), vs = [.ref p, .ref t] ∧ SqL K H p (xs.map V.int) ∧ SqT K H t (strsV m.parts) ∧ m.ok ∧ xs.length ≤ 100000 ∧
  ∀ o H', H o = none → H' o = some (.lst ((mvF m xs).map V.int)) → Same H H' → Q (.ref o) H'
theorem head_at {m : Mv} : atI (strsV m.parts) 0 = some (.str m.head) := strs_get (i := 0) (by rw [Mv.parts_eq]; rfl)
theorem ok_moved (T : Tx w K mg a) : FnOk P w K mg base CX0 3 a.f_moved a.d_moved ["old", "move"] (spMoved K) := by
  refine T.F_moved.ok sc_moved (fun vs H Q E h => ?_) (fun cdv A outer s H vs Q E hr h => ?_)
  · obtain ⟨p, t, xs, m, rfl, _⟩ := h
    rfl
  · obtain ⟨p, t, xs, m, rfl, hp, ht, hm, hl, q⟩ := h
    refine ⟨_, 
(pss_cons (ps_if (pt_cmpR op_eq (pe_ix ix_tup (pv 1) pe_int (fun _ _ => rfl)) pe_str (nomark _))
  (pss_one (ps_ret (pe_revL (pv 0))))
  pss_nil)
  (pss_cons (ps_set (i := 2) sc_moved.nd rfl (.inl rfl) (pe_call (ok_place_of T) (hr.mono (by decide)) (by rfl) T.m_place_of T.F_place_of.kp T.b_place_of .nil pass0 (pa_cons (pe_ix ix_tup (pv 1) pe_int (fun _ _ => rfl)) (pa_cons (pe_callB call_len_seq (by rfl) T.z_len PySem.boot_len (pa_cons (pv 0) pa_nil)) pa_nil))))
  (pss_cons (ps_set (i := 3) sc_moved.nd rfl (.inl rfl) (pe_call (ok_place_of T) (hr.mono (by decide)) (by rfl) T.m_place_of T.F_place_of.kp T.b_place_of .nil pass0 (pa_cons (pe_ix ix_tup (pv 1) pe_int (fun _ _ => rfl)) (pa_cons (pe_callB call_len_seq (by rfl) T.z_len PySem.boot_len (pa_cons (pv 0) pa_nil)) pa_nil))))
  (pss_cons (ps_if (PW.pt (pw_or (pt_not (pt_val (pe_call (ok_is_between T) hr (by rfl) T.m_is_between T.F_is_between.kp T.b_is_between .nil pass0 (pa_cons (pv 2) (pa_cons pe_int (pa_cons (pe_op op_sub (pe_callB call_len_seq (by rfl) T.z_len PySem.boot_len (pa_cons (pv 0) pa_nil)) pe_int) pa_nil)))))) (pw_or1 (pt_not (pt_val (pe_call (ok_is_between T) hr (by rfl) T.m_is_between T.F_is_between.kp T.b_is_between .nil pass0 (pa_cons (pv 3) (pa_cons pe_int (pa_cons (pe_op op_sub (pe_callB call_len_seq (by rfl) T.z_len PySem.boot_len (pa_cons (pv 0) pa_nil)) pe_int) pa_nil)))))))))
  (pss_one (ps_ret (pe_callTy call_list_of (by rfl) T.z_list (by decide +kernel) (pa_cons (pv 0) pa_nil))))
  pss_nil)
  (pss_cons (ps_if (pt_cmpR op_eq (pe_ix ix_tup (pv 1) pe_int (fun _ _ => rfl)) pe_str (nomark _))
  (pss_one (ps_ret (pe_call (ok_exchanged T) (hr.mono (by decide)) (by rfl) T.m_exchanged T.F_exchanged.kp T.b_exchanged .nil pass0 (pa_cons (pv 0) (pa_cons (pv 2) (pa_cons (pv 3) pa_nil))))))
  pss_nil)
  (pss_one (ps_ret (pe_call (ok_rolled T) hr (by rfl) T.m_rolled T.F_rolled.kp T.b_rolled .nil pass0 (pa_cons (pv 0) (pa_cons (pv 2) (pa_cons (pv 3) (pa_cons (pe_ix ix_tup (pv 1) pe_int (fun _ _ => rfl)) pa_nil)))))))))))), ?_⟩
    refine ⟨.ref t, rfl, t, _, 0, _, rfl, rfl, ht, head_at, rfl, _, rfl, ?_⟩
    by_cases htu : m = .turn
    · subst htu
      rw [show decide (V.str (Mv.head .turn) = V.str "turn") = true from by decide +kernel]
      refine ⟨.ref p, rfl, p, _, rfl, hp, fun o no => q o _ no ?_ (same_upd no)⟩
      rw [upd_same, ← List.map_reverse]
      rfl
    have hh : decide (V.str m.head = V.str "turn") = false := by
      cases m with
      | turn => exact absurd rfl htu
      | exch x y => exact (by decide +kernel : decide (V.str "exchange" = V.str "turn") = false)
      | roll x y c => exact (by decide +kernel : decide (V.str "roll" = V.str "turn") = false)
    rw [hh]
    obtain ⟨X, Y, hX, hY, wX, wY, hmv⟩ : ∃ X Y, m.parts[1]? = some X ∧ m.parts[2]? = some Y ∧ X ∈ wt ∧ Y ∈ wt ∧ (∀ xs, (inB (plV X (xs.length : Int)) xs.length && inB (plV Y (xs.length : Int)) xs.length) = false → mvF m xs = xs) := by
      cases m with
      | turn => exact absurd rfl htu
      | exch x y =>
        refine ⟨x, y, rfl, rfl, hm.1, hm.2, fun xs h => ?_⟩
        simp only [mvF, h]
        rfl
      | roll x y c =>
        refine ⟨x, y, rfl, rfl, hm.1, hm.2.1, fun xs h => ?_⟩
        simp only [mvF, h, Bool.false_and]
        rfl
    have el : (xs.map V.int).length = xs.length := List.length_map ..
    -- x = place_of(move[1], len(old)); y = ..
    refine ⟨.ref t, rfl, t, _, 1, _, rfl, rfl, ht, strs_get (i := 1) hX, .ref p, rfl, p, _, rfl, .inl hp, X, _, rfl, wX, ?_⟩
    refine ⟨.ref t, rfl, t, _, 2, _, rfl, rfl, ht, strs_get (i := 2) hY, .ref p, rfl, p, _, rfl, .inl hp, Y, _, rfl, wY, ?_⟩
    rw [el]
    -- if not is_between(x, 0, len(old) - 1) or not is_between(y, 0, len(old) - 1)
    refine ⟨_, rfl, .ref p, rfl, p, _, rfl, .inl hp, _, 1, rfl, rfl, .int (plV X (xs.length : Int)), true, 0, _, rfl, .int _, _, rfl, ?_⟩
    rw [el, btM_in]
    cases hx : inB (plV X (xs.length : Int)) xs.length with
    | false =>
      have hq := hmv xs (by rw [hx]; rfl)
      refine ⟨.ref p, rfl, p, _, rfl, .inl hp, fun o no => q o _ no ?_ (same_upd no)⟩
      rw [upd_same, hq]
    | true =>
      refine ⟨_, rfl, .ref p, rfl, p, _, rfl, .inl hp, _, 1, rfl, rfl, .int (plV Y (xs.length : Int)), true, 0, _, rfl, .int _, _, rfl, ?_⟩
      rw [el, btM_in]
      cases hy : inB (plV Y (xs.length : Int)) xs.length with
      | false =>
        have hq := hmv xs (by rw [hx, hy]; rfl)
        refine ⟨.ref p, rfl, p, _, rfl, .inl hp, fun o no => q o _ no ?_ (same_upd no)⟩
        rw [upd_same, hq]
      | true =>
        obtain ⟨x, ex, hxl⟩ := in_nat hx
        obtain ⟨y, ey, hyl⟩ := in_nat hy
        refine ⟨.ref t, rfl, t, _, 0, _, rfl, rfl, ht, head_at, rfl, _, rfl, ?_⟩
        cases m with
        | turn => exact absurd rfl htu
        | exch X' Y' =>
          cases hX
          cases hY
          rw [show decide (V.str (Mv.head (.exch X Y)) = V.str "exchange") = true from by rfl]
          refine ⟨.ref p, rfl, _, rfl, _, rfl, p, xs, x, y, by rw [ex, ey]; rfl, hp, hl, hxl, hyl, fun o H' no eo so => q o H' no ?_ so⟩
          rw [eo]
          have h2 : (inB (plV X (xs.length : Int)) xs.length && inB (plV Y (xs.length : Int)) xs.length) = true := by
            rw [hx, hy]
            rfl
          simp only [mvF]
          rw [if_pos h2, ex, ey]
          rfl
        | roll X' Y' c =>
          cases hX
          cases hY
          rw [show decide (V.str (Mv.head (.roll X Y c)) = V.str "exchange") = false from by rfl]
          refine ⟨.ref p, rfl, _, rfl, _, rfl, .ref t, rfl, t, _, 3, _, rfl, rfl, ht, strs_get (i := 3) rfl, p, xs, x, y, c, by rw [ex, ey]; rfl, hp, hl, hxl, hyl, hm.2.2, fun o H' no eo so => q o H' no ?_ so⟩
          rw [eo]
          simp only [mvF]
          by_cases hxy : x ≤ y
          · have h2 : (inB (plV X (xs.length : Int)) xs.length && inB (plV Y (xs.length : Int)) xs.length && decide (plV X (xs.length : Int) ≤ plV Y (xs.length : Int))) = true := by
              rw [hx, hy, ex, ey, decide_eq_true (show (x : Int) ≤ y by omega)]
              rfl
            rw [if_pos h2, if_pos hxy, ex, ey]
            rfl
          · have h2 : ¬ (inB (plV X (xs.length : Int)) xs.length && inB (plV Y (xs.length : Int)) xs.length && decide (plV X (xs.length : Int) ≤ plV Y (xs.length : Int))) = true := by
              rw [hx, hy, ex, ey, decide_eq_false (show ¬ (x : Int) ≤ y by omega)]
              decide
            rw [if_neg h2, if_neg hxy]
/-! ### words -/
def wtext (ms : List Mv) : Str := Txt.join " " (wp ms)
structure WordOk (ms : List Mv) : Prop where
  ne : ms ≠ []
  l4 : ms.length ≤ 4
  ok : ∀ m ∈ ms, m.ok
  one : oneTurn ms
theorem wp_ok : ∀ {ms : List Mv}, (∀ m ∈ ms, m.ok) → ∀ z ∈ wp ms, PyData.strOk z = true ∧ z.length ≤ 100 ∧ 32 ∉ z.cps.toList
  | [], _, z, hz => by cases hz
  | [m], h, z, hz => Mv.str_ok (h m (List.mem_cons_self ..)) z hz
  | m :: n :: r, h, z, hz => by
    rcases List.mem_append.mp hz with hz | hz
    · exact Mv.str_ok (h m (List.mem_cons_self ..)) z hz
    · rcases List.mem_cons.mp hz with rfl | hz
      · exact ⟨by decide +kernel, by decide +kernel, by decide +kernel⟩
      · exact wp_ok (fun x hx => h x (List.mem_cons_of_mem _ hx)) z hz
theorem wp_ne {ms : List Mv} (h : ms ≠ []) : wp ms ≠ [] := by
  cases ms with
  | nil => exact absurd rfl h
  | cons m r =>
    cases r with
    | nil => cases m <;> simp [wp, Mv.parts]
    | cons n r => simp [wp]
theorem split_wtext {ms : List Mv} (h : WordOk ms) : Txt.split (wtext ms) " " = wp ms := by
  refine TL.split_join (s := 32) (S := []) (by decide +kernel) (by decide +kernel) (wp_ne h.ne) fun z hz => ?_
  exact (wp_ok h.ok z hz).2.2
def flW (ms : List Mv) (t : Addr) : List (Str × V) := putF "has_turn" (.bl (decide (Mv.turn ∈ ms))) (putF "moves" (.ref t) (putF "text" (.str (wtext ms)) []))
/-- a Word stands at p -/
def WordAt (C : Addr) (H : Hp) (p : Addr) (ms : List Mv) : Prop := ∃ dx t rs, H p = some (.ins C dx (flW ms t)) ∧ H t = some (.tup (rs.map V.ref)) ∧ Held H rs ms
theorem WordAt.same {C : Addr} {H H' : Hp} {p : Addr} {ms : List Mv} (h : WordAt C H p ms) (e : Same H H') : WordAt C H' p ms := by
  obtain ⟨dx, t, rs, h1, h2, h3⟩ := h
  exact ⟨dx, t, rs, e _ _ h1, e _ _ h2, h3.same e⟩
theorem kw1 : ¬ (("text" : Str) = "moves") := by decide +kernel
theorem kw2 : ¬ (("text" : Str) = "has_turn") := by decide +kernel
theorem kw3 : ¬ (("moves" : Str) = "has_turn") := by decide +kernel
theorem fl2 (v : V) (t : Addr) : putF "moves" (.ref t) (putF "text" v []) = [(("text" : Str), v), (("moves" : Str), V.ref t)] := by
  show (if ("text" : Str) = "moves" then _ else (("text" : Str), v) :: putF "moves" (.ref t) []) = _
  rw [if_neg kw1]
  rfl
theorem flW_text (ms : List Mv) (t : Addr) : (flW ms t).lookup ("text" : Str) = some (.str (wtext ms)) := by
  unfold flW
  rw [lookup_putF, if_neg kw2, lookup_putF, if_neg kw1, lookup_putF, if_pos rfl]
theorem flW_moves (ms : List Mv) (t : Addr) : (flW ms t).lookup ("moves" : Str) = some (.ref t) := by
  unfold flW
  rw [lookup_putF, if_neg kw3, lookup_putF, if_pos rfl]
theorem flW_turn (ms : List Mv) (t : Addr) : (flW ms t).lookup ("has_turn" : Str) = some (.bl (decide (Mv.turn ∈ ms))) := by
  unfold flW
  rw [lookup_putF, if_pos rfl]
def spWordInit (C : Addr) : Sp := fun vs H Q _ => ∃ (p dx : Addr) (ms : List Mv), vs = [.ref p, .str (wtext ms)] ∧ H p = some (.ins C dx []) ∧ WordOk ms ∧ (wtext ms).length ≤ 90000 ∧
  ∀ H', WordAt C H' p ms → (∀ b o, H b = some o → b ≠ p → H' b = some o) → Q .non H'
theorem ok_Word_init (T : Tx w K mg a) : FnOk P w K mg base CX0 6 a.f_Word_init a.d_Word_init ["self", "text"] (spWordInit a.C_Word) := by
  refine T.F_Word_init.ok sc_Word_init (fun vs H Q E h => ?_) (fun cdv A outer s H vs Q E hr h => ?_)
  · obtain ⟨p, dx, ms, rfl, _⟩ := h
    rfl
  · obtain ⟨p, dx, ms, rfl, hp, hok, htl, q⟩ := h
    refine ⟨_, 
(pss_cons (ps_set (i := 2) sc_Word_init.nd rfl (.inl rfl) (pe_split (pv 1) pe_str))
  (pss_cons (ps_asg (pe_call (ok_read_moves T) hr (by rfl) T.m_read_moves T.F_read_moves.kp T.b_read_moves .nil pass0 (pa_cons (pe_lst (StX.pa_star (pv 2) (pa_cons (pe_glob (v := .str "") (by rfl) T.m_NO_PART.choose_spec ⟨_, rfl⟩) pa_nil))) (pa_cons pe_int pa_nil))) (pg_tup rfl (pgs_cons (pg_name (i := 3) sc_Word_init.nd rfl (.inl rfl)) (pgs_cons (pg_name (i := 4) sc_Word_init.nd rfl (.inl rfl)) pgs_nil))))
  (pss_cons (ps_if (pt_cmpR op_lt (pv 4) (pe_callB call_len_seq (by rfl) T.z_len PySem.boot_len (pa_cons (pv 2) pa_nil)) (nomark _))
  (pss_one ps_never)
  pss_nil)
  (pss_cons (ps_fld (pv 0) (pv 1) rfl)
  (pss_cons (ps_fld (pv 0) (pv 3) rfl)
  (pss_one (ps_fld (pv 0) (pe_cmpR (op_inDT (room65 hr)) (pe_tup (pa_cons pe_str pa_nil)) (pv 3) (by rfl)) rfl))))))), ?_⟩
    -- parts = text.split(' ')
    refine ⟨.str (wtext ms), rfl, ⟨_, rfl⟩, wtext ms, " ", rfl, rfl, (by decide +kernel), sz (by omega), fun l nl => ?_⟩
    rw [split_wtext hok]
    have s1 := same_upd (o := .lst ((wp ms).map V.str)) nl
    have hl1 : (upd H l (.lst ((wp ms).map V.str))) l = some (.lst ((wp ms).map V.str)) := upd_same
    have hp1 := s1 _ _ hp
    generalize upd H l (.lst ((wp ms).map V.str)) = H1 at s1 hl1 hp1 ⊢
    have hwl := wp_len ms
    have h4 := hok.l4
    -- moves, end = read_moves([*parts, NO_PART], 0)
    refine ⟨.ref l, rfl, l, _, rfl, .inr (SqL.at hl1), sz (by simp; omega), fun l2 nl2 => ?_⟩
    have s2 := same_upd (o := .lst ((wp ms).map V.str ++ [.str ""])) nl2
    have hl2 : (upd H1 l2 (.lst ((wp ms).map V.str ++ [.str ""]))) l2 = some (.lst (strsV (wp ms ++ [sNo]))) := by
      rw [upd_same]
      unfold strsV
      rw [List.map_append]
      rfl
    generalize upd H1 l2 (.lst ((wp ms).map V.str ++ [.str ""])) = H2 at s2 hl2 ⊢
    refine ⟨l2, ms, rfl, hl2, hok.ne, hok.l4, hok.ok, hok.one, fun o t rs H3 no nt ho ht held s3 => ?_⟩
    refine ⟨o, [.ref t, .int ((wp ms).length : Int)], rfl, SqT.at ho, rfl, _, [.int ((wp ms).length : Int)], rfl, _, [], rfl, rfl, ?_⟩
    have s13 := s2.trans s3
    have hl3 := s13 _ _ hl1
    have hp3 := s13 _ _ hp1
    -- if end < len(parts)
    refine ⟨_, rfl, .ref l, rfl, l, _, rfl, .inl (SqL.at hl3), _, _, rfl, rfl, _, rfl, ?_⟩
    rw [List.length_map, decide_eq_false (show ¬ ((wp ms).length : Int) < ((wp ms).length : Int) by omega)]
    have npt : t ≠ p := ne_of ht hp3 (by intro z; cases z)
    -- self.text = text; self.moves = moves
    refine ⟨.str (wtext ms), rfl, .ref p, rfl, p, a.C_Word, dx, [], rfl, hp3, T.cl_Word, T.n_Word_text, (show 0 < 1000 by decide), ?_⟩
    refine ⟨.ref t, rfl, .ref p, rfl, p, a.C_Word, dx, _, rfl, upd_same, T.cl_Word, T.n_Word_moves, (show 1 < 1000 by decide), ?_⟩
    rw [upd_upd]
    -- self.has_turn = ('turn',) in moves
    have ht4 : (upd H3 p (.ins a.C_Word dx (putF "moves" (.ref t) (putF "text" (.str (wtext ms)) [])))) t = some (.tup (rs.map V.ref)) := by
      rw [upd_ne npt]
      exact ht
    have held4 : ∀ {o : HO}, Held (upd H3 p o) rs ms := fun {o} => Held.off hp3 held
    have hp4 : (upd H3 p (.ins a.C_Word dx (putF "moves" (.ref t) (putF "text" (.str (wtext ms)) [])))) p = _ := upd_same
    have h4s := held4 (o := .ins a.C_Word dx (putF "moves" (.ref t) (putF "text" (.str (wtext ms)) [])))
    refine ⟨sz (show 1 ≤ 100000 by decide), fun t0 nt0 => ?_⟩
    have s5 := same_upd (o := .tup [V.str "turn"]) nt0
    refine ⟨.ref t, rfl, mvD .turn, ms.map mvD, .tup (SqT.at upd_same) (dp_strs ["turn"]), .tup (SqT.at (s5 _ _ ht4)) (dp_mvs (h4s.same s5)), shaped_strs (by decide +kernel), (shaped_mvs hok.ok).1, ?_⟩
    rw [any_mv]
    refine ⟨.ref p, rfl, p, a.C_Word, dx, _, rfl, s5 _ _ hp4, T.cl_Word, T.n_Word_has_turn, by rw [fl2]; show 2 < 1000; decide, ?_⟩
    have nt0p : t0 ≠ p := (ne_of_none hp4 nt0).symm
    have s03 := s1.trans s13
    refine q _ ⟨dx, t, rs, upd_same, ?_, ?_⟩ fun b u hb nb => ?_
    · rw [upd_ne npt]
      exact s5 _ _ ht4
    · exact Held.off (s5 _ _ hp4) (h4s.same s5)
    · rw [upd_ne nb]
      refine s5 _ _ ?_
      rw [upd_ne nb]
      exact s03 _ _ hb
def allF (ms : List Mv) (xs : List Int) : List Int := ms.foldl (fun ys m => mvF m ys) xs
theorem allF_len : ∀ (ms : List Mv) (xs : List Int), (allF ms xs).length = xs.length
  | [], _ => rfl
  | m :: r, xs => by
    show (allF r (mvF m xs)).length = _
    rw [allF_len r, mv_len]
theorem Held.get {H : Hp} : ∀ {rs : List Addr} {ms : List Mv}, Held H rs ms → ∀ {i : Nat} {m : Mv}, ms[i]? = some m → ∃ r, rs[i]? = some r ∧ H r = some (.tup (strsV m.parts))
  | [], [], _, i, m, h => by simp at h
  | r :: rs, n :: ms, hh, 0, m, h => by
    cases h
    exact ⟨r, rfl, hh.1⟩
  | r :: rs, n :: ms, hh, i + 1, m, h => by
    obtain ⟨x, hx, hy⟩ := Held.get hh.2 (i := i) (m := m) (by simpa using h)
    exact ⟨x, by simpa using hx, hy⟩
def spWordAt (C : Addr) : Sp := fun vs H Q _ => ∃ (p : Addr) (ms : List Mv) (n : Nat), vs = [.ref p, .int (n : Int)] ∧ WordAt C H p ms ∧ (∀ m ∈ ms, m.ok) ∧ 1 ≤ n ∧ n ≤ 1000 ∧
  ∀ o H', H o = none → H' o = some (.lst ((allF ms (ri n)).map V.int)) → Same H H' → Q (.ref o) H'
theorem ok_Word_at (T : Tx w K mg a) : FnOk P w K mg base CX0 4 a.f_Word_at a.d_Word_at ["self", "k"] (spWordAt a.C_Word) := by
  refine T.F_Word_at.ok sc_Word_at (fun vs H Q E h => ?_) (fun cdv A outer s H vs Q E hr h => ?_)
  · obtain ⟨p, ms, n, rfl, _⟩ := h
    rfl
  · obtain ⟨p, ms, n, rfl, ⟨dx, t, rs, hp, ht, held⟩, hok, h1, h2, q⟩ := h
    refine ⟨_, 
(pss_cons (ps_if (pt_not (pt_val (pe_call (ok_is_between T) (hr.mono (by decide)) (by rfl) T.m_is_between T.F_is_between.kp T.b_is_between .nil pass0 (pa_cons (pv 1) (pa_cons pe_int (pa_cons (pe_glob (v := .int 1000) (by rfl) T.m_MOST_PLACES.choose_spec ⟨_, rfl⟩) pa_nil))))))
  (pss_one ps_never)
  pss_nil)
  (pss_cons (ps_set (i := 2) sc_Word_at.nd rfl (.inl rfl) (pe_listRg rfl (by rfl) T.z_list (prg_1 (by rfl) T.z_range (pv 1))))
  (pss_cons (ps_for PassesOwn.never rfl (pi_tup (pe_fld (pv 0) rfl)) (pg_name (i := 3) sc_Word_at.nd rfl (.inl rfl))
  (pss_one (ps_set (i := 2) sc_Word_at.nd rfl (.inl rfl) (pe_call (ok_moved T) hr (by rfl) T.m_moved T.F_moved.kp T.b_moved .nil pass0 (pa_cons (pv 2) (pa_cons (pv 3) pa_nil))))))
  (pss_one (ps_ret (pv 2)))))), ?_⟩
    -- if not is_between(k, 1, MOST_PLACES)
    refine ⟨_, rfl, .int n, true, 1, 1000, rfl, .int _, _, rfl, ?_⟩
    have e : btM 1 1000 (.int (n : Int)) = true := by
      simp only [btM, Bool.and_eq_true, decide_eq_true_eq]
      omega
    rw [e]
    -- row = list(range(k))
    refine ⟨_, rfl, _, rfl, RgOk.of_le (by decide) (by omega) (by decide) (by omega), fun o no => ?_⟩
    rw [rgV_ri]
    have s1 := same_upd (o := .lst ((ri n).map V.int)) no
    have ho1 : (upd H o (.lst ((ri n).map V.int))) o = some (.lst ((ri n).map V.int)) := upd_same
    generalize upd H o (.lst ((ri n).map V.int)) = H1 at s1 ho1 ⊢
    -- for move in self.moves
    refine ⟨.ref p, rfl, p, a.C_Word, dx, _, _, rfl, s1 _ _ hp, T.cl_Word, T.n_Word_moves, flW_moves ms t, t, rfl, ⟨_, SqT.at (s1 _ _ ht)⟩, ?_⟩
    have hrl : (rs.map V.ref).length = ms.length := by rw [List.length_map, held.len]
    refine for_it (walk_tup (xs := rs.map V.ref)) (fun i σ H3 => ∃ r y3, σ = [some (.ref p), some (.int n), some (.ref r), y3] ∧ Same H H3 ∧ H r = none ∧ H3 r = some (.lst ((allF (ms.take i) (ri n)).map V.int))) ?h0 ?hG ?hs ?hd
    case h0 => exact ⟨o, none, rfl, s1, no, ho1⟩
    case hG =>
      rintro i σ H3 hi ⟨r, y3, rfl, s3, _, _⟩
      exact SqT.at (s3 _ _ ht)
    case hd =>
      rintro σ H3 ⟨r, y3, rfl, s3, nr, hr3⟩
      rw [hrl, List.take_length] at hr3
      exact ⟨_, rfl, q r H3 nr hr3 s3⟩
    case hs =>
      rintro i v σ H3 H4 hi ⟨r, y3, rfl, s3, nr, hr3⟩ ⟨rfl, ev⟩
      rw [hrl] at hi
      obtain ⟨x, hx, hxt⟩ := held.get (List.getElem?_eq_getElem hi)
      rw [List.getElem?_map, hx] at ev
      cases ev
      refine ⟨.ref r, rfl, .ref x, rfl, r, x, _, ms[i], rfl, SqL.at hr3, SqT.at (s3 _ _ hxt), hok _ (List.getElem_mem hi), by rw [allF_len, ri_len]; omega, fun o2 H5 no2 eo2 s5 => ?_⟩
      refine ⟨o2, _, rfl, s3.trans s5, s3.free no2, ?_⟩
      rw [eo2, List.take_add_one, List.getElem?_eq_getElem hi]
      show some (HO.lst ((mvF ms[i] (allF (ms.take i) (ri n))).map V.int)) = some (HO.lst ((allF (ms.take i ++ [ms[i]]) (ri n)).map V.int))
      unfold allF
      rw [List.foldl_append]
      rfl
end

theorem roF_same (xs : List Int) (x : Nat) (c : Int) (h : x < xs.length) : roF xs x x c = xs := by
  have bl := blk_len xs x x (Nat.le_refl x) h
  unfold roF
  have e1 : x + 1 - x = 1 := by omega
  rw [e1] at bl
  simp only [e1, bl]
  have e2 : Int.fmod c ((1 : Nat) : Int) = 0 := Int.fmod_one c
  rw [e2]
  have e3 : (((1 : Nat) : Int) - 0).toNat = 1 := by decide
  rw [e3]
  have e5 : ((xs.drop x).take 1).drop 1 = [] := List.drop_of_length_le (by rw [bl]; exact Nat.le_refl _)
  have e6 : ((xs.drop x).take 1).take 1 = (xs.drop x).take 1 := List.take_of_length_le (by rw [bl]; exact Nat.le_refl _)
  rw [e5, e6, List.append_nil, List.append_assoc]
  have e4 : (xs.drop x).take 1 ++ xs.drop (x + 1) = xs.drop x := by
    rw [← List.drop_drop]
    exact List.take_append_drop 1 (xs.drop x)
  rw [e4]
  exact List.take_append_drop x xs
section
variable {P : Program} {w : World} {K : PySem.W.Frag} {mg : Str → Option Value} {base : Heap} {a : Ad}
def laM (k : Int) : Str := if 17 < k then "half" else if k < 9 then toString (k + 1) else Str.append "-" (toString (k - 8))
theorem la_am : ∀ k : Fin 20, laM ((k.val : Nat) : Int) ∈ am := by decide +kernel
def spLawAmount : Sp := fun vs H Q _ => ∃ (d c : Addr) (n : Nat), vs = [.ref d] ∧ Pen H d c n ∧ n < 2 ^ 40 ∧ ∀ z H', z ∈ am → Pen H' d c (n + 1) → But d H H' → Q (.str z) H'
theorem ok__law_amount (T : Tx w K mg a) : FnOk P w K mg base CX0 2 a.f__law_amount a.d__law_amount ["pen"] spLawAmount := by
  refine T.F__law_amount.ok sc__law_amount (fun vs H Q E h => ?_) (fun cdv A outer s H vs Q E hr h => ?_)
  · obtain ⟨d, c, n, rfl, _⟩ := h
    rfl
  · obtain ⟨d, c, n, rfl, hp, hn, q⟩ := h
    refine ⟨_, 
(pss_cons (ps_set (i := 1) sc__law_amount.nd rfl (.inl rfl) (pe_call (ok__law_draw T) hr (by rfl) T.m__law_draw T.F__law_draw.kp T.b__law_draw .nil pass0 (pa_cons (pv 0) (pa_cons pe_int pa_nil))))
  (pss_one (ps_ret (pe_ifExp (pt_cmpR op_gt (pv 1) pe_int (nomark _)) pe_str (pe_ifExp (pt_cmpR op_lt (pv 1) pe_int (nomark _)) (pe_callTy call_str_int (by rfl) T.z_str (by decide +kernel) (pa_cons (pe_op op_add (pv 1) pe_int) pa_nil)) (pe_op op_add_str pe_str (pe_callTy call_str_int (by rfl) T.z_str (by decide +kernel) (pa_cons (pe_op op_sub (pv 1) pe_int) pa_nil)))))))), ?_⟩
    refine ⟨.ref d, rfl, d, c, n, 20, rfl, hp, hn, by decide, by decide, fun k H1 k0 k1 hp1 hb => ?_⟩
    have hw : laM k ∈ am := by
      have e := la_am ⟨k.toNat, by omega⟩
      have e2 : ((k.toNat : Nat) : Int) = k := by omega
      rw [show (((⟨k.toNat, by omega⟩ : Fin 20).val : Nat) : Int) = k from e2] at e
      exact e
    have hq := q _ H1 hw hp1 hb
    unfold laM at hq
    refine ⟨.int k, rfl, k, 17, rfl, rfl, _, rfl, ite2 (fun e1 => ?_) (fun e1 => ?_)⟩
    · rw [if_pos (of_decide_eq_true e1)] at hq
      exact hq
    have e1' : ¬ 17 < k := fun z => e1 (decide_eq_true z)
    rw [if_neg e1'] at hq
    refine ⟨.int k, rfl, k, 9, rfl, rfl, _, rfl, ite2 (fun e2 => ?_) (fun e2 => ?_)⟩
    · rw [if_pos (of_decide_eq_true e2)] at hq
      exact ⟨.int k, rfl, k, 1, rfl, rfl, k + 1, rfl, lg _ (by omega) (by omega), hq⟩
    have e2' : ¬ k < 9 := fun z => e2 (decide_eq_true z)
    rw [if_neg e2'] at hq
    exact ⟨.int k, rfl, k, 8, rfl, rfl, k - 8, rfl, lg _ (by omega) (by omega), _, _, rfl, rfl, sz (ln _ _ (by decide) (by omega) (by omega)), hq⟩
def spLawMove : Sp := fun vs H Q _ => ∃ (d c : Addr) (n : Nat) (b : Bool), vs = [.ref d, .bl b] ∧ Pen H d c n ∧ n + 20 < 2 ^ 40 ∧
  ∀ o m H', m.ok → (b = true → m ≠ Mv.turn) → H o = none → H' o = some (.lst (strsV m.parts)) → Pen H' d c (n + 20) → But d H H' → Q (.ref o) H'
theorem pick3 {z : V} {x y u : Str} (h : z ∈ [V.str x, V.str y, V.str u]) (hx : x ∈ wt) (hy : y ∈ wt) (hu : u ∈ wt) : ∃ s, z = .str s ∧ s ∈ wt := by
  simp only [List.mem_cons, List.not_mem_nil, or_false] at h
  rcases h with rfl | rfl | rfl
  · exact ⟨_, rfl, hx⟩
  · exact ⟨_, rfl, hy⟩
  · exact ⟨_, rfl, hu⟩
theorem ok__law_move (T : Tx w K mg a) : FnOk P w K mg base CX0 3 a.f__law_move a.d__law_move ["pen", "has_turn"] spLawMove := by
  refine T.F__law_move.ok sc__law_move (fun vs H Q E h => ?_) (fun cdv A outer s H vs Q E hr h => ?_)
  · obtain ⟨d, c, n, b, rfl, _⟩ := h
    rfl
  · obtain ⟨d, c, n, b, rfl, hp, hn, q⟩ := h
    refine ⟨_, 
(C8.pss_cut (ps_set (i := 2) sc__law_move.nd rfl (.inl rfl) (pe_call (ok__law_draw T) (hr.mono (by decide)) (by rfl) T.m__law_draw T.F__law_draw.kp T.b__law_draw .nil pass0 (pa_cons (pv 0) (pa_cons (pe_ifExp (pt_val (pv 1)) pe_int pe_int) pa_nil))))
  (pss_cons (ps_if (pt_cmpR op_eq (pv 2) pe_int (nomark _))
  (pss_one (ps_ret (pe_lst (pa_cons pe_str pa_nil))))
  pss_nil)
  (pss_cons (ps_par (i := 3) (j := 4) (by rfl) sc__law_move.nd rfl rfl (by decide) rfl rfl (pa_cons (pe_call (ok__law_place_word T) hr (by rfl) T.m__law_place_word T.F__law_place_word.kp T.b__law_place_word .nil pass0 (pa_cons (pv 0) pa_nil)) (pa_cons (pe_call (ok__law_place_word T) hr (by rfl) T.m__law_place_word T.F__law_place_word.kp T.b__law_place_word .nil pass0 (pa_cons (pv 0) pa_nil)) pa_nil)) (by rfl))
  (C8.pss_cut (ps_if (pt_cmpR op_eq (pe_call (ok__law_draw T) (hr.mono (by decide)) (by rfl) T.m__law_draw T.F__law_draw.kp T.b__law_draw .nil pass0 (pa_cons (pv 0) (pa_cons pe_int pa_nil))) pe_int (nomark _))
  (pss_one (ps_par (i := 3) (j := 4) (by rfl) sc__law_move.nd rfl rfl (by decide) rfl rfl (pa_cons (pe_call (ok__law_pick T) hr (by rfl) T.m__law_pick T.F__law_pick.kp T.b__law_pick .nil pass0 (pa_cons (pv 0) (pa_cons (pe_lst (pa_cons pe_str (pa_cons pe_str (pa_cons pe_str pa_nil)))) pa_nil))) (pa_cons (pe_call (ok__law_pick T) hr (by rfl) T.m__law_pick T.F__law_pick.kp T.b__law_pick .nil pass0 (pa_cons (pv 0) (pa_cons (pe_lst (pa_cons pe_str (pa_cons pe_str (pa_cons pe_str pa_nil)))) pa_nil))) pa_nil)) (by rfl)))
  pss_nil)
  (pss_one (ps_ret (pe_ifExp (pt_cmpR op_lt (pv 2) pe_int (nomark _)) (pe_lst (pa_cons pe_str (pa_cons (pv 3) (pa_cons (pv 4) pa_nil)))) (pe_lst (pa_cons pe_str (pa_cons (pv 3) (pa_cons (pv 4) (pa_cons (pe_call (ok__law_amount T) hr (by rfl) T.m__law_amount T.F__law_amount.kp T.b__law_amount .nil pass0 (pa_cons (pv 0) pa_nil)) pa_nil)))))))))))), ?_⟩
    -- way = _law_draw(pen, 7 if has_turn else 8)
    refine ⟨fun σ' H' => ∃ way : Int, 0 ≤ way ∧ way ≤ 7 ∧ (b = true → way < 7) ∧ σ' = [some (.ref d), some (.bl b), some (.int way), none, none] ∧ Pen H' d c (n + 1) ∧ But d H H', ⟨.ref d, rfl, .bl b, rfl, _, rfl, ?_⟩, ?_⟩
    · cases b with
      | true => exact ⟨d, c, n, 7, rfl, hp, by omega, by decide, by decide, fun v H1 v0 v1 hp1 hb1 => ⟨v, v0, by omega, fun _ => v1, rfl, hp1, hb1⟩⟩
      | false => exact ⟨d, c, n, 8, rfl, hp, by omega, by decide, by decide, fun v H1 v0 v1 hp1 hb1 => ⟨v, v0, by omega, (fun e => by cases e), rfl, hp1, hb1⟩⟩
    rintro σ' H1 ⟨way, w0, w7, wb, rfl, hp1, hb1⟩
    -- if way == 7: return ['turn']
    refine ⟨.int way, rfl, rfl, _, rfl, ite2 (fun e => ?_) (fun e => ?_)⟩
    · have ew : way = 7 := V.int.inj (of_decide_eq_true e)
      refine ⟨Nat.succ_le_of_lt (by decide), fun o no => ?_⟩
      obtain ⟨kvs, hd1⟩ := hp1.dict
      refine q o .turn _ trivial (fun hb => by have := wb hb; omega) ?_ upd_same ((hp1.same (same_upd no)).up (by omega)) (hb1.trans (but_same (same_upd no)))
      cases hH : H o with
      | none => rfl
      | some u =>
        by_cases hod : o = d
        · subst hod
          rw [hd1] at no
          cases no
        · rw [hb1 o u hH hod] at no
          cases no
    -- x, y = two place words
    refine ⟨.ref d, rfl, d, c, _, rfl, hp1, by omega, fun x H2 wx hp2 hb2 => ⟨.ref d, rfl, d, c, _, rfl, hp2, by omega, fun y H3 wy hp3 hb3 => ⟨.str x, .str y, rfl, ?_⟩⟩⟩
    have hb13 := hb1.trans (hb2.trans hb3)
    -- if _law_draw(pen, 3) == 0: others
    refine ⟨fun σ' H' => ∃ x y : Str, x ∈ wt ∧ y ∈ wt ∧ σ' = [some (.ref d), some (.bl b), some (.int way), some (.str x), some (.str y)] ∧ Pen H' d c (n + 10) ∧ But d H H', ?_, ?_⟩
    · refine ⟨.ref d, rfl, d, c, _, 3, rfl, hp3, by omega, by decide, by decide, fun v H4 v0 v1 hp4 hb4 => ⟨rfl, _, rfl, ite2 (fun _ => ?_) (fun _ => ⟨x, y, wx, wy, rfl, hp4.up (by omega), hb13.trans hb4⟩)⟩⟩
      refine ⟨.ref d, rfl, sz (show 3 ≤ 100000 by decide), fun p1 np1 => ?_⟩
      refine ⟨d, c, p1, _, [.str "0", .str "1", .str "2"], rfl, hp4.same (same_upd np1), by omega, SqL.at upd_same, (show 0 < 3 by decide), (show 3 ≤ 100000 by decide), fun z1 H5 hz1 hp5 hb5 => ?_⟩
      obtain ⟨x', rfl, wx'⟩ := pick3 hz1 (by decide +kernel) (by decide +kernel) (by decide +kernel)
      refine ⟨.ref d, rfl, sz (show 3 ≤ 100000 by decide), fun p2 np2 => ?_⟩
      refine ⟨d, c, p2, _, [.str "-1", .str "-2", .str "half"], rfl, hp5.same (same_upd np2), by omega, SqL.at upd_same, (show 0 < 3 by decide), (show 3 ≤ 100000 by decide), fun z2 H6 hz2 hp6 hb6 => ?_⟩
      obtain ⟨y', rfl, wy'⟩ := pick3 hz2 (by decide +kernel) (by decide +kernel) (by decide +kernel)
      exact ⟨.str x', .str y', rfl, x', y', wx', wy', rfl, hp6.up (by omega), hb13.trans (hb4.trans ((but_same (same_upd np1)).trans (hb5.trans ((but_same (same_upd np2)).trans hb6))))⟩
    rintro σ' H4 ⟨x, y, wx, wy, rfl, hp4, hb4⟩
    have new : ∀ {H' : Hp} {o : Addr}, Pen H' d c (n + 11) ∨ Pen H' d c (n + 10) → But d H H' → H' o = none → H o = none := by
      intro H' o hpen hb' no
      have hd' : ∃ kvs, H' d = some (.dK kvs) := hpen.elim (fun h => h.dict) (fun h => h.dict)
      obtain ⟨kvs, hd'⟩ := hd'
      cases hH : H o with
      | none => rfl
      | some u =>
        by_cases hod : o = d
        · subst hod
          rw [hd'] at no
          cases no
        · rw [hb' o u hH hod] at no
          cases no
    refine ⟨.int way, rfl, way, 3, rfl, rfl, _, rfl, ite2 (fun _ => ?_) (fun _ => ?_)⟩
    · refine ⟨.str x, rfl, .str y, rfl, sz (show 3 ≤ 100000 by decide), fun o no => ?_⟩
      exact q o (.exch x y) _ ⟨wx, wy⟩ (fun _ e => by cases e) (new (.inr hp4) hb4 no) upd_same ((hp4.same (same_upd no)).up (by omega)) (hb4.trans (but_same (same_upd no)))
    · refine ⟨.str x, rfl, .str y, rfl, .ref d, rfl, d, c, _, rfl, hp4, by omega, fun z H5 hz hp5 hb5 => ⟨sz (show 4 ≤ 100000 by decide), fun o no => ?_⟩⟩
      exact q o (.roll x y z) _ ⟨wx, wy, hz⟩ (fun _ e => by cases e) (new (.inl hp5) (hb4.trans hb5) no) upd_same ((hp5.same (same_upd no)).up (by omega)) ((hb4.trans hb5).trans (but_same (same_upd no)))
def spLawMoved (K : PySem.W.Frag) : Sp := fun vs H Q _ => ∃ (p t : Addr) (xs : List Int) (m : Mv), vs = [.ref p, .ref t] ∧ SqL K H p (xs.map V.int) ∧ SqL K H t (strsV m.parts) ∧ m.ok ∧ xs.length ≤ 100000 ∧
  ∀ o H', H o = none → H' o = some (.lst ((mvF m xs).map V.int)) → Same H H' → Q (.ref o) H'
theorem ok__law_moved (T : Tx w K mg a) : FnOk P w K mg base CX0 2 a.f__law_moved a.d__law_moved ["row", "move"] (spLawMoved K) := by
  refine T.F__law_moved.ok sc__law_moved (fun vs H Q E h => ?_) (fun cdv A outer s H vs Q E hr h => ?_)
  · obtain ⟨p, t, xs, m, rfl, _⟩ := h
    rfl
  · obtain ⟨p, t, xs, m, rfl, hp, ht, hm, hl, q⟩ := h
    refine ⟨_, 
(pss_cons (ps_set (i := 2) sc__law_moved.nd rfl (.inl rfl) (pe_callB call_len_seq (by rfl) T.z_len PySem.boot_len (pa_cons (pv 0) pa_nil)))
  (pss_cons (ps_if (pt_cmpR op_eq (pe_ix ix_list (pv 1) pe_int (fun _ _ => rfl)) pe_str (nomark _))
  (pss_one (ps_ret (pe_revL (pv 0))))
  pss_nil)
  (pss_cons (ps_par (i := 3) (j := 4) (by rfl) sc__law_moved.nd rfl rfl (by decide) rfl rfl (pa_cons (pe_call (ok__law_value T) hr (by rfl) T.m__law_value T.F__law_value.kp T.b__law_value .nil pass0 (pa_cons (pe_ix ix_list (pv 1) pe_int (fun _ _ => rfl)) (pa_cons (pv 2) pa_nil))) (pa_cons (pe_call (ok__law_value T) hr (by rfl) T.m__law_value T.F__law_value.kp T.b__law_value .nil pass0 (pa_cons (pe_ix ix_list (pv 1) pe_int (fun _ _ => rfl)) (pa_cons (pv 2) pa_nil))) pa_nil)) (by rfl))
  (pss_cons (ps_if (PW.pt (pw_or (pt_cmpR op_lt (pv 3) pe_int (nomark _)) (pw_or (pt_cmpR op_lt (pv 4) pe_int (nomark _)) (pw_or (pt_cmpR op_ge (pv 3) (pv 2) (nomark _)) (pw_or1 (pt_cmpR op_ge (pv 4) (pv 2) (nomark _)))))))
  (pss_one (ps_ret (pe_callTy call_list_of (by rfl) T.z_list (by decide +kernel) (pa_cons (pv 0) pa_nil))))
  pss_nil)
  (pss_cons (ps_if (pt_cmpR op_eq (pe_ix ix_list (pv 1) pe_int (fun _ _ => rfl)) pe_str (nomark _))
  (pss_cons (ps_set (i := 5) sc__law_moved.nd rfl (.inl rfl) (pe_callTy call_list_of (by rfl) T.z_list (by decide +kernel) (pa_cons (pv 0) pa_nil)))
  (pss_cons (ps_asg (pe_tup (pa_cons (pe_ix ix_list (pv 0) (pv 4) (fun _ _ => rfl)) (pa_cons (pe_ix ix_list (pv 0) (pv 3) (fun _ _ => rfl)) pa_nil))) (pg_tup rfl (pgs_cons (pg_sub (pv 5) (pv 3) set_list) (pgs_cons (pg_sub (pv 5) (pv 4) set_list) pgs_nil))))
  (pss_one (ps_ret (pv 5)))))
  pss_nil)
  (pss_cons (ps_if (pt_cmpR op_ge (pv 3) (pv 4) (nomark _))
  (pss_one (ps_ret (pe_callTy call_list_of (by rfl) T.z_list (by decide +kernel) (pa_cons (pv 0) pa_nil))))
  pss_nil)
  (pss_cons (ps_set (i := 6) sc__law_moved.nd rfl (.inl rfl) (pe_slice sl_list (pv 0) (po_some (pv 3)) (po_some (pe_op op_add (pv 4) pe_int))))
  (C8.pss_cut (ps_set (i := 7) sc__law_moved.nd rfl (.inl rfl) (pe_ifExp (pt_cmpR op_eq (pe_ix ix_list (pv 1) pe_int (fun _ _ => rfl)) pe_str (nomark _)) (pe_op op_fdivN (pe_callB call_len_seq (by rfl) T.z_len PySem.boot_len (pa_cons (pv 6) pa_nil)) pe_int) (pe_callTy call_int_str (by rfl) T.z_int (by decide +kernel) (pa_cons (pe_ix ix_list (pv 1) pe_int (fun _ _ => rfl)) pa_nil))))
  (pss_cons (ps_set (i := 8) sc__law_moved.nd rfl (.inl rfl) (pe_op op_sub (pe_callB call_len_seq (by rfl) T.z_len PySem.boot_len (pa_cons (pv 6) pa_nil)) (pe_op op_modN (pe_callTy call_int1 (by rfl) T.z_int (by decide +kernel) (pa_cons (pv 7) pa_nil)) (pe_callB call_len_seq (by rfl) T.z_len PySem.boot_len (pa_cons (pv 6) pa_nil)))))
  (pss_one (ps_ret (pe_op op_cat (pe_op op_cat (pe_op op_cat (pe_slice sl_list (pv 0) po_none (po_some (pv 3))) (pe_slice sl_list (pv 6) (po_some (pv 8)) po_none)) (pe_slice sl_list (pv 6) po_none (po_some (pv 8)))) (pe_slice sl_list (pv 0) (po_some (pe_op op_add (pv 4) pe_int)) po_none))))))))))))), ?_⟩
    have el : (xs.map V.int).length = xs.length := List.length_map ..
    -- k = len(row)
    refine ⟨.ref p, rfl, p, _, rfl, .inl hp, ?_⟩
    rw [el]
    refine ⟨.ref t, rfl, t, _, 0, _, rfl, rfl, ht, head_at, rfl, _, rfl, ?_⟩
    by_cases htu : m = .turn
    · subst htu
      rw [show decide (V.str (Mv.head .turn) = V.str "turn") = true from by decide +kernel]
      refine ⟨.ref p, rfl, p, _, rfl, hp, fun o no => q o _ no ?_ (same_upd no)⟩
      rw [upd_same, ← List.map_reverse]
      rfl
    have hh : decide (V.str m.head = V.str "turn") = false := by
      cases m with
      | turn => exact absurd rfl htu
      | exch x y => exact (by decide +kernel : decide (V.str "exchange" = V.str "turn") = false)
      | roll x y c => exact (by decide +kernel : decide (V.str "roll" = V.str "turn") = false)
    rw [hh]
    obtain ⟨X, Y, hX, hY, wX, wY, hmv⟩ : ∃ X Y, m.parts[1]? = some X ∧ m.parts[2]? = some Y ∧ X ∈ wt ∧ Y ∈ wt ∧ (∀ xs, (inB (plV X (xs.length : Int)) xs.length && inB (plV Y (xs.length : Int)) xs.length) = false → mvF m xs = xs) := by
      cases m with
      | turn => exact absurd rfl htu
      | exch x y =>
        refine ⟨x, y, rfl, rfl, hm.1, hm.2, fun xs h => ?_⟩
        simp only [mvF, h]
        rfl
      | roll x y c =>
        refine ⟨x, y, rfl, rfl, hm.1, hm.2.1, fun xs h => ?_⟩
        simp only [mvF, h, Bool.false_and]
        rfl
    -- x, y = (_law_value(move[1], k), _law_value(move[2], k))
    refine ⟨.ref t, rfl, t, _, 1, _, rfl, rfl, ht, strs_get (i := 1) hX, _, rfl, X, _, rfl, wX, .ref t, rfl, t, _, 2, _, rfl, rfl, ht, strs_get (i := 2) hY, _, rfl, Y, _, rfl, wY, _, _, rfl, ?_⟩
    -- if x < 0 or y < 0 or x >= k or (y >= k)
    have out : ∀ D : Prop, (∀ o, H o = none → Q (.ref o) (upd H o (.lst (xs.map V.int)))) → D → D := fun _ _ h => h
    have copy : (inB (plV X (xs.length : Int)) xs.length && inB (plV Y (xs.length : Int)) xs.length) = false → ∀ o, H o = none → Q (.ref o) (upd H o (.lst (xs.map V.int))) := fun h o no => by
      refine q o _ no ?_ (same_upd no)
      rw [upd_same, hmv xs h]
    have ib : ∀ {u v : Int}, ¬ (0 ≤ u ∧ u < (xs.length : Int) ∧ 0 ≤ v ∧ v < (xs.length : Int)) → (inB u xs.length && inB v xs.length) = false := by
      intro u v h
      cases e : (inB u xs.length && inB v xs.length) with
      | false => rfl
      | true =>
        simp only [inB, Bool.and_eq_true, decide_eq_true_eq] at e
        exact absurd ⟨e.1.1, e.1.2, e.2.1, e.2.2⟩ h
    refine ⟨_, rfl, _, 0, rfl, rfl, _, rfl, ite2 (fun e1 => ?_) (fun e1 => ?_)⟩
    · have z1 := of_decide_eq_true e1
      exact ⟨.ref p, rfl, p, _, rfl, .inl hp, copy (ib (by omega))⟩
    have z1 : 0 ≤ plV X (xs.length : Int) := by
      have : ¬ plV X (xs.length : Int) < 0 := fun z => e1 (decide_eq_true z)
      omega
    refine ⟨_, rfl, _, 0, rfl, rfl, _, rfl, ite2 (fun e2 => ?_) (fun e2 => ?_)⟩
    · have z2 := of_decide_eq_true e2
      exact ⟨.ref p, rfl, p, _, rfl, .inl hp, copy (ib (by omega))⟩
    have z2 : 0 ≤ plV Y (xs.length : Int) := by
      have : ¬ plV Y (xs.length : Int) < 0 := fun z => e2 (decide_eq_true z)
      omega
    refine ⟨_, rfl, _, rfl, _, _, rfl, rfl, _, rfl, ite2 (fun e3 => ?_) (fun e3 => ?_)⟩
    · have z3 := of_decide_eq_true e3
      exact ⟨.ref p, rfl, p, _, rfl, .inl hp, copy (ib (by omega))⟩
    have z3 : plV X (xs.length : Int) < (xs.length : Int) := by
      have : ¬ (xs.length : Int) ≤ plV X (xs.length : Int) := fun z => e3 (decide_eq_true z)
      omega
    refine ⟨_, rfl, _, rfl, _, _, rfl, rfl, _, rfl, ite2 (fun e4 => ?_) (fun e4 => ?_)⟩
    · have z4 := of_decide_eq_true e4
      exact ⟨.ref p, rfl, p, _, rfl, .inl hp, copy (ib (by omega))⟩
    have z4 : plV Y (xs.length : Int) < (xs.length : Int) := by
      have : ¬ (xs.length : Int) ≤ plV Y (xs.length : Int) := fun z => e4 (decide_eq_true z)
      omega
    obtain ⟨x, ex⟩ : ∃ x : Nat, plV X (xs.length : Int) = (x : Int) := ⟨(plV X (xs.length : Int)).toNat, by omega⟩
    obtain ⟨y, ey⟩ : ∃ y : Nat, plV Y (xs.length : Int) = (y : Int) := ⟨(plV Y (xs.length : Int)).toNat, by omega⟩
    have hx : inB (plV X (xs.length : Int)) xs.length = true := by
      simp only [inB, Bool.and_eq_true, decide_eq_true_eq]
      exact ⟨z1, z3⟩
    have hy : inB (plV Y (xs.length : Int)) xs.length = true := by
      simp only [inB, Bool.and_eq_true, decide_eq_true_eq]
      exact ⟨z2, z4⟩
    have hxl : x < xs.length := by omega
    have hyl : y < xs.length := by omega
    have at_ : ∀ {i : Nat}, i < xs.length → atI (xs.map V.int) (i : Int) = some (.int (xs.getD i 0)) := fun {i} hi => by
      refine atI_nat ?_
      rw [List.getElem?_map, List.getElem?_eq_getElem hi, getD_get hi]
      rfl
    rw [ex, ey]
    refine ⟨.ref t, rfl, t, _, 0, _, rfl, rfl, ht, head_at, rfl, _, rfl, ?_⟩
    cases m with
    | turn => exact absurd rfl htu
    | exch X' Y' =>
      cases hX
      cases hY
      rw [show decide (V.str (Mv.head (.exch X Y)) = V.str "exchange") = true from by rfl]
      have emv : mvF (.exch X Y) xs = exF xs x y := by
        have h2 : (inB (plV X (xs.length : Int)) xs.length && inB (plV Y (xs.length : Int)) xs.length) = true := by
          rw [hx, hy]
          rfl
        simp only [mvF]
        rw [if_pos h2, ex, ey]
        rfl
      rw [emv] at q
      refine ⟨.ref p, rfl, p, _, rfl, .inl hp, fun o no => ?_⟩
      have s1 := same_upd (o := .lst (xs.map V.int)) no
      refine ⟨.ref p, rfl, _, rfl, p, _, _, _, rfl, rfl, s1.seq hp, at_ hyl, .ref p, rfl, _, rfl, p, _, _, _, rfl, rfl, s1.seq hp, at_ hxl, sz (show 2 ≤ 100000 by decide), fun tt ntt => ?_⟩
      have s2 := s1.trans (same_upd (o := .tup [.int (xs.getD y 0), .int (xs.getD x 0)]) ntt)
      have ho2 : (upd (upd H o (.lst (xs.map V.int))) tt (.tup [.int (xs.getD y 0), .int (xs.getD x 0)])) o = some (.lst (xs.map V.int)) := same_upd ntt _ _ upd_same
      have ht2 : (upd (upd H o (.lst (xs.map V.int))) tt (.tup [.int (xs.getD y 0), .int (xs.getD x 0)])) tt = some (.tup [.int (xs.getD y 0), .int (xs.getD x 0)]) := upd_same
      generalize upd (upd H o (.lst (xs.map V.int))) tt (.tup [.int (xs.getD y 0), .int (xs.getD x 0)]) = H2 at s2 ho2 ht2 ⊢
      refine ⟨tt, [.int (xs.getD y 0), .int (xs.getD x 0)], rfl, SqT.at ht2, rfl, .int (xs.getD y 0), [.int (xs.getD x 0)], rfl, .ref o, rfl, _, rfl, o, _, _, x, rfl, rfl, ho2, by rw [el]; exact ixN_nat (by omega) (by omega), ?_⟩
      refine ⟨.int (xs.getD x 0), [], rfl, .ref o, rfl, _, rfl, o, _, _, y, rfl, rfl, upd_same, by rw [List.length_set, el]; exact ixN_nat (by omega) (by omega), rfl, ?_⟩
      refine ⟨_, rfl, q o _ no ?_ (keep_upd (keep_upd s2 no) no)⟩
      rw [upd_same]
      unfold exF
      rw [List.map_set, List.map_set]
    | roll X' Y' c =>
      cases hX
      cases hY
      rw [show decide (V.str (Mv.head (.roll X Y c)) = V.str "exchange") = false from by rfl]
      obtain ⟨hi, hcl, _⟩ := am_chk hm.2.2
      refine ⟨_, rfl, _, rfl, (x : Int), (y : Int), rfl, rfl, _, rfl, ite2 (fun e5 => ?_) (fun e5 => ?_)⟩
      · have z5 := of_decide_eq_true e5
        have emv : mvF (.roll X Y c) xs = xs := by
          simp only [mvF]
          by_cases hxy : x ≤ y
          · have exy : x = y := by omega
            subst exy
            have h2 : (inB (plV X (xs.length : Int)) xs.length && inB (plV Y (xs.length : Int)) xs.length && decide (plV X (xs.length : Int) ≤ plV Y (xs.length : Int))) = true := by
              rw [hx, hy, ex, ey, decide_eq_true (Int.le_refl _)]
              rfl
            rw [if_pos h2, ex, ey]
            exact roF_same xs x _ hxl
          · have h2 : ¬ (inB (plV X (xs.length : Int)) xs.length && inB (plV Y (xs.length : Int)) xs.length && decide (plV X (xs.length : Int) ≤ plV Y (xs.length : Int))) = true := by
              rw [hx, hy, ex, ey, decide_eq_false (show ¬ (x : Int) ≤ y by omega)]
              decide
            rw [if_neg h2]
        rw [emv] at q
        exact ⟨.ref p, rfl, p, _, rfl, .inl hp, fun o no => q o _ no upd_same (same_upd no)⟩
      have hxy : x ≤ y := by
        have : ¬ (y : Int) ≤ x := fun z => e5 (decide_eq_true z)
        omega
      have emv : mvF (.roll X Y c) xs = roF xs x y (amV c (y + 1 - x : Nat)) := by
        have h2 : (inB (plV X (xs.length : Int)) xs.length && inB (plV Y (xs.length : Int)) xs.length && decide (plV X (xs.length : Int) ≤ plV Y (xs.length : Int))) = true := by
          rw [hx, hy, ex, ey, decide_eq_true (show (x : Int) ≤ y by omega)]
          rfl
        simp only [mvF]
        rw [if_pos h2, ex, ey]
        rfl
      rw [emv] at q
      have bl := blk_len xs x y hxy hyl
      have em := cut_mid xs x (y + 1) (by omega) (by omega)
      have et := cut_to xs x
      have ef := cut_from xs (y + 1) (by omega)
      refine ⟨.ref p, rfl, _, rfl, _, rfl, _, rfl, y, 1, rfl, rfl, _, rfl, p, _, rfl, hp, fun b nb => ?_⟩
      rw [show (y : Int) + 1 = ((y + 1 : Nat) : Int) by omega, em]
      generalize eb : (xs.drop x).take (y + 1 - x) = B at bl em
      have s1 := same_upd (o := .lst (B.map V.int)) nb
      have hb : (upd H b (.lst (B.map V.int))) b = some (.lst (B.map V.int)) := upd_same
      generalize upd H b (.lst (B.map V.int)) = H1 at s1 hb ⊢
      have bp : 0 < B.length := by omega
      have eBl : (B.map V.int).length = B.length := List.length_map ..
      -- c = len(block) // 2 if move[3] == 'half' else int(move[3])
      refine ⟨fun σ' H' => σ' = [some (.ref p), some (.ref t), some (.int (xs.length : Int)), some (.int (x : Int)), some (.int (y : Int)), none, some (.ref b), some (.int (amV c (B.length : Int))), none] ∧ H' = H1, ?_, ?_⟩
      · refine ⟨.ref t, rfl, t, _, 3, _, rfl, rfl, s1.seq ht, strs_get (i := 3) rfl, rfl, _, rfl, ?_⟩
        by_cases hcz : c = "half"
        · rw [decide_eq_true (show V.str c = V.str "half" by rw [hcz])]
          refine ⟨.ref b, rfl, b, _, rfl, .inl (SqL.at hb), _, 2, rfl, rfl, ⟨by decide, by decide⟩, ?_, rfl⟩
          rw [eBl]
          simp only [amV, if_pos hcz]
          rfl
        · rw [decide_eq_false (show ¬ V.str c = V.str "half" from fun e => hcz (V.str.inj e))]
          obtain ⟨n, hn⟩ := Option.isSome_iff_exists.mp (hi.resolve_left hcz)
          refine ⟨.ref t, rfl, t, _, 3, _, rfl, rfl, s1.seq ht, strs_get (i := 3) rfl, c, n, rfl, hn, by omega, ?_, rfl⟩
          simp only [amV, if_neg hcz, hn]
          rfl
      rintro σ' H1' ⟨rfl, rfl⟩
      -- cut = len(block) - int(c) % len(block)
      refine ⟨.ref b, rfl, b, _, rfl, .inl (SqL.at hb), _, rfl, .inl ⟨_, rfl, .ref b, rfl, b, _, rfl, .inl (SqL.at hb), _, _, rfl, rfl, ?_, _, _, rfl, rfl, ?_⟩⟩
      · rw [eBl]
        show ((B.length : Nat) : Int) ≠ 0
        omega
      rw [eBl]
      have f0 := Int.fmod_nonneg_of_pos (amV c (B.length : Int)) (b := (B.length : Int)) (by omega)
      have f1 := Int.fmod_lt_of_pos (amV c (B.length : Int)) (b := (B.length : Int)) (by omega)
      obtain ⟨k, ek, hk⟩ : ∃ k : Nat, (B.length : Int) - Int.fmod (amV c (B.length : Int)) (B.length : Int) = (k : Int) ∧ k ≤ B.length := ⟨((B.length : Int) - Int.fmod (amV c (B.length : Int)) (B.length : Int)).toNat, by omega, by omega⟩
      have e2 := cut_from B k hk
      have e3 := cut_to B k
      -- row[:x] + block[cut:] + block[:cut] + row[y + 1:]
      refine ⟨.ref p, rfl, _, rfl, _, rfl, p, _, rfl, s1.seq hp, fun o1 no1 => ?_⟩
      rw [et]
      have u1 := same_upd (o := .lst ((xs.take x).map V.int)) no1
      have b1 := u1 _ _ hb
      have h1 : (upd H1' o1 (.lst ((xs.take x).map V.int))) o1 = _ := upd_same
      generalize upd H1' o1 (.lst ((xs.take x).map V.int)) = H2 at u1 b1 h1 ⊢
      refine ⟨.ref b, rfl, _, rfl, _, rfl, b, _, rfl, SqL.at b1, fun o2 no2 => ?_⟩
      rw [ek, e2]
      have u2 := same_upd (o := .lst ((B.drop k).map V.int)) no2
      have b2 := u2 _ _ b1
      have h12 := u2 _ _ h1
      have h2 : (upd H2 o2 (.lst ((B.drop k).map V.int))) o2 = _ := upd_same
      generalize upd H2 o2 (.lst ((B.drop k).map V.int)) = H3 at u2 b2 h12 h2 ⊢
      refine ⟨o1, o2, _, _, rfl, rfl, h12, h2, sz (by simp; omega), fun o3 no3 => ?_⟩
      rw [← List.map_append]
      have u3 := same_upd (o := .lst ((xs.take x ++ B.drop k).map V.int)) no3
      have b3 := u3 _ _ b2
      have h3 : (upd H3 o3 (.lst ((xs.take x ++ B.drop k).map V.int))) o3 = _ := upd_same
      generalize upd H3 o3 (.lst ((xs.take x ++ B.drop k).map V.int)) = H4 at u3 b3 h3 ⊢
      refine ⟨.ref b, rfl, _, rfl, _, rfl, b, _, rfl, SqL.at b3, fun o4 no4 => ?_⟩
      rw [ek, e3]
      have u4 := same_upd (o := .lst ((B.take k).map V.int)) no4
      have h34 := u4 _ _ h3
      have h4 : (upd H4 o4 (.lst ((B.take k).map V.int))) o4 = _ := upd_same
      generalize upd H4 o4 (.lst ((B.take k).map V.int)) = H5 at u4 h34 h4 ⊢
      refine ⟨o3, o4, _, _, rfl, rfl, h34, h4, sz (by simp; omega), fun o5 no5 => ?_⟩
      rw [← List.map_append]
      have u5 := same_upd (o := .lst ((xs.take x ++ B.drop k ++ B.take k).map V.int)) no5
      have h5 : (upd H5 o5 (.lst ((xs.take x ++ B.drop k ++ B.take k).map V.int))) o5 = _ := upd_same
      generalize upd H5 o5 (.lst ((xs.take x ++ B.drop k ++ B.take k).map V.int)) = H6 at u5 h5 ⊢
      have u06 := s1.trans (u1.trans (u2.trans (u3.trans (u4.trans u5))))
      refine ⟨.ref p, rfl, _, rfl, y, 1, rfl, rfl, _, rfl, p, _, rfl, u06.seq hp, fun o6 no6 => ?_⟩
      rw [show (y : Int) + 1 = ((y + 1 : Nat) : Int) by omega, ef]
      have u6 := same_upd (o := .lst ((xs.drop (y + 1)).map V.int)) no6
      have h56 := u6 _ _ h5
      have h6 : (upd H6 o6 (.lst ((xs.drop (y + 1)).map V.int))) o6 = _ := upd_same
      generalize upd H6 o6 (.lst ((xs.drop (y + 1)).map V.int)) = H7 at u6 h56 h6 ⊢
      refine ⟨o5, o6, _, _, rfl, rfl, h56, h6, sz (by simp; omega), fun o7 no7 => ?_⟩
      rw [← List.map_append]
      have u07 := u06.trans (u6.trans (same_upd (o := .lst ((xs.take x ++ B.drop k ++ B.take k ++ xs.drop (y + 1)).map V.int)) no7))
      refine q o7 _ (u06.free (u6.free no7)) ?_ u07
      rw [upd_same]
      unfold roF
      simp only [eb]
      rw [← bl, ek, Int.toNat_natCast]
end

/-! ### lengths of joined texts; moves keep the things -/
theorem joinL_len (S : List Nat) : ∀ ps : List (List Nat), (TL.joinL S ps).length ≤ (ps.map List.length).sum + ps.length * S.length
  | [] => by simp [TL.joinL]
  | [p] => by simp [TL.joinL]
  | p :: q :: r => by
    have := joinL_len S (q :: r)
    show (p ++ (S ++ TL.joinL S (q :: r))).length ≤ _
    rw [List.length_append, List.length_append, List.map_cons, List.sum_cons, List.length_cons (as := q :: r), Nat.add_mul]
    omega
theorem sum_le : ∀ {zs : List Str}, (∀ z ∈ zs, z.length ≤ 100) → (zs.map (·.length)).sum ≤ zs.length * 100
  | [], _ => by simp
  | z :: r, h => by
    have h1 := h z (List.mem_cons_self ..)
    have h2 := sum_le (zs := r) fun y hy => h y (List.mem_cons_of_mem _ hy)
    rw [List.map_cons, List.sum_cons, List.length_cons, Nat.add_mul]
    omega
theorem join_len {zs : List Str} (h : ∀ z ∈ zs, z.length ≤ 100) : (Txt.join " " zs).length ≤ zs.length * 101 := by
  rw [TL.len_tl, TL.join_eq, TL.tl_join]
  have h1 := joinL_len (TL.tl " ") (zs.map TL.tl)
  have h2 := sum_le h
  have e1 : ((zs.map TL.tl).map List.length).sum = (zs.map (·.length)).sum := by
    rw [List.map_map]
    exact congrArg List.sum (List.map_congr_left fun z _ => (TL.len_tl z).symm)
  have e2 : (TL.tl " ").length = 1 := by decide +kernel
  rw [e1, e2, List.length_map] at h1
  omega
theorem wtext_len {ms : List Mv} (h : WordOk ms) : (wtext ms).length ≤ 90000 := by
  have h1 := join_len (zs := wp ms) fun z hz => (wp_ok h.ok z hz).2.1
  have h2 := wp_len ms
  have h3 := h.l4
  unfold wtext
  omega
theorem ex_perm {xs : List Int} {x y : Nat} (hx : x < xs.length) (hy : y < xs.length) : (exF xs x y).Perm xs := by
  unfold exF
  rw [getD_get hx, getD_get hy]
  exact List.set_set_perm hx hy
theorem ro_perm {xs : List Int} {x y : Nat} {c : Int} (hxy : x ≤ y) (hy : y < xs.length) : (roF xs x y c).Perm xs := by
  unfold roF
  simp only []
  generalize eb : (xs.drop x).take (y + 1 - x) = B
  generalize ((B.length : Int) - Int.fmod c (B.length : Int)).toNat = k
  have e1 : xs.take x ++ B ++ xs.drop (y + 1) = xs := by
    rw [← eb, List.append_assoc]
    have e2 : (xs.drop x).take (y + 1 - x) ++ xs.drop (y + 1) = xs.drop x := by
      conv => rhs; rw [← List.take_append_drop (y + 1 - x) (xs.drop x)]
      rw [List.drop_drop, show x + (y + 1 - x) = y + 1 by omega]
    rw [e2]
    exact List.take_append_drop x xs
  have p1 : (B.drop k ++ B.take k).Perm B := by
    have := List.perm_append_comm (l₁ := B.drop k) (l₂ := B.take k)
    rw [List.take_append_drop] at this
    exact this
  have p2 : (xs.take x ++ B.drop k ++ B.take k ++ xs.drop (y + 1)).Perm (xs.take x ++ B ++ xs.drop (y + 1)) := by
    rw [List.append_assoc (xs.take x)]
    exact (p1.append_left (xs.take x)).append_right (xs.drop (y + 1))
  rw [e1] at p2
  exact p2
theorem mv_perm (m : Mv) (xs : List Int) : (mvF m xs).Perm xs := by
  cases m with
  | turn => exact List.reverse_perm xs
  | exch x y =>
    simp only [mvF]
    split
    · rename_i h
      simp only [inB, Bool.and_eq_true, decide_eq_true_eq] at h
      exact ex_perm (by omega) (by omega)
    · exact List.Perm.refl _
  | roll x y c =>
    simp only [mvF]
    split
    · rename_i h
      simp only [inB, Bool.and_eq_true, decide_eq_true_eq] at h
      exact ro_perm (by omega) (by omega)
    · exact List.Perm.refl _
theorem ri_sorted (n : Nat) : (ri n).Pairwise (· ≤ ·) := by
  unfold ri
  rw [List.pairwise_map]
  exact List.Pairwise.imp (fun h => by omega) (List.pairwise_lt_range (n := n))
theorem ne_false {xs ys : List Int} {A B : Prop} (h : xs = ys) (q : B) : if (!PyData.eqv (iD xs) (iD ys)) = true then A else B := by
  subst h
  rw [eqv_ints, decide_eq_true rfl]
  exact q
theorem eqv_all_mvs : ∀ ms ns : List Mv, PyData.eqvAll (ms.map mvD) (ns.map mvD) = decide (ms = ns)
  | [], [] => by simp [PyData.eqvAll]
  | [], _ :: _ => by simp [PyData.eqvAll]
  | _ :: _, [] => by simp [PyData.eqvAll]
  | x :: r, y :: u => by
    simp only [List.map_cons, PyData.eqvAll, eqv_mv, eqv_all_mvs r u, List.cons.injEq]
    by_cases h1 : x = y <;> by_cases h2 : r = u <;> simp [h1, h2]
theorem ne_mvs {ms ns : List Mv} {A B : Prop} (h : ms = ns) (q : B) : if (!PyData.eqv (.tuple (ms.map mvD)) (.tuple (ns.map mvD))) = true then A else B := by
  subst h
  rw [PyData.eqv, eqv_all_mvs, decide_eq_true rfl]
  exact q
theorem shaped_strsL {zs : List Str} (h : ∀ z ∈ zs, PyData.strOk z = true) : SeqAt.shaped (.list (zs.map PyData.str)) = true := by
  unfold SeqAt.shaped
  rw [Bool.and_eq_true, decide_eq_true_eq]
  refine ⟨by rw [PyData.canLay0]; exact lay_strs h, ?_⟩
  have := deep_strs zs
  rw [PyData.depth]
  omega
theorem eqv_turn (m : Mv) : PyData.eqv (.list (m.parts.map PyData.str)) (.list ((["turn"] : List Str).map PyData.str)) = decide (m = .turn) := by
  rw [PyData.eqv, eqv_all_strs]
  by_cases h : m = .turn
  · subst h
    rfl
  · have : ¬ m.parts = ([("turn" : Str)] : List Str) := fun e => h (Mv.inj.mp (e.trans rfl))
    simp [h, this]
theorem flW_at (ms : List Mv) (t : Addr) : (flW ms t).lookup ("at" : Str) = none := by
  unfold flW
  rw [lookup_putF, if_neg (by decide +kernel), lookup_putF, if_neg (by decide +kernel), lookup_putF, if_neg (by decide +kernel)]
  rfl

/-! ### == by an own __eq__, with both answers; the other value a text or an instance -/
inductive EqTy (H : Hp) : V → Value → Prop where
  | str (y : Str) : EqTy H (.str y) (.type "str")
  | ins {p C : Addr} {dx : Addr} {fs : List (Str × V)} (e : H p = some (.ins C dx fs)) : EqTy H (.ref p) (.ref C)
def rEqOwn (K : PySem.W.Frag) (C : Addr) (sp : Sp) (E : XK) : R2 := fun x y H Q => ∃ (p dx : Addr) (fs : List (Str × V)) (tb : Value), x = .ref p ∧ H p = some (.ins C dx fs) ∧ EqTy H y tb ∧ PySem.W.notFirst K C tb = true ∧ sp [x, y] H (fun v H' => (∃ b, v = .bl b) ∧ Q v H') E
theorem op_eq_own {X : Cx} {n : Nat} {CX : CXT} {C f : Addr} {fd : FuncData} {ps : List Str} {sp : Sp} {E : XK} (F : FnOk X.prog X.w X.K X.mg X.base CX n f fd ps sp) (hr : Room n X.A)
    (hs : PySem.W.findIn X.K (.ref C) "__eq__" = some (some (.ref f))) (hf : PySem.W.isFn X.K (.ref f) = true) (hb : Binds X.K fd ps []) (hx : Passes CX X E) : OpR X (compareOp .Eq) (rEqOwn X.K C sp E) := by
  rintro pins s σ H x y v u Q I rx ry ⟨p, dx, fs, tb, rfl, hp, ty, hn, hsp⟩
  cases rx
  obtain ⟨mA, J, _⟩ := ins_get I.hok hp
  obtain ⟨od, J, _⟩ := J.look
  obtain ⟨m, hF⟩ := I.fr
  have hT : PySem.W.Looks (model X.prog X.w) s.heap (typeOf u) tb := by
    cases ty with
    | str z =>
      obtain ⟨t, q⟩ := (show ∃ t, u = Value.str z t from ry)
      cases q
      exact .now
    | @ins b C' dy gs e =>
      cases (show u = Value.ref b from ry)
      obtain ⟨mB, J', _⟩ := ins_get I.hok e
      obtain ⟨od', J', _⟩ := J'.look
      exact J'.type
  show wpAny (model X.prog X.w) X.A (richCompare .Eq (.ref p) u) (EP X pins σ Q) X.xe s
  refine PySem.W.cmp_K (op := .Eq) (tb := tb) hr.units0 hF I.ok.mod.kin J hT hn hs hf ?_
  refine wpAny_mono (run_fn F hr hb .nil hx I (show Vals [V.ref p, y] [Value.ref p, u] from .cons rfl (.cons ry .nil)) hsp) (fun w s' z => ?_) fun _ _ h => h
  obtain ⟨z, H', I', rz, ⟨b, ez⟩, q⟩ := z
  subst ez
  cases (show w = Value.bool b from rz)
  exact ⟨.bl b, H', I', rfl, q⟩

/-! ### moves as lists of lists, joined texts, naturality of moves -/
def HeldL (H : Hp) : List Addr → List Mv → Prop
  | [], [] => True
  | p :: ps, m :: ms => H p = some (.lst (strsV m.parts)) ∧ HeldL H ps ms
  | _, _ => False
theorem HeldL.len {H : Hp} : ∀ {ps : List Addr} {ms : List Mv}, HeldL H ps ms → ps.length = ms.length
  | [], [], _ => rfl
  | _ :: _, _ :: _, h => congrArg (· + 1) h.2.len
theorem HeldL.mono {H H' : Hp} : ∀ {ps : List Addr} {ms : List Mv}, (∀ p ∈ ps, ∀ m ∈ ms, H p = some (.lst (strsV m.parts)) → H' p = some (.lst (strsV m.parts))) → HeldL H ps ms → HeldL H' ps ms
  | [], [], _, _ => trivial
  | p :: ps, m :: ms, h, x => ⟨h p (List.mem_cons_self ..) m (List.mem_cons_self ..) x.1, HeldL.mono (fun q hq n hn => h q (List.mem_cons_of_mem _ hq) n (List.mem_cons_of_mem _ hn)) x.2⟩
theorem HeldL.same {H H' : Hp} {ps : List Addr} {ms : List Mv} (x : HeldL H ps ms) (h : Same H H') : HeldL H' ps ms := x.mono fun _ _ _ _ e => h _ _ e
theorem HeldL.butd {d : Addr} {H H' : Hp} {kvs : List (Key × V)} (x : But d H H') (hd : H d = some (.dK kvs)) {ps : List Addr} {ms : List Mv} (h : HeldL H ps ms) : HeldL H' ps ms :=
  h.mono fun _ _ _ _ e => x.list hd e
theorem HeldL.snoc {H : Hp} {p : Addr} {m : Mv} (e : H p = some (.lst (strsV m.parts))) : ∀ {ps : List Addr} {ms : List Mv}, HeldL H ps ms → HeldL H (ps ++ [p]) (ms ++ [m])
  | [], [], _ => ⟨e, trivial⟩
  | _ :: _, _ :: _, h => ⟨h.1, HeldL.snoc e h.2⟩
theorem HeldL.drop {H : Hp} : ∀ {ps : List Addr} {ms : List Mv} (k : Nat), HeldL H ps ms → HeldL H (ps.drop k) (ms.drop k)
  | [], [], k, _ => by simp [HeldL]
  | _ :: _, _ :: _, 0, h => h
  | _ :: _, _ :: _, k + 1, h => h.2.drop k
theorem HeldL.get {H : Hp} : ∀ {ps : List Addr} {ms : List Mv}, HeldL H ps ms → ∀ {i : Nat} {m : Mv}, ms[i]? = some m → ∃ p, ps[i]? = some p ∧ H p = some (.lst (strsV m.parts))
  | [], [], _, i, m, h => by simp at h
  | r :: rs, n :: ms, hh, 0, m, h => by
    cases h
    exact ⟨r, rfl, hh.1⟩
  | r :: rs, n :: ms, hh, i + 1, m, h => by
    obtain ⟨x, hx, hy⟩ := HeldL.get hh.2 (i := i) (m := m) (by simpa using h)
    exact ⟨x, by simpa using hx, hy⟩
def mvL (m : Mv) : PyData := .list (m.parts.map PyData.str)
theorem dp_mvl {K : PySem.W.Frag} {H : Hp} : ∀ {ps : List Addr} {ms : List Mv}, HeldL H ps ms → DpAll K H (ps.map V.ref) (ms.map mvL)
  | [], [], _ => .nil
  | _ :: _, _ :: _, h => .cons (.lst (SqL.at h.1) (dp_strs _)) (dp_mvl h.2)
theorem WordAt.butd {C d : Addr} {H H' : Hp} {kvs : List (Key × V)} (x : But d H H') (hd : H d = some (.dK kvs)) {p : Addr} {ms : List Mv} (h : WordAt C H p ms) : WordAt C H' p ms := by
  obtain ⟨dx, t, rs, z1, z2, z3⟩ := h
  exact ⟨dx, t, rs, x _ _ z1 (ne_of z1 hd (by intro z; cases z)), x.tup hd z2, Held.butd x hd z3⟩
theorem joinL_append {S : List Nat} : ∀ {P R : List (List Nat)}, P ≠ [] → R ≠ [] → TL.joinL S (P ++ R) = TL.joinL S P ++ (S ++ TL.joinL S R)
  | [], _, h, _ => absurd rfl h
  | [p], [], _, h => absurd rfl h
  | [p], q :: r, _, _ => rfl
  | p :: q :: r, R, _, hR => by
    show p ++ (S ++ TL.joinL S (q :: r ++ R)) = (p ++ (S ++ TL.joinL S (q :: r))) ++ _
    rw [joinL_append (by simp) hR]
    simp only [List.append_assoc]
theorem parts_ne (m : Mv) : m.parts ≠ [] := by cases m <;> simp [Mv.parts]
theorem joinL_wp (S t : List Nat) (et : TL.tl sThen = t) : ∀ ms : List Mv, TL.joinL (S ++ (t ++ S)) (ms.map fun m => TL.joinL S (m.parts.map TL.tl)) = TL.joinL S ((wp ms).map TL.tl)
  | [] => rfl
  | [m] => rfl
  | m :: n :: r => by
    have ih := joinL_wp S t et (n :: r)
    show TL.joinL S (m.parts.map TL.tl) ++ ((S ++ (t ++ S)) ++ TL.joinL (S ++ (t ++ S)) ((n :: r).map fun m => TL.joinL S (m.parts.map TL.tl))) = TL.joinL S ((m.parts ++ sThen :: wp (n :: r)).map TL.tl)
    rw [ih, List.map_append, List.map_cons, et]
    have hm : m.parts.map TL.tl ≠ [] := by
      intro z
      exact parts_ne m (List.map_eq_nil_iff.mp z)
    have hw : (wp (n :: r)).map TL.tl ≠ [] := by
      intro z
      exact wp_ne (ms := n :: r) (by simp) (List.map_eq_nil_iff.mp z)
    rw [joinL_append hm (by simp), show t :: (wp (n :: r)).map TL.tl = [t] ++ (wp (n :: r)).map TL.tl from rfl, joinL_append (by simp) hw]
    show _ ++ (S ++ (t ++ S) ++ _) = _ ++ (S ++ (t ++ (S ++ _)))
    simp only [List.append_assoc]
theorem join_wtext (ms : List Mv) : Txt.join " then " (ms.map fun m => Txt.join " " m.parts) = wtext ms := by
  refine TL.ext_tl ?_
  unfold wtext
  rw [TL.join_eq, TL.tl_join, TL.join_eq, TL.tl_join, List.map_map]
  have e := joinL_wp (TL.tl " ") (TL.tl sThen) rfl ms
  rw [← e]
  have e2 : TL.tl " then " = TL.tl " " ++ (TL.tl sThen ++ TL.tl " ") := by decide +kernel
  rw [e2]
  refine congrArg _ (List.map_congr_left fun m _ => ?_)
  show TL.tl (Txt.join " " m.parts) = _
  rw [TL.join_eq, TL.tl_join]
theorem wtext_one (m : Mv) : Txt.join " " m.parts = wtext [m] := rfl
theorem joinL_suff {S : List Nat} : ∀ {P : List (List Nat)} {q : List Nat} {r : List (List Nat)}, (TL.joinL S (q :: r)).length ≤ (TL.joinL S (P ++ q :: r)).length
  | [], q, r => Nat.le_refl _
  | p :: P, q, r => by
    have h := @joinL_suff S P q r
    have e : TL.joinL S (p :: P ++ q :: r) = TL.joinL S ([p] ++ (P ++ q :: r)) := rfl
    rw [e, joinL_append (by simp) (by simp), List.length_append, List.length_append]
    omega
theorem wtext_tail {m : Mv} {ms : List Mv} (h : ms ≠ []) : wtext (m :: ms) ≠ wtext ms := by
  cases ms with
  | nil => exact absurd rfl h
  | cons n r =>
    intro e
    have e1 := congrArg Str.length e
    unfold wtext at e1
    rw [TL.len_tl, TL.len_tl, TL.join_eq, TL.join_eq, TL.tl_join, TL.tl_join] at e1
    have hm : m.parts.map TL.tl ≠ [] := fun z => parts_ne m (List.map_eq_nil_iff.mp z)
    have hw : (wp (n :: r)).map TL.tl ≠ [] := fun z => wp_ne (ms := n :: r) (by simp) (List.map_eq_nil_iff.mp z)
    have e2 : (wp (m :: n :: r)).map TL.tl = m.parts.map TL.tl ++ (TL.tl sThen :: (wp (n :: r)).map TL.tl) := by
      show (m.parts ++ sThen :: wp (n :: r)).map TL.tl = _
      rw [List.map_append, List.map_cons]
    rw [e2, joinL_append hm (by simp), show TL.tl sThen :: (wp (n :: r)).map TL.tl = [TL.tl sThen] ++ (wp (n :: r)).map TL.tl from rfl, joinL_append (by simp) hw] at e1
    have e3 : (TL.tl " ").length = 1 := by decide +kernel
    simp only [List.length_append, e3] at e1
    omega
theorem ex_map (f : Int → Int) {xs : List Int} {x y : Nat} (hx : x < xs.length) (hy : y < xs.length) : exF (xs.map f) x y = (exF xs x y).map f := by
  have g : ∀ {i : Nat} (h : i < xs.length), (xs.map f).getD i 0 = f (xs.getD i 0) := fun {i} h => by
    rw [List.getD_eq_getElem?_getD, List.getD_eq_getElem?_getD, List.getElem?_map, List.getElem?_eq_getElem h]
    rfl
  unfold exF
  rw [g hx, g hy, List.map_set, List.map_set]
theorem ro_map (f : Int → Int) (xs : List Int) (x y : Nat) (c : Int) : roF (xs.map f) x y c = (roF xs x y c).map f := by
  unfold roF
  simp only [← List.map_drop, ← List.map_take, List.length_map, List.map_append]
theorem mv_map (f : Int → Int) (m : Mv) (xs : List Int) : mvF m (xs.map f) = (mvF m xs).map f := by
  cases m with
  | turn => exact List.map_reverse.symm
  | exch x y =>
    simp only [mvF, List.length_map]
    split
    · rename_i h
      simp only [inB, Bool.and_eq_true, decide_eq_true_eq] at h
      exact ex_map f (by omega) (by omega)
    · rfl
  | roll x y c =>
    simp only [mvF, List.length_map]
    split
    · exact ro_map f _ _ _ _
    · rfl
/-- the moves of a row are those of the plain row, picked -/
theorem mv_pick (m : Mv) (xs : List Int) : pickI xs (mvF m (ri xs.length)) = mvF m xs := by
  conv => rhs; rw [← pick_ri xs]
  unfold pickI
  rw [mv_map]
theorem all_perm : ∀ (ms : List Mv) (xs : List Int), (allF ms xs).Perm xs
  | [], xs => List.Perm.refl _
  | m :: r, xs => (all_perm r (mvF m xs)).trans (mv_perm m xs)
theorem all_snoc (ms : List Mv) (m : Mv) (xs : List Int) : allF (ms ++ [m]) xs = mvF m (allF ms xs) := by
  unfold allF
  rw [List.foldl_append]
  rfl
theorem all_row (ms : List Mv) (n : Nat) : IsRow (allF ms (ri n)) := isRow_of n (all_perm ms (ri n))
section
variable {P : Program} {w : World} {K : PySem.W.Frag} {mg : Str → Option Value} {base : Heap} {a : Ad}
theorem eq_texts {x y : Str} {H : Hp} {Q : VK} (k : Q (.bl (decide (x = y))) H) : rEq (.str x) (.str y) H Q := by
  refine ⟨rfl, ?_⟩
  have e : decide (V.str x = V.str y) = decide (x = y) := decide_eq_decide.mpr ⟨fun h => V.str.inj h, fun h => congrArg _ h⟩
  rw [e]
  exact k
def spWordEq (C : Addr) : Sp := fun vs H Q _ => ∃ (p : Addr) (ms : List Mv), WordAt C H p ms ∧ ((∃ (q : Addr) (ns : List Mv), vs = [.ref p, .ref q] ∧ WordAt C H q ns ∧ Q (.bl (decide (wtext ms = wtext ns))) H) ∨ (∃ s : Str, vs = [.ref p, .str s] ∧ Q (.bl false) H))
theorem ok_Word_eq (T : Tx w K mg a) : FnOk P w K mg base CX0 1 a.f_Word_eq a.d_Word_eq ["self", "other"] (spWordEq a.C_Word) := by
  refine T.F_Word_eq.ok sc_Word_eq (fun vs H Q E h => ?_) (fun cdv A outer s H vs Q E hr h => ?_)
  · obtain ⟨p, ms, _, h | h⟩ := h
    · obtain ⟨q, ns, rfl, _⟩ := h
      rfl
    · obtain ⟨s, rfl, _⟩ := h
      rfl
  · obtain ⟨p, ms, hp, h⟩ := h
    refine ⟨_, 
(pss_one (ps_ret (pe_and (pe_callB call_isi (by rfl) T.z_isinstance (by decide +kernel) (pa_cons (pv 1) (pa_cons (pe_glob (v := .ref a.C_Word) (by rfl) T.c_Word rfl) pa_nil))) (pe_one (pe_cmpR op_eq (pe_fld (pv 0) rfl) (pe_fld (pv 1) rfl) (nomark _)))))), ?_⟩
    obtain ⟨dx, t, rs, p1, p2, p3⟩ := hp
    rcases h with ⟨q, ns, rfl, hq, k⟩ | ⟨s, rfl, k⟩
    · obtain ⟨dy, u, rq, q1, q2, q3⟩ := hq
      refine ⟨.ref q, rfl, ?_⟩
      refine ⟨.ref q, .ref a.C_Word, .ref a.C_Word, .ref a.C_Word, true, rfl, .own _, .base (.ins q1 T.cl_Word T.ow_Word.cls T.ow_Word.get T.ow_Word.tak T.ow_Word.mro), ?_, ?_⟩
      · unfold PySem.W.kitOne
        rw [if_pos (by simp)]
      exact ⟨true, rfl, .ref p, rfl, p, a.C_Word, dx, _, _, rfl, p1, T.cl_Word, T.n_Word_text, flW_text _ _, .ref q, rfl, q, a.C_Word, dy, _, _, rfl, q1, T.cl_Word, T.n_Word_text, flW_text _ _, eq_texts k⟩
    · refine ⟨.str s, rfl, ?_⟩
      refine ⟨.str s, .ref a.C_Word, .type "str", .ref a.C_Word, false, rfl, .own _, .base (.str _), T.ow_Word.kit, ?_⟩
      exact ⟨false, rfl, k⟩
end

/-- join, its reading with K by name (in a comprehension) -/
def rJoinK (K : PySem.W.Frag) : V → List V → Hp → VK → Prop := fun x xs H Q => ∃ a p, ∃ ys : List Str, x = .str a ∧ xs = [.ref p] ∧ (SqL K H p (ys.map V.str) ∨ SqT K H p (ys.map V.str)) ∧ (ys.map (·.length)).sum + ys.length * a.length ≤ 16777216 ∧ Q (.str (Txt.join a ys)) H
theorem pe_joinK {X : Cx} {K : PySem.W.Frag} {o e : Expr} {to te : TE} {apos pos : Pos} (hK : X.K = K) (ho : PE X o to) (he : PE X e te) (hs : starEach [e] X.env = [(false, eval e X.env)] := by rfl) (hbase : attributeBase o "join" X.env (eval o X.env) = eval o X.env := by rfl) (hline : (apos.endLine == pos.line) = true := by rfl) :
    PE X (.Call (.Attribute o "join" apos) [e] [] pos) (tM1 (rJoinK K) to te) := by
  subst hK
  exact pe_join ho he hs hbase hline
/-- tuple(x), its reading with K by name -/
def rTupOf (K : PySem.W.Frag) : List V → Hp → VK → Prop := fun xs H Q => ∃ p ys, xs = [V.ref p] ∧ ((SqL K H p ys ∧ ∀ (l : Addr), H l = none → Q (V.ref l) (upd H l (HO.tup ys))) ∨ SqT K H p ys ∧ Q (V.ref p) H)
theorem call_tuple_ofK {X : Cx} {K : PySem.W.Frag} (hK : X.K = K) : CallR X (.type "tuple") (rTupOf K) := by
  subst hK
  exact call_tuple_of
/-- list(x), its reading with K by name -/
def rListOf (K : PySem.W.Frag) : List V → Hp → VK → Prop := fun xs H Q => ∃ p ys, xs = [V.ref p] ∧ (SqL K H p ys ∨ SqT K H p ys) ∧ ∀ (l : Addr), H l = none → Q (V.ref l) (upd H l (HO.lst ys))
theorem call_list_ofK {X : Cx} {K : PySem.W.Frag} (hK : X.K = K) : CallR X (.type "list") (rListOf K) := by
  subst hK
  exact call_list_of
/-- len(x), its reading with K by name -/
def rLenS (K : PySem.W.Frag) : List V → Hp → VK → Prop := fun xs H Q => ∃ p ys, xs = [V.ref p] ∧ (SqL K H p ys ∨ SqT K H p ys) ∧ Q (.int ys.length) H
theorem call_len_seqK {X : Cx} {K : PySem.W.Frag} (hK : X.K = K) : CallR X (.builtin "len") (rLenS K) := by
  subst hK
  exact call_len_seq

section
variable {P : Program} {w : World} {K : PySem.W.Frag} {mg : Str → Option Value} {base : Heap} {a : Ad}
theorem But.free {d c o : Addr} {n : Nat} {H H' : Hp} (b : But d H H') (hp : Pen H' d c n) (no : H' o = none) : H o = none := by
  obtain ⟨kvs, hd⟩ := hp.dict
  cases hH : H o with
  | none => rfl
  | some u =>
    by_cases hod : o = d
    · subst hod
      rw [hd] at no
      cases no
    · rw [b o u hH hod] at no
      cases no
theorem shaped_mvl {m : Mv} (h : m.ok) : SeqAt.shaped (mvL m) = true := by
  unfold SeqAt.shaped
  rw [Bool.and_eq_true, decide_eq_true_eq]
  refine ⟨by unfold mvL; rw [PyData.canLay0]; exact lay_strs fun z hz => (Mv.str_ok h z hz).1, ?_⟩
  have := deep_strs m.parts
  unfold mvL
  rw [PyData.depth]
  omega
theorem shaped_mvls {ms : List Mv} (h : ∀ m ∈ ms, m.ok) : SeqAt.shaped (.list (ms.map mvL)) = true ∧ SeqAt.shaped (.tuple (ms.map mvL)) = true := by
  have hl : PyData.canLayAll0 (ms.map mvL) = true := by
    induction ms with
    | nil => simp [PyData.canLayAll0]
    | cons m r ih =>
      simp only [List.map_cons, PyData.canLayAll0, Bool.and_eq_true]
      exact ⟨by unfold mvL; rw [PyData.canLay0]; exact lay_strs fun z hz => (Mv.str_ok (h m (List.mem_cons_self ..)) z hz).1, ih fun y hy => h y (List.mem_cons_of_mem _ hy)⟩
  have hd : PyData.depthAll (ms.map mvL) ≤ 2 := by
    clear h hl
    induction ms with
    | nil => simp [PyData.depthAll]
    | cons m r ih =>
      have := deep_strs m.parts
      simp only [List.map_cons, PyData.depthAll, mvL, PyData.depth]
      omega
  unfold SeqAt.shaped
  simp only [Bool.and_eq_true, decide_eq_true_eq]
  refine ⟨⟨by rw [PyData.canLay0]; exact hl, ?_⟩, by rw [PyData.canLay0]; exact hl, ?_⟩
  · rw [PyData.depth]
    omega
  · rw [PyData.depth]
    omega
theorem oneTurn_snoc {ms : List Mv} {m : Mv} (h : oneTurn ms) (hm : Mv.turn ∈ ms → m ≠ .turn) : oneTurn (ms ++ [m]) := by
  intro pre x post e ex
  rcases List.eq_nil_or_concat post with rfl | ⟨L, y, rfl⟩
  · have e2 := List.append_inj' e rfl
    obtain ⟨rfl, e3⟩ := e2
    cases e3
    exact fun z => hm z ex
  · have e1 : ms ++ [m] = (pre ++ x :: L) ++ [y] := by rw [e]; simp
    have e2 := List.append_inj' e1 rfl
    exact h pre x L e2.1 ex
theorem any_mvl (m : Mv) (ms : List Mv) : ((ms.map mvL).any fun z => PyData.eqv z (mvL m)) = decide (m ∈ ms) := by
  induction ms with
  | nil => simp
  | cons n r ih =>
    rw [List.map_cons, List.any_cons, ih]
    have e : PyData.eqv (mvL n) (mvL m) = decide (n = m) := by
      unfold mvL
      rw [PyData.eqv, eqv_all_strs]
      exact decide_eq_decide.mpr Mv.inj
    rw [e]
    by_cases h1 : n = m <;> by_cases h2 : m ∈ r <;> simp [h1, h2, eq_comm]
    exact fun z => absurd z.symm h1
def spLawMoves : Sp := fun vs H Q _ => ∃ (d c : Addr) (n : Nat), vs = [.ref d] ∧ Pen H d c n ∧ n + 200 < 2 ^ 40 ∧
  ∀ o ps ms H', WordOk ms → H o = none → H' o = some (.lst (ps.map V.ref)) → HeldL H' ps ms → (∀ p ∈ ps, H p = none) → Pen H' d c (n + 100) → But d H H' → Q (.ref o) H'
theorem ok__law_moves (T : Tx w K mg a) : FnOk P w K mg base CX0 4 a.f__law_moves a.d__law_moves ["pen"] spLawMoves := by
  refine T.F__law_moves.ok sc__law_moves (fun vs H Q E h => ?_) (fun cdv A outer s H vs Q E hr h => ?_)
  · obtain ⟨d, c, n, rfl, _⟩ := h
    rfl
  · obtain ⟨d, c, n, rfl, hp, hn, q⟩ := h
    refine ⟨_, 
(pss_cons (ps_set (i := 1) sc__law_moves.nd rfl (.inl rfl) (pe_lst pa_nil))
  (pss_cons (ps_for PassesOwn.never rfl (pi_range1 (by rfl) T.z_range (pa_cons (pe_op op_add pe_int (pe_call (ok__law_draw T) (hr.mono (by decide)) (by rfl) T.m__law_draw T.F__law_draw.kp T.b__law_draw .nil pass0 (pa_cons (pv 0) (pa_cons pe_int pa_nil)))) pa_nil)) (pg_name (i := 2) sc__law_moves.nd rfl (.inl rfl))
  (pss_one (ps_expr (pe_bm PySem.F.plainAttrs_list PySem.F.slot_list_append PySem.F.type_list_append mt_append (pv 1) (pa_cons (pe_call (ok__law_move T) hr (by rfl) T.m__law_move T.F__law_move.kp T.b__law_move .nil pass0 (pa_cons (pv 0) (pa_cons (pe_cmpR (op_inD (room65 hr)) (pe_lst (pa_cons pe_str pa_nil)) (pv 1) (by rfl)) pa_nil))) pa_nil)))))
  (pss_one (ps_ret (pv 1))))), ?_⟩
    refine ⟨sz (show 0 ≤ 100000 by decide), fun o no => ?_⟩
    have s1 := same_upd (o := .lst []) no
    refine ⟨.ref d, rfl, d, c, n, 4, rfl, hp.same s1, by omega, by decide, by decide, fun v H2 v0 v1 hp2 b2 => ?_⟩
    have do' : d ≠ o := by
      obtain ⟨kvs, hd⟩ := hp.dict
      exact ne_of_none hd no
    have co : c ≠ o := by
      obtain ⟨u, hc⟩ := hp.cells
      exact ne_of_none hc no
    have b02 : But d H H2 := (but_same s1).trans b2
    have ho2 : H2 o = some (.lst (([] : List Addr).map V.ref)) := by
      obtain ⟨kvs, hd⟩ := (hp.same s1).dict
      exact b2.list hd upd_same
    refine ⟨1, v, rfl, rfl, _, rfl, by omega, by omega, ?_⟩
    refine for_range (lo := 0) (n := (1 + v).toNat) (fun i σ H3 => ∃ (ps : List Addr) (ms : List Mv) (y : Option V), σ = [some (.ref d), some (.ref o), y] ∧ ms.length = i ∧ (∀ m ∈ ms, m.ok) ∧ oneTurn ms ∧ H3 o = some (.lst (ps.map V.ref)) ∧ HeldL H3 ps ms ∧ (∀ p ∈ ps, H p = none ∧ p ≠ o) ∧ Pen H3 d c (n + 1 + 20 * i) ∧ But d H H3) ?_ ?_ ?_
    · exact ⟨[], [], none, rfl, rfl, fun m h => (by cases h), fun pre m post e => by simp at e, ho2, trivial, fun p h => (by cases h), hp2, b02⟩
    rotate_left
    · rintro σ H3 ⟨ps, ms, y, rfl, hl, hok, h1, ho3, hh, hps, hp3, b3⟩
      have hl2 : 1 ≤ ms.length ∧ ms.length ≤ 4 := by omega
      refine ⟨.ref o, rfl, ?_⟩
      exact q o ps ms H3 ⟨fun e => (by rw [e] at hl2; simp at hl2), hl2.2, hok, h1⟩ no ho3 hh (fun p hp => (hps p hp).1) (hp3.up (by omega)) b3
    rintro i σ H3 hi ⟨ps, ms, y, rfl, hl, hok, h1, ho3, hh, hps, hp3, b3⟩
    have hi4 : i < 4 := by omega
    have hpl := hh.len
    -- found.append(_law_move(pen, ['turn'] in found))
    refine ⟨.ref o, rfl, ?_⟩
    refine ⟨.inl ⟨rfl, _, SqL.at ho3⟩, .ref d, rfl, sz (show 1 ≤ 100000 by decide), fun l nl => ?_⟩
    have s4 := same_upd (o := .lst [V.str "turn"]) nl
    have ho4 := s4 _ _ ho3
    have hh4 := hh.same s4
    have hp4 := hp3.same s4
    have hl4 : (upd H3 l (.lst [V.str "turn"])) l = some (.lst [V.str "turn"]) := upd_same
    generalize upd H3 l (.lst [V.str "turn"]) = H4 at s4 ho4 hh4 hp4 hl4 ⊢
    refine ⟨.ref o, rfl, mvL .turn, ms.map mvL, .lst (SqL.at hl4) (dp_strs ["turn"]), .lst (SqL.at ho4) (dp_mvl hh4), shaped_mvl trivial, (shaped_mvls hok).1, ?_⟩
    rw [any_mvl]
    refine ⟨d, c, n + 1 + 20 * i, decide (Mv.turn ∈ ms), rfl, hp4, by omega, fun p m H5 hm ht np hp5' hp5 b5 => ?_⟩
    obtain ⟨kvs, hd4⟩ := hp4.dict
    have b35 : But d H3 H5 := (but_same s4).trans b5
    have np3 : H3 p = none := s4.free np
    have nH : H p = none := b3.free hp3 np3
    have npo : p ≠ o := (ne_of_none ho3 np3).symm
    have ho5 := b5.list hd4 ho4
    have hh5 := HeldL.butd b5 hd4 hh4
    refine ⟨o, _, _, rfl, rfl, ho5, szlt (by rw [List.length_map]; omega), ?_⟩
    refine ⟨ps ++ [p], ms ++ [m], _, rfl, by rw [List.length_append, hl]; rfl, ?_, oneTurn_snoc h1 fun hz => ht (decide_eq_true hz), ?_, ?_, ?_, (hp5.mut do' co).up (by omega), (b3.trans b35).mut no⟩
    · intro x hx
      rcases List.mem_append.mp hx with h | h
      · exact hok x h
      · rw [List.mem_singleton.mp h]
        exact hm
    · rw [upd_same, List.map_append]
      rfl
    · refine HeldL.snoc ?_ (HeldL.mono (fun q hq x hx e => ?_) hh5)
      · rw [upd_ne npo]
        exact hp5'
      · rw [upd_ne (hps q hq).2]
        exact e
    · intro x hx
      rcases List.mem_append.mp hx with h | h
      · exact hps x h
      · rw [List.mem_singleton.mp h]
        exact ⟨nH, npo⟩
theorem tparts_len {m : Mv} (h : m.ok) : ((m.parts).map (·.length)).sum + m.parts.length * (Str.ofString " ").length ≤ 16777216 := by
  have h1 := sum_le (zs := m.parts) fun z hz => (Mv.str_ok h z hz).2.1
  have h2 : m.parts.length ≤ 4 := by cases m <;> simp [Mv.parts]
  have h3 : (Str.ofString " ").length = 1 := by decide +kernel
  rw [h3]
  omega
theorem sum_leB {B : Nat} : ∀ {zs : List Str}, (∀ z ∈ zs, z.length ≤ B) → (zs.map (·.length)).sum ≤ zs.length * B
  | [], _ => by simp
  | z :: r, h => by
    have h1 := h z (List.mem_cons_self ..)
    have h2 := sum_leB (zs := r) fun y hy => h y (List.mem_cons_of_mem _ hy)
    rw [List.map_cons, List.sum_cons, List.length_cons, Nat.add_mul]
    omega
def spWordText (K : PySem.W.Frag) : Sp := fun vs H Q _ => ∃ (o : Addr) (ps : List Addr) (ms : List Mv), vs = [.ref o] ∧ SqL K H o (ps.map V.ref) ∧ HeldL H ps ms ∧ ms.length ≤ 4 ∧ (∀ m ∈ ms, m.ok) ∧ ∀ H', Same H H' → Q (.str (wtext ms)) H'
theorem ok__law_word_text (T : Tx w K mg a) : FnOk P w K mg base CX0 1 a.f__law_word_text a.d__law_word_text ["moves"] (spWordText K) := by
  refine T.F__law_word_text.ok sc__law_word_text (fun vs H Q E h => ?_) (fun cdv A outer s H vs Q E hr h => ?_)
  · obtain ⟨o, ps, ms, rfl, _⟩ := h
    rfl
  · obtain ⟨o, ps, ms, rfl, hO, hh, hl, hok, q⟩ := h
    refine ⟨_, 
(pss_one (ps_ret (pe_join pe_str (pe_lc (own := [("move", 1)]) (g := gName 1) rfl sc__law_word_text.nd (pi_list (pv 0)) (blkOk_by (own := [("move", 1)]) (N := ["moves", "move"]) (sc := defScope s__law_word_text) (by decide +kernel)) (fun _ _ _ _ _ => pg_name (i := 1) sc__law_word_text.nd rfl (Or.inl rfl)) (fun _ _ _ _ _ => pts_nil) (fun _ _ _ _ _ => (pe_joinK (K := K) rfl pe_str (pv 1))))))), ?_⟩
    refine ⟨⟨_, rfl⟩, .ref o, rfl, o, rfl, ⟨_, hO⟩, fun o5 no5 => ?_⟩
    have hpl := hh.len
    refine lc_it (walk_list (xs := ps.map V.ref)) (fun l H' => Same H H' ∧ H' o5 = some (.lst (((ms.take l).map fun m => Txt.join " " m.parts).map V.str))) ?c0 ?cG ?cs ?cd
    case c0 => exact ⟨same_upd no5, upd_same⟩
    case cG =>
      rintro l H' _ ⟨sm, _⟩
      exact sm.seq hO
    case cs =>
      rintro l y H3' H4'' hlt ⟨sm, e⟩ ⟨rfl, ex⟩
      rw [List.length_map, hpl] at hlt
      obtain ⟨p, hp, ep⟩ := hh.get (List.getElem?_eq_getElem hlt)
      rw [List.getElem?_map, hp] at ex
      cases ex
      refine ⟨rfl, ⟨_, rfl⟩, .ref p, rfl, " ", p, ms[l].parts, rfl, rfl, .inl (SqL.at (sm _ _ ep)), tparts_len (hok _ (List.getElem_mem hlt)), ?_⟩
      refine ⟨_, e, ?_, keep_upd sm no5, ?_⟩
      · rw [List.length_map, List.length_map, List.length_take]
        exact szlt (by omega)
      · rw [upd_same, List.take_add_one, List.getElem?_eq_getElem hlt, List.map_append, List.map_append]
        rfl
    rintro H19 ⟨s19, e19⟩
    rw [List.length_map, hpl, List.take_length] at e19
    refine ⟨" then ", o5, ms.map fun m => Txt.join " " m.parts, rfl, rfl, .inl (SqL.at e19), ?_, ?_⟩
    · have hb : ∀ z ∈ ms.map fun m => Txt.join " " m.parts, z.length ≤ 404 := by
        intro z hz
        obtain ⟨m, hm, rfl⟩ := List.mem_map.mp hz
        have h1 := join_len (zs := m.parts) fun z hz => (Mv.str_ok (hok m hm) z hz).2.1
        have h2 : m.parts.length ≤ 4 := by cases m <;> simp [Mv.parts]
        omega
      have h1 := sum_leB hb
      have h2 : (Str.ofString " then ").length = 6 := by decide +kernel
      rw [h2]
      rw [List.length_map] at h1 ⊢
      omega
    · rw [join_wtext]
      exact q _ s19
def spAllMoved (K : PySem.W.Frag) : Sp := fun vs H Q _ => ∃ (p o : Addr) (ps : List Addr) (ms : List Mv) (xs : List Int), vs = [.ref p, .ref o] ∧ SqL K H p (xs.map V.int) ∧ SqL K H o (ps.map V.ref) ∧ HeldL H ps ms ∧ (∀ m ∈ ms, m.ok) ∧ xs.length ≤ 100000 ∧
  ∀ r H', H r = none → H' r = some (.lst ((allF ms xs).map V.int)) → Same H H' → Q (.ref r) H'
theorem ok__law_all_moved (T : Tx w K mg a) : FnOk P w K mg base CX0 3 a.f__law_all_moved a.d__law_all_moved ["row", "moves"] (spAllMoved K) := by
  refine T.F__law_all_moved.ok sc__law_all_moved (fun vs H Q E h => ?_) (fun cdv A outer s H vs Q E hr h => ?_)
  · obtain ⟨p, o, ps, ms, xs, rfl, _⟩ := h
    rfl
  · obtain ⟨p, o, ps, ms, xs, rfl, hP, hO, hh, hok, hl, q⟩ := h
    refine ⟨_, 
(pss_cons (ps_set (i := 2) sc__law_all_moved.nd rfl (.inl rfl) (pe_callTy call_list_of (by rfl) T.z_list (by decide +kernel) (pa_cons (pv 0) pa_nil)))
  (pss_cons (ps_for PassesOwn.never rfl (pi_list (pv 1)) (pg_name (i := 3) sc__law_all_moved.nd rfl (.inl rfl))
  (pss_one (ps_set (i := 2) sc__law_all_moved.nd rfl (.inl rfl) (pe_call (ok__law_moved T) hr (by rfl) T.m__law_moved T.F__law_moved.kp T.b__law_moved .nil pass0 (pa_cons (pv 2) (pa_cons (pv 3) pa_nil))))))
  (pss_one (ps_ret (pv 2))))), ?_⟩
    have hpl := hh.len
    refine ⟨.ref p, rfl, ?_⟩
    refine ⟨p, _, rfl, .inl hP, fun r nr => ?_⟩
    have s1 := same_upd (o := .lst (xs.map V.int)) nr
    refine ⟨.ref o, rfl, o, rfl, ⟨_, s1.seq hO⟩, ?_⟩
    refine for_it (walk_list (xs := ps.map V.ref)) (fun i σ H3 => ∃ r y3, σ = [some (.ref p), some (.ref o), some (.ref r), y3] ∧ Same H H3 ∧ H r = none ∧ H3 r = some (.lst ((allF (ms.take i) xs).map V.int))) ?h0 ?hG ?hs ?hd
    case h0 => exact ⟨r, none, rfl, s1, nr, upd_same⟩
    case hG =>
      rintro i σ H3 hi ⟨r, y3, rfl, s3, _, _⟩
      exact s3.seq hO
    case hd =>
      rintro σ H3 ⟨r, y3, rfl, s3, nr, hr3⟩
      rw [List.length_map, hpl, List.take_length] at hr3
      exact ⟨_, rfl, q r H3 nr hr3 s3⟩
    case hs =>
      rintro i v σ H3 H4 hi ⟨r, y3, rfl, s3, nr, hr3⟩ ⟨rfl, ev⟩
      rw [List.length_map, hpl] at hi
      obtain ⟨x, hx, hxt⟩ := hh.get (List.getElem?_eq_getElem hi)
      rw [List.getElem?_map, hx] at ev
      cases ev
      refine ⟨.ref r, rfl, .ref x, rfl, r, x, _, ms[i], rfl, SqL.at hr3, SqL.at (s3 _ _ hxt), hok _ (List.getElem_mem hi), by rw [allF_len]; omega, fun o2 H5 no2 eo2 s5 => ?_⟩
      refine ⟨o2, _, rfl, s3.trans s5, s3.free no2, ?_⟩
      rw [eo2, List.take_add_one, List.getElem?_eq_getElem hi]
      show some (HO.lst ((mvF ms[i] (allF (ms.take i) xs)).map V.int)) = some (HO.lst ((allF (ms.take i ++ [ms[i]]) xs).map V.int))
      rw [all_snoc]
end

/-! ### pieces of rearrangements that are told by runs -/
structure Pc where
  s : Int
  l : Int
  g : Int
  w : Int
/-- the pieces stand one behind the other, from lo to hi -/
def Chain : Int → Int → List Pc → Prop
  | lo, hi, [] => lo = hi
  | lo, hi, p :: r => p.s = lo ∧ 1 ≤ p.l ∧ (p.w = 1 ∨ p.w = -1) ∧ Chain (lo + p.l) hi r
/-- where place j comes from -/
def valP : List Pc → Int → Int
  | [], j => j
  | p :: r, j => if j < p.s + p.l then p.g + p.w * (j - p.s) else valP r j
theorem Chain.le : ∀ {r : List Pc} {lo hi : Int}, Chain lo hi r → lo ≤ hi
  | [], _, _, h => by
    have h : _ = _ := h
    omega
  | p :: r, _, _, h => by
    obtain ⟨_, h2, _, h4⟩ := h
    have := h4.le
    omega
theorem Chain.append : ∀ {r q : List Pc} {lo mi hi : Int}, Chain lo mi r → Chain mi hi q → Chain lo hi (r ++ q)
  | [], _, _, _, _, h, k => by
    have h : _ = _ := h
    subst h
    exact k
  | p :: r, q, _, _, _, ⟨h1, h2, h3, h4⟩, k => ⟨h1, h2, h3, h4.append k⟩
theorem Chain.split : ∀ {r q : List Pc} {lo hi : Int}, Chain lo hi (r ++ q) → ∃ mi, Chain lo mi r ∧ Chain mi hi q
  | [], _, _, _, h => ⟨_, rfl, h⟩
  | p :: r, q, _, _, ⟨h1, h2, h3, h4⟩ => by
    obtain ⟨mi, k1, k2⟩ := Chain.split (r := r) h4
    exact ⟨mi, ⟨h1, h2, h3, k1⟩, k2⟩
theorem val_left : ∀ {r q : List Pc} {lo mi : Int} {j : Int}, Chain lo mi r → j < mi → lo ≤ j → valP (r ++ q) j = valP r j
  | [], _, _, _, _, h, k1, k2 => by
    have h : _ = _ := h
    omega
  | p :: r, q, _, _, j, ⟨h1, h2, h3, h4⟩, k1, k2 => by
    show (if j < p.s + p.l then _ else valP (r ++ q) j) = if j < p.s + p.l then _ else valP r j
    split
    · rfl
    · exact val_left h4 k1 (by omega)
theorem val_right : ∀ {r q : List Pc} {lo mi : Int} {j : Int}, Chain lo mi r → mi ≤ j → valP (r ++ q) j = valP q j
  | [], _, _, _, _, _, _ => rfl
  | p :: r, q, _, _, j, ⟨h1, h2, h3, h4⟩, k => by
    have := h4.le
    show (if j < p.s + p.l then _ else valP (r ++ q) j) = _
    rw [if_neg (by omega)]
    exact val_right h4 k
/-- the way in which `other` goes on behind `run`, or 0 -/
def okW (p : Pc) (w : Int) : Bool := decide (p.l = 1) || decide (p.w = w)
def cwF (p q : Pc) : Int :=
  if (okW p 1 && okW q 1) = true ∧ q.g = p.g + 1 * p.l then 1
  else if (okW p (-1) && okW q (-1)) = true ∧ q.g = p.g + -1 * p.l then -1 else 0
def norm (p : Pc) : Pc := ⟨p.s, p.l, p.g, if p.l = 1 then 1 else p.w⟩
def addP (rows : List Pc) (p : Pc) : List Pc := match rows.getLast? with
  | none => rows ++ [norm p]
  | some q => if cwF q (norm p) = 0 then rows ++ [norm p] else rows.dropLast ++ [⟨q.s, q.l + p.l, q.g, cwF q (norm p)⟩]
def oneF (ps : List Pc) : List Pc := ps.foldl addP []
theorem add_none {p : Pc} : addP [] p = [norm p] := rfl
theorem add_some {rows : List Pc} {q p : Pc} : addP (rows ++ [q]) p = if cwF q (norm p) = 0 then rows ++ [q] ++ [norm p] else rows ++ [⟨q.s, q.l + p.l, q.g, cwF q (norm p)⟩] := by
  unfold addP
  rw [List.getLast?_concat]
  dsimp only
  rw [List.dropLast_concat]
theorem norm_val {p : Pc} {j : Int} (h1 : p.s ≤ j) (h2 : j < p.s + p.l) : (norm p).g + (norm p).w * (j - (norm p).s) = p.g + p.w * (j - p.s) := by
  show p.g + (if p.l = 1 then 1 else p.w) * (j - p.s) = _
  split
  · rename_i h
    have : j - p.s = 0 := by omega
    rw [this]
    omega
  · rfl
theorem norm_way {p : Pc} (h : p.w = 1 ∨ p.w = -1) : (norm p).w = 1 ∨ (norm p).w = -1 := by
  show (if p.l = 1 then (1 : Int) else p.w) = 1 ∨ (if p.l = 1 then (1 : Int) else p.w) = -1
  split
  · exact .inl rfl
  · exact h
theorem cw_cases (p q : Pc) : cwF p q = 0 ∨ ((cwF p q = 1 ∨ cwF p q = -1) ∧ (p.l = 1 ∨ p.w = cwF p q) ∧ (q.l = 1 ∨ q.w = cwF p q) ∧ q.g = p.g + cwF p q * p.l) := by
  unfold cwF
  split
  · rename_i h
    obtain ⟨h1, h2⟩ := h
    simp only [okW, Bool.and_eq_true, Bool.or_eq_true, decide_eq_true_eq] at h1
    exact .inr ⟨.inl rfl, h1.1, h1.2, h2⟩
  · split
    · rename_i h
      obtain ⟨h1, h2⟩ := h
      simp only [okW, Bool.and_eq_true, Bool.or_eq_true, decide_eq_true_eq] at h1
      exact .inr ⟨.inr rfl, h1.1, h1.2, h2⟩
    · exact .inl rfl
theorem single {lo hi : Int} {p : Pc} (h : Chain lo hi [p]) : p.s = lo ∧ 1 ≤ p.l ∧ (p.w = 1 ∨ p.w = -1) ∧ lo + p.l = hi := h
theorem add_ok {rows : List Pc} {lo mi : Int} {p : Pc} (h : Chain lo mi rows) (hp : p.s = mi) (hl : 1 ≤ p.l) (hw : p.w = 1 ∨ p.w = -1) :
    Chain lo (mi + p.l) (addP rows p) ∧ ∀ j, lo ≤ j → j < mi + p.l → valP (addP rows p) j = valP (rows ++ [p]) j := by
  have one : Chain mi (mi + p.l) [norm p] := ⟨hp, hl, norm_way hw, rfl⟩
  have vone : ∀ j, mi ≤ j → j < mi + p.l → valP [norm p] j = valP [p] j := fun j h1 h2 => by
    show (if j < p.s + p.l then _ else j) = if j < p.s + p.l then _ else j
    rw [if_pos (by omega), if_pos (by omega)]
    exact norm_val (by omega) (by omega)
  have plain : Chain lo (mi + p.l) (rows ++ [norm p]) ∧ ∀ j, lo ≤ j → j < mi + p.l → valP (rows ++ [norm p]) j = valP (rows ++ [p]) j := by
    refine ⟨h.append one, fun j h1 h2 => ?_⟩
    by_cases c : j < mi
    · rw [val_left h c h1, val_left h c h1]
    · rw [val_right h (by omega), val_right h (by omega)]
      exact vone j (by omega) h2
  rcases List.eq_nil_or_concat rows with rfl | ⟨rs, q, rfl⟩
  · exact plain
  · rw [List.concat_eq_append] at h plain ⊢
    rw [add_some]
    rcases cw_cases q (norm p) with c | ⟨c1, c2, c3, c4⟩
    · rw [if_pos c]
      exact plain
    · have c0 : cwF q (norm p) ≠ 0 := by rcases c1 with c | c <;> omega
      rw [if_neg c0]
      generalize cwF q (norm p) = cw at c0 c1 c2 c3 c4 ⊢
      obtain ⟨k, h1, h2⟩ := h.split
      obtain ⟨q1, q2, q3, q4⟩ := single h2
      have c4 : p.g = q.g + cw * q.l := c4
      have c3 : p.l = 1 ∨ (if p.l = 1 then (1 : Int) else p.w) = cw := c3
      have nw : Chain k (mi + p.l) [⟨q.s, q.l + p.l, q.g, cw⟩] := ⟨q1, by show 1 ≤ q.l + p.l; omega, c1, by show k + (q.l + p.l) = _; omega⟩
      refine ⟨h1.append nw, fun j j1 j2 => ?_⟩
      rw [List.append_assoc]
      by_cases c : j < k
      · rw [val_left h1 c j1, val_left h1 c j1]
      · rw [val_right h1 (by omega), val_right h1 (by omega)]
        show (if j < q.s + (q.l + p.l) then q.g + cw * (j - q.s) else j) = if j < q.s + q.l then q.g + q.w * (j - q.s) else (if j < p.s + p.l then p.g + p.w * (j - p.s) else j)
        rw [if_pos (by omega)]
        by_cases d : j < q.s + q.l
        · rw [if_pos d]
          rcases c2 with c2 | c2
          · have : j - q.s = 0 := by omega
            rw [this, Int.mul_zero, Int.mul_zero]
          · rw [c2]
        · rw [if_neg d, if_pos (by omega), c4]
          have e : cw * (j - q.s) = cw * q.l + cw * (j - p.s) := by
            rw [← Int.mul_add]
            congr 1
            omega
          rw [e]
          rcases c3 with c3 | c3
          · have : j - p.s = 0 := by omega
            rw [this, Int.mul_zero, Int.mul_zero]
            omega
          · by_cases l1 : p.l = 1
            · have : j - p.s = 0 := by omega
              rw [this, Int.mul_zero, Int.mul_zero]
              omega
            · rw [if_neg l1] at c3
              rw [c3]
              omega
theorem fold_ok : ∀ {ps : List Pc} {rows : List Pc} {lo mi hi : Int}, Chain lo mi rows → Chain mi hi ps → Chain lo hi (ps.foldl addP rows) ∧ ∀ j, lo ≤ j → j < hi → valP (ps.foldl addP rows) j = valP (rows ++ ps) j
  | [], rows, lo, mi, hi, h, k => by
    have k : mi = hi := k
    subst k
    rw [List.append_nil]
    exact ⟨h, fun _ _ _ => rfl⟩
  | p :: r, rows, lo, mi, hi, h, ⟨k1, k2, k3, k4⟩ => by
    obtain ⟨a1, a2⟩ := add_ok h k1 k2 k3
    obtain ⟨b1, b2⟩ := fold_ok a1 k4
    refine ⟨b1, fun j j1 j2 => ?_⟩
    show valP (r.foldl addP (addP rows p)) j = _
    rw [b2 j j1 j2]
    have hc : Chain mi (mi + p.l) [p] := ⟨k1, k2, k3, rfl⟩
    by_cases c : j < mi + p.l
    · rw [val_left a1 c j1, a2 j j1 c, show rows ++ p :: r = (rows ++ [p]) ++ r by simp, val_left (h.append hc) c j1]
    · rw [val_right a1 (by omega), show rows ++ p :: r = (rows ++ [p]) ++ r by simp, val_right (h.append hc) (by omega)]
theorem oneF_ok {ps : List Pc} {n : Int} (h : Chain 0 n ps) : Chain 0 n (oneF ps) ∧ ∀ j, 0 ≤ j → j < n → valP (oneF ps) j = valP ps j := by
  obtain ⟨a, b⟩ := fold_ok (rows := []) (lo := 0) (mi := 0) rfl h
  exact ⟨a, b⟩
theorem add_len (rows : List Pc) (p : Pc) : (addP rows p).length ≤ rows.length + 1 := by
  rcases List.eq_nil_or_concat rows with rfl | ⟨rs, q, rfl⟩
  · exact Nat.le_refl 1
  · rw [List.concat_eq_append, add_some]
    split <;> simp
theorem fold_len : ∀ (ps rows : List Pc), (ps.foldl addP rows).length ≤ rows.length + ps.length
  | [], rows => Nat.le_refl _
  | p :: r, rows => by
    have h1 := add_len rows p
    have h2 := fold_len r (addP rows p)
    show (r.foldl addP (addP rows p)).length ≤ rows.length + (r.length + 1)
    omega
/-- the piece with a place is found by halving -/
theorem chain_sorted : ∀ {r : List Pc} {lo hi : Int}, Chain lo hi r → ∀ {i k : Nat} {p q : Pc}, r[i]? = some p → r[k]? = some q → i < k → p.s + p.l ≤ q.s
  | p :: r, lo, hi, ⟨h1, h2, h3, h4⟩, 0, k + 1, x, y, hx, hy, _ => by
    cases hx
    have ge : ∀ {r : List Pc} {lo hi : Int}, Chain lo hi r → ∀ {k : Nat} {y : Pc}, r[k]? = some y → lo ≤ y.s := fun {r} => by
      induction r with
      | nil => intro lo hi _ k y hy; simp at hy
      | cons a b ih =>
        rintro lo hi ⟨g1, g2, g3, g4⟩ k y hy
        cases k with
        | zero =>
          cases hy
          omega
        | succ k =>
          have := ih g4 (k := k) (y := y) (by simpa using hy)
          omega
    have := ge h4 (k := k) (y := y) (by simpa using hy)
    omega
  | p :: r, lo, hi, ⟨h1, h2, h3, h4⟩, i + 1, k + 1, x, y, hx, hy, hik => chain_sorted h4 (i := i) (k := k) (by simpa using hx) (by simpa using hy) (by omega)
theorem val_at : ∀ {r : List Pc} {lo hi : Int}, Chain lo hi r → ∀ {i : Nat} {p : Pc} {j : Int}, r[i]? = some p → p.s ≤ j → (∀ q, r[i + 1]? = some q → j < q.s) → j < hi → valP r j = p.g + p.w * (j - p.s)
  | p :: r, lo, hi, ⟨h1, h2, h3, h4⟩, 0, x, j, hx, k1, k2, k3 => by
    cases hx
    show (if j < p.s + p.l then _ else valP r j) = _
    rw [if_pos]
    cases r with
    | nil =>
      have h4 : lo + p.l = hi := h4
      omega
    | cons q r =>
      have := k2 q rfl
      have := h4.1
      omega
  | p :: r, lo, hi, h, i + 1, x, j, hx, k1, k2, k3 => by
    have := chain_sorted h (i := 0) (k := i + 1) rfl hx (by omega)
    show (if j < p.s + p.l then _ else valP r j) = _
    rw [if_neg (by omega)]
    exact val_at h.2.2.2 (i := i) (by simpa using hx) k1 (fun q hq => k2 q (by simpa using hq)) k3
theorem chain_way : ∀ {r : List Pc} {lo hi : Int}, Chain lo hi r → ∀ {i : Nat} {p : Pc}, r[i]? = some p → p.w = 1 ∨ p.w = -1
  | q :: r, lo, hi, h, 0, x, hx => by
    cases hx
    exact h.2.2.1
  | q :: r, lo, hi, h, i + 1, x, hx => chain_way h.2.2.2 (i := i) (by simpa using hx)
/-- pieces that may be empty -/
def WCh : Int → Int → List Pc → Prop
  | lo, hi, [] => lo = hi
  | lo, hi, p :: r => p.s = lo ∧ 0 ≤ p.l ∧ (p.w = 1 ∨ p.w = -1) ∧ WCh (lo + p.l) hi r
theorem filt_ok : ∀ {r : List Pc} {lo hi : Int}, WCh lo hi r → Chain lo hi (r.filter fun p => decide (0 < p.l)) ∧ ∀ j, lo ≤ j → valP (r.filter fun p => decide (0 < p.l)) j = valP r j
  | [], lo, hi, h => ⟨h, fun _ _ => rfl⟩
  | p :: r, lo, hi, ⟨h1, h2, h3, h4⟩ => by
    obtain ⟨a, b⟩ := filt_ok h4
    by_cases c : 0 < p.l
    · rw [List.filter_cons_of_pos (by simpa using c)]
      refine ⟨⟨h1, by omega, h3, a⟩, fun j hj => ?_⟩
      show (if j < p.s + p.l then _ else valP (r.filter _) j) = if j < p.s + p.l then _ else valP r j
      split
      · rfl
      · exact b j (by omega)
    · rw [List.filter_cons_of_neg (by simpa using c)]
      have l0 : p.l = 0 := by omega
      rw [l0, Int.add_zero] at a b
      refine ⟨a, fun j hj => ?_⟩
      show valP (r.filter _) j = if j < p.s + p.l then _ else valP r j
      rw [if_neg (by omega)]
      exact b j hj

/-! ### pieces in the heap; the way, the form, the place of a run -/
def pcV (p : Pc) : List V := [.int p.s, .int p.l, .int p.g, .int p.w]
def PcsH (H : Hp) : List Addr → List Pc → Prop
  | [], [] => True
  | r :: rs, p :: ps => H r = some (.tup (pcV p)) ∧ PcsH H rs ps
  | _, _ => False
theorem PcsH.len {H : Hp} : ∀ {rs : List Addr} {ps : List Pc}, PcsH H rs ps → rs.length = ps.length
  | [], [], _ => rfl
  | _ :: _, _ :: _, h => congrArg (· + 1) h.2.len
theorem PcsH.mono {H H' : Hp} (e : ∀ b o, H b = some o → (∃ xs, o = .tup xs) → H' b = some o) : ∀ {rs : List Addr} {ps : List Pc}, PcsH H rs ps → PcsH H' rs ps
  | [], [], _ => trivial
  | _ :: _, _ :: _, h => ⟨e _ _ h.1 ⟨_, rfl⟩, PcsH.mono e h.2⟩
theorem PcsH.same {H H' : Hp} {rs : List Addr} {ps : List Pc} (h : PcsH H rs ps) (e : Same H H') : PcsH H' rs ps := h.mono fun b o x _ => e b o x
theorem PcsH.snoc {H : Hp} {r : Addr} {p : Pc} (e : H r = some (.tup (pcV p))) : ∀ {rs : List Addr} {ps : List Pc}, PcsH H rs ps → PcsH H (rs ++ [r]) (ps ++ [p])
  | [], [], _ => ⟨e, trivial⟩
  | _ :: _, _ :: _, h => ⟨h.1, PcsH.snoc e h.2⟩
theorem PcsH.get {H : Hp} : ∀ {rs : List Addr} {ps : List Pc}, PcsH H rs ps → ∀ {i : Nat} {p : Pc}, ps[i]? = some p → ∃ r, rs[i]? = some r ∧ H r = some (.tup (pcV p))
  | [], [], _, i, p, h => by simp at h
  | r :: rs, q :: ps, hh, 0, p, h => by
    cases h
    exact ⟨r, rfl, hh.1⟩
  | r :: rs, q :: ps, hh, i + 1, p, h => by
    obtain ⟨x, hx, hy⟩ := PcsH.get hh.2 (i := i) (p := p) (by simpa using h)
    exact ⟨x, by simpa using hx, hy⟩
theorem PcsH.unsnoc {H : Hp} : ∀ {rs : List Addr} {ps : List Pc} {q : Pc}, PcsH H rs (ps ++ [q]) → ∃ rs' r, rs = rs' ++ [r] ∧ PcsH H rs' ps ∧ H r = some (.tup (pcV q))
  | [], [], q, h => h.elim
  | [], p :: ps, q, h => h.elim
  | r :: rs, [], q, h => by
    obtain ⟨h1, h2⟩ := h
    cases rs with
    | nil => exact ⟨[], r, rfl, trivial, h1⟩
    | cons a b => exact h2.elim
  | r :: rs, p :: ps, q, h => by
    obtain ⟨h1, h2⟩ := h
    obtain ⟨rs', r', rfl, a, b⟩ := PcsH.unsnoc (ps := ps) h2
    exact ⟨r :: rs', r', rfl, ⟨h1, a⟩, b⟩
section
variable {P : Program} {w : World} {K : PySem.W.Frag} {mg : Str → Option Value} {base : Heap} {a : Ad}
def spGoalOf : Sp := fun vs H Q _ => ∃ (r : Addr) (p : Pc) (j : Int), vs = [.ref r, .int j] ∧ H r = some (.tup (pcV p)) ∧ (p.w = 1 ∨ p.w = -1) ∧ Q (.int (p.g + p.w * (j - p.s))) H
theorem ok_goal_of (T : Tx w K mg a) : FnOk P w K mg base CX0 1 a.f_goal_of a.d_goal_of ["run", "place"] spGoalOf := by
  refine T.F_goal_of.ok sc_goal_of (fun vs H Q E h => ?_) (fun cdv A outer s H vs Q E hr h => ?_)
  · obtain ⟨r, p, j, rfl, _⟩ := h
    rfl
  · obtain ⟨r, p, j, rfl, hr, hw, q⟩ := h
    refine ⟨_, 
(pss_one (ps_ret (pe_op op_add (pe_ix ix_tup (pv 0) pe_int (fun _ _ => rfl)) (pe_op op_mul (pe_ix ix_tup (pv 0) pe_int (fun _ _ => rfl)) (pe_op op_sub (pv 1) (pe_ix ix_tup (pv 0) pe_int (fun _ _ => rfl))))))), ?_⟩
    refine ⟨_, rfl, r, pcV p, 2, _, rfl, rfl, SqT.at hr, rfl, _, rfl, r, pcV p, 3, _, rfl, rfl, SqT.at hr, rfl, _, rfl, _, rfl, r, pcV p, 0, _, rfl, rfl, SqT.at hr, rfl, _, _, rfl, rfl, _, _, rfl, rfl, .inl ?_, _, _, rfl, rfl, q⟩
    rcases hw with h | h <;> rw [h] <;> decide
def spCommonWay : Sp := fun vs H Q _ => ∃ (r o : Addr) (p q : Pc), vs = [.ref r, .ref o] ∧ H r = some (.tup (pcV p)) ∧ H o = some (.tup (pcV q)) ∧ ∀ H', Same H H' → Q (.int (cwF p q)) H'
theorem ok_common_way (T : Tx w K mg a) : FnOk P w K mg base CX0 1 a.f_common_way a.d_common_way ["run", "other"] spCommonWay := by
  refine T.F_common_way.ok sc_common_way (fun vs H Q E h => ?_) (fun cdv A outer s H vs Q E hr h => ?_)
  · obtain ⟨r, o, p, q, rfl, _⟩ := h
    rfl
  · obtain ⟨r, o, p, q, rfl, hr, ho, k⟩ := h
    refine ⟨_, 
(pss_cons (ps_for PassesOwn.never rfl (pi_tup (pe_tup (pa_cons pe_int (pa_cons (pe_un un_neg pe_int) pa_nil)))) (pg_name (i := 2) sc_common_way.nd rfl (.inl rfl))
  (pss_one (ps_if (PW.pt (pw_and (PW.pt (pw_or (pt_cmpR op_eq (pe_ix ix_tup (pv 0) pe_int (fun _ _ => rfl)) pe_int (nomark _)) (pw_or1 (pt_cmpR op_eq (pe_ix ix_tup (pv 0) pe_int (fun _ _ => rfl)) (pv 2) (nomark _))))) (pw_and1 (PW.pt (pw_or (pt_cmpR op_eq (pe_ix ix_tup (pv 1) pe_int (fun _ _ => rfl)) pe_int (nomark _)) (pw_or1 (pt_cmpR op_eq (pe_ix ix_tup (pv 1) pe_int (fun _ _ => rfl)) (pv 2) (nomark _))))))))
  (pss_one (ps_if (pt_cmpR op_eq (pe_ix ix_tup (pv 1) pe_int (fun _ _ => rfl)) (pe_op op_add (pe_ix ix_tup (pv 0) pe_int (fun _ _ => rfl)) (pe_op op_mul (pv 2) (pe_ix ix_tup (pv 0) pe_int (fun _ _ => rfl)))) (nomark _))
  (pss_one (ps_ret (pv 2)))
  pss_nil))
  pss_nil)))
  (pss_one (ps_ret pe_int))), ?_⟩
    refine ⟨1, rfl, sz (show 2 ≤ 100000 by decide), fun t nt => ?_⟩
    have s1 := same_upd (o := .tup [.int 1, .int (-1)]) nt
    have e1 : (upd H t (.tup [.int 1, .int (-1)])) t = some (.tup [.int 1, .int (-1)]) := upd_same
    refine ⟨t, rfl, ⟨_, SqT.at e1⟩, ?_⟩
    change ∃ W : Nat → Nat → L2.St → Hp → Prop, (∃ m, W 0 m _ (upd H t (.tup [.int 1, .int (-1)]))) ∧ _
    generalize upd H t (.tup [.int 1, .int (-1)]) = H1 at s1 e1 ⊢
    have orT : ∀ (v : Int) (i : Nat) (x : Addr) (u : Pc) (σ : L2.St) (H' : Hp) (Qb : Bool → Hp → Prop), σ[i]? = some (some (.ref x)) → σ[2]? = some (some (.int v)) → H' x = some (.tup (pcV u)) → Qb (okW u v) H' →
        tOr (tTest (tOp rEq (tOp (rIxT K) (tVar i) (tC (.int 1))) (tC (.int 1)))) (tTest (tOp rEq (tOp (rIxT K) (tVar i) (tC (.int 3))) (tVar 2))) σ H' Qb := fun v i x u σ H' Qb e2 e3 e4 k => by
      refine ⟨_, e2, x, pcV u, 1, _, rfl, rfl, SqT.at e4, rfl, rfl, _, rfl, ?_⟩
      by_cases h1 : u.l = 1
      · rw [decide_eq_true (show V.int u.l = V.int 1 by rw [h1])]
        have : okW u v = true := by
          unfold okW
          rw [decide_eq_true h1]
          rfl
        rw [this] at k
        exact iteT k
      · rw [decide_eq_false (show ¬ V.int u.l = V.int 1 from fun z => h1 (V.int.inj z))]
        refine iteF ⟨_, e2, x, pcV u, 3, _, rfl, rfl, SqT.at e4, rfl, _, e3, rfl, _, rfl, ?_⟩
        have : okW u v = decide (V.int u.w = V.int v) := by
          unfold okW
          rw [decide_eq_false h1, Bool.false_or]
          exact decide_eq_decide.mpr ⟨fun h => by rw [h], fun h => V.int.inj h⟩
        rw [this] at k
        exact k
    refine for_it (walk_tup (xs := [V.int 1, .int (-1)])) (fun j σ H' => ∃ y2, σ = [some (.ref r), some (.ref o), y2] ∧ Same H1 H' ∧ (0 < j → ¬ ((okW p 1 && okW q 1) = true ∧ q.g = p.g + 1 * p.l)) ∧ (1 < j → ¬ ((okW p (-1) && okW q (-1)) = true ∧ q.g = p.g + -1 * p.l))) ?g0 ?gG ?gs ?gd
    case g0 => exact ⟨none, rfl, Same.refl _, fun h => absurd h (by decide), fun h => absurd h (by decide)⟩
    case gG =>
      rintro j σ H' _ ⟨_, _, sm, _⟩
      exact (SqT.at (sm _ _ e1))
    case gs =>
      rintro j y σ H3 H4 hj ⟨y2, rfl, sm, n1, n2⟩ ⟨rfl, ex⟩
      obtain ⟨v, rfl, hv1, hy, hn⟩ : ∃ v : Int, y = .int v ∧ (v = 1 ∨ v = -1) ∧ (((okW p v && okW q v) = true ∧ q.g = p.g + v * p.l) → cwF p q = v) ∧ (¬ ((okW p v && okW q v) = true ∧ q.g = p.g + v * p.l) → (0 < j + 1 → ¬ ((okW p 1 && okW q 1) = true ∧ q.g = p.g + 1 * p.l)) ∧ (1 < j + 1 → ¬ ((okW p (-1) && okW q (-1)) = true ∧ q.g = p.g + -1 * p.l))) := by
        have hj : j < 2 := hj
        match j, hj, ex, n1, n2 with
        | 0, _, ex, _, _ =>
          cases ex
          refine ⟨1, rfl, .inl rfl, fun h => ?_, fun h => ⟨fun _ => h, fun z => absurd z (by decide)⟩⟩
          unfold cwF
          rw [if_pos h]
        | 1, _, ex, n1, _ =>
          cases ex
          refine ⟨-1, rfl, .inr rfl, fun h => ?_, fun h => ⟨fun _ => n1 (by decide), fun _ => h⟩⟩
          unfold cwF
          rw [if_neg (n1 (by decide)), if_pos h]
      have hr4 := sm _ _ (s1 _ _ hr)
      have ho4 := sm _ _ (s1 _ _ ho)
      refine orT v 0 r p _ _ _ rfl rfl hr4 ?_
      cases hA : okW p v with
      | false => exact iteF (iteF ⟨_, rfl, sm, hn (by rw [hA]; exact fun z => Bool.noConfusion z.1)⟩)
      | true =>
        refine iteT (orT v 1 o q _ _ _ rfl rfl ho4 ?_)
        cases hB : okW q v with
        | false => exact iteF ⟨_, rfl, sm, hn (by rw [hA, hB]; exact fun z => Bool.noConfusion z.1)⟩
        | true =>
          refine iteT ⟨_, rfl, o, pcV q, 2, _, rfl, rfl, SqT.at ho4, rfl, _, rfl, r, pcV p, 2, _, rfl, rfl, SqT.at hr4, rfl, _, rfl, _, rfl, r, pcV p, 1, _, rfl, rfl, SqT.at hr4, rfl, _, _, rfl, rfl, .inl (by rcases hv1 with h | h <;> rw [h] <;> decide), _, _, rfl, rfl, rfl, _, rfl, ?_⟩
          by_cases hg : q.g = p.g + v * p.l
          · rw [decide_eq_true (show V.int q.g = V.int (p.g + v * p.l) by rw [← hg])]
            have e := hy ⟨by rw [hA, hB]; rfl, hg⟩
            have z := k _ (s1.trans sm)
            rw [e] at z
            exact iteT ⟨_, rfl, z⟩
          · rw [decide_eq_false (show ¬ V.int q.g = V.int (p.g + v * p.l) from fun z => hg (V.int.inj z))]
            exact iteF ⟨_, rfl, sm, hn fun z => hg z.2⟩
    case gd =>
      rintro σ H' ⟨y2, rfl, sm, n1, n2⟩
      have e : cwF p q = 0 := by
        unfold cwF
        rw [if_neg (n1 (show 0 < 2 by decide)), if_neg (n2 (show 1 < 2 by decide))]
      have := k H' (s1.trans sm)
      rw [e] at this
      exact this
end
section
variable {P : Program} {w : World} {K : PySem.W.Frag} {mg : Str → Option Value} {base : Heap} {a : Ad}
def spIndexOf : Sp := fun vs H Q _ => ∃ (t : Addr) (rs : List Addr) (ps : List Pc) (n j : Int), vs = [.ref t, .int j] ∧ H t = some (.tup (rs.map V.ref)) ∧ PcsH H rs ps ∧ Chain 0 n ps ∧ 0 ≤ j ∧ j < n ∧ ps.length ≤ 100000 ∧
  ∀ (i : Nat) (p : Pc), ps[i]? = some p → p.s ≤ j → (∀ q, ps[i + 1]? = some q → j < q.s) → Q (.int (i : Int)) H
theorem ok_index_of_run (T : Tx w K mg a) : FnOk P w K mg base CX0 1 a.f_index_of_run a.d_index_of_run ["rows", "place"] spIndexOf := by
  refine T.F_index_of_run.ok sc_index_of_run (fun vs H Q E h => ?_) (fun cdv A outer s H vs Q E hr h => ?_)
  · obtain ⟨t, rs, ps, n, j, rfl, _⟩ := h
    rfl
  · obtain ⟨t, rs, ps, n, j, rfl, ht, hps, hc, j0, jn, hl, k⟩ := h
    refine ⟨_, 
(pss_cons (ps_set (i := 2) sc_index_of_run.nd rfl (.inl rfl) pe_int)
  (pss_cons (ps_set (i := 3) sc_index_of_run.nd rfl (.inl rfl) (pe_op op_sub (pe_callB call_len_seq (by rfl) T.z_len PySem.boot_len (pa_cons (pv 0) pa_nil)) pe_int))
  (pss_cons (ps_while PassesOwn.never (pt_cmpR op_lt (pv 2) (pv 3) (nomark _))
  (pss_cons (ps_set (i := 4) sc_index_of_run.nd rfl (.inl rfl) (pe_op op_fdivN (pe_op op_add (pe_op op_add (pv 2) (pv 3)) pe_int) pe_int))
  (pss_one (ps_if (pt_cmpR op_le (pe_ix ix_tup (pe_ix ix_tup (pv 0) (pv 4) (fun _ _ => rfl)) pe_int (fun _ _ => rfl)) (pv 1) (nomark _))
  (pss_one (ps_set (i := 2) sc_index_of_run.nd rfl (.inl rfl) (pv 4)))
  (pss_one (ps_set (i := 3) sc_index_of_run.nd rfl (.inl rfl) (pe_op op_sub (pv 4) pe_int)))))))
  (pss_one (ps_ret (pv 2)))))), ?_⟩
    have rl : rs.length = ps.length := hps.len
    have pl : 0 < ps.length := by
      cases ps with
      | nil =>
        have hc : (0 : Int) = n := hc
        omega
      | cons p r => exact Nat.zero_lt_succ _
    refine ⟨_, rfl, t, rs.map V.ref, rfl, .inr (SqT.at ht), _, 1, rfl, rfl, ?_⟩
    rw [List.length_map, rl]
    refine ⟨fun m σ H' => ∃ (lo hi : Nat) (y4 : Option V), σ = [some (.ref t), some (.int j), some (.int (lo : Int)), some (.int (hi : Int)), y4] ∧ H' = H ∧ m = hi - lo ∧ lo ≤ hi ∧ hi < ps.length ∧ (∀ p, ps[lo]? = some p → p.s ≤ j) ∧ (∀ q, ps[hi + 1]? = some q → j < q.s), ⟨ps.length - 1, 0, ps.length - 1, none, ?_, rfl, rfl, Nat.zero_le _, by omega, fun p hp => ?_, fun q hq => ?_⟩, ?_⟩
    · have : V.int ((ps.length : Int) - 1) = V.int ((ps.length - 1 : Nat) : Int) := by rw [show (ps.length : Int) - 1 = ((ps.length - 1 : Nat) : Int) by omega]
      exact congrArg (fun z => [some (V.ref t), some (V.int j), some (V.int 0), some z, none]) this
    · cases ps with
      | nil => cases hp
      | cons p' r =>
        cases hp
        have := hc.1
        omega
    · rw [List.getElem?_eq_none (by omega)] at hq
      cases hq
    rintro m σ H' ⟨lo, hi, y4, rfl, rfl, rfl, h1, h2, h3, h4⟩
    refine ⟨_, rfl, _, rfl, _, _, rfl, rfl, _, rfl, ?_⟩
    by_cases c : lo < hi
    rotate_left
    · rw [decide_eq_false (show ¬ (lo : Int) < (hi : Int) by omega)]
      have : lo = hi := by omega
      subst this
      exact iteF ⟨_, rfl, k lo (ps[lo]'h2) (List.getElem?_eq_getElem h2) (h3 _ (List.getElem?_eq_getElem h2)) h4⟩
    rw [decide_eq_true (show (lo : Int) < (hi : Int) by omega)]
    refine iteT ⟨fun σ' H'' => ∃ m', m' < hi - lo ∧ ∃ (lo hi : Nat) (y4 : Option V), σ' = [some (.ref t), some (.int j), some (.int (lo : Int)), some (.int (hi : Int)), y4] ∧ H'' = H' ∧ m' = hi - lo ∧ lo ≤ hi ∧ hi < ps.length ∧ (∀ p, ps[lo]? = some p → p.s ≤ j) ∧ (∀ q, ps[hi + 1]? = some q → j < q.s), fun _ _ h => h, ?_⟩
    -- middle = (low + high + 1) // 2
    refine ⟨_, rfl, _, rfl, _, _, rfl, rfl, _, 1, rfl, rfl, ?_⟩
    have hm : Int.fdiv ((lo : Int) + (hi : Int) + 1) 2 = (((lo + hi + 1) / 2 : Nat) : Int) := by
      rw [Int.fdiv_eq_ediv_of_nonneg _ (by decide)]
      omega
    refine ⟨_, 2, rfl, rfl, (by unfold CDivN; omega), ?_⟩
    obtain ⟨mid, hmid⟩ : ∃ mid, (lo + hi + 1) / 2 = mid := ⟨_, rfl⟩
    have m1 : lo < mid := by omega
    have m2 : mid ≤ hi := by omega
    change gName 4 (V.int (Int.fdiv ((lo : Int) + (hi : Int) + 1) 2)) _ _ _
    rw [hm, hmid]
    have gm := List.getElem?_eq_getElem (show mid < ps.length by omega)
    obtain ⟨r, hr1, hr2⟩ := hps.get gm
    have g : atI (rs.map V.ref) ((mid : Nat) : Int) = some (.ref r) := atI_nat (by rw [List.getElem?_map, hr1]; rfl)
    refine ⟨_, rfl, _, rfl, t, rs.map V.ref, (mid : Int), _, rfl, rfl, SqT.at ht, g, r, pcV (ps[mid]'(by omega)), 0, _, rfl, rfl, SqT.at hr2, rfl, _, rfl, _, _, rfl, rfl, _, rfl, ?_⟩
    by_cases hle : (ps[mid]'(by omega)).s ≤ j
    · rw [decide_eq_true hle]
      refine iteT ⟨_, rfl, hi - mid, by omega, mid, hi, _, rfl, rfl, rfl, m2, h2, fun p hp => ?_, h4⟩
      rw [gm] at hp
      cases hp
      exact hle
    · rw [decide_eq_false hle]
      refine iteF ⟨_, rfl, _, 1, rfl, rfl, mid - 1 - lo, by omega, lo, mid - 1, some (.int (mid : Int)), ?_, rfl, rfl, by omega, by omega, h3, fun q hq => ?_⟩
      · have : V.int ((mid : Int) - 1) = V.int ((mid - 1 : Nat) : Int) := by rw [show (mid : Int) - 1 = ((mid - 1 : Nat) : Int) by omega]
        exact congrArg (fun z => [some (V.ref t), some (V.int j), some (V.int (lo : Int)), some z, some (V.int (mid : Int))]) this
      · rw [show mid - 1 + 1 = mid by omega, gm] at hq
        cases hq
        omega
end

/-! ### runs: the one form is one; what is led on; what is taken back -/
def nrm (p : Pc) : Prop := p.l = 1 → p.w = 1
/-- each piece as long as it can be -/
def NFl : List Pc → Prop
  | [] => True
  | p :: r => nrm p ∧ (∀ q, r.head? = some q → cwF p q = 0) ∧ NFl r
theorem NFl.left : ∀ {r q : List Pc}, NFl (r ++ q) → NFl r
  | [], _, _ => trivial
  | p :: r, q, ⟨h1, h2, h3⟩ => by
    refine ⟨h1, fun x hx => h2 x ?_, h3.left⟩
    cases r with
    | nil => cases hx
    | cons a b => exact hx
theorem NFl.snoc : ∀ {r : List Pc} {p : Pc}, NFl r → nrm p → (∀ q, r.getLast? = some q → cwF q p = 0) → NFl (r ++ [p])
  | [], p, _, hp, _ => ⟨hp, fun q hq => (by cases hq), trivial⟩
  | [a], p, ⟨h1, h2, h3⟩, hp, hl => ⟨h1, fun q hq => by
      cases hq
      exact hl a rfl, hp, fun q hq => (by cases hq), trivial⟩
  | a :: b :: r, p, ⟨h1, h2, h3⟩, hp, hl => by
    refine ⟨h1, fun q hq => h2 q hq, ?_⟩
    exact NFl.snoc (r := b :: r) h3 hp fun q hq => hl q (by rw [List.getLast?_cons_cons]; exact hq)
theorem nrm_norm (p : Pc) : nrm (norm p) := fun h => by
  show (if p.l = 1 then (1 : Int) else p.w) = 1
  exact if_pos h
theorem cw_ne {p q : Pc} {v : Int} (hv : v = 1 ∨ v = -1) (h1 : p.l = 1 ∨ p.w = v) (h2 : q.l = 1 ∨ q.w = v) (h3 : q.g = p.g + v * p.l) : cwF p q ≠ 0 := by
  have o1 : okW p v = true := by
    unfold okW
    rcases h1 with h | h <;> simp [h]
  have o2 : okW q v = true := by
    unfold okW
    rcases h2 with h | h <;> simp [h]
  unfold cwF
  rcases hv with rfl | rfl
  · rw [if_pos ⟨by rw [o1, o2]; rfl, h3⟩]
    decide
  · split
    · decide
    · rw [if_pos ⟨by rw [o1, o2]; rfl, h3⟩]
      decide
theorem add_nf {rows : List Pc} {p : Pc} (h : NFl rows) (hl : ∀ q ∈ rows, 1 ≤ q.l) (hp : 1 ≤ p.l) : NFl (addP rows p) := by
  rcases List.eq_nil_or_concat rows with rfl | ⟨rs, q, rfl⟩
  · exact NFl.snoc (r := []) trivial (nrm_norm p) fun q hq => (by cases hq)
  · rw [List.concat_eq_append] at h hl ⊢
    rw [add_some]
    split
    · rename_i c
      refine NFl.snoc h (nrm_norm p) fun x hx => ?_
      rw [List.getLast?_concat] at hx
      cases hx
      exact c
    · rename_i c
      have ql := hl q (by simp)
      refine NFl.snoc h.left (fun (z : q.l + p.l = 1) => by omega) fun x hx => ?_
      obtain ⟨rs', rfl⟩ : ∃ rs', rs = rs' ++ [x] := by
        rcases List.eq_nil_or_concat rs with rfl | ⟨rs', y, rfl⟩
        · cases hx
        · rw [List.concat_eq_append] at hx ⊢
          rw [List.getLast?_concat] at hx
          cases hx
          exact ⟨rs', rfl⟩
      have hq : cwF x q = 0 := by
        have : ∀ r : List Pc, NFl (r ++ [x] ++ [q]) → cwF x q = 0 := fun r => by
          induction r with
          | nil => exact fun h => h.2.1 q rfl
          | cons a b ih => exact fun h => ih h.2.2
        exact this rs' h
      rcases cw_cases x ⟨q.s, q.l + p.l, q.g, cwF q (norm p)⟩ with e | ⟨e1, e2, e3, e4⟩
      · exact e
      · exfalso
        generalize cwF x ⟨q.s, q.l + p.l, q.g, cwF q (norm p)⟩ = v at e1 e2 e3 e4
        have e3 : q.l + p.l = 1 ∨ cwF q (norm p) = v := e3
        have e5 : cwF q (norm p) = v := by rcases e3 with e | e <;> omega
        rcases cw_cases q (norm p) with d | ⟨_, d2, _, _⟩
        · exact c d
        · rw [e5] at d2
          exact cw_ne e1 e2 d2 e4 hq
theorem fold_nf : ∀ {ps rows : List Pc} {lo mi hi : Int}, Chain lo mi rows → Chain mi hi ps → NFl rows → NFl (ps.foldl addP rows)
  | [], _, _, _, _, _, _, h => h
  | p :: r, rows, lo, mi, hi, h, ⟨k1, k2, k3, k4⟩, hn => by
    have pos : ∀ {r : List Pc} {lo hi : Int}, Chain lo hi r → ∀ q ∈ r, 1 ≤ q.l := fun {r} => by
      induction r with
      | nil => exact fun _ q hq => nomatch hq
      | cons a b ih =>
        rintro lo hi ⟨_, g2, _, g4⟩ q hq
        rcases List.mem_cons.mp hq with rfl | hq
        · exact g2
        · exact ih g4 q hq
    have z := fold_nf (add_ok h k1 k2 k3).1 k4 (add_nf hn (pos h) k2)
    exact z
theorem oneF_nf {ps : List Pc} {n : Int} (h : Chain 0 n ps) : NFl (oneF ps) := fold_nf (rows := []) (lo := 0) (mi := 0) rfl h trivial
/-- a value at the beginning of what is left -/
theorem val_head {p : Pc} {r : List Pc} {j : Int} (h : j < p.s + p.l) : valP (p :: r) j = p.g + p.w * (j - p.s) := if_pos h
theorem val_tail {p : Pc} {r : List Pc} {j : Int} (h : ¬ j < p.s + p.l) : valP (p :: r) j = valP r j := if_neg h
theorem wcase {v u : Int} (h : v = 1 ∨ v = -1) (k : u = 1 ∨ u = -1) (ne : u ≠ v) : u = -v := by omega
/-- the shorter head is no head of a one form -/
theorem nf_short {p q : Pc} {r t : List Pc} {lo hi : Int} (hp : Chain lo hi (p :: r)) (hq : Chain lo hi (q :: t)) (np : NFl (p :: r)) (v : ∀ j, lo ≤ j → j < hi → valP (p :: r) j = valP (q :: t) j)
    (d : ∀ j, lo ≤ j → j + 2 < hi → valP (p :: r) j ≠ valP (p :: r) (j + 2)) (h : p.l < q.l) : False := by
  obtain ⟨p1, p2, p3, p4⟩ := hp
  obtain ⟨q1, q2, q3, q4⟩ := hq
  have ql := q4.le
  cases r with
  | nil =>
    have p4 : lo + p.l = hi := p4
    omega
  | cons x r =>
    obtain ⟨x1, x2, x3, x4⟩ := p4
    have xl := x4.le
    have g0 : p.g = q.g := by
      have := v lo (by omega) (by omega)
      rw [val_head (by omega), val_head (by omega), show lo - p.s = 0 by omega, show lo - q.s = 0 by omega] at this
      omega
    have pw : p.l = 1 ∨ p.w = q.w := by
      by_cases c : p.l = 1
      · exact .inl c
      · have := v (lo + 1) (by omega) (by omega)
        rw [val_head (by omega), val_head (by omega), show lo + 1 - p.s = 1 by omega, show lo + 1 - q.s = 1 by omega] at this
        exact .inr (by omega)
    have e1 := v (lo + p.l) (by omega) (by omega)
    rw [val_tail (by omega), val_head (by omega), val_head (by omega), show lo + p.l - x.s = 0 by omega, show lo + p.l - q.s = p.l by omega] at e1
    have xg : x.g = p.g + q.w * p.l := by omega
    have xw : x.l = 1 ∨ x.w = q.w := by
      by_cases c : x.l = 1
      · exact .inl c
      · refine .inr (Decidable.byContradiction fun ne => ?_)
        have ew := wcase q3 x3 ne
        refine d (lo + p.l - 1) (by omega) (by omega) ?_
        rw [show lo + p.l - 1 + 2 = lo + p.l + 1 by omega, val_head (by omega), val_tail (by omega), val_head (by omega), show lo + p.l - 1 - p.s = p.l - 1 by omega, show lo + p.l + 1 - x.s = 1 by omega, ew, xg]
        rcases pw with c1 | c1
        · rw [c1]
          omega
        · rw [c1, Int.mul_sub]
          omega
    exact cw_ne q3 pw xw xg (np.2.1 x rfl)
theorem nf_unique : ∀ {a b : List Pc} {lo hi : Int}, Chain lo hi a → Chain lo hi b → NFl a → NFl b → (∀ j, lo ≤ j → j < hi → valP a j = valP b j) → (∀ j, lo ≤ j → j + 2 < hi → valP a j ≠ valP a (j + 2)) → a = b
  | [], [], _, _, _, _, _, _, _, _ => rfl
  | [], q :: t, lo, hi, ha, ⟨h1, h2, h3, h4⟩, _, _, _, _ => by
    have ha : lo = hi := ha
    have := h4.le
    omega
  | p :: r, [], lo, hi, ⟨h1, h2, h3, h4⟩, hb, _, _, _, _ => by
    have hb : lo = hi := hb
    have := h4.le
    omega
  | p :: r, q :: t, lo, hi, ha, hb, na, nb, v, d => by
    have d' : ∀ j, lo ≤ j → j + 2 < hi → valP (q :: t) j ≠ valP (q :: t) (j + 2) := fun j j0 j1 => by
      rw [← v j j0 (by omega), ← v (j + 2) (by omega) (by omega)]
      exact d j j0 j1
    have el : p.l = q.l := by
      rcases Int.lt_trichotomy p.l q.l with c | c | c
      · exact (nf_short ha hb na v d c).elim
      · exact c
      · exact (nf_short hb ha nb (fun j j0 j1 => (v j j0 j1).symm) d' c).elim
    obtain ⟨p1, p2, p3, p4⟩ := ha
    obtain ⟨q1, q2, q3, q4⟩ := hb
    have pl := p4.le
    have g0 : p.g = q.g := by
      have := v lo (by omega) (by omega)
      rw [val_head (by omega), val_head (by omega), show lo - p.s = 0 by omega, show lo - q.s = 0 by omega] at this
      omega
    have ew : p.w = q.w := by
      by_cases c : p.l = 1
      · rw [na.1 c, nb.1 (by omega)]
      · have := v (lo + 1) (by omega) (by omega)
        rw [val_head (by omega), val_head (by omega), show lo + 1 - p.s = 1 by omega, show lo + 1 - q.s = 1 by omega] at this
        omega
    have e : p = q := by
      have e1 : p.s = q.s := by omega
      cases p
      cases q
      subst e1 el g0 ew
      rfl
    subst e
    congr 1
    refine nf_unique p4 q4 na.2.2 nb.2.2 (fun j j0 j1 => ?_) fun j j0 j1 => ?_
    · have := v j (by omega) j1
      rw [val_tail (by omega), val_tail (by omega)] at this
      exact this
    · have := d j (by omega) j1
      rw [val_tail (by omega), val_tail (by omega)] at this
      exact this
/-- a rearrangement of the places 0 to n - 1, told by pieces -/
structure Rea (n : Int) (ps : List Pc) : Prop where
  ch : Chain 0 n ps
  val : ∀ j, 0 ≤ j → j < n → 0 ≤ valP ps j ∧ valP ps j < n
  inj : ∀ i j, 0 ≤ i → i < n → 0 ≤ j → j < n → valP ps i = valP ps j → i = j
theorem Rea.two {n : Int} {ps : List Pc} (r : Rea n ps) : ∀ j, 0 ≤ j → j + 2 < n → valP ps j ≠ valP ps (j + 2) := fun j j0 j1 e => by
  have := r.inj j (j + 2) j0 (by omega) (by omega) (by omega) e
  omega
theorem Rea.uniq {n : Int} {a b : List Pc} (ra : Rea n a) (rb : Rea n b) (na : NFl a) (nb : NFl b) (v : ∀ j, 0 ≤ j → j < n → valP a j = valP b j) : a = b := nf_unique ra.ch rb.ch na nb v ra.two
/-- the rearrangement g of places, told by the pieces ps -/
theorem rea_of {n : Int} {ps : List Pc} {f : Int → Int} (hc : Chain 0 n ps) (hv : ∀ j, 0 ≤ j → j < n → valP ps j = f j) (h1 : ∀ j, 0 ≤ j → j < n → 0 ≤ f j ∧ f j < n) (h2 : ∀ i j, 0 ≤ i → i < n → 0 ≤ j → j < n → f i = f j → i = j) : Rea n ps :=
  ⟨hc, fun j a b => by rw [hv j a b]; exact h1 j a b, fun i j a b c d e => h2 i j a b c d (by rw [← hv i a b, ← hv j c d]; exact e)⟩
theorem Rea.one {n : Int} {ps : List Pc} (r : Rea n ps) : Rea n (oneF ps) ∧ NFl (oneF ps) ∧ ∀ j, 0 ≤ j → j < n → valP (oneF ps) j = valP ps j := by
  obtain ⟨a, b⟩ := oneF_ok r.ch
  exact ⟨rea_of a b r.val r.inj, oneF_nf r.ch, b⟩
theorem Rea.pos {n : Int} {ps : List Pc} (r : Rea n ps) : 0 ≤ n := r.ch.le
/-! a piece of a chain -/
theorem chain_mem : ∀ {r : List Pc} {lo hi : Int}, Chain lo hi r → ∀ {p : Pc}, p ∈ r → lo ≤ p.s ∧ 1 ≤ p.l ∧ (p.w = 1 ∨ p.w = -1) ∧ p.s + p.l ≤ hi
  | q :: r, lo, hi, ⟨h1, h2, h3, h4⟩, p, hp => by
    rcases List.mem_cons.mp hp with rfl | hp
    · have := h4.le
      exact ⟨by omega, h2, h3, by omega⟩
    · obtain ⟨a, b, c, d⟩ := chain_mem h4 hp
      exact ⟨by omega, b, c, d⟩
theorem val_mem : ∀ {r : List Pc} {lo hi : Int}, Chain lo hi r → ∀ {p : Pc} {j : Int}, p ∈ r → p.s ≤ j → j < p.s + p.l → valP r j = p.g + p.w * (j - p.s)
  | q :: r, lo, hi, ⟨h1, h2, h3, h4⟩, p, j, hp, k1, k2 => by
    rcases List.mem_cons.mp hp with rfl | hp
    · exact val_head k2
    · obtain ⟨a, _⟩ := chain_mem h4 hp
      rw [val_tail (by omega)]
      exact val_mem h4 hp k1 k2
theorem chain_has : ∀ {r : List Pc} {lo hi j : Int}, Chain lo hi r → lo ≤ j → j < hi → ∃ p ∈ r, p.s ≤ j ∧ j < p.s + p.l
  | [], lo, hi, j, h, h1, h2 => by
    have h : lo = hi := h
    omega
  | p :: r, lo, hi, j, ⟨h1, h2, h3, h4⟩, a, b => by
    by_cases c : j < p.s + p.l
    · exact ⟨p, .head _, by omega, c⟩
    · obtain ⟨q, hq, k⟩ := chain_has h4 (show lo + p.l ≤ j by omega) b
      exact ⟨q, .tail _ hq, k⟩
/-! sums of lengths -/
def sumL : List Pc → Int
  | [] => 0
  | p :: r => p.l + sumL r
theorem sumL_perm {a b : List Pc} (h : a.Perm b) : sumL a = sumL b := by
  induction h with
  | nil => rfl
  | cons x _ ih => show x.l + _ = x.l + _; rw [ih]
  | swap x y l => show y.l + (x.l + sumL l) = x.l + (y.l + sumL l); omega
  | trans _ _ h1 h2 => rw [h1, h2]
theorem chain_sum : ∀ {r : List Pc} {lo hi : Int}, Chain lo hi r → sumL r = hi - lo
  | [], lo, hi, h => by
    have h : lo = hi := h
    show (0 : Int) = _
    omega
  | p :: r, lo, hi, ⟨h1, h2, h3, h4⟩ => by
    have := chain_sum h4
    show p.l + sumL r = _
    omega
/-- pieces one behind the other, that fill a room, leave no gap -/
theorem tile_le : ∀ {r : List Pc} {lo hi : Int}, lo ≤ hi → (∀ p ∈ r, lo ≤ p.s ∧ 1 ≤ p.l ∧ p.s + p.l ≤ hi) → r.Pairwise (fun p q => p.s + p.l ≤ q.s) → sumL r ≤ hi - lo
  | [], lo, hi, h, _, _ => by
    show (0 : Int) ≤ _
    omega
  | p :: r, lo, hi, h, hb, hp => by
    obtain ⟨h1, h2⟩ := List.pairwise_cons.mp hp
    obtain ⟨a, b, c⟩ := hb p (.head _)
    have := tile_le (r := r) (lo := p.s + p.l) (hi := hi) c (fun q hq => ⟨h1 q hq, (hb q (.tail _ hq)).2⟩) h2
    show p.l + sumL r ≤ _
    omega
theorem tile_ok : ∀ {r : List Pc} {lo hi : Int}, lo ≤ hi → (∀ p ∈ r, lo ≤ p.s ∧ 1 ≤ p.l ∧ (p.w = 1 ∨ p.w = -1) ∧ p.s + p.l ≤ hi) → r.Pairwise (fun p q => p.s + p.l ≤ q.s) → sumL r = hi - lo → Chain lo hi r
  | [], lo, hi, h, _, _, e => by
    have e : (0 : Int) = hi - lo := e
    show lo = hi
    omega
  | p :: r, lo, hi, h, hb, hp, e => by
    obtain ⟨h1, h2⟩ := List.pairwise_cons.mp hp
    obtain ⟨a, b, w, c⟩ := hb p (.head _)
    have hb' : ∀ q ∈ r, p.s + p.l ≤ q.s ∧ 1 ≤ q.l ∧ (q.w = 1 ∨ q.w = -1) ∧ q.s + q.l ≤ hi := fun q hq => ⟨h1 q hq, (hb q (.tail _ hq)).2⟩
    have l := tile_le (r := r) (lo := p.s + p.l) (hi := hi) c (fun q hq => ⟨(hb' q hq).1, (hb' q hq).2.1, (hb' q hq).2.2.2⟩) h2
    have e : p.l + sumL r = hi - lo := e
    have es : p.s = lo := by omega
    refine ⟨es, b, w, ?_⟩
    rw [← es]
    exact tile_ok c hb' h2 (by omega)
/-! what is taken back -/
def tbP (p : Pc) : Pc := if p.w = 1 then ⟨p.g, p.l, p.s, 1⟩ else ⟨p.g - p.l + 1, p.l, p.s + p.l - 1, -1⟩
theorem tb1 {p : Pc} (h : p.w = 1) : tbP p = ⟨p.g, p.l, p.s, 1⟩ := if_pos h
theorem tb2 {p : Pc} (h : p.w = -1) : tbP p = ⟨p.g - p.l + 1, p.l, p.s + p.l - 1, -1⟩ := if_neg (by rw [h]; decide)
theorem tb_l (p : Pc) : (tbP p).l = p.l := by
  unfold tbP
  split <;> rfl
theorem tb_w {p : Pc} (h : p.w = 1 ∨ p.w = -1) : (tbP p).w = p.w := by
  unfold tbP
  rcases h with h | h <;> rw [h] <;> simp
theorem sumL_tb : ∀ ps : List Pc, sumL (ps.map tbP) = sumL ps
  | [] => rfl
  | p :: r => by
    show (tbP p).l + sumL (r.map tbP) = p.l + sumL r
    rw [tb_l, sumL_tb r]
/-- where place x stands in the taken back piece, its value leads back -/
theorem tb_val {p : Pc} {x : Int} (hw : p.w = 1 ∨ p.w = -1) (h1 : (tbP p).s ≤ x) (h2 : x < (tbP p).s + (tbP p).l) :
    p.s ≤ (tbP p).g + (tbP p).w * (x - (tbP p).s) ∧ (tbP p).g + (tbP p).w * (x - (tbP p).s) < p.s + p.l ∧ p.g + p.w * ((tbP p).g + (tbP p).w * (x - (tbP p).s) - p.s) = x := by
  rcases hw with h | h
  · rw [tb1 h] at *
    rw [h]
    dsimp only at *
    refine ⟨by omega, by omega, by omega⟩
  · rw [tb2 h] at *
    rw [h]
    dsimp only at *
    refine ⟨by omega, by omega, by omega⟩
/-- .. and each value of the piece stands there -/
theorem tb_has {p : Pc} {j : Int} (hw : p.w = 1 ∨ p.w = -1) (h1 : p.s ≤ j) (h2 : j < p.s + p.l) : (tbP p).s ≤ p.g + p.w * (j - p.s) ∧ p.g + p.w * (j - p.s) < (tbP p).s + (tbP p).l := by
  rcases hw with h | h
  · rw [tb1 h, h]
    exact ⟨by dsimp only; omega, by dsimp only; omega⟩
  · rw [tb2 h, h]
    exact ⟨by dsimp only; omega, by dsimp only; omega⟩
theorem tb_in {n : Int} {ps : List Pc} (r : Rea n ps) {p : Pc} (hp : p ∈ ps) : 0 ≤ (tbP p).s ∧ 1 ≤ (tbP p).l ∧ ((tbP p).w = 1 ∨ (tbP p).w = -1) ∧ (tbP p).s + (tbP p).l ≤ n := by
  obtain ⟨a, b, w, c⟩ := chain_mem r.ch hp
  have e1 := val_mem r.ch hp (j := p.s) (by omega) (by omega)
  have e2 := val_mem r.ch hp (j := p.s + p.l - 1) (by omega) (by omega)
  have v1 := r.val p.s (by omega) (by omega)
  have v2 := r.val (p.s + p.l - 1) (by omega) (by omega)
  rw [e1] at v1
  rw [e2] at v2
  rw [tb_l, tb_w w]
  rw [show p.s - p.s = 0 by omega] at v1
  rw [show p.s + p.l - 1 - p.s = p.l - 1 by omega] at v2
  refine ⟨?_, b, w, ?_⟩
  all_goals
    rcases w with h | h
    · rw [h] at v1 v2
      rw [tb1 h]
      dsimp only
      omega
    · rw [h] at v1 v2
      rw [tb2 h]
      dsimp only
      omega
/-- two pieces' images are apart -/
theorem tb_apart {n : Int} {ps : List Pc} (r : Rea n ps) {p q : Pc} (hp : p ∈ ps) (hq : q ∈ ps) (ne : p.s + p.l ≤ q.s) : (tbP p).s + (tbP p).l ≤ (tbP q).s ∨ (tbP q).s + (tbP q).l ≤ (tbP p).s := by
  obtain ⟨a, b, w, c⟩ := chain_mem r.ch hp
  obtain ⟨a', b', w', c'⟩ := chain_mem r.ch hq
  refine Decidable.byContradiction fun h => ?_
  have h1 : ¬ (tbP p).s + (tbP p).l ≤ (tbP q).s := fun z => h (.inl z)
  have h2 : ¬ (tbP q).s + (tbP q).l ≤ (tbP p).s := fun z => h (.inr z)
  have lp := tb_l p
  have lq := tb_l q
  obtain ⟨x, x1, x2, x3, x4⟩ : ∃ x, (tbP p).s ≤ x ∧ x < (tbP p).s + (tbP p).l ∧ (tbP q).s ≤ x ∧ x < (tbP q).s + (tbP q).l := by
    by_cases k : (tbP p).s ≤ (tbP q).s
    · exact ⟨(tbP q).s, by omega, by omega, by omega, by omega⟩
    · exact ⟨(tbP p).s, by omega, by omega, by omega, by omega⟩
  obtain ⟨i1, i2, i3⟩ := tb_val w x1 x2
  obtain ⟨j1, j2, j3⟩ := tb_val w' x3 x4
  generalize (tbP p).g + (tbP p).w * (x - (tbP p).s) = i at i1 i2 i3
  generalize (tbP q).g + (tbP q).w * (x - (tbP q).s) = j at j1 j2 j3
  have := r.inj i j (by omega) (by omega) (by omega) (by omega) (by rw [val_mem r.ch hp i1 i2, val_mem r.ch hq j1 j2, i3, j3])
  omega
theorem chain_pair : ∀ {r : List Pc} {lo hi : Int}, Chain lo hi r → r.Pairwise fun p q => p.s + p.l ≤ q.s
  | [], _, _, _ => .nil
  | p :: r, lo, hi, ⟨h1, h2, h3, h4⟩ => .cons (fun q hq => by
      obtain ⟨a, _⟩ := chain_mem h4 hq
      omega) (chain_pair h4)
/-- what is taken back, sorted by its starts -/
theorem Rea.back {n : Int} {ps qs : List Pc} (r : Rea n ps) (pm : qs.Perm (ps.map tbP)) (so : qs.Pairwise fun p q => p.s ≤ q.s) : Rea n qs ∧ (∀ j, 0 ≤ j → j < n → valP qs (valP ps j) = j) ∧ ∀ x, 0 ≤ x → x < n → valP ps (valP qs x) = x := by
  have mem : ∀ q ∈ qs, ∃ p ∈ ps, tbP p = q := fun q hq => List.mem_map.mp (pm.mem_iff.mp hq)
  have hin : ∀ q ∈ qs, 0 ≤ q.s ∧ 1 ≤ q.l ∧ (q.w = 1 ∨ q.w = -1) ∧ q.s + q.l ≤ n := fun q hq => by
    obtain ⟨p, hp, rfl⟩ := mem q hq
    exact tb_in r hp
  have ap0 : (ps.map tbP).Pairwise fun p q => p.s + p.l ≤ q.s ∨ q.s + q.l ≤ p.s := by
    rw [List.pairwise_map]
    have := chain_pair r.ch
    refine List.Pairwise.imp_of_mem (fun {p q} hp hq h => tb_apart r hp hq h) this
  have ap : qs.Pairwise fun p q => p.s + p.l ≤ q.s ∨ q.s + q.l ≤ p.s := (pm.pairwise_iff (fun {a b} h => h.symm)).mpr ap0
  have tl : qs.Pairwise fun p q => p.s + p.l ≤ q.s := by
    have both := List.Pairwise.and so ap
    refine List.Pairwise.imp_of_mem (fun {p q} hp hq h => ?_) both
    obtain ⟨h1, h2 | h2⟩ := h
    · exact h2
    · have := (hin p hp).2.1
      have := (hin q hq).2.1
      omega
  have sm : sumL qs = n - 0 := by
    rw [sumL_perm pm, sumL_tb, chain_sum r.ch]
  have ch : Chain 0 n qs := tile_ok r.ch.le hin tl sm
  have fwd : ∀ x, 0 ≤ x → x < n → (0 ≤ valP qs x ∧ valP qs x < n) ∧ valP ps (valP qs x) = x := fun x x0 x1 => by
    obtain ⟨q, hq, k1, k2⟩ := chain_has ch x0 x1
    obtain ⟨p, hp, rfl⟩ := mem q hq
    obtain ⟨a, b, w, c⟩ := chain_mem r.ch hp
    obtain ⟨i1, i2, i3⟩ := tb_val w k1 k2
    rw [val_mem ch hq k1 k2]
    exact ⟨⟨by omega, by omega⟩, by rw [val_mem r.ch hp i1 i2]; exact i3⟩
  refine ⟨⟨ch, fun x x0 x1 => (fwd x x0 x1).1, fun i j i0 i1 j0 j1 e => ?_⟩, fun j j0 j1 => ?_, fun x x0 x1 => (fwd x x0 x1).2⟩
  · rw [← (fwd i i0 i1).2, ← (fwd j j0 j1).2, e]
  · obtain ⟨v0, v1⟩ := r.val j j0 j1
    obtain ⟨⟨u0, u1⟩, e⟩ := fwd _ v0 v1
    exact r.inj _ _ u0 u1 j0 j1 e
/-! what is led on -/
/-- how many pieces begin above lo, at most at hi -/
def cntS : List Pc → Int → Int → Nat
  | [], _, _ => 0
  | p :: r, lo, hi => (if lo < p.s ∧ p.s ≤ hi then 1 else 0) + cntS r lo hi
theorem cnt_le : ∀ (ps : List Pc) {lo hi lo' hi' : Int}, lo' ≤ lo → hi ≤ hi' → cntS ps lo hi ≤ cntS ps lo' hi'
  | [], _, _, _, _, _, _ => Nat.le_refl _
  | p :: r, lo, hi, lo', hi', h1, h2 => by
    have := cnt_le r h1 h2
    show (if lo < p.s ∧ p.s ≤ hi then 1 else 0) + cntS r lo hi ≤ (if lo' < p.s ∧ p.s ≤ hi' then 1 else 0) + cntS r lo' hi'
    split
    · rw [if_pos (by omega)]
      omega
    · omega
theorem cnt_more : ∀ {ps : List Pc} {p : Pc} {lo hi lo' hi' : Int}, p ∈ ps → lo' ≤ lo → hi ≤ hi' → ¬ (lo < p.s ∧ p.s ≤ hi) → (lo' < p.s ∧ p.s ≤ hi') → cntS ps lo hi + 1 ≤ cntS ps lo' hi'
  | q :: r, p, lo, hi, lo', hi', hp, h1, h2, h3, h4 => by
    show (if lo < q.s ∧ q.s ≤ hi then 1 else 0) + cntS r lo hi + 1 ≤ (if lo' < q.s ∧ q.s ≤ hi' then 1 else 0) + cntS r lo' hi'
    rcases List.mem_cons.mp hp with rfl | hp
    · rw [if_neg h3, if_pos h4]
      have := cnt_le r h1 h2
      omega
    · have := cnt_more hp h1 h2 h3 h4
      split
      · rw [if_pos (by omega)]
        omega
      · omega
/-- of intervals that are apart at most one has a start -/
def sumC (ps : List Pc) : List Pc → Nat
  | [] => 0
  | q :: r => cntS ps (tbP q).s ((tbP q).s + (tbP q).l - 1) + sumC ps r
theorem cnt_nil : ∀ {gs : List Pc}, sumC [] gs = 0
  | [] => rfl
  | q :: r => by
    show 0 + sumC [] r = 0
    rw [cnt_nil]
theorem sumC_cons {p : Pc} {ps : List Pc} : ∀ gs : List Pc, sumC (p :: ps) gs = sumC [p] gs + sumC ps gs
  | [] => rfl
  | q :: r => by
    show (_ + cntS ps _ _) + sumC (p :: ps) r = ((_ + cntS [] _ _) + sumC [p] r) + (cntS ps _ _ + sumC ps r)
    rw [sumC_cons r]
    show _ = ((_ + 0) + _) + _
    omega
theorem sumC_one {p : Pc} : ∀ {gs : List Pc}, gs.Pairwise (fun a b => (tbP a).s + (tbP a).l ≤ (tbP b).s ∨ (tbP b).s + (tbP b).l ≤ (tbP a).s) → sumC [p] gs ≤ 1
  | [], _ => Nat.zero_le _
  | q :: r, h => by
    obtain ⟨h1, h2⟩ := List.pairwise_cons.mp h
    have ih := sumC_one (p := p) h2
    show ((if (tbP q).s < p.s ∧ p.s ≤ (tbP q).s + (tbP q).l - 1 then 1 else 0) + 0) + sumC [p] r ≤ 1
    split
    · rename_i c
      have z : ∀ r : List Pc, (∀ b ∈ r, (tbP q).s + (tbP q).l ≤ (tbP b).s ∨ (tbP b).s + (tbP b).l ≤ (tbP q).s) → sumC [p] r = 0 := fun r => by
        induction r with
        | nil => exact fun _ => rfl
        | cons b r ih =>
          intro hb
          show ((if (tbP b).s < p.s ∧ p.s ≤ (tbP b).s + (tbP b).l - 1 then 1 else 0) + 0) + sumC [p] r = 0
          rw [ih fun x hx => hb x (.tail _ hx), if_neg]
          have := hb b (.head _)
          omega
      rw [z r h1]
      exact Nat.le_refl _
    · omega
theorem sumC_le {gs : List Pc} (h : gs.Pairwise (fun a b => (tbP a).s + (tbP a).l ≤ (tbP b).s ∨ (tbP b).s + (tbP b).l ≤ (tbP a).s)) : ∀ ps : List Pc, sumC ps gs ≤ ps.length
  | [] => by
    rw [cnt_nil]
    exact Nat.le_refl _
  | p :: ps => by
    rw [sumC_cons]
    have := sumC_one (p := p) h
    have := sumC_le h ps
    show _ ≤ ps.length + 1
    omega
theorem Rea.apart {n : Int} {gs : List Pc} (r : Rea n gs) : gs.Pairwise fun a b => (tbP a).s + (tbP a).l ≤ (tbP b).s ∨ (tbP b).s + (tbP b).l ≤ (tbP a).s :=
  List.Pairwise.imp_of_mem (fun {p q} hp hq h => tb_apart r hp hq h) (chain_pair r.ch)
/-- pieces of one piece's places, led on by ps -/
structure Led (ps : List Pc) (p : Pc) (qs : List Pc) : Prop where
  ch : Chain p.s (p.s + p.l) qs
  val : ∀ j, p.s ≤ j → j < p.s + p.l → valP qs j = valP ps (p.g + p.w * (j - p.s))
  few : qs.length ≤ 1 + cntS ps (tbP p).s ((tbP p).s + (tbP p).l - 1)
/-- all pieces of gs led on -/
structure LedAll (fs : List Pc) (lo hi : Int) (gs qs : List Pc) : Prop where
  ch : Chain lo hi qs
  val : ∀ j, lo ≤ j → j < hi → valP qs j = valP fs (valP gs j)
  few : qs.length ≤ gs.length + sumC fs gs
theorem sumC_app (fs : List Pc) : ∀ (a b : List Pc), sumC fs (a ++ b) = sumC fs a + sumC fs b
  | [], b => by
    show sumC fs b = 0 + sumC fs b
    omega
  | q :: a, b => by
    show _ + sumC fs (a ++ b) = _ + sumC fs a + sumC fs b
    rw [sumC_app fs a b]
    omega
theorem LedAll.snoc {fs gs qs rs : List Pc} {g : Pc} {lo mi : Int} (h : LedAll fs lo mi gs qs) (hc : Chain lo mi gs) (hg : g.s = mi) (l : Led fs g rs) : LedAll fs lo (mi + g.l) (gs ++ [g]) (qs ++ rs) := by
  subst hg
  refine ⟨h.ch.append l.ch, fun j j0 j1 => ?_, ?_⟩
  · by_cases c : j < g.s
    · rw [val_left h.ch c j0, val_left hc c j0]
      exact h.val j j0 c
    · rw [val_right h.ch (by omega), val_right hc (by omega), val_head (r := []) j1]
      exact l.val j (by omega) j1
  · rw [List.length_append, List.length_append, sumC_app]
    have := h.few
    have := l.few
    show qs.length + rs.length ≤ gs.length + 1 + (sumC fs gs + (cntS fs _ _ + 0))
    omega
theorem mul_ok {n : Int} {fs gs qs : List Pc} (hf : Rea n fs) (hg : Rea n gs) (h : LedAll fs 0 n gs qs) : Rea n qs ∧ qs.length ≤ fs.length + gs.length ∧ ∀ j, 0 ≤ j → j < n → valP qs j = valP fs (valP gs j) := by
  refine ⟨rea_of h.ch h.val (fun j j0 j1 => ?_) fun i j i0 i1 j0 j1 e => ?_, ?_, h.val⟩
  · obtain ⟨a, b⟩ := hg.val j j0 j1
    exact hf.val _ a b
  · obtain ⟨a, b⟩ := hg.val j j0 j1
    obtain ⟨c, d⟩ := hg.val i i0 i1
    exact hg.inj i j i0 i1 j0 j1 (hf.inj _ _ c d a b e)
  · have := h.few
    have := sumC_le hg.apart fs
    omega

theorem ixN_last (n : Nat) : ixN (n + 1) (-1) = some n := by
  unfold ixN
  rw [if_neg (by decide), if_pos (by omega)]
  congr 1
  omega
theorem atI_last {xs : List V} {x : V} : atI (xs ++ [x]) (-1) = some x := by
  unfold atI
  rw [List.length_append]
  show (ixN (xs.length + 1) (-1)).bind _ = _
  rw [ixN_last]
  show (xs ++ [x])[xs.length]? = some x
  rw [List.getElem?_append_right (Nat.le_refl _), Nat.sub_self]
  rfl
theorem set_last {xs : List V} {x y : V} : (xs ++ [x]).set xs.length y = xs ++ [y] := by
  rw [List.set_append_right _ _ (Nat.le_refl _), Nat.sub_self]
  rfl
section
variable {P : Program} {w : World} {K : PySem.W.Frag} {mg : Str → Option Value} {base : Heap} {a : Ad}
def spOneForm : Sp := fun vs H Q _ => ∃ (x : Addr) (rs : List Addr) (ps : List Pc), vs = [.ref x] ∧ H x = some (.lst (rs.map V.ref)) ∧ PcsH H rs ps ∧ ps.length ≤ 1000 ∧ ∀ t rs' H', H t = none → H' t = some (.tup (rs'.map V.ref)) → PcsH H' rs' (oneF ps) → Same H H' → Q (.ref t) H'
theorem ok_one_form (T : Tx w K mg a) : FnOk P w K mg base CX0 2 a.f_one_form a.d_one_form ["pieces"] spOneForm := by
  refine T.F_one_form.ok sc_one_form (fun vs H Q E h => ?_) (fun cdv A outer s H vs Q E hr h => ?_)
  · obtain ⟨x, rs, ps, rfl, _⟩ := h
    rfl
  · obtain ⟨x, rs, ps, rfl, hx, hps, hl, k⟩ := h
    refine ⟨_, 
(pss_cons (ps_set (i := 1) sc_one_form.nd rfl (.inl rfl) (pe_lst pa_nil))
  (pss_cons (ps_for PassesOwn.never rfl (pi_list (pv 0)) (pg_tup rfl (pgs_cons (pg_name (i := 2) sc_one_form.nd rfl (.inl rfl)) (pgs_cons (pg_name (i := 3) sc_one_form.nd rfl (.inl rfl)) (pgs_cons (pg_name (i := 4) sc_one_form.nd rfl (.inl rfl)) (pgs_cons (pg_name (i := 5) sc_one_form.nd rfl (.inl rfl)) pgs_nil)))))
  (C8.pss_cut (ps_set (i := 6) sc_one_form.nd rfl (.inl rfl) (pe_tup (pa_cons (pv 2) (pa_cons (pv 3) (pa_cons (pv 4) (pa_cons (pe_ifExp (pt_cmpR op_eq (pv 3) pe_int (nomark _)) pe_int (pv 5)) pa_nil))))))
  (C8.pss_cut (ps_set (i := 7) sc_one_form.nd rfl (.inl rfl) (pe_ifExp (pt_truth (pv 1) (fun _ => rfl)) (pe_call (ok_common_way T) hr (by rfl) T.m_common_way T.F_common_way.kp T.b_common_way .nil pass0 (pa_cons (pe_ix ix_list (pv 1) (pe_un un_neg pe_int) (fun _ _ => rfl)) (pa_cons (pv 6) pa_nil))) pe_int))
  (pss_one (ps_if (pt_cmpR op_eq (pv 7) pe_int (nomark _))
  (pss_one (ps_expr (pe_bm PySem.F.plainAttrs_list PySem.F.slot_list_append PySem.F.type_list_append mt_append (pv 1) (pa_cons (pv 6) pa_nil))))
  (pss_cons (ps_set (i := 8) sc_one_form.nd rfl (.inl rfl) (pe_ix ix_list (pv 1) (pe_un un_neg pe_int) (fun _ _ => rfl)))
  (pss_one (ps_asg (pe_tup (pa_cons (pe_ix ix_tup (pv 8) pe_int (fun _ _ => rfl)) (pa_cons (pe_op op_add (pe_ix ix_tup (pv 8) pe_int (fun _ _ => rfl)) (pv 3)) (pa_cons (pe_ix ix_tup (pv 8) pe_int (fun _ _ => rfl)) (pa_cons (pv 7) pa_nil))))) (pg_sub (pv 1) (pe_un un_neg pe_int) set_list)))))))))
  (pss_one (ps_ret (pe_callTy call_tuple_of (by rfl) T.z_tuple (by decide +kernel) (pa_cons (pv 1) pa_nil)))))), ?_⟩
    have rl := hps.len
    refine ⟨sz (show 0 ≤ 100000 by decide), fun L nL => ?_⟩
    have s1 := same_upd (o := .lst []) nL
    have eL : (upd H L (.lst [])) L = some (.lst []) := upd_same
    change gName 1 (V.ref L) _ (upd H L (.lst [])) _
    generalize upd H L (.lst []) = H1 at s1 eL ⊢
    have nx : x ≠ L := ne_of_none hx nL
    refine ⟨_, rfl, x, rfl, ⟨_, SqL.at (s1 _ _ hx)⟩, ?_⟩
    refine for_it (walk_list (xs := rs.map V.ref)) (fun j σ H' => ∃ (y2 y3 y4 y5 y6 y7 y8 : Option V) (us : List Addr), σ = [some (.ref x), some (.ref L), y2, y3, y4, y5, y6, y7, y8] ∧ Same H H' ∧ H' L = some (.lst (us.map V.ref)) ∧ PcsH H' us ((ps.take j).foldl addP [])) ?g0 ?gG ?gs ?gd
    case g0 => exact ⟨none, none, none, none, none, none, none, [], rfl, s1, eL, trivial⟩
    case gG =>
      rintro j σ H' _ ⟨_, _, _, _, _, _, _, _, _, sm, _⟩
      exact sm.seq (SqL.at hx)
    case gs =>
      rintro j y σ H3 H4 hj ⟨y2, y3, y4, y5, y6, y7, y8, us, rfl, sm, eu, hu⟩ ⟨rfl, ex⟩
      have hj : j < rs.length := by
        rw [List.length_map] at hj
        exact hj
      have hjp : j < ps.length := by omega
      obtain ⟨r, hr1, hr2⟩ := hps.get (List.getElem?_eq_getElem hjp)
      rw [List.getElem?_map, hr1] at ex
      cases ex
      have hr4 := sm _ _ hr2
      have htk : (ps.take (j + 1)).foldl addP [] = addP ((ps.take j).foldl addP []) (ps[j]'hjp) := by
        rw [List.take_succ, List.getElem?_eq_getElem hjp]
        show (ps.take j ++ [ps[j]]).foldl addP [] = _
        rw [List.foldl_append]
        rfl
      rw [htk]
      have ul := hu.len
      have ul2 : us.length ≤ 1000 := by
        have := fold_len (ps.take j) []
        rw [List.length_take] at this
        simp only [List.length_nil] at this
        omega
      generalize (ps.take j).foldl addP [] = rows at hu ul ⊢
      generalize ps[j]'hjp = p at hr4 ⊢
      clear htk hr2 hr1
      refine ⟨r, pcV p, rfl, SqT.at hr4, rfl, .int p.s, [.int p.l, .int p.g, .int p.w], rfl, .int p.l, [.int p.g, .int p.w], rfl, .int p.g, [.int p.w], rfl, .int p.w, [], rfl, rfl, ?_⟩
      -- piece = (start, length, goal, 1 if length == 1 else way)
      refine ⟨fun σ' H' => ∃ pc : Addr, σ' = [some (.ref x), some (.ref L), some (.int p.s), some (.int p.l), some (.int p.g), some (.int p.w), some (.ref pc), y7, y8] ∧ H' pc = some (.tup (pcV (norm p))) ∧ Same H4 H', ?_, ?_⟩
      · refine ⟨_, rfl, _, rfl, _, rfl, _, rfl, rfl, _, rfl, ?_⟩
        by_cases h1 : p.l = 1
        · rw [decide_eq_true (show V.int p.l = V.int 1 by rw [h1])]
          refine iteT ⟨sz (show 4 ≤ 100000 by decide), fun pc npc => ⟨pc, rfl, ?_, same_upd npc⟩⟩
          rw [upd_same]
          show _ = some (HO.tup [.int p.s, .int p.l, .int p.g, .int (if p.l = 1 then 1 else p.w)])
          rw [if_pos h1]
        · rw [decide_eq_false (show ¬ V.int p.l = V.int 1 from fun z => h1 (V.int.inj z))]
          refine iteF ⟨_, rfl, sz (show 4 ≤ 100000 by decide), fun pc npc => ⟨pc, rfl, ?_, same_upd npc⟩⟩
          rw [upd_same]
          show _ = some (HO.tup [.int p.s, .int p.l, .int p.g, .int (if p.l = 1 then 1 else p.w)])
          rw [if_neg h1]
      rintro σ' H5 ⟨pc, rfl, epc, s5⟩
      have eu5 := s5 _ _ eu
      have hu5 := hu.same s5
      have sm5 := sm.trans s5
      -- common = common_way(rows[-1], piece) if rows else 0
      refine ⟨fun σ' H' => ∃ c : Int, σ' = [some (.ref x), some (.ref L), some (.int p.s), some (.int p.l), some (.int p.g), some (.int p.w), some (.ref pc), some (.int c), y8] ∧ Same H5 H' ∧ (c = 0 → addP rows p = rows ++ [norm p]) ∧ (c ≠ 0 → ∃ rs q, rows = rs ++ [q] ∧ addP rows p = rs ++ [⟨q.s, q.l + p.l, q.g, c⟩]), ?_, ?_⟩
      · rcases List.eq_nil_or_concat rows with rfl | ⟨rs2, q, rfl⟩
        · cases us with
          | cons u r => exact hu5.elim
          | nil => exact ⟨_, rfl, false, .inl ⟨_, SqL.at eu5, rfl⟩, iteF ⟨0, rfl, Same.refl _, fun _ => rfl, fun h => absurd rfl h⟩⟩
        · rw [List.concat_eq_append] at hu5 ⊢
          obtain ⟨us2, uq, rfl, hu7, equ⟩ := hu5.unsnoc
          rw [List.map_append] at eu5
          refine ⟨_, rfl, true, .inl ⟨_, SqL.at eu5, by simp⟩, iteT ⟨_, rfl, 1, rfl, L, _, -1, .ref uq, rfl, rfl, SqL.at eu5, atI_last, _, rfl, uq, pc, q, norm p, rfl, equ, epc, fun H6 s6 => ⟨cwF q (norm p), rfl, s6, fun h => ?_, fun h => ⟨rs2, q, rfl, ?_⟩⟩⟩⟩
          · rw [add_some, if_pos h]
          · rw [add_some, if_neg h]
      rintro σ' H6 ⟨c, rfl, s6, hc0, hc1⟩
      have eu6 := s6 _ _ eu5
      have hu6 := hu5.same s6
      have sm6 := sm5.trans s6
      have epc6 := s6 _ _ epc
      -- if common == 0
      refine ⟨_, rfl, rfl, _, rfl, ?_⟩
      by_cases hc : c = 0
      · rw [decide_eq_true (show V.int c = V.int 0 by rw [hc])]
        refine iteT ⟨_, rfl, .inl ⟨rfl, _, SqL.at eu6⟩, _, rfl, L, us.map V.ref, .ref pc, rfl, rfl, eu6, szlt (by rw [List.length_map]; omega), ?_⟩
        refine ⟨_, _, _, _, _, _, _, us ++ [pc], rfl, keep_upd sm6 nL, by rw [upd_same, List.map_append]; rfl, ?_⟩
        rw [hc0 hc]
        have nL6 : ∀ b xs, H6 b = some (.tup xs) → b ≠ L := fun b xs e z => by
          rw [z, eu6] at e
          cases e
        refine PcsH.snoc ?_ (hu6.mono fun b o e ⟨xs, h⟩ => ?_)
        · rw [upd_ne (nL6 _ _ epc6)]
          exact epc6
        · subst h
          rw [upd_ne (nL6 _ _ e)]
          exact e
      · rw [decide_eq_false (show ¬ V.int c = V.int 0 from fun z => hc (V.int.inj z))]
        obtain ⟨rs2, q, rfl, hadd⟩ := hc1 hc
        rw [hadd]
        obtain ⟨us2, uq, rfl, hu7, equ⟩ := hu6.unsnoc
        refine iteF ?_
        -- first = rows[-1]
        rw [List.map_append] at eu6
        refine ⟨_, rfl, 1, rfl, L, us2.map V.ref ++ [.ref uq], -1, .ref uq, rfl, rfl, SqL.at eu6, atI_last, ?_⟩
        refine ⟨_, rfl, uq, pcV q, 0, _, rfl, rfl, SqT.at equ, rfl, _, rfl, uq, pcV q, 1, _, rfl, rfl, SqT.at equ, rfl, _, rfl, _, _, rfl, rfl, _, rfl, uq, pcV q, 2, _, rfl, rfl, SqT.at equ, rfl, _, rfl, sz (show 4 ≤ 100000 by decide), fun nt nnt => ?_⟩
        have s7 := same_upd (o := .tup [.int q.s, .int (q.l + p.l), .int q.g, .int c]) nnt
        have ent : (upd H6 nt (.tup [.int q.s, .int (q.l + p.l), .int q.g, .int c])) nt = some (.tup [.int q.s, .int (q.l + p.l), .int q.g, .int c]) := upd_same
        generalize upd H6 nt (.tup [.int q.s, .int (q.l + p.l), .int q.g, .int c]) = H7 at s7 ent ⊢
        have eu7 := s7 _ _ eu6
        have hu8 := hu7.same s7
        refine ⟨_, rfl, 1, rfl, L, us2.map V.ref ++ [.ref uq], -1, us2.length, rfl, rfl, eu7, ?_, ?_⟩
        · rw [List.length_append, List.length_map]
          exact ixN_last _
        have nL7 : ∀ b xs, H7 b = some (.tup xs) → b ≠ L := fun b xs e z => by
          rw [z, eu7] at e
          cases e
        refine ⟨_, _, _, _, _, _, _, us2 ++ [nt], rfl, keep_upd (sm6.trans s7) nL, ?_, PcsH.snoc ?_ (hu8.mono fun b o e ⟨xs, h⟩ => ?_)⟩
        · rw [upd_same, List.map_append]
          have := set_last (xs := us2.map V.ref) (x := .ref uq) (y := .ref nt)
          rw [List.length_map] at this
          rw [this]
          rfl
        · rw [upd_ne (nL7 _ _ ent)]
          exact ent
        · subst h
          rw [upd_ne (nL7 _ _ e)]
          exact e
    case gd =>
      rintro σ H' ⟨y2, y3, y4, y5, y6, y7, y8, us, rfl, sm, eu, hu⟩
      rw [List.length_map, rl, List.take_length] at hu
      refine ⟨_, rfl, L, _, rfl, .inl ⟨SqL.at eu, fun t nt => k t us _ (sm.free nt) upd_same (hu.same (same_upd nt)) (sm.trans (same_upd nt))⟩⟩
end

/-! ### runs as instances, with their way -/
instance : DecidableEq Pc := fun a b => decidable_of_iff (a.s = b.s ∧ a.l = b.l ∧ a.g = b.g ∧ a.w = b.w) ⟨fun ⟨h1, h2, h3, h4⟩ => by
  cases a
  cases b
  cases h1
  cases h2
  cases h3
  cases h4
  rfl, fun h => by rw [h]; exact ⟨rfl, rfl, rfl, rfl⟩⟩
/-- so many places are in runs that go backward -/
def sumB : List Pc → Int
  | [] => 0
  | p :: r => (if p.w = -1 then p.l else 0) + sumB r
theorem sumB_app : ∀ (a b : List Pc), sumB (a ++ b) = sumB a + sumB b
  | [], b => by
    show sumB b = 0 + sumB b
    omega
  | p :: a, b => by
    show _ + sumB (a ++ b) = _ + sumB a + sumB b
    rw [sumB_app a b]
    omega
def wayF (n : Int) (ps : List Pc) : Int := if sumB ps ≤ 100 then 1 else if n - sumB ps ≤ 100 then -1 else 0
/-- a Runs of size n with the pieces ps stands at p -/
def RunsAt (C : Addr) (H : Hp) (p : Addr) (n : Int) (ps : List Pc) : Prop := ∃ dx fs t rs, H p = some (.ins C dx fs) ∧ (fs.lookup ("size" : Str) = some (.int n) ∧ fs.lookup ("way" : Str) = some (.int (wayF n ps))) ∧ fs.lookup ("rows" : Str) = some (.ref t) ∧ fs.lookup ("at" : Str) = none ∧ H t = some (.tup (rs.map V.ref)) ∧ PcsH H rs ps
theorem RunsAt.mono {C : Addr} {H H' : Hp} {p : Addr} {n : Int} {ps : List Pc} (h : RunsAt C H p n ps) (e : ∀ b o, H b = some o → (∃ xs, o = .lst xs ∨ o = .tup xs) ∨ (∃ C dx fs, o = .ins C dx fs) → H' b = some o) : RunsAt C H' p n ps := by
  obtain ⟨dx, fs, t, rs, h1, h2, h3, h4, h5, h6⟩ := h
  exact ⟨dx, fs, t, rs, e _ _ h1 (.inr ⟨_, _, _, rfl⟩), h2, h3, h4, e _ _ h5 (.inl ⟨_, .inr rfl⟩), h6.mono fun b o x ⟨xs, q⟩ => e b o x (.inl ⟨xs, .inr q⟩)⟩
theorem RunsAt.same {C : Addr} {H H' : Hp} {p : Addr} {n : Int} {ps : List Pc} (h : RunsAt C H p n ps) (e : Same H H') : RunsAt C H' p n ps := h.mono fun b o x _ => e b o x
theorem rkN {f g : Str} {v r : V} {fs : List (Str × V)} (h : fs.lookup f = some r) (ne : f ≠ g) : (putF g v fs).lookup f = some r := by
  rw [lookup_putF, if_neg ne]
  exact h
theorem rkP {f : Str} {v : V} {fs : List (Str × V)} : (putF f v fs).lookup f = some v := by
  rw [lookup_putF, if_pos rfl]
theorem rkO {f g : Str} {v : V} {fs : List (Str × V)} (h : fs.lookup f = none) (ne : f ≠ g) : (putF g v fs).lookup f = none := by
  rw [lookup_putF, if_neg ne]
  exact h
theorem putL (f : Str) (v : V) : ∀ fs : List (Str × V), (putF f v fs).length ≤ fs.length + 1
  | [] => Nat.le_refl _
  | (g, u) :: r => by
    unfold putF
    split
    · exact Nat.le_succ _
    · have := putL f v r
      show (putF f v r).length + 1 ≤ r.length + 1 + 1
      omega
theorem szF1 (f : Str) (v : V) : (putF f v []).length < 1000 := by
  have := putL f v []
  simp only [List.length_nil] at this
  omega
theorem szF2 (f g : Str) (v u : V) : (putF g u (putF f v [])).length < 1000 := by
  have h1 := putL f v []
  have h2 := putL g u (putF f v [])
  simp only [List.length_nil] at h1
  omega
section
variable {P : Program} {w : World} {K : PySem.W.Frag} {mg : Str → Option Value} {base : Heap} {a : Ad}
def spWayOf : Sp := fun vs H Q _ => ∃ (n : Int) (t : Addr) (rs : List Addr) (ps : List Pc), vs = [.int n, .ref t] ∧ H t = some (.tup (rs.map V.ref)) ∧ PcsH H rs ps ∧ ps.length ≤ 1000 ∧ ∀ H', Same H H' → Q (.int (wayF n ps)) H'
theorem ok_way_of (T : Tx w K mg a) : FnOk P w K mg base CX0 1 a.f_way_of a.d_way_of ["size", "rows"] spWayOf := by
  refine T.F_way_of.ok sc_way_of (fun vs H Q E h => ?_) (fun cdv A outer s H vs Q E hr h => ?_)
  · obtain ⟨n, t, rs, ps, rfl, _⟩ := h
    rfl
  · obtain ⟨n, t, rs, ps, rfl, ht, hps, hl, k⟩ := h
    refine ⟨_, 
(pss_cons (ps_set (i := 2) sc_way_of.nd rfl (.inl rfl) (pe_callB (cr_sum rfl) (by rfl) T.z_sum (by decide +kernel) (pa_cons (pe_lc (own := [("_", 3), ("length", 4), ("way", 5)]) (g := gTup K 4 (gCons (gName 3) (gCons (gName 4) (gCons (gName 3) (gCons (gName 5) gNil))))) rfl sc_way_of.nd (pi_tup (pv 1)) (blkOk_by (own := [("_", 3), ("length", 4), ("way", 5)]) (N := ["size", "rows", "backward", "_", "length", "way"]) (sc := defScope s_way_of) (by decide +kernel)) (fun _ _ _ _ _ => pg_tup rfl (pgs_cons (pg_name (i := 3) sc_way_of.nd rfl (Or.inl rfl)) (pgs_cons (pg_name (i := 4) sc_way_of.nd rfl (Or.inl rfl)) (pgs_cons (pg_name (i := 3) sc_way_of.nd rfl (Or.inl rfl)) (pgs_cons (pg_name (i := 5) sc_way_of.nd rfl (Or.inl rfl)) pgs_nil))))) (fun _ _ _ _ _ => (pts_one (pt_cmpR op_eq (pv 5) (pe_un un_neg pe_int) (nomark _)))) (fun _ _ _ _ _ => (pv 4))) pa_nil)))
  (pss_cons (ps_if (pt_cmpR op_le (pv 2) (pe_glob (v := .int 100) (by rfl) T.m_FEW.choose_spec ⟨_, rfl⟩) (nomark _))
  (pss_one (ps_ret pe_int))
  pss_nil)
  (pss_one (ps_ret (pe_ifExp (pt_cmpR op_le (pe_op op_sub (pv 0) (pv 2)) (pe_glob (v := .int 100) (by rfl) T.m_FEW.choose_spec ⟨_, rfl⟩) (nomark _)) (pe_un un_neg pe_int) pe_int))))), ?_⟩
    have rl := hps.len
    refine ⟨_, rfl, t, rfl, ⟨_, SqT.at ht⟩, fun D hD => ?_⟩
    refine lc_it (walk_tup (xs := rs.map V.ref)) (fun j H' => Same H H' ∧ ∃ ns : List Int, ns.length ≤ j ∧ ns.sum = sumB (ps.take j) ∧ H' D = some (.lst (ns.map V.int))) ?h0 ?hG ?hs ?hd
    case h0 => exact ⟨same_upd hD, [], Nat.le_refl _, rfl, upd_same⟩
    case hG =>
      rintro j H' _ ⟨sm, _⟩
      exact SqT.at (sm _ _ ht)
    case hs =>
      rintro j y H3 H4 hj ⟨sm, ns, hn, hsum, eD⟩ ⟨rfl, ex⟩
      rw [List.length_map] at hj
      have hjp : j < ps.length := by omega
      obtain ⟨r, hr1, hr2⟩ := hps.get (List.getElem?_eq_getElem hjp)
      rw [List.getElem?_map, hr1] at ex
      cases ex
      have htk : sumB (ps.take (j + 1)) = sumB (ps.take j) + if (ps[j]'hjp).w = -1 then (ps[j]'hjp).l else 0 := by
        rw [List.take_succ, List.getElem?_eq_getElem hjp]
        show sumB (ps.take j ++ [ps[j]]) = _
        rw [sumB_app]
        show _ + (_ + 0) = _
        omega
      generalize ps[j]'(by omega) = p at hr2 htk
      refine ⟨r, pcV p, rfl, SqT.at (sm _ _ hr2), rfl, .int p.s, [.int p.l, .int p.g, .int p.w], rfl, .int p.l, [.int p.g, .int p.w], rfl, .int p.g, [.int p.w], rfl, .int p.w, [], rfl, rfl, rfl, ?_⟩
      refine ⟨_, rfl, 1, rfl, rfl, _, rfl, ?_⟩
      by_cases c : p.w = -1
      · rw [decide_eq_true (show V.int p.w = V.int (-1) by rw [c])]
        rw [if_pos c] at htk
        refine iteT ⟨_, rfl, ns.map V.int, eD, szlt (by rw [List.length_map]; omega), keep_upd sm hD, ns ++ [p.l], ?_, ?_, ?_⟩
        · rw [List.length_append]
          show ns.length + 1 ≤ j + 1
          omega
        · rw [htk, List.sum_append, hsum]
          show _ + (p.l + 0) = _
          omega
        · rw [upd_same, List.map_append]
          rfl
      · rw [decide_eq_false (show ¬ V.int p.w = V.int (-1) from fun z => c (V.int.inj z))]
        rw [if_neg c] at htk
        exact iteF ⟨sm, ns, by omega, by rw [htk, hsum]; omega, eD⟩
    case hd =>
      rintro H3 ⟨sm, ns, hn, hsum, eD⟩
      rw [List.length_map, rl, List.take_length] at hsum
      refine ⟨D, ns, rfl, SqL.at eD, ?_⟩
      rw [hsum]
      have k := k H3 sm
      unfold wayF at k
      refine ⟨_, rfl, _, _, rfl, rfl, _, rfl, ?_⟩
      by_cases c : sumB ps ≤ 100
      · rw [decide_eq_true c]
        rw [if_pos c] at k
        exact iteT k
      rw [decide_eq_false c]
      rw [if_neg c] at k
      refine iteF ⟨_, rfl, _, rfl, _, _, rfl, rfl, _, _, rfl, rfl, _, rfl, ?_⟩
      by_cases c2 : n - sumB ps ≤ 100
      · rw [decide_eq_true c2]
        rw [if_pos c2] at k
        exact iteT ⟨1, rfl, k⟩
      · rw [decide_eq_false c2]
        rw [if_neg c2] at k
        exact iteF k
def spRunsInit (C : Addr) : Sp := fun vs H Q _ => ∃ (p dx x : Addr) (n : Int) (rs : List Addr) (ps : List Pc), vs = [.ref p, .int n, .ref x] ∧ H p = some (.ins C dx []) ∧ H x = some (.lst (rs.map V.ref)) ∧ PcsH H rs ps ∧ ps.length ≤ 1000 ∧
  ∀ H', RunsAt C H' p n (oneF ps) → (∀ b o, H b = some o → b ≠ p → H' b = some o) → Q .non H'
theorem ok_Runs_init (T : Tx w K mg a) : FnOk P w K mg base CX0 3 a.f_Runs_init a.d_Runs_init ["self", "size", "pieces"] (spRunsInit a.C_Runs) := by
  refine T.F_Runs_init.ok sc_Runs_init (fun vs H Q E h => ?_) (fun cdv A outer s H vs Q E hr h => ?_)
  · obtain ⟨p, dx, x, n, rs, ps, rfl, _⟩ := h
    rfl
  · obtain ⟨p, dx, x, n, rs, ps, rfl, hp, hx, hps, hl, k⟩ := h
    refine ⟨_, 
(pss_cons (ps_fld (pv 0) (pv 1) rfl)
  (pss_cons (ps_fld (pv 0) (pe_call (ok_one_form T) hr (by rfl) T.m_one_form T.F_one_form.kp T.b_one_form .nil pass0 (pa_cons (pv 2) pa_nil)) rfl)
  (pss_one (ps_fld (pv 0) (pe_call (ok_way_of T) (hr.mono (by decide)) (by rfl) T.m_way_of T.F_way_of.kp T.b_way_of .nil pass0 (pa_cons (pv 1) (pa_cons (pe_fld (pv 0) rfl) pa_nil))) rfl)))), ?_⟩
    have ne : ("rows" : Str) ≠ "size" := by decide +kernel
    have ne2 : ("size" : Str) ≠ "rows" := by decide +kernel
    have ne3 : ("size" : Str) ≠ "way" := by decide +kernel
    have ne4 : ("rows" : Str) ≠ "way" := by decide +kernel
    have ne5 : ("at" : Str) ≠ "way" ∧ ("at" : Str) ≠ "rows" ∧ ("at" : Str) ≠ "size" := by decide +kernel
    -- self.size = size
    refine ⟨_, rfl, .ref p, rfl, p, a.C_Runs, dx, [], rfl, hp, T.cl_Runs, T.n_Runs_size, (show 0 < 1000 by decide), ?_⟩
    have e1 : (upd H p (.ins a.C_Runs dx (putF "size" (.int n) []))) p = some (.ins a.C_Runs dx (putF "size" (.int n) [])) := upd_same
    have q1 : ∀ b o, H b = some o → b ≠ p → (upd H p (.ins a.C_Runs dx (putF "size" (.int n) []))) b = some o := fun b o e z => by
      rw [upd_ne z]
      exact e
    have px : x ≠ p := ne_of hx hp (by intro z; cases z)
    generalize upd H p (.ins a.C_Runs dx (putF "size" (.int n) [])) = H1 at e1 q1 ⊢
    have hps1 : PcsH H1 rs ps := hps.mono fun b o e ⟨xs, h⟩ => q1 b o e (ne_of e hp (by rw [h]; intro z; cases z))
    -- self.rows = one_form(pieces)
    refine ⟨_, rfl, x, rs, ps, rfl, q1 _ _ hx px, hps1, hl, fun t rs' H2 nt et hrs s2 => ?_⟩
    have e2 := s2 _ _ e1
    refine ⟨.ref p, rfl, p, a.C_Runs, dx, _, rfl, e2, T.cl_Runs, T.n_Runs_rows, szF1 _ _, ?_⟩
    have e3 : (upd H2 p (.ins a.C_Runs dx (putF "rows" (.ref t) (putF "size" (.int n) [])))) p = some (.ins a.C_Runs dx (putF "rows" (.ref t) (putF "size" (.int n) []))) := upd_same
    have q3 : ∀ b o, H2 b = some o → b ≠ p → (upd H2 p (.ins a.C_Runs dx (putF "rows" (.ref t) (putF "size" (.int n) [])))) b = some o := fun b o e z => by
      rw [upd_ne z]
      exact e
    have et3 := q3 _ _ et (ne_of et e2 (by intro z; cases z))
    have hrs3 : PcsH (upd H2 p (.ins a.C_Runs dx (putF "rows" (.ref t) (putF "size" (.int n) [])))) rs' (oneF ps) := hrs.mono fun b o e ⟨xs, h⟩ => q3 b o e (ne_of e e2 (by rw [h]; intro z; cases z))
    generalize upd H2 p (.ins a.C_Runs dx (putF "rows" (.ref t) (putF "size" (.int n) []))) = H3 at e3 q3 et3 hrs3 ⊢
    have ol : (oneF ps).length ≤ 1000 := by
      have := fold_len ps []
      simp only [List.length_nil] at this
      show (ps.foldl addP []).length ≤ 1000
      omega
    -- self.way = way_of(size, self.rows)
    refine ⟨_, rfl, .ref p, rfl, p, a.C_Runs, dx, _, _, rfl, e3, T.cl_Runs, T.n_Runs_rows, rkP, n, t, rs', oneF ps, rfl, et3, hrs3, ol, fun H4 s4 => ?_⟩
    generalize hu : wayF n (oneF ps) = u
    have e4 := s4 _ _ e3
    refine ⟨.ref p, rfl, p, a.C_Runs, dx, _, rfl, e4, T.cl_Runs, T.n_Runs_way, szF2 _ _ _ _, ?_⟩
    have q5 : ∀ b o, H4 b = some o → b ≠ p → (upd H4 p (.ins a.C_Runs dx (putF "way" (.int u) (putF "rows" (.ref t) (putF "size" (.int n) []))))) b = some o := fun b o e z => by
      rw [upd_ne z]
      exact e
    refine k _ ⟨dx, _, t, rs', upd_same, ⟨rkN (rkN rkP ne2) ne3, ?_⟩, rkN rkP ne4, rkO (rkO (rkO rfl ne5.2.2) ne5.2.1) ne5.1, q5 _ _ (s4 _ _ et3) (ne_of (s4 _ _ et3) e4 (by intro z; cases z)), ?_⟩ fun b o e z => q5 b o (s4 _ _ (q3 b o (s2 _ _ (q1 b o e z)) z)) z
    · rw [hu]
      exact rkP
    exact (hrs3.same s4).mono fun b o e ⟨xs, h⟩ => q5 b o e (ne_of e e4 (by rw [h]; intro z; cases z))
end

theorem isI_ints {H : Hp} {ns : List Int} : ∀ x ∈ ns.map V.int, ∃ b, IsI H x b := by
  intro x hx
  obtain ⟨i, _, rfl⟩ := List.mem_map.mp hx
  exact ⟨true, .int i⟩
/-! ### rows that may be wrong -/
def RowV (K : PySem.W.Frag) (H : Hp) (p : Addr) (xs : List V) : Prop := SqA K H p xs ∧ xs.length ≤ 100000 ∧ ∀ x ∈ xs, ∃ b, IsI H x b
theorem RowV.same {K : PySem.W.Frag} {H H' : Hp} {p : Addr} {xs : List V} (h : RowV K H p xs) (e : Same H H') : RowV K H' p xs := ⟨h.1.same e, h.2.1, fun x hx => by
  obtain ⟨b, hb⟩ := h.2.2 x hx
  exact ⟨b, hb.same e⟩⟩
def fwR (xs : List V) : Option Nat := fwI xs.length [] 0 xs
theorem fwR_row {xs : List Int} (h : IsRow xs) : fwR (xs.map V.int) = none := by
  unfold fwR
  rw [List.length_map]
  exact fwI_row h
theorem rowV_ints {K : PySem.W.Frag} {H : Hp} {p : Addr} {xs : List Int} (h : SqA K H p (xs.map V.int)) (hl : xs.length ≤ 100000) : RowV K H p (xs.map V.int) := ⟨h, by rw [List.length_map]; exact hl, isI_ints⟩
section
variable {P : Program} {w : World} {K : PySem.W.Frag} {mg : Str → Option Value} {base : Heap} {a : Ad}
/-- what is wished for when an error with one field is raised -/
def ErrAt (H : Hp) (E : XK) (C : Addr) (f : Str) (v : V) : Prop := ∀ H' d, Same H H' → H' d = some (.xd [(f, v)]) → E (.ref C) (some d) H'
theorem ErrAt.on {H H1 : Hp} {E : XK} {C : Addr} {f : Str} {v : V} (h : ErrAt H E C f v) (s : Same H H1) : ErrAt H1 E C f v := fun H' d s' e => h H' d (s.trans s') e
def spCheckRowX (K : PySem.W.Frag) (CR : Addr) : Sp := fun vs H Q E => ∃ p xs, vs = [.ref p] ∧ RowV K H p xs ∧ (∀ k, fwR xs = some k → ErrAt H E CR "index" (.int ((k : Nat) : Int))) ∧ (fwR xs = none → ∀ H', Same H H' → Q .non H')
theorem ok_check_row (T : Tx w K mg a) : FnOk P w K mg base (L2.CX P w) 4 a.f_check_row a.d_check_row ["row"] (spCheckRowX K a.C_BadRow) := by
  refine T.F_check_row.okX sc_check_row (fun vs H Q E h => ?_) (fun cdv A outer s H vs Q E hr h => ?_)
  · obtain ⟨p, xs, rfl, _⟩ := h
    rfl
  · obtain ⟨p, xs, rfl, ⟨hS, hL, hI⟩, hE, q⟩ := h
    refine ⟨_, 
(pss_cons (ps_set (i := 1) sc_check_row.nd rfl (.inl rfl) (pe_call (ok_first_wrong T) hr (by rfl) T.m_first_wrong T.F_first_wrong.kp T.b_first_wrong .nil pass0 (pa_cons (pv 0) (pa_cons (pe_callB call_len_seq (by rfl) T.z_len PySem.boot_len (pa_cons (pv 0) pa_nil)) pa_nil))))
  (pss_one (ps_if (pt_cmpR op_notN (pv 1) pe_non (nomark _))
  (pss_one (ps_raise rfl (takes_of rfl rfl rfl rfl) (pmk_oex T.ox_BadRow.o T.ox_BadRow.ini T.ox_BadRow.tin (ok_BadRow_init T) (hr.mono (by decide)) T.b_BadRow_init .nil pass0 (by rfl) T.c_BadRow (pa_cons (pv 1) pa_nil))))
  pss_nil))), ?_⟩
    refine ⟨.ref p, rfl, .ref p, rfl, p, _, rfl, hS, p, xs, rfl, hS, hL, hI, fun H' s' => ?_⟩
    cases e : fwI xs.length [] 0 xs with
    | none => exact ⟨_, rfl, rfl, _, rfl, iteF (q e H' s')⟩
    | some k => exact ⟨_, rfl, rfl, _, rfl, iteT ⟨_, rfl, (by decide : 1 ≤ 1000), err_end s' (hE k e)⟩⟩
theorem no_q {xs : List V} {k : Nat} (e : fwR xs = some k) {A : Prop} : fwR xs = none → A := fun z => by
  rw [e] at z
  cases z
theorem one_e {xs : List V} {k : Nat} (e : fwR xs = some k) {B : Nat → Prop} (h : B k) : ∀ j, fwR xs = some j → B j := fun j z => by
  rw [e] at z
  cases z
  exact h
theorem no_e {xs : List V} (e : fwR xs = none) {B : Nat → Prop} : ∀ j, fwR xs = some j → B j := fun j z => by
  rw [e] at z
  cases z
end

theorem madeR {H : Hp} {x dx C : Addr} (hx : H x = none) (hd : H dx = none) (ne : dx ≠ x) : Same H (upd (upd H dx (.own x)) x (.ins C dx [])) ∧ (upd (upd H dx (.own x)) x (.ins C dx [])) x = some (.ins C dx []) :=
  ⟨(same_upd hd).trans (same_upd (by rw [upd_ne ne.symm]; exact hx)), upd_same⟩
def pcD (p : Pc) : PyData := .tuple [.int p.s, .int p.l, .int p.g, .int p.w]
def rsD (ps : List Pc) : PyData := .tuple (ps.map pcD)
theorem dp_pcs {K : PySem.W.Frag} {H : Hp} : ∀ {rs : List Addr} {ps : List Pc}, PcsH H rs ps → DpAll K H (rs.map V.ref) (ps.map pcD)
  | [], [], _ => .nil
  | _ :: _, _ :: _, h => .cons (.tup (SqT.at h.1) (.cons (.int _) (.cons (.int _) (.cons (.int _) (.cons (.int _) .nil))))) (dp_pcs h.2)
theorem shaped_rs (ps : List Pc) : SeqAt.shaped (rsD ps) = true := by
  have a1 : ∀ ps : List Pc, PyData.canLayAll0 (ps.map pcD) = true := fun ps => by
    induction ps with
    | nil => simp [PyData.canLayAll0]
    | cons p r ih => simp [pcD, PyData.canLay0, PyData.canLayAll0, ih]
  have a2 : ∀ ps : List Pc, PyData.depthAll (ps.map pcD) ≤ 2 := fun ps => by
    induction ps with
    | nil => simp [PyData.depthAll]
    | cons p r ih =>
      simp only [List.map_cons, PyData.depthAll, pcD, PyData.depth]
      omega
  unfold SeqAt.shaped rsD
  rw [Bool.and_eq_true, decide_eq_true_eq]
  refine ⟨by rw [PyData.canLay0]; exact a1 ps, ?_⟩
  have := a2 ps
  rw [PyData.depth]
  omega
theorem eqv_rs (ps qs : List Pc) : PyData.eqv (rsD ps) (rsD qs) = decide (ps = qs) := by
  have one : ∀ p q : Pc, PyData.eqv (pcD p) (pcD q) = decide (p = q) := fun p q => by
    have e : (p = q) = (p.s = q.s ∧ p.l = q.l ∧ p.g = q.g ∧ p.w = q.w) := propext ⟨fun h => by rw [h]; exact ⟨rfl, rfl, rfl, rfl⟩, fun ⟨h1, h2, h3, h4⟩ => by
      cases p
      cases q
      cases h1
      cases h2
      cases h3
      cases h4
      rfl⟩
    simp only [pcD, PyData.eqv, PyData.eqvAll, Bool.and_true, e, Bool.decide_and]
    rfl
  have all : ∀ ps qs : List Pc, PyData.eqvAll (ps.map pcD) (qs.map pcD) = decide (ps = qs) := fun ps => by
    induction ps with
    | nil =>
      intro qs
      cases qs <;> simp [PyData.eqvAll]
    | cons p r ih =>
      intro qs
      cases qs with
      | nil => simp [PyData.eqvAll]
      | cons q t =>
        simp only [List.map_cons, PyData.eqvAll, one, ih, List.cons.injEq, Bool.decide_and]
  unfold rsD
  rw [PyData.eqv]
  exact all ps qs
def fullP (k x y : Int) (ps : List Pc) : List Pc := ((⟨0, x, 0, 1⟩ : Pc) :: (ps ++ [(⟨y + 1, k - y - 1, y + 1, 1⟩ : Pc)])).filter fun p => decide (0 < p.l)
section
variable {P : Program} {w : World} {K : PySem.W.Frag} {mg : Str → Option Value} {base : Heap} {a : Ad}
def spRunsAt (C CP : Addr) : Sp := fun vs H Q E => ∃ (p : Addr) (n : Int) (y : V) (ib : Bool) (ps : List Pc), vs = [.ref p, y] ∧ RunsAt C H p n ps ∧ IsI H y ib ∧ ps.length ≤ 1000 ∧
  ((∃ j : Int, y = .int j ∧ Chain 0 n ps ∧ 0 ≤ j ∧ j < n ∧ Q (.int (valP ps j)) H) ∨ (btM 0 (n - 1) y = false ∧ ∀ H' d, Same H H' → H' d = some (.xd [("place", y)]) → E (.ref CP) (some d) H'))
theorem ok_Runs_at (T : Tx w K mg a) : FnOk P w K mg base (L2.CX P w) 3 a.f_Runs_at a.d_Runs_at ["self", "j"] (spRunsAt a.C_Runs a.C_BadPlace) := by
  refine T.F_Runs_at.okX sc_Runs_at (fun vs H Q E h => ?_) (fun cdv A outer s H vs Q E hr h => ?_)
  · obtain ⟨p, n, y, ib, ps, rfl, _⟩ := h
    rfl
  · obtain ⟨p, n, y, ib, ps, rfl, ⟨dx, fs, t, rs, p1, p2, p3, p4, p5, p6⟩, hI, hl, h⟩ := h
    refine ⟨_, 
(pss_cons (ps_if (pt_not (pt_val (pe_call (ok_is_between T) hr (by rfl) T.m_is_between T.F_is_between.kp T.b_is_between .nil pass0 (pa_cons (pv 1) (pa_cons pe_int (pa_cons (pe_op op_sub (pe_fld (pv 0) rfl) pe_int) pa_nil))))))
  (pss_one (ps_raise rfl (takes_of rfl rfl rfl rfl) (pmk_oex T.ox_BadPlace.o T.ox_BadPlace.ini T.ox_BadPlace.tin (ok_BadPlace_init T) hr T.b_BadPlace_init .nil pass0 (by rfl) T.c_BadPlace (pa_cons (pv 1) pa_nil))))
  pss_nil)
  (pss_one (ps_ret (pe_call (ok_goal_of T) (hr.mono (by decide)) (by rfl) T.m_goal_of T.F_goal_of.kp T.b_goal_of .nil pass0 (pa_cons (pe_ix ix_tup (pe_fld (pv 0) rfl) (pe_call (ok_index_of_run T) (hr.mono (by decide)) (by rfl) T.m_index_of_run T.F_index_of_run.kp T.b_index_of_run .nil pass0 (pa_cons (pe_fld (pv 0) rfl) (pa_cons (pv 1) pa_nil))) (fun _ _ => rfl)) (pa_cons (pv 1) pa_nil)))))), ?_⟩
    refine ⟨_, rfl, .ref p, rfl, p, a.C_Runs, dx, _, _, rfl, p1, T.cl_Runs, T.n_Runs_size, p2.1, _, 1, rfl, rfl, y, ib, 0, n - 1, rfl, hI, _, rfl, ?_⟩
    rcases h with ⟨j, rfl, hc, j0, jn, k⟩ | ⟨hb, hE⟩
    rotate_left
    · rw [hb]
      exact iteT ⟨_, rfl, (by decide : 1 ≤ 1000), err_end (Same.refl H) hE⟩
    rw [show btM 0 (n - 1) (.int j) = true from by simp only [btM, Bool.and_eq_true, decide_eq_true_eq]; omega]
    refine ⟨.ref p, rfl, p, a.C_Runs, dx, _, _, rfl, p1, T.cl_Runs, T.n_Runs_rows, p3, .ref p, rfl, p, a.C_Runs, dx, _, _, rfl, p1, T.cl_Runs, T.n_Runs_rows, p3, _, rfl, t, rs, ps, n, j, rfl, p5, p6, hc, j0, jn, by omega, fun i q hq h1 h2 => ?_⟩
    obtain ⟨r, hr1, hr2⟩ := p6.get hq
    have g : atI (rs.map V.ref) ((i : Nat) : Int) = some (.ref r) := atI_nat (by rw [List.getElem?_map, hr1]; rfl)
    refine ⟨t, rs.map V.ref, (i : Int), .ref r, rfl, rfl, SqT.at p5, g, _, rfl, r, q, j, rfl, hr2, chain_way hc hq, ?_⟩
    rw [val_at hc hq h1 h2 jn] at k
    exact k
def spCheckFar (CS : Addr) : Sp := fun vs H Q E => ∃ (y : V) (ib : Bool), vs = [y] ∧ IsI H y ib ∧ ((btM 1 (10 ^ 30) y = true ∧ Q .non H) ∨ (btM 1 (10 ^ 30) y = false ∧ ∀ H' d, Same H H' → H' d = some (.xd [("size", y)]) → E (.ref CS) (some d) H'))
theorem ok_check_far_size (T : Tx w K mg a) : FnOk P w K mg base (L2.CX P w) 3 a.f_check_far_size a.d_check_far_size ["k"] (spCheckFar a.C_BadSize) := by
  refine T.F_check_far_size.okX sc_check_far_size (fun vs H Q E h => ?_) (fun cdv A outer s H vs Q E hr h => ?_)
  · obtain ⟨y, ib, rfl, _⟩ := h
    rfl
  · obtain ⟨y, ib, rfl, hI, h⟩ := h
    refine ⟨_, 
(pss_one (ps_if (pt_not (pt_val (pe_call (ok_is_between T) hr (by rfl) T.m_is_between T.F_is_between.kp T.b_is_between .nil pass0 (pa_cons (pv 0) (pa_cons pe_int (pa_cons (pe_glob (v := .int 1000000000000000000000000000000) (by rfl) T.m_MOST_SIZE.choose_spec ⟨_, rfl⟩) pa_nil))))))
  (pss_one (ps_raise rfl (takes_of rfl rfl rfl rfl) (pmk_oex T.ox_BadSize.o T.ox_BadSize.ini T.ox_BadSize.tin (ok_BadSize_init T) hr T.b_BadSize_init .nil pass0 (by rfl) T.c_BadSize (pa_cons (pv 0) pa_nil))))
  pss_nil)), ?_⟩
    refine ⟨_, rfl, y, ib, 1, 10 ^ 30, rfl, hI, _, rfl, ?_⟩
    rcases h with ⟨hb, q⟩ | ⟨hb, hE⟩
    · rw [hb]
      exact q
    · rw [hb]
      exact ⟨_, rfl, (by decide : 1 ≤ 1000), err_end (Same.refl H) hE⟩
def spMovedBlock (C : Addr) : Sp := fun vs H Q _ => ∃ (k x y : Int) (l : Addr) (rs : List Addr) (ps : List Pc), vs = [.int k, .int x, .int y, .ref l] ∧ H l = some (.lst (rs.map V.ref)) ∧ PcsH H rs ps ∧ ps.length ≤ 10 ∧ ∀ p H', RunsAt C H' p k (oneF (fullP k x y ps)) → Same H H' → Q (.ref p) H'
theorem ok_moved_block (T : Tx w K mg a) : FnOk P w K mg base CX0 5 a.f_moved_block a.d_moved_block ["k", "x", "y", "pieces"] (spMovedBlock a.C_Runs) := by
  refine T.F_moved_block.ok sc_moved_block (fun vs H Q E h => ?_) (fun cdv A outer s H vs Q E hr h => ?_)
  · obtain ⟨k, x, y, l, rs, ps, rfl, _⟩ := h
    rfl
  · obtain ⟨k, x, y, l, rs, ps, rfl, hl, hps, hlen, q⟩ := h
    refine ⟨_, 
(pss_cons (ps_set (i := 4) sc_moved_block.nd rfl (.inl rfl) (pe_lst (pa_cons (pe_tup (pa_cons pe_int (pa_cons (pv 1) (pa_cons pe_int (pa_cons pe_int pa_nil))))) (StX.pa_star (pv 3) (pa_cons (pe_tup (pa_cons (pe_op op_add (pv 2) pe_int) (pa_cons (pe_op op_sub (pe_op op_sub (pv 0) (pv 2)) pe_int) (pa_cons (pe_op op_add (pv 2) pe_int) (pa_cons pe_int pa_nil))))) pa_nil)))))
  (pss_one (ps_ret (pe_make T.mk_Runs (ok_Runs_init T) hr (by rfl) T.c_Runs T.b_Runs_init .nil pass0 (pa_cons (pv 0) (pa_cons (pe_lc (own := [("piece", 5)]) (g := gName 5) rfl sc_moved_block.nd (pi_list (pv 4)) (blkOk_by (own := [("piece", 5)]) (N := ["k", "x", "y", "pieces", "around", "piece"]) (sc := defScope s_moved_block) (by decide +kernel)) (fun _ _ _ _ _ => pg_name (i := 5) sc_moved_block.nd rfl (Or.inl rfl)) (fun _ _ _ _ _ => (pts_one (pt_cmpR op_gt (pe_ix (show IxR _ (rIxT K) from ix_tup) (pv 5) pe_int (fun _ _ => rfl)) pe_int (nomark _)))) (fun _ _ _ _ _ => (pv 5))) pa_nil)))))), ?_⟩
    have rl := hps.len
    refine ⟨_, rfl, sz (show 4 ≤ 100000 by decide), fun t1 n1 => ?_⟩
    have s1 := same_upd (o := .tup (pcV ⟨0, x, 0, 1⟩)) n1
    have e1 : (upd H t1 (.tup (pcV ⟨0, x, 0, 1⟩))) t1 = some (.tup (pcV ⟨0, x, 0, 1⟩)) := upd_same
    change StX.tStar _ _ _ _ (upd H t1 (.tup (pcV ⟨0, x, 0, 1⟩))) _
    generalize upd H t1 (.tup (pcV ⟨0, x, 0, 1⟩)) = H1 at s1 e1 ⊢
    refine ⟨.ref l, rfl, l, _, rfl, .inr (SqL.at (s1 _ _ hl)), _, rfl, _, 1, rfl, rfl, _, rfl, _, rfl, _, _, rfl, rfl, _, 1, rfl, rfl, _, rfl, _, 1, rfl, rfl, sz (show 4 ≤ 100000 by decide), fun t2 n2 => ?_⟩
    have s2 := s1.trans (same_upd (o := .tup [.int (y + 1), .int (k - y - 1), .int (y + 1), .int 1]) n2)
    have e2 : (upd H1 t2 (.tup [.int (y + 1), .int (k - y - 1), .int (y + 1), .int 1])) t2 = some (.tup (pcV ⟨y + 1, k - y - 1, y + 1, 1⟩)) := upd_same
    have e12 := (same_upd (o := .tup [.int (y + 1), .int (k - y - 1), .int (y + 1), .int 1]) n2) _ _ e1
    generalize upd H1 t2 (.tup [.int (y + 1), .int (k - y - 1), .int (y + 1), .int 1]) = H2 at s2 e2 e12 ⊢
    refine ⟨sz (by simp; omega), fun A nA => ?_⟩
    have s3 := s2.trans (same_upd (o := .lst (V.ref t1 :: (rs.map V.ref ++ [V.ref t2]))) nA)
    have eA : (upd H2 A (.lst (V.ref t1 :: (rs.map V.ref ++ [V.ref t2])))) A = some (.lst ((t1 :: (rs ++ [t2])).map V.ref)) := by
      rw [upd_same, List.map_cons, List.map_append]
      rfl
    have hp2 : PcsH H2 (t1 :: (rs ++ [t2])) ((⟨0, x, 0, 1⟩ : Pc) :: (ps ++ [(⟨y + 1, k - y - 1, y + 1, 1⟩ : Pc)])) := ⟨e12, PcsH.snoc e2 (hps.same s2)⟩
    have hp3 := hp2.same (same_upd (o := .lst (V.ref t1 :: (rs.map V.ref ++ [V.ref t2]))) nA)
    change gName 4 (V.ref A) _ (upd H2 A (.lst (V.ref t1 :: (rs.map V.ref ++ [V.ref t2])))) _
    generalize upd H2 A (.lst (V.ref t1 :: (rs.map V.ref ++ [V.ref t2]))) = H3 at s3 eA hp3 ⊢
    generalize hall : ((⟨0, x, 0, 1⟩ : Pc) :: (ps ++ [(⟨y + 1, k - y - 1, y + 1, 1⟩ : Pc)])) = all at hp3
    have al : all.length ≤ 12 := by
      rw [← hall]
      simp
      omega
    generalize t1 :: (rs ++ [t2]) = ars at eA hp3
    clear hp2 e2 e12 s2 e1 s1
    have arl := hp3.len
    -- Runs(k, [piece for piece in around if piece[1] > 0])
    refine ⟨_, rfl, _, rfl, A, rfl, ⟨_, SqL.at eA⟩, fun D hD => ?_⟩
    refine lc_it (walk_list (xs := ars.map V.ref)) (fun j H' => Same H3 H' ∧ ∃ us : List Addr, H' D = some (.lst (us.map V.ref)) ∧ PcsH H' us ((all.take j).filter fun p => decide (0 < p.l))) ?h0 ?hG ?hs ?hd
    case h0 => exact ⟨same_upd hD, [], upd_same, trivial⟩
    case hG =>
      rintro j H' _ ⟨sm, _⟩
      exact sm.seq (SqL.at eA)
    case hs =>
      rintro j yy H4 H5 hj ⟨sm, us, eD, hus⟩ ⟨rfl, ex⟩
      rw [List.length_map] at hj
      have hja : j < all.length := by omega
      obtain ⟨r, hr1, hr2⟩ := hp3.get (List.getElem?_eq_getElem hja)
      rw [List.getElem?_map, hr1] at ex
      cases ex
      have htk : (all.take (j + 1)).filter (fun p => decide (0 < p.l)) = (all.take j).filter (fun p => decide (0 < p.l)) ++ if 0 < (all[j]'hja).l then [all[j]'hja] else [] := by
        rw [List.take_succ, List.getElem?_eq_getElem hja]
        show (all.take j ++ [all[j]]).filter _ = _
        rw [List.filter_append]
        congr 1
        by_cases c : 0 < (all[j]'hja).l
        · rw [if_pos c]
          simp [c]
        · rw [if_neg c]
          simp [c]
      rw [htk]
      have ul := hus.len
      have ul2 : us.length ≤ 12 := by
        have := List.length_filter_le (fun p : Pc => decide (0 < p.l)) (all.take j)
        rw [List.length_take] at this
        omega
      generalize (all.take j).filter (fun p => decide (0 < p.l)) = done at hus ul ⊢
      generalize all[j]'hja = p at hr2 ⊢
      clear htk
      have hr5 := sm _ _ hr2
      refine ⟨rfl, _, rfl, r, pcV p, 1, _, rfl, rfl, SqT.at hr5, rfl, _, 0, rfl, rfl, _, rfl, ?_⟩
      by_cases c : 0 < p.l
      · rw [decide_eq_true c, if_pos c]
        refine iteT ⟨_, rfl, us.map V.ref, eD, szlt (by rw [List.length_map]; omega), keep_upd sm hD, us ++ [r], by rw [upd_same, List.map_append]; rfl, ?_⟩
        have nD : ∀ b xs, H5 b = some (.tup xs) → b ≠ D := fun b xs e z => by
          rw [z, eD] at e
          cases e
        refine PcsH.snoc ?_ (hus.mono fun b o e ⟨xs, h⟩ => ?_)
        · rw [upd_ne (nD _ _ hr5)]
          exact hr5
        · subst h
          rw [upd_ne (nD _ _ e)]
          exact e
      · rw [decide_eq_false c, if_neg c, List.append_nil]
        exact iteF ⟨sm, us, eD, hus⟩
    case hd =>
      rintro H4 ⟨sm, us, eD, hus⟩
      rw [List.length_map, arl, List.take_length] at hus
      refine fun p dx hp hdx ne => ?_
      obtain ⟨s5, ep⟩ := madeR (C := a.C_Runs) hp hdx ne
      generalize upd (upd H4 dx (.own p)) p (.ins a.C_Runs dx []) = H5 at s5 ep ⊢
      have fl : (all.filter fun p => decide (0 < p.l)).length ≤ 12 := Nat.le_trans (List.length_filter_le _ _) al
      refine ⟨p, dx, D, k, us, _, rfl, ep, s5 _ _ eD, hus.same s5, by omega, fun H6 hR hk => ⟨rfl, q p H6 ?_ ?_⟩⟩
      · unfold fullP
        rw [hall]
        exact hR
      · exact s3.trans (sm.trans fun b o e => hk b o (s5 b o e) (ne_of_none e hp))
end

/-! ### the next piece of a chain -/
theorem chain_next : ∀ {r : List Pc} {lo hi : Int}, Chain lo hi r → ∀ {i : Nat} {q : Pc}, r[i]? = some q → q.s + q.l < hi → ∃ q', r[i + 1]? = some q' ∧ q'.s = q.s + q.l
  | p :: r, lo, hi, ⟨h1, h2, h3, h4⟩, 0, q, e, h => by
    cases e
    cases r with
    | nil =>
      have h4 : lo + p.l = hi := h4
      omega
    | cons x t => exact ⟨x, rfl, by rw [h4.1]; omega⟩
  | p :: r, lo, hi, ⟨h1, h2, h3, h4⟩, i + 1, q, e, h => chain_next h4 (i := i) (by simpa using e) h
theorem chain_prev : ∀ {r : List Pc} {lo hi : Int}, Chain lo hi r → ∀ {i : Nat} {q : Pc}, r[i]? = some q → lo < q.s → ∃ i' q', i = i' + 1 ∧ r[i']? = some q' ∧ q'.s + q'.l = q.s
  | p :: r, lo, hi, ⟨h1, h2, h3, h4⟩, 0, q, e, h => by
    cases e
    omega
  | p :: r, lo, hi, ⟨h1, h2, h3, h4⟩, i + 1, q, e, h => by
    have e : r[i]? = some q := by simpa using e
    cases i with
    | zero =>
      refine ⟨0, p, rfl, rfl, ?_⟩
      cases r with
      | nil => cases e
      | cons x t =>
        cases e
        rw [h4.1, h1]
    | succ i =>
      have g : lo + p.l < q.s := by
        have c := chain_sorted h4 (i := 0) (k := i + 1) (p := r[0]'(by
          have := (List.getElem?_eq_some_iff.mp e).1
          omega)) (q := q) (List.getElem?_eq_getElem _) e (by omega)
        have m := chain_mem h4 (List.getElem_mem (l := r) (n := 0) (by
          have := (List.getElem?_eq_some_iff.mp e).1
          omega))
        omega
      obtain ⟨i', q', ei, a, b⟩ := chain_prev h4 (i := i + 1) e g
      exact ⟨i' + 1, q', by omega, by simpa using a, b⟩
theorem chain_at {r : List Pc} {lo hi : Int} (h : Chain lo hi r) {i : Nat} {q : Pc} {j : Int} (e : r[i]? = some q) (h1 : q.s ≤ j) (h2 : ∀ x, r[i + 1]? = some x → j < x.s) (h3 : j < hi) : j < q.s + q.l := by
  refine Decidable.byContradiction fun c => ?_
  obtain ⟨x, hx, ex⟩ := chain_next h e (by omega)
  have := h2 x hx
  omega
/-- one step of what is led on: at place g of the piece q, in the way v, left places -/
def manyF (q : Pc) (g v left : Int) : Int := min (if v = 1 then q.s + q.l - g else g - q.s + 1) left
theorem many_ok {q : Pc} {g v left : Int} (h1 : q.s ≤ g) (h2 : g < q.s + q.l) (hl : 1 ≤ left) (hv : v = 1 ∨ v = -1) : 1 ≤ manyF q g v left ∧ manyF q g v left ≤ left ∧ (v = 1 → g + manyF q g v left ≤ q.s + q.l) ∧ (v = -1 → q.s ≤ g - manyF q g v left + 1) ∧
    (manyF q g v left < left → (v = 1 → g + manyF q g v left = q.s + q.l) ∧ (v = -1 → g - manyF q g v left + 1 = q.s)) := by
  unfold manyF
  rcases hv with rfl | rfl
  · rw [if_pos rfl]
    omega
  · rw [if_neg (by decide)]
    omega
/-- what has been led on of the piece p, d places -/
structure LedTo (ps : List Pc) (p : Pc) (d : Int) (qs : List Pc) : Prop where
  d0 : 0 ≤ d
  d1 : d ≤ p.l
  ch : Chain p.s (p.s + d) qs
  val : ∀ j, p.s ≤ j → j < p.s + d → valP qs j = valP ps (p.g + p.w * (j - p.s))
theorem led_step {n : Int} {ps qs : List Pc} {p q : Pc} {d : Int} {i : Nat} (hc : Chain 0 n ps) (hw : p.w = 1 ∨ p.w = -1) (h : LedTo ps p d qs) (hd : d < p.l) (hq : ps[i]? = some q) (g1 : q.s ≤ p.g + p.w * d) (g2 : p.g + p.w * d < q.s + q.l) :
    LedTo ps p (d + manyF q (p.g + p.w * d) p.w (p.l - d)) (qs ++ [⟨p.s + d, manyF q (p.g + p.w * d) p.w (p.l - d), q.g + q.w * (p.g + p.w * d - q.s), p.w * q.w⟩]) := by
  obtain ⟨m1, m2, m3, m4, m5⟩ := many_ok g1 g2 (show 1 ≤ p.l - d by omega) hw
  generalize manyF q (p.g + p.w * d) p.w (p.l - d) = m at m1 m2 m3 m4 m5 ⊢
  have qw := chain_way hc hq
  have qm := List.mem_of_getElem? hq
  have one : Chain (p.s + d) (p.s + d + m) [(⟨p.s + d, m, q.g + q.w * (p.g + p.w * d - q.s), p.w * q.w⟩ : Pc)] := ⟨rfl, m1, by
    show p.w * q.w = 1 ∨ p.w * q.w = -1
    rcases hw with a | a <;> rcases qw with b | b <;> rw [a, b] <;> decide, rfl⟩
  have hd0 := h.d0
  refine ⟨by omega, by omega, ?_, fun j j0 j1 => ?_⟩
  · rw [← Int.add_assoc]
    exact h.ch.append one
  · by_cases c : j < p.s + d
    · rw [val_left h.ch c j0]
      exact h.val j j0 c
    · rw [val_right h.ch (by omega), val_head (r := []) (by show j < p.s + d + m; omega)]
      show q.g + q.w * (p.g + p.w * d - q.s) + p.w * q.w * (j - (p.s + d)) = _
      obtain ⟨t, rfl⟩ : ∃ t, j = p.s + d + t := ⟨j - (p.s + d), by omega⟩
      rw [show p.s + d + t - (p.s + d) = t by omega, show p.s + d + t - p.s = d + t by omega]
      have inq : q.s ≤ p.g + p.w * (d + t) ∧ p.g + p.w * (d + t) < q.s + q.l := by
        rcases hw with a | a
        · have := m3 a
          rw [a] at this g1 g2 ⊢
          omega
        · have := m4 a
          rw [a] at this g1 g2 ⊢
          omega
      rw [val_mem hc qm inq.1 inq.2]
      rw [show p.g + p.w * (d + t) - q.s = (p.g + p.w * d - q.s) + p.w * t by rw [Int.mul_add]; omega, Int.mul_add, ← Int.mul_assoc, Int.mul_comm q.w p.w]
      omega
/-- where what is led on stands: in a run, so many pieces made -/
structure LedIn (ps : List Pc) (p : Pc) (d : Int) (m : Nat) (i : Nat) (q : Pc) : Prop where
  at' : ps[i]? = some q
  g1 : q.s ≤ p.g + p.w * d
  g2 : p.g + p.w * d < q.s + q.l
  few : (p.w = 1 → m ≤ cntS ps (tbP p).s (p.g + d)) ∧ (p.w = -1 → m ≤ cntS ps (p.g - d) ((tbP p).s + (tbP p).l - 1))
theorem led_next {n : Int} {ps : List Pc} {p q : Pc} {d : Int} {i m : Nat} (hc : Chain 0 n ps) (hw : p.w = 1 ∨ p.w = -1) (h0 : 0 ≤ (tbP p).s) (h1 : (tbP p).s + (tbP p).l ≤ n) (hd0 : 0 ≤ d) (hd : d < p.l) (h : LedIn ps p d m i q) :
    (d + manyF q (p.g + p.w * d) p.w (p.l - d) < p.l → ∃ (i' : Nat) (q' : Pc), (i' : Int) = (i : Int) + p.w ∧ LedIn ps p (d + manyF q (p.g + p.w * d) p.w (p.l - d)) (m + 1) i' q') ∧ m ≤ cntS ps (tbP p).s ((tbP p).s + (tbP p).l - 1) := by
  obtain ⟨hq, g1, g2, few⟩ := h
  obtain ⟨m1, m2, m3, m4, m5⟩ := many_ok g1 g2 (show 1 ≤ p.l - d by omega) hw
  generalize manyF q (p.g + p.w * d) p.w (p.l - d) = mm at m1 m2 m3 m4 m5 ⊢
  have tl := tb_l p
  rcases hw with a | a
  · have ts : (tbP p).s = p.g := by rw [tb1 a]
    have few := few.1 a
    rw [a] at g1 g2 m5
    refine ⟨fun hm => ?_, Nat.le_trans few (cnt_le ps (Int.le_refl _) (by omega))⟩
    have e := (m5 (by omega)).1 rfl
    obtain ⟨q', hq', es⟩ := chain_next hc hq (by omega)
    have qm := List.mem_of_getElem? hq'
    have ql := (chain_mem hc qm).2.1
    refine ⟨i + 1, q', by rw [a]; omega, ⟨hq', by rw [a]; omega, by rw [a]; omega, fun _ => ?_, fun z => by omega⟩⟩
    exact Nat.le_trans (Nat.succ_le_succ few) (cnt_more qm (Int.le_refl _) (by omega) (by omega) (by omega))
  · have ts : (tbP p).s = p.g - p.l + 1 := by rw [tb2 a]
    have few := few.2 a
    rw [a] at g1 g2 m5
    refine ⟨fun hm => ?_, Nat.le_trans few (cnt_le ps (by omega) (Int.le_refl _))⟩
    have e := (m5 (by omega)).2 rfl
    obtain ⟨i', q', rfl, hq', es⟩ := chain_prev hc hq (by omega)
    have ql := (chain_mem hc (List.mem_of_getElem? hq')).2.1
    have qm := List.mem_of_getElem? hq
    refine ⟨i', q', by rw [a]; omega, ⟨hq', by rw [a]; omega, by rw [a]; omega, fun z => by omega, fun _ => ?_⟩⟩
    exact Nat.le_trans (Nat.succ_le_succ few) (cnt_more qm (by omega) (Int.le_refl _) (by omega) (by omega))
theorem cnt_len : ∀ (ps : List Pc) (lo hi : Int), cntS ps lo hi ≤ ps.length
  | [], _, _ => Nat.le_refl _
  | p :: r, lo, hi => by
    have := cnt_len r lo hi
    show (if lo < p.s ∧ p.s ≤ hi then 1 else 0) + cntS r lo hi ≤ r.length + 1
    split <;> omega

section
variable {P : Program} {w : World} {K : PySem.W.Frag} {mg : Str → Option Value} {base : Heap} {a : Ad}
def spLedOn : Sp := fun vs H Q _ => ∃ (t r : Addr) (rs : List Addr) (ps : List Pc) (p : Pc) (n : Int), vs = [.ref t, .ref r] ∧ H t = some (.tup (rs.map V.ref)) ∧ PcsH H rs ps ∧ Chain 0 n ps ∧ H r = some (.tup (pcV p)) ∧ 1 ≤ p.l ∧ (p.w = 1 ∨ p.w = -1) ∧ 0 ≤ (tbP p).s ∧ (tbP p).s + (tbP p).l ≤ n ∧ ps.length ≤ 1000 ∧
  ∀ L us qs H', H L = none → H' L = some (.lst (us.map V.ref)) → PcsH H' us qs → Led ps p qs → Same H H' → Q (.ref L) H'
theorem ok_led_on (T : Tx w K mg a) : FnOk P w K mg base CX0 2 a.f_led_on a.d_led_on ["rows", "run"] spLedOn := by
  refine T.F_led_on.ok sc_led_on (fun vs H Q E h => ?_) (fun cdv A outer s H vs Q E hr h => ?_)
  · obtain ⟨t, r, rs, ps, p, n, rfl, _⟩ := h
    rfl
  · obtain ⟨t, r, rs, ps, p, n, rfl, ht, hps, hc, hr0, pl, pw, b0, b1, hl, k⟩ := h
    refine ⟨_, 
(pss_cons (ps_asg (pv 1) (pg_tup rfl (pgs_cons (pg_name (i := 2) sc_led_on.nd rfl (.inl rfl)) (pgs_cons (pg_name (i := 3) sc_led_on.nd rfl (.inl rfl)) (pgs_cons (pg_name (i := 4) sc_led_on.nd rfl (.inl rfl)) (pgs_cons (pg_name (i := 5) sc_led_on.nd rfl (.inl rfl)) pgs_nil))))))
  (pss_cons (ps_set (i := 6) sc_led_on.nd rfl (.inl rfl) (pe_lst pa_nil))
  (pss_cons (ps_set (i := 7) sc_led_on.nd rfl (.inl rfl) (pe_call (ok_index_of_run T) hr (by rfl) T.m_index_of_run T.F_index_of_run.kp T.b_index_of_run .nil pass0 (pa_cons (pv 0) (pa_cons (pv 4) pa_nil))))
  (pss_cons (ps_while PassesOwn.never (pt_cmpR op_gt (pv 3) pe_int (nomark _))
  (pss_cons (ps_set (i := 8) sc_led_on.nd rfl (.inl rfl) (pe_ix ix_tup (pv 0) (pv 7) (fun _ _ => rfl)))
  (C8.pss_cut (ps_set (i := 9) sc_led_on.nd rfl (.inl rfl) (pe_ifExp (pt_cmpR op_eq (pv 5) pe_int (nomark _)) (pe_op op_sub (pe_op op_add (pe_ix ix_tup (pv 8) pe_int (fun _ _ => rfl)) (pe_ix ix_tup (pv 8) pe_int (fun _ _ => rfl))) (pv 4)) (pe_op op_add (pe_op op_sub (pv 4) (pe_ix ix_tup (pv 8) pe_int (fun _ _ => rfl))) pe_int)))
  (pss_cons (ps_set (i := 9) sc_led_on.nd rfl (.inl rfl) (pe_callB (call_min2 rfl) (by rfl) T.z_min (by decide +kernel) (pa_cons (pv 9) (pa_cons (pv 3) pa_nil))))
  (pss_cons (ps_expr (pe_bm PySem.F.plainAttrs_list PySem.F.slot_list_append PySem.F.type_list_append mt_append (pv 6) (pa_cons (pe_tup (pa_cons (pv 2) (pa_cons (pv 9) (pa_cons (pe_call (ok_goal_of T) hr (by rfl) T.m_goal_of T.F_goal_of.kp T.b_goal_of .nil pass0 (pa_cons (pv 8) (pa_cons (pv 4) pa_nil))) (pa_cons (pe_op op_mul (pv 5) (pe_ix ix_tup (pv 8) pe_int (fun _ _ => rfl))) pa_nil))))) pa_nil)))
  (pss_cons (ps_set (i := 2) sc_led_on.nd rfl (.inl rfl) (pe_op op_add (pv 2) (pv 9)))
  (pss_cons (ps_set (i := 4) sc_led_on.nd rfl (.inl rfl) (pe_op op_add (pv 4) (pe_op op_mul (pv 5) (pv 9))))
  (pss_cons (ps_set (i := 3) sc_led_on.nd rfl (.inl rfl) (pe_op op_sub (pv 3) (pv 9)))
  (pss_one (ps_set (i := 7) sc_led_on.nd rfl (.inl rfl) (pe_op op_add (pv 7) (pv 5))))))))))))
  (pss_one (ps_ret (pv 6))))))), ?_⟩
    -- start, left, goal, way = run
    refine ⟨_, rfl, r, pcV p, rfl, SqT.at hr0, rfl, .int p.s, [.int p.l, .int p.g, .int p.w], rfl, .int p.l, [.int p.g, .int p.w], rfl, .int p.g, [.int p.w], rfl, .int p.w, [], rfl, rfl, ?_⟩
    -- pieces = []
    refine ⟨sz (show 0 ≤ 100000 by decide), fun L nL => ?_⟩
    have s1 := same_upd (o := .lst []) nL
    have eL : (upd H L (.lst [])) L = some (.lst []) := upd_same
    change gName _ (V.ref L) _ (upd H L (.lst [])) _
    generalize upd H L (.lst []) = H1 at s1 eL ⊢
    have gl : 0 ≤ p.g ∧ p.g < n := by
      have tl := tb_l p
      rcases pw with e | e
      · rw [tb1 e] at b0 b1 tl
        dsimp only at b0 b1 tl
        omega
      · rw [tb2 e] at b0 b1 tl
        dsimp only at b0 b1 tl
        omega
    -- index = index_of_run(rows, goal)
    refine ⟨_, rfl, _, rfl, t, rs, ps, n, p.g, rfl, s1 _ _ ht, hps.same s1, hc, gl.1, gl.2, by omega, fun i q hq h1 h2 => ?_⟩
    have g2 := chain_at hc hq h1 h2 gl.2
    have ld0 : LedTo ps p 0 [] := ⟨Int.le_refl _, by omega, by show p.s = p.s + 0; omega, fun j _ _ => by omega⟩
    have li0 : LedIn ps p 0 0 i q := ⟨hq, by rw [Int.mul_zero]; omega, by rw [Int.mul_zero]; omega, fun _ => Nat.zero_le _, fun _ => Nat.zero_le _⟩
    -- while left > 0
    refine ⟨fun m σ H' => ∃ (d : Int) (ix : Int) (y8 y9 : Option V) (us : List Addr) (qs : List Pc), σ = [some (.ref t), some (.ref r), some (.int (p.s + d)), some (.int (p.l - d)), some (.int (p.g + p.w * d)), some (.int p.w), some (.ref L), some (.int ix), y8, y9] ∧ m = (p.l - d).toNat ∧ Same H H' ∧ H' L = some (.lst (us.map V.ref)) ∧ PcsH H' us qs ∧ LedTo ps p d qs ∧ (d < p.l → ∃ (i : Nat) (q : Pc), ix = i ∧ LedIn ps p d qs.length i q) ∧ qs.length ≤ 1 + cntS ps (tbP p).s ((tbP p).s + (tbP p).l - 1), ⟨_, 0, (i : Int), none, none, [], [], ?_, rfl, s1, eL, trivial, ld0, fun _ => ⟨i, q, rfl, li0⟩, Nat.zero_le _⟩, ?_⟩
    · rw [Int.add_zero, Int.sub_zero, Int.mul_zero, Int.add_zero]
      rfl
    rintro m σ H2 ⟨d, ix, y8, y9, us, qs, rfl, rfl, sm, eu, hu, ld, lin, few⟩
    refine ⟨_, rfl, _, 0, rfl, rfl, _, rfl, ?_⟩
    by_cases c : 0 < p.l - d
    rotate_left
    · rw [decide_eq_false c]
      have d1 := ld.d1
      have e : d = p.l := by omega
      subst e
      exact iteF ⟨_, rfl, k L us qs H2 nL eu hu ⟨ld.ch, ld.val, few⟩ sm⟩
    rw [decide_eq_true c]
    obtain ⟨i, q, rfl, li⟩ := lin (by omega)
    obtain ⟨nx, fw⟩ := led_next hc pw b0 b1 ld.d0 (by omega) li
    have ls := led_step hc pw ld (by omega) li.at' li.g1 li.g2
    obtain ⟨m1, m2, m3, m4, m5⟩ := many_ok li.g1 li.g2 (show 1 ≤ p.l - d by omega) pw
    refine iteT ⟨fun σ' H'' => ∃ m', m' < (p.l - d).toNat ∧ ∃ (d : Int) (ix : Int) (y8 y9 : Option V) (us : List Addr) (qs : List Pc), σ' = [some (.ref t), some (.ref r), some (.int (p.s + d)), some (.int (p.l - d)), some (.int (p.g + p.w * d)), some (.int p.w), some (.ref L), some (.int ix), y8, y9] ∧ m' = (p.l - d).toNat ∧ Same H H'' ∧ H'' L = some (.lst (us.map V.ref)) ∧ PcsH H'' us qs ∧ LedTo ps p d qs ∧ (d < p.l → ∃ (i : Nat) (q : Pc), ix = i ∧ LedIn ps p d qs.length i q) ∧ qs.length ≤ 1 + cntS ps (tbP p).s ((tbP p).s + (tbP p).l - 1), fun _ _ h => h, ?_⟩
    -- told = rows[index]
    obtain ⟨rq, hr1, hr2⟩ := hps.get li.at'
    have g : atI (rs.map V.ref) ((i : Nat) : Int) = some (.ref rq) := atI_nat (by rw [List.getElem?_map, hr1]; rfl)
    have hr3 := sm _ _ hr2
    have qw := chain_way hc li.at'
    have cm : ∀ z : Int, CMul p.w z := fun z => .inl (by rcases pw with h | h <;> rw [h] <;> decide)
    have cq : ∀ z : Int, CMul q.w z := fun z => .inl (by rcases qw with h | h <;> rw [h] <;> decide)
    refine ⟨_, rfl, _, rfl, t, rs.map V.ref, (i : Int), .ref rq, rfl, rfl, SqT.at (sm _ _ ht), g, ?_⟩
    -- many = told[0] + told[1] - goal if way == 1 else goal - told[0] + 1
    refine ⟨fun σ' H' => σ' = [some (.ref t), some (.ref r), some (.int (p.s + d)), some (.int (p.l - d)), some (.int (p.g + p.w * d)), some (.int p.w), some (.ref L), some (.int (i : Int)), some (.ref rq), some (.int (if p.w = 1 then q.s + q.l - (p.g + p.w * d) else p.g + p.w * d - q.s + 1))] ∧ H' = H2, ?_, ?_⟩
    · refine ⟨_, rfl, rfl, _, rfl, ?_⟩
      rcases pw with e | e
      · rw [decide_eq_true (show V.int p.w = V.int 1 by rw [e]), if_pos e]
        exact iteT ⟨_, rfl, rq, pcV q, 0, _, rfl, rfl, SqT.at hr3, rfl, _, rfl, rq, pcV q, 1, _, rfl, rfl, SqT.at hr3, rfl, _, _, rfl, rfl, _, rfl, _, _, rfl, rfl, rfl, rfl⟩
      · have ne : ¬ p.w = 1 := by omega
        rw [decide_eq_false (show ¬ V.int p.w = V.int 1 from fun z => ne (V.int.inj z)), if_neg ne]
        exact iteF ⟨_, rfl, _, rfl, rq, pcV q, 0, _, rfl, rfl, SqT.at hr3, rfl, _, _, rfl, rfl, _, 1, rfl, rfl, rfl, rfl⟩
    rintro σ' H' ⟨rfl, rfl⟩
    -- many = min(many, left)
    refine ⟨_, rfl, _, rfl, _, _, rfl, ?_⟩
    have em : (if p.l - d < (if p.w = 1 then q.s + q.l - (p.g + p.w * d) else p.g + p.w * d - q.s + 1) then p.l - d else (if p.w = 1 then q.s + q.l - (p.g + p.w * d) else p.g + p.w * d - q.s + 1)) = manyF q (p.g + p.w * d) p.w (p.l - d) := by
      unfold manyF
      split <;> omega
    rw [em]
    generalize manyF q (p.g + p.w * d) p.w (p.l - d) = mm at nx ls m1 m2 m3 m4 m5 ⊢
    -- pieces.append((start, many, goal_of(told, goal), way * told[3]))
    refine ⟨_, rfl, .inl ⟨rfl, _, SqL.at eu⟩, _, rfl, _, rfl, _, rfl, _, rfl, rq, q, _, rfl, hr3, qw, _, rfl, _, rfl, rq, pcV q, 3, _, rfl, rfl, SqT.at hr3, rfl, _, _, rfl, rfl, cm _, sz (show 4 ≤ 100000 by decide), fun nt nnt => ?_⟩
    have s3 := same_upd (o := .tup (pcV ⟨p.s + d, mm, q.g + q.w * (p.g + p.w * d - q.s), p.w * q.w⟩)) nnt
    have ent : (upd H' nt (.tup (pcV ⟨p.s + d, mm, q.g + q.w * (p.g + p.w * d - q.s), p.w * q.w⟩))) nt = some (.tup (pcV ⟨p.s + d, mm, q.g + q.w * (p.g + p.w * d - q.s), p.w * q.w⟩)) := upd_same
    have ul := hu.len
    have ql2 : qs.length ≤ 1 + cntS ps (tbP p).s ((tbP p).s + (tbP p).l - 1) := few
    have cl := cnt_len ps (tbP p).s ((tbP p).s + (tbP p).l - 1)
    refine ⟨L, us.map V.ref, .ref nt, rfl, rfl, s3 _ _ eu, szlt (by rw [List.length_map]; omega), ?_⟩
    change tSeq _ _ _ _ (upd (upd H' nt (.tup (pcV ⟨p.s + d, mm, q.g + q.w * (p.g + p.w * d - q.s), p.w * q.w⟩))) L (.lst (us.map V.ref ++ [V.ref nt])))
    generalize upd H' nt (.tup (pcV ⟨p.s + d, mm, q.g + q.w * (p.g + p.w * d - q.s), p.w * q.w⟩)) = H3 at s3 ent ⊢
    have eu3 := s3 _ _ eu
    have nL3 : ∀ b xs, H3 b = some (.tup xs) → b ≠ L := fun b xs e z => by
      rw [z, eu3] at e
      cases e
    refine ⟨_, rfl, _, rfl, _, _, rfl, rfl, _, rfl, _, rfl, _, rfl, _, _, rfl, rfl, cm _, _, _, rfl, rfl, _, rfl, _, rfl, _, _, rfl, rfl, _, rfl, _, rfl, _, _, rfl, rfl, ?_⟩
    have e1 : p.s + d + mm = p.s + (d + mm) := by omega
    have e2 : p.l - d - mm = p.l - (d + mm) := by omega
    have e3 : p.g + p.w * d + p.w * mm = p.g + p.w * (d + mm) := by
      rw [Int.mul_add]
      omega
    refine ⟨_, by omega, d + mm, (i : Int) + p.w, some (.ref rq), some (.int mm), us ++ [nt], _, ?_, rfl, keep_upd (sm.trans s3) nL, ?_, ?_, ls, fun hm => ?_, ?_⟩
    · rw [← e1, ← e2, ← e3]
      rfl
    · rw [upd_same, List.map_append]
      rfl
    · refine PcsH.snoc ?_ ((hu.same s3).mono fun b o e ⟨xs, h⟩ => ?_)
      · rw [upd_ne (nL3 _ _ ent)]
        exact ent
      · subst h
        rw [upd_ne (nL3 _ _ e)]
        exact e
    · obtain ⟨i', q', ei, li'⟩ := nx (by omega)
      rw [List.length_append]
      exact ⟨i', q', ei.symm, li'⟩
    · rw [List.length_append]
      show qs.length + 1 ≤ _
      omega
end

theorem PcsH.append {H : Hp} : ∀ {us : List Addr} {ps : List Pc} {vs : List Addr} {qs : List Pc}, PcsH H us ps → PcsH H vs qs → PcsH H (us ++ vs) (ps ++ qs)
  | [], [], _, _, _, k => k
  | _ :: _, _ :: _, _, _, h, k => ⟨h.1, PcsH.append h.2 k⟩
theorem PcsH.take {H : Hp} : ∀ (i : Nat) {us : List Addr} {ps : List Pc}, PcsH H us ps → PcsH H (us.take i) (ps.take i)
  | 0, _, _, _ => trivial
  | i + 1, [], [], _ => trivial
  | i + 1, _ :: _, _ :: _, h => ⟨h.1, h.2.take i⟩
theorem PcsH.memE {H : Hp} : ∀ {us : List Addr} {qs : List Pc}, PcsH H us qs → ∀ e ∈ us.zip qs, H e.1 = some (.tup (pcV e.2))
  | [], [], _, e, he => nomatch he
  | u :: us, q :: qs, h, e, he => by
    rw [List.zip_cons_cons] at he
    rcases List.mem_cons.mp he with rfl | he
    · exact h.1
    · exact h.2.memE e he
theorem PcsH.ofE {H : Hp} : ∀ {L : List (Addr × Pc)}, (∀ e ∈ L, H e.1 = some (.tup (pcV e.2))) → PcsH H (L.map (·.1)) (L.map (·.2))
  | [], _ => trivial
  | e :: r, h => ⟨h e (.head _), PcsH.ofE fun x hx => h x (.tail _ hx)⟩
theorem map_zip1 : ∀ {us : List Addr} {qs : List Pc}, us.length = qs.length → (us.zip qs).map (·.1) = us
  | [], [], _ => rfl
  | u :: us, q :: qs, h => by
    rw [List.zip_cons_cons, List.map_cons, map_zip1 (Nat.succ.inj h)]
theorem map_zip2 : ∀ {us : List Addr} {qs : List Pc}, us.length = qs.length → (us.zip qs).map (·.2) = qs
  | [], [], _ => rfl
  | u :: us, q :: qs, h => by
    rw [List.zip_cons_cons, List.map_cons, map_zip2 (Nat.succ.inj h)]
theorem pair_mem {R : Pc → Pc → Prop} : ∀ {r : List Pc}, r.Pairwise R → ∀ {p q : Pc}, p ∈ r → q ∈ r → p = q ∨ R p q ∨ R q p
  | a :: r, h, p, q, hp, hq => by
    obtain ⟨h1, h2⟩ := List.pairwise_cons.mp h
    rcases List.mem_cons.mp hp with e1 | hp'
    · rcases List.mem_cons.mp hq with e2 | hq'
      · exact .inl (e1.trans e2.symm)
      · exact .inr (.inl (by rw [e1]; exact h1 q hq'))
    · rcases List.mem_cons.mp hq with e2 | hq'
      · exact .inr (.inr (by rw [e2]; exact h1 p hp'))
      · exact pair_mem h2 hp' hq'
/-- the starts of what is taken back are unlike -/
theorem tb_start {n : Int} {ps : List Pc} (r : Rea n ps) {p q : Pc} (hp : p ∈ ps) (hq : q ∈ ps) (e : (tbP p).s = (tbP q).s) : p = q := by
  have l1 := (tb_in r hp).2.1
  have l2 := (tb_in r hq).2.1
  rcases pair_mem (chain_pair r.ch) hp hq with h | h | h
  · exact h
  · have := tb_apart r hp hq h
    omega
  · have := tb_apart r hq hp h
    omega
theorem fold_le1000 {ps : List Pc} {m : Nat} (h : ps.length ≤ m) : (oneF ps).length ≤ m := by
  have := fold_len ps []
  simp only [List.length_nil] at this
  show (ps.foldl addP []).length ≤ m
  omega
section
variable {P : Program} {w : World} {K : PySem.W.Frag} {mg : Str → Option Value} {base : Heap} {a : Ad}
def spTakenBack : Sp := fun vs H Q _ => ∃ (r : Addr) (p : Pc), vs = [.ref r] ∧ H r = some (.tup (pcV p)) ∧ (p.w = 1 ∨ p.w = -1) ∧ ∀ t, H t = none → Q (.ref t) (upd H t (.tup (pcV (tbP p))))
theorem ok_taken_back (T : Tx w K mg a) : FnOk P w K mg base CX0 1 a.f_taken_back a.d_taken_back ["run"] spTakenBack := by
  refine T.F_taken_back.ok sc_taken_back (fun vs H Q E h => ?_) (fun cdv A outer s H vs Q E hr h => ?_)
  · obtain ⟨r, p, rfl, _⟩ := h
    rfl
  · obtain ⟨r, p, rfl, hr0, pw, k⟩ := h
    refine ⟨_, 
(pss_cons (ps_asg (pv 0) (pg_tup rfl (pgs_cons (pg_name (i := 1) sc_taken_back.nd rfl (.inl rfl)) (pgs_cons (pg_name (i := 2) sc_taken_back.nd rfl (.inl rfl)) (pgs_cons (pg_name (i := 3) sc_taken_back.nd rfl (.inl rfl)) (pgs_cons (pg_name (i := 4) sc_taken_back.nd rfl (.inl rfl)) pgs_nil))))))
  (pss_cons (ps_if (pt_cmpR op_eq (pv 4) pe_int (nomark _))
  (pss_one (ps_ret (pe_tup (pa_cons (pv 3) (pa_cons (pv 2) (pa_cons (pv 1) (pa_cons pe_int pa_nil)))))))
  pss_nil)
  (pss_one (ps_ret (pe_tup (pa_cons (pe_op op_add (pe_op op_sub (pv 3) (pv 2)) pe_int) (pa_cons (pv 2) (pa_cons (pe_op op_sub (pe_op op_add (pv 1) (pv 2)) pe_int) (pa_cons (pe_un un_neg pe_int) pa_nil))))))))), ?_⟩
    refine ⟨_, rfl, r, pcV p, rfl, SqT.at hr0, rfl, .int p.s, [.int p.l, .int p.g, .int p.w], rfl, .int p.l, [.int p.g, .int p.w], rfl, .int p.g, [.int p.w], rfl, .int p.w, [], rfl, rfl, ?_⟩
    refine ⟨_, rfl, rfl, _, rfl, ?_⟩
    rcases pw with e | e
    · rw [decide_eq_true (show V.int p.w = V.int 1 by rw [e])]
      rw [tb1 e] at k
      exact iteT ⟨_, rfl, _, rfl, _, rfl, sz (show 4 ≤ 100000 by decide), fun t nt => k t nt⟩
    · have ne : ¬ p.w = 1 := by omega
      rw [decide_eq_false (show ¬ V.int p.w = V.int 1 from fun z => ne (V.int.inj z))]
      rw [tb2 e] at k
      exact iteF ⟨_, rfl, _, rfl, _, _, rfl, rfl, _, _, rfl, rfl, _, rfl, _, rfl, _, rfl, _, _, rfl, rfl, _, _, rfl, rfl, _, rfl, sz (show 4 ≤ 100000 by decide), fun t nt => k t nt⟩
def spRunsInv (C : Addr) : Sp := fun vs H Q _ => ∃ (p : Addr) (n : Int) (ps : List Pc), vs = [.ref p] ∧ RunsAt C H p n ps ∧ Rea n ps ∧ ps.length ≤ 1000 ∧
  ∀ q H' qs, RunsAt C H' q n qs → Rea n qs → NFl qs → qs.length ≤ ps.length → (∀ j, 0 ≤ j → j < n → valP qs (valP ps j) = j) → (∀ j, 0 ≤ j → j < n → valP ps (valP qs j) = j) → Same H H' → Q (.ref q) H'
theorem ok_Runs_invert (T : Tx w K mg a) : FnOk P w K mg base CX0 5 a.f_Runs_invert a.d_Runs_invert ["self"] (spRunsInv a.C_Runs) := by
  refine T.F_Runs_invert.ok sc_Runs_invert (fun vs H Q E h => ?_) (fun cdv A outer s H vs Q E hr h => ?_)
  · obtain ⟨p, n, ps, rfl, _⟩ := h
    rfl
  · obtain ⟨p, n, ps, rfl, ⟨dx, fs, t, rs, p1, p2, p3, p4, p5, p6⟩, hR, hl, k⟩ := h
    refine ⟨_, 
(pss_one (ps_ret (pe_make T.mk_Runs (ok_Runs_init T) hr (by rfl) T.c_Runs T.b_Runs_init .nil pass0 (pa_cons (pe_fld (pv 0) rfl) (pa_cons (pe_callB cr_sortF (by rfl) T.z_sorted (by decide +kernel) (pa_cons (pe_lc (own := [("run", 1)]) (g := gName 1) rfl sc_Runs_invert.nd (pi_tup (pe_fld (pv 0) rfl)) (blkOk_by (own := [("run", 1)]) (N := ["self", "run"]) (sc := defScope s_Runs_invert) (by decide +kernel)) (fun _ _ _ _ _ => pg_name (i := 1) sc_Runs_invert.nd rfl (Or.inl rfl)) (fun _ _ _ _ _ => pts_nil) (fun _ _ _ _ _ => (pe_call (ok_taken_back T) (hr.mono (by decide)) (by rfl) T.m_taken_back T.F_taken_back.kp T.b_taken_back .nil pass0 (pa_cons (pv 1) pa_nil)))) pa_nil)) pa_nil))))), ?_⟩
    have rl := p6.len
    refine ⟨.ref p, rfl, p, a.C_Runs, dx, _, _, rfl, p1, T.cl_Runs, T.n_Runs_size, p2.1, .ref p, rfl, p, a.C_Runs, dx, _, _, rfl, p1, T.cl_Runs, T.n_Runs_rows, p3, t, rfl, ⟨_, SqT.at p5⟩, fun D hD => ?_⟩
    refine lc_it (walk_tup (xs := rs.map V.ref)) (fun j H' => Same H H' ∧ ∃ us : List Addr, H' D = some (.lst (us.map V.ref)) ∧ PcsH H' us ((ps.take j).map tbP)) ?h0 ?hG ?hs ?hd
    case h0 => exact ⟨same_upd hD, [], upd_same, trivial⟩
    case hG =>
      rintro j H' _ ⟨sm, _⟩
      exact SqT.at (sm _ _ p5)
    case hs =>
      rintro j yy H4 H5 hj ⟨sm, us, eD, hus⟩ ⟨rfl, ex⟩
      rw [List.length_map] at hj
      have hja : j < ps.length := by omega
      obtain ⟨r, hr1, hr2⟩ := p6.get (List.getElem?_eq_getElem hja)
      rw [List.getElem?_map, hr1] at ex
      cases ex
      have htk : (ps.take (j + 1)).map tbP = (ps.take j).map tbP ++ [tbP (ps[j]'hja)] := by
        rw [List.take_succ, List.getElem?_eq_getElem hja, List.map_append]
        rfl
      rw [htk]
      have ul := hus.len
      rw [List.length_map, List.length_take] at ul
      have pw := chain_way hR.ch (List.getElem?_eq_getElem hja)
      generalize (ps.take j).map tbP = done at hus ⊢
      generalize ps[j]'hja = q at hr2 pw ⊢
      refine ⟨rfl, _, rfl, r, q, rfl, sm _ _ hr2, pw, fun nt nnt => ?_⟩
      have s6 := same_upd (o := .tup (pcV (tbP q))) nnt
      have ent : (upd H5 nt (.tup (pcV (tbP q)))) nt = some (.tup (pcV (tbP q))) := upd_same
      generalize upd H5 nt (.tup (pcV (tbP q))) = H6 at s6 ent ⊢
      have eD6 := s6 _ _ eD
      have nD : ∀ b xs, H6 b = some (.tup xs) → b ≠ D := fun b xs e z => by
        rw [z, eD6] at e
        cases e
      refine ⟨us.map V.ref, eD6, szlt (by rw [List.length_map]; omega), keep_upd (sm.trans s6) hD, us ++ [nt], by rw [upd_same, List.map_append]; rfl, ?_⟩
      refine PcsH.snoc ?_ ((hus.same s6).mono fun b o e ⟨xs, h⟩ => ?_)
      · rw [upd_ne (nD _ _ ent)]
        exact ent
      · subst h
        rw [upd_ne (nD _ _ e)]
        exact e
    case hd =>
      rintro H4 ⟨sm, us, eD, hus⟩
      rw [List.length_map, rl, List.take_length] at hus
      have ul := hus.len
      -- sorted(..)
      refine ⟨Addr × Pc, (·.1), (fun e => [e.2.s, e.2.l, e.2.g, e.2.w]), us.zip (ps.map tbP), D, 3, rfl, ?_, fun e he => ⟨SqT.at (hus.memE e he), rfl⟩, fun e he f hf ee => ?_, fun L' b pL srt nb => ?_⟩
      · have z : (us.zip (ps.map tbP)).map (fun e => V.ref e.1) = us.map V.ref := by
          have z := congrArg (List.map V.ref) (map_zip1 ul)
          rw [List.map_map] at z
          exact z
        show SqL _ H4 D ((us.zip (ps.map tbP)).map fun e => V.ref e.1)
        rw [z]
        exact SqL.at eD
      · have e1 := (List.of_mem_zip he).2
        have f1 := (List.of_mem_zip hf).2
        obtain ⟨p1, m1, q1⟩ := List.mem_map.mp e1
        obtain ⟨p2, m2, q2⟩ := List.mem_map.mp f1
        have ee : e.2.s = f.2.s := ee
        rw [← q1, ← q2] at ee
        show [e.2.s, e.2.l, e.2.g, e.2.w] = [f.2.s, f.2.l, f.2.g, f.2.w]
        rw [← q1, ← q2, tb_start hR m1 m2 ee]
      · have s5 := same_upd (o := .lst (L'.map fun e => V.ref e.1)) nb
        have eb : (upd H4 b (.lst (L'.map fun e => V.ref e.1))) b = some (.lst ((L'.map (·.1)).map V.ref)) := by
          rw [upd_same, List.map_map]
          rfl
        have hL : PcsH H4 (L'.map (·.1)) (L'.map (·.2)) := PcsH.ofE fun e he => hus.memE e (pL.mem_iff.mp he)
        have hp : (L'.map (·.2)).Perm (ps.map tbP) := by
          have z := pL.map (fun e : Addr × Pc => e.2)
          rw [map_zip2 ul] at z
          exact z
        have hs : (L'.map (·.2)).Pairwise fun p q => p.s ≤ q.s := List.pairwise_map.mpr srt
        have hL5 := hL.same s5
        refine fun q dy hq hdy ne => ?_
        change spRunsInit _ _ (upd (upd (upd H4 b (.lst (L'.map fun e => V.ref e.1))) dy (.own q)) q (.ins a.C_Runs dy [])) _ _
        generalize upd H4 b (.lst (L'.map fun e => V.ref e.1)) = H5 at s5 eb hL5 hq hdy ⊢
        obtain ⟨s6, ep⟩ := madeR (C := a.C_Runs) hq hdy ne
        generalize upd (upd H5 dy (.own q)) q (.ins a.C_Runs dy []) = H6 at s6 ep ⊢
        obtain ⟨b1, b2, b3⟩ := hR.back hp hs
        obtain ⟨o1, o2, o3⟩ := b1.one
        have ql : (L'.map (·.2)).length = ps.length := by
          rw [hp.length_eq, List.length_map]
        refine ⟨q, dy, b, n, L'.map (·.1), L'.map (·.2), rfl, ep, s6 _ _ eb, hL5.same s6, by rw [ql]; exact hl, fun H7 hR7 hk => ⟨rfl, k q H7 _ hR7 o1 o2 (by rw [← ql]; exact fold_le1000 (Nat.le_refl _)) (fun j j0 j1 => ?_) (fun j j0 j1 => ?_) ?_⟩⟩
        · obtain ⟨v0, v1⟩ := hR.val j j0 j1
          rw [o3 _ v0 v1]
          exact b2 j j0 j1
        · rw [o3 j j0 j1]
          exact b3 j j0 j1
        · exact sm.trans (s5.trans fun b o e => hk b o (s6 b o e) (ne_of_none e hq))
end

section
variable {P : Program} {w : World} {K : PySem.W.Frag} {mg : Str → Option Value} {base : Heap} {a : Ad}
def spRunsMul (C CS : Addr) : Sp := fun vs H Q E => ∃ (p q : Addr) (n m : Int) (fs gs : List Pc), vs = [.ref p, .ref q] ∧ RunsAt C H p n fs ∧ RunsAt C H q m gs ∧
  ((n = m ∧ Rea n fs ∧ Rea n gs ∧ fs.length + gs.length ≤ 1000 ∧ ∀ r H' hs, RunsAt C H' r n hs → Rea n hs → NFl hs → hs.length ≤ fs.length + gs.length → (∀ j, 0 ≤ j → j < n → valP hs j = valP fs (valP gs j)) → Same H H' → Q (.ref r) H') ∨
   (n ≠ m ∧ ∀ H' d, Same H H' → H' d = some (.xd [("size", .int m)]) → E (.ref CS) (some d) H'))
theorem ok_Runs_mul (T : Tx w K mg a) : FnOk P w K mg base (L2.CX P w) 5 a.f_Runs_mul a.d_Runs_mul ["self", "other"] (spRunsMul a.C_Runs a.C_BadSize) := by
  refine T.F_Runs_mul.okX sc_Runs_mul (fun vs H Q E h => ?_) (fun cdv A outer s H vs Q E hr h => ?_)
  · obtain ⟨p, q, n, m, fs, gs, rfl, _⟩ := h
    rfl
  · obtain ⟨p, q, n, m, fs, gs, rfl, ⟨dx, us, t, rs, p1, p2, p3, p4, p5, p6⟩, ⟨dy, vs, u, rq, q1, q2, q3, q4, q5, q6⟩, h⟩ := h
    refine ⟨_, 
(pss_cons (ps_if (pt_not (pt_val (pe_callB call_isi (by rfl) T.z_isinstance (by decide +kernel) (pa_cons (pv 1) (pa_cons (pe_glob (v := .ref a.C_Runs) (by rfl) T.c_Runs rfl) pa_nil)))))
  (pss_one ps_never)
  pss_nil)
  (pss_cons (ps_if (pt_cmpR op_ne (pe_fld (pv 0) rfl) (pe_fld (pv 1) rfl) (nomark _))
  (pss_one (ps_raise rfl (takes_of rfl rfl rfl rfl) (pmk_oex T.ox_BadSize.o T.ox_BadSize.ini T.ox_BadSize.tin (ok_BadSize_init T) (hr.mono (by decide)) T.b_BadSize_init .nil pass0 (by rfl) T.c_BadSize (pa_cons (pe_fld (pv 1) rfl) pa_nil))))
  pss_nil)
  (pss_one (ps_ret (pe_make T.mk_Runs (ok_Runs_init T) hr (by rfl) T.c_Runs T.b_Runs_init .nil pass0 (pa_cons (pe_fld (pv 0) rfl) (pa_cons (pe_lc2 (own := [("run", 2), ("piece", 3)]) (vs1 := [3]) (g := gName 2) (g1 := gName 3) rfl sc_Runs_mul.nd (pi_tup (pe_fld (pv 1) rfl)) (blkOk_by (own := [("run", 2), ("piece", 3)]) (N := ["self", "other", "run", "piece"]) (sc := defScope s_Runs_mul) (by decide +kernel)) (by decide) (fun _ _ _ _ _ => pg_name (i := 2) sc_Runs_mul.nd rfl (Or.inl rfl)) (fun _ _ _ _ _ => pts_nil) (fun _ _ _ _ _ => (show PI _ _ _ (iList K _) from pi_list (pe_call (ok_led_on T) (hr.mono (by decide)) (by rfl) T.m_led_on T.F_led_on.kp T.b_led_on .nil pass0 (pa_cons (show PE _ _ (tFld K _ _) from pe_fld (pv 0) rfl) (pa_cons (pv 2) pa_nil))))) (fun _ _ _ _ _ => pg_name (i := 3) sc_Runs_mul.nd rfl (Or.inl rfl)) (fun _ _ _ _ _ => pts_nil) (fun _ _ _ _ _ => (pv 3))) pa_nil))))))), ?_⟩
    -- isinstance(other, Runs)
    refine ⟨.ref q, rfl, .ref q, .ref a.C_Runs, .ref a.C_Runs, .ref a.C_Runs, true, rfl, .own _, .base (.ins q1 T.cl_Runs T.ow_Runs.cls T.ow_Runs.get T.ow_Runs.tak T.ow_Runs.mro), ?_, ?_⟩
    · unfold PySem.W.kitOne
      rw [if_pos (by simp)]
    refine ⟨true, rfl, iteF ?_⟩
    -- self.size != other.size
    refine ⟨.ref p, rfl, p, a.C_Runs, dx, _, _, rfl, p1, T.cl_Runs, T.n_Runs_size, p2.1, .ref q, rfl, q, a.C_Runs, dy, _, _, rfl, q1, T.cl_Runs, T.n_Runs_size, q2.1, ?_⟩
    rcases h with ⟨rfl, hf, hg, hl, k⟩ | ⟨hne, hE⟩
    rotate_left
    · refine ⟨rfl, _, rfl, ?_⟩
      rw [decide_eq_false (show ¬ V.int n = V.int m from fun z => hne (V.int.inj z))]
      exact iteT ⟨.ref q, rfl, q, a.C_Runs, dy, _, _, rfl, q1, T.cl_Runs, T.n_Runs_size, q2.1, (by decide : 1 ≤ 1000), err_end (Same.refl H) hE⟩
    refine ⟨rfl, _, rfl, ?_⟩
    rw [decide_eq_true (show V.int n = V.int n from rfl)]
    refine iteF ?_
    -- Runs(self.size, [..])
    refine ⟨.ref p, rfl, p, a.C_Runs, dx, _, _, rfl, p1, T.cl_Runs, T.n_Runs_size, p2.1, .ref q, rfl, q, a.C_Runs, dy, _, _, rfl, q1, T.cl_Runs, T.n_Runs_rows, q3, u, rfl, ⟨_, SqT.at q5⟩, fun D hD => ?_⟩
    have gl := q6.len
    refine lc2_it (walk_tup (xs := rq.map V.ref)) (fun j H' => Same H H' ∧ ∃ (ws : List Addr) (qs : List Pc) (mi : Int), H' D = some (.lst (ws.map V.ref)) ∧ PcsH H' ws qs ∧ Chain 0 mi (gs.take j) ∧ LedAll fs 0 mi (gs.take j) qs) ?h0 ?hG ?hs ?hd
    case h0 => exact ⟨same_upd hD, [], [], 0, upd_same, trivial, rfl, ⟨rfl, fun j a b => by omega, Nat.zero_le _⟩⟩
    case hG =>
      rintro j H' _ ⟨sm, _⟩
      exact SqT.at (sm _ _ q5)
    case hs =>
      rintro j yy H4 H5 hj ⟨sm, ws, qs, mi, eD, hws, hch, hla⟩ ⟨rfl, ex⟩
      rw [List.length_map] at hj
      have hja : j < gs.length := by omega
      obtain ⟨r, hr1, hr2⟩ := q6.get (List.getElem?_eq_getElem hja)
      rw [List.getElem?_map, hr1] at ex
      cases ex
      have gm : gs[j]'hja ∈ gs := List.getElem_mem _
      obtain ⟨g1, g2, g3, g4⟩ := chain_mem hg.ch gm
      obtain ⟨b0, b1, b2, b3⟩ := tb_in hg gm
      have htk : gs.take (j + 1) = gs.take j ++ [gs[j]'hja] := by
        rw [List.take_succ, List.getElem?_eq_getElem hja]
        rfl
      obtain ⟨hc2, gst⟩ : Chain 0 (mi + (gs[j]'hja).l) (gs.take j ++ [gs[j]'hja]) ∧ (gs[j]'hja).s = mi := by
        have hall := hg.ch
        rw [← List.take_append_drop j gs, List.drop_eq_getElem_cons hja] at hall
        obtain ⟨mi', k1, k2⟩ := hall.split
        have e1 := chain_sum k1
        have e2 := chain_sum hch
        have e : mi' = mi := by omega
        subst e
        exact ⟨hch.append ⟨k2.1, k2.2.1, k2.2.2.1, rfl⟩, k2.1⟩
      rw [htk]
      have flen : fs.length ≤ 1000 := by omega
      have glen : (gs.take j).length = j := by rw [List.length_take]; omega
      generalize gs[j]'hja = g at *
      have wl := hws.len
      have wl2 : ws.length ≤ 2000 := by
        have := hla.few
        have := sumC_le (List.Pairwise.sublist (List.take_sublist j gs) hg.apart) fs
        omega
      generalize gs.take j = dn at *
      refine ⟨rfl, .ref p, rfl, p, a.C_Runs, dx, _, _, rfl, sm _ _ p1, T.cl_Runs, T.n_Runs_rows, p3, _, rfl, t, r, rs, fs, g, n, rfl, sm _ _ p5, p6.same sm, hf.ch, sm _ _ hr2, g2, g3, b0, b3, flen, fun L us' qs' H6 nL eL hqs led s6 => ?_⟩
      have eD6 := s6 _ _ eD
      have hws6 := hws.same s6
      have ll := hqs.len
      have neL : L ≠ D := fun z => by
        rw [z, eD] at nL
        cases nL
      have few := led.few
      have cl := cnt_len fs (tbP g).s ((tbP g).s + (tbP g).l - 1)
      have ql : us'.length ≤ 2000 := by omega
      refine ⟨L, rfl, ⟨_, SqL.at eL⟩, ?_⟩
      refine lc1_it (walk_list (xs := us'.map V.ref)) (fun i H' => Same H H' ∧ H' D = some (.lst ((ws ++ us'.take i).map V.ref)) ∧ PcsH H' (ws ++ us'.take i) (qs ++ qs'.take i) ∧ H' L = some (.lst (us'.map V.ref)) ∧ PcsH H' us' qs') ?k0 ?kG ?ks ?kd
      case k0 => exact ⟨sm.trans s6, by rw [List.take_zero, List.append_nil]; exact eD6, by rw [List.take_zero, List.take_zero, List.append_nil, List.append_nil]; exact hws6, eL, hqs⟩
      case kG =>
        rintro i H' _ ⟨_, _, _, eL', _⟩
        exact SqL.at eL'
      case ks =>
        rintro i yy H7 H8 hi ⟨sm7, eD7, hp7, eL7, hq7⟩ ⟨rfl, ex7⟩
        rw [List.length_map] at hi
        have hia : i < qs'.length := by omega
        obtain ⟨r7, hr7, hr8⟩ := hq7.get (List.getElem?_eq_getElem hia)
        rw [List.getElem?_map, hr7] at ex7
        cases ex7
        have t1 : us'.take (i + 1) = us'.take i ++ [r7] := by
          rw [List.take_succ, hr7]
          rfl
        have nD : ∀ b xs, H8 b = some (.tup xs) → b ≠ D := fun b xs e z => by
          rw [z, eD7] at e
          cases e
        have mv : ∀ {us : List Addr} {ps : List Pc}, PcsH H8 us ps → PcsH (upd H8 D (.lst ((ws ++ us'.take i).map V.ref ++ [V.ref r7]))) us ps := fun h => h.mono fun b o e ⟨xs, z⟩ => by
          subst z
          rw [upd_ne (nD _ _ e)]
          exact e
        refine ⟨rfl, _, rfl, (ws ++ us'.take i).map V.ref, eD7, szlt ?_, keep_upd sm7 hD, ?_, ?_, ?_, mv hq7⟩
        · rw [List.length_map, List.length_append, List.length_take]
          omega
        · rw [upd_same, t1, ← List.append_assoc, List.map_append (l₂ := [r7])]
          rfl
        · rw [t1, ← List.append_assoc]
          rw [List.take_succ, List.getElem?_eq_getElem hia]
          show PcsH _ _ (qs ++ (qs'.take i ++ [qs'[i]'hia]))
          rw [← List.append_assoc]
          refine PcsH.snoc ?_ (mv hp7)
          rw [upd_ne (nD _ _ hr8)]
          exact hr8
        · rw [upd_ne neL]
          exact eL7
      case kd =>
        rintro H7 ⟨sm7, eD7, hp7, _, _⟩
        rw [List.length_map] at eD7 hp7
        rw [List.take_length] at eD7 hp7
        rw [ll, List.take_length] at hp7
        exact ⟨sm7, ws ++ us', qs ++ qs', mi + g.l, eD7, hp7, hc2, hla.snoc hch gst led⟩
    case hd =>
      rintro H4 ⟨sm, ws, qs, mi, eD, hws, hch, hla⟩
      rw [List.length_map, gl, List.take_length] at hch hla
      have e1 := chain_sum hg.ch
      have e2 := chain_sum hch
      obtain rfl : mi = n := by omega
      obtain ⟨m1, m2, m3⟩ := mul_ok hf hg hla
      obtain ⟨o1, o2, o3⟩ := m1.one
      refine fun r dz hr0 hdz ne => ?_
      obtain ⟨s6, ep⟩ := madeR (C := a.C_Runs) hr0 hdz ne
      generalize upd (upd H4 dz (.own r)) r (.ins a.C_Runs dz []) = H6 at s6 ep ⊢
      exact ⟨r, dz, D, mi, ws, qs, rfl, ep, s6 _ _ eD, hws.same s6, by omega, fun H7 hR7 hk => ⟨rfl, k r H7 _ hR7 o1 o2 (fold_le1000 m2) (fun j j0 j1 => (o3 j j0 j1).trans (m3 j j0 j1)) (sm.trans fun b o e => hk b o (s6 b o e) (ne_of_none e hr0))⟩⟩
end

/-! ### runs of a list, and with one place more -/
/-- one piece a place -/
def sngF : Int → List Int → List Pc
  | _, [] => []
  | lo, g :: r => ⟨lo, 1, g, 1⟩ :: sngF (lo + 1) r
theorem sng_len : ∀ (lo : Int) (is : List Int), (sngF lo is).length = is.length
  | _, [] => rfl
  | lo, _ :: r => congrArg (· + 1) (sng_len (lo + 1) r)
theorem sng_chain : ∀ (lo : Int) (is : List Int), Chain lo (lo + is.length) (sngF lo is)
  | lo, [] => by
    show lo = lo + ((0 : Nat) : Int)
    omega
  | lo, g :: r => by
    refine ⟨rfl, Int.le_refl _, .inl rfl, ?_⟩
    have := sng_chain (lo + 1) r
    rw [show lo + ((g :: r).length : Int) = lo + 1 + (r.length : Int) by simp only [List.length_cons]; omega]
    exact this
theorem sng_get : ∀ (lo : Int) (is : List Int) {i : Nat} (h : i < is.length), (sngF lo is)[i]? = some ⟨lo + i, 1, is[i], 1⟩
  | lo, g :: r, 0, _ => by
    show some (⟨lo, 1, g, 1⟩ : Pc) = some ⟨lo + ((0 : Nat) : Int), 1, g, 1⟩
    rw [show lo + ((0 : Nat) : Int) = lo by omega]
  | lo, g :: r, i + 1, h => by
    have := sng_get (lo + 1) r (i := i) (by simpa using h)
    show (sngF (lo + 1) r)[i]? = some (⟨lo + ((i + 1 : Nat) : Int), 1, r[i]'(by simpa using h), 1⟩ : Pc)
    rw [this, show lo + 1 + (i : Int) = lo + ((i + 1 : Nat) : Int) by omega]
theorem sng_val {is : List Int} {j : Nat} (h : j < is.length) : valP (sngF 0 is) (j : Int) = is[j] := by
  have m := List.mem_of_getElem? (sng_get 0 is h)
  rw [val_mem (sng_chain 0 is) m (by show 0 + (j : Int) ≤ j; omega) (by show (j : Int) < 0 + j + 1; omega)]
  show is[j] + 1 * ((j : Int) - (0 + j)) = _
  omega
/-- the list's rearrangement, told by pieces -/
def ValIs (ps : List Pc) (is : List Int) : Prop := ∀ (j : Nat) (h : j < is.length), valP ps (j : Int) = is[j]
theorem ValIs.rea {ps : List Pc} {is : List Int} (v : ValIs ps is) (hc : Chain 0 is.length ps) (hr : IsRow is) : Rea is.length ps := by
  have at' : ∀ j : Int, 0 ≤ j → j < is.length → ∃ (i : Nat) (h : i < is.length), j = i ∧ valP ps j = is[i] := fun j j0 j1 => ⟨j.toNat, by omega, by omega, by
    have := v j.toNat (by omega)
    rw [show ((j.toNat : Nat) : Int) = j by omega] at this
    exact this⟩
  refine ⟨hc, fun j j0 j1 => ?_, fun i j i0 i1 j0 j1 e => ?_⟩
  · obtain ⟨i, h, _, e⟩ := at' j j0 j1
    rw [e]
    have := hr.at h
    omega
  · obtain ⟨a, ha, ea, va⟩ := at' i i0 i1
    obtain ⟨b, hb, eb, vb⟩ := at' j j0 j1
    rw [va, vb] at e
    have := (List.getElem_inj (i := a) (j := b) (h₀ := ha) (h₁ := hb) hr.nodup).mp e
    omega
section
variable {P : Program} {w : World} {K : PySem.W.Frag} {mg : Str → Option Value} {base : Heap} {a : Ad}
def spRunsOfList (K : PySem.W.Frag) (C CR CS : Addr) : Sp := fun vs H Q E => ∃ (p : Addr) (xs : List V), vs = [.ref p] ∧ RowV K H p xs ∧
  ((∃ is : List Int, xs = is.map V.int ∧ IsRow is ∧ 1 ≤ is.length ∧ is.length ≤ 1000 ∧ ∀ q H' ps, RunsAt C H' q is.length ps → Rea is.length ps → NFl ps → ps.length ≤ is.length → ValIs ps is → Same H H' → Q (.ref q) H') ∨
   (∃ k, fwR xs = some k ∧ ErrAt H E CR "index" (.int ((k : Nat) : Int))) ∨
   (fwR xs = none ∧ ¬ (1 ≤ xs.length ∧ xs.length ≤ 1000) ∧ ErrAt H E CS "size" (.int (xs.length : Int))))
theorem ok_runs_of_list (T : Tx w K mg a) : FnOk P w K mg base (L2.CX P w) 5 a.f_runs_of_list a.d_runs_of_list ["row"] (spRunsOfList K a.C_Runs a.C_BadRow a.C_BadSize) := by
  refine T.F_runs_of_list.okX sc_runs_of_list (fun vs H Q E h => ?_) (fun cdv A outer s H vs Q E hr h => ?_)
  · obtain ⟨p, xs, rfl, _⟩ := h
    rfl
  · obtain ⟨p, xs, rfl, hV, h⟩ := h
    refine ⟨_, 
(pss_cons (ps_expr (pe_callS (ok_check_row T) hr (by rfl) T.m_check_row T.F_check_row.kp T.b_check_row (fun σ => passAt (takes_of rfl rfl rfl rfl) σ) (pa_cons (pv 0) pa_nil)))
  (pss_cons (ps_if (pt_not (pt_val (pe_call (ok_is_between T) (hr.mono (by decide)) (by rfl) T.m_is_between T.F_is_between.kp T.b_is_between .nil pass0 (pa_cons (pe_callB call_len_seq (by rfl) T.z_len PySem.boot_len (pa_cons (pv 0) pa_nil)) (pa_cons pe_int (pa_cons (pe_glob (v := .int 1000) (by rfl) T.m_MOST_PLACES.choose_spec ⟨_, rfl⟩) pa_nil))))))
  (pss_one (ps_raise rfl (takes_of rfl rfl rfl rfl) (pmk_oex T.ox_BadSize.o T.ox_BadSize.ini T.ox_BadSize.tin (ok_BadSize_init T) (hr.mono (by decide)) T.b_BadSize_init .nil pass0 (by rfl) T.c_BadSize (pa_cons (pe_callB call_len_seq (by rfl) T.z_len PySem.boot_len (pa_cons (pv 0) pa_nil)) pa_nil))))
  pss_nil)
  (pss_one (ps_ret (pe_make T.mk_Runs (ok_Runs_init T) hr (by rfl) T.c_Runs T.b_Runs_init .nil pass0 (pa_cons (pe_callB call_len_seq (by rfl) T.z_len PySem.boot_len (pa_cons (pv 0) pa_nil)) (pa_cons (pe_lc (own := [("place", 1), ("goal", 2)]) (g := gTup K 2 (gCons (gName 1) (gCons (gName 2) gNil))) rfl sc_runs_of_list.nd (pi_enumS (by rfl) T.z_enumerate (pa_cons (pv 0) pa_nil)) (blkOk_by (own := [("place", 1), ("goal", 2)]) (N := ["row", "place", "goal"]) (sc := defScope s_runs_of_list) (by decide +kernel)) (fun _ _ _ _ _ => pg_tup rfl (pgs_cons (pg_name (i := 1) sc_runs_of_list.nd rfl (Or.inl rfl)) (pgs_cons (pg_name (i := 2) sc_runs_of_list.nd rfl (Or.inl rfl)) pgs_nil))) (fun _ _ _ _ _ => pts_nil) (fun _ _ _ _ _ => (pe_tup (pa_cons (pv 1) (pa_cons pe_int (pa_cons (pv 2) (pa_cons pe_int pa_nil))))))) pa_nil))))))), ?_⟩
    have hV' := hV
    obtain ⟨hS, hL, hI⟩ := hV
    rcases h with ⟨is, rfl, hR, l1, l2, k⟩ | ⟨m, hm, hE⟩ | ⟨hn, hlen, hE⟩
    rotate_left
    · exact ⟨_, rfl, p, xs, rfl, hV', one_e hm hE, no_q hm⟩
    · refine ⟨_, rfl, p, xs, rfl, hV', no_e hn, fun _ H' s' => ?_⟩
      refine ⟨.ref p, rfl, p, xs, rfl, hS.same s', .int (xs.length : Int), true, 1, 1000, rfl, .int _, _, rfl, ?_⟩
      rw [show btM 1 1000 (.int (xs.length : Int)) = false from by
        refine Bool.eq_false_iff.mpr fun z => hlen ?_
        simp only [btM, Bool.and_eq_true, decide_eq_true_eq] at z
        omega]
      exact iteT ⟨.ref p, rfl, p, xs, rfl, hS.same s', (by decide : 1 ≤ 1000), err_end s' hE⟩
    have hn := fwR_row hR
    refine ⟨_, rfl, p, _, rfl, hV', no_e hn, fun _ H1 s1 => ?_⟩
    have hS1 := hS.same s1
    refine ⟨.ref p, rfl, p, _, rfl, hS1, .int ((is.map V.int).length : Int), true, 1, 1000, rfl, .int _, _, rfl, ?_⟩
    rw [List.length_map]
    rw [show btM 1 1000 (.int (is.length : Int)) = true from by
      simp only [btM, Bool.and_eq_true, decide_eq_true_eq]
      omega]
    refine iteF ⟨.ref p, rfl, p, _, rfl, hS1, .ref p, rfl, p, is.map V.int, rfl, ?_⟩
    rw [List.length_map]
    have sl := sng_len 0 is
    refine hS1.elim (fun hS2 => .inl ⟨hS2, fun D hD => ?_⟩) (fun hS2 => .inr ⟨hS2, fun D hD => ?_⟩)
    all_goals
      refine lc_it (by first | exact walk_enum (xs := is.map V.int) | exact walk_enumT (xs := is.map V.int)) (fun j H' => Same H1 H' ∧ ∃ us : List Addr, H' D = some (.lst (us.map V.ref)) ∧ PcsH H' us ((sngF 0 is).take j)) ?h0 ?hG ?hs ?hd
      case h0 => exact ⟨same_upd hD, [], upd_same, trivial⟩
      case hG =>
        rintro j H' _ ⟨sm, _⟩
        first | exact sm.seq hS2 | exact Same.seqT sm hS2
      case hs =>
        rintro j v H3 H4 hj ⟨sm, us, eD, hus⟩ ⟨t, x1, x, rfl, nt, rfl, e1, e2⟩
        cases e1
        rw [List.length_map] at hj
        have e2 : (is.map V.int)[j]? = some x := e2
        rw [List.getElem?_map, List.getElem?_eq_getElem hj] at e2
        cases e2
        have s4 := same_upd (o := .tup [.int (j : Nat), .int is[j]]) nt
        have et : (upd H3 t (.tup [.int (j : Nat), .int is[j]])) t = some (.tup [.int (j : Nat), .int is[j]]) := upd_same
        generalize upd H3 t (.tup [.int (j : Nat), .int is[j]]) = H4 at s4 et ⊢
        have ul := hus.len
        rw [List.length_take] at ul
        have htk : (sngF 0 is).take (j + 1) = (sngF 0 is).take j ++ [⟨(j : Int), 1, is[j], 1⟩] := by
          rw [List.take_succ, sng_get 0 is hj, Int.zero_add]
          rfl
        rw [htk]
        generalize (sngF 0 is).take j = dn at hus ul ⊢
        refine ⟨t, [.int (j : Nat), .int is[j]], rfl, SqT.at et, rfl, _, [.int is[j]], rfl, .int is[j], [], rfl, rfl, rfl, ?_⟩
        refine ⟨_, rfl, _, rfl, sz (show 4 ≤ 100000 by decide), fun nt2 nnt => ?_⟩
        have s5 := same_upd (o := .tup [.int (j : Nat), .int 1, .int is[j], .int 1]) nnt
        have ent : (upd H4 nt2 (.tup [.int (j : Nat), .int 1, .int is[j], .int 1])) nt2 = some (.tup (pcV ⟨(j : Int), 1, is[j], 1⟩)) := upd_same
        generalize upd H4 nt2 (.tup [.int (j : Nat), .int 1, .int is[j], .int 1]) = H5 at s5 ent ⊢
        have eD5 := s5 _ _ (s4 _ _ eD)
        have nD : ∀ b xs, H5 b = some (.tup xs) → b ≠ D := fun b xs e z => by
          rw [z, eD5] at e
          cases e
        refine ⟨us.map V.ref, eD5, szlt (by rw [List.length_map]; omega), keep_upd (sm.trans (s4.trans s5)) hD, us ++ [nt2], by rw [upd_same, List.map_append]; rfl, ?_⟩
        refine PcsH.snoc ?_ (((hus.same s4).same s5).mono fun b o e ⟨xs, h⟩ => ?_)
        · rw [upd_ne (nD _ _ ent)]
          exact ent
        · subst h
          rw [upd_ne (nD _ _ e)]
          exact e
      case hd =>
        rintro H3 ⟨sm, us, eD, hus⟩
        rw [List.length_map, ← sl, List.take_length] at hus
        refine fun q dx hq hdx ne => ?_
        obtain ⟨s6, ep⟩ := madeR (C := a.C_Runs) hq hdx ne
        generalize upd (upd H3 dx (.own q)) q (.ins a.C_Runs dx []) = H6 at s6 ep ⊢
        have hc : Chain 0 is.length (sngF 0 is) := by
          have := sng_chain 0 is
          rw [Int.zero_add] at this
          exact this
        obtain ⟨o1, o2, o3⟩ := (ValIs.rea (fun j h => sng_val h) hc hR).one
        refine ⟨q, dx, D, (is.length : Int), us, sngF 0 is, rfl, ep, s6 _ _ eD, hus.same s6, by omega, fun H7 hR7 hk => ⟨rfl, k q H7 _ hR7 o1 o2 (fold_le1000 (by omega)) (fun j h => ?_) ?_⟩⟩
        · rw [o3 j (by omega) (by omega)]
          exact sng_val h
        · exact s1.trans (sm.trans fun b o e => hk b o (s6 b o e) (ne_of_none e hq))
def spWider (C : Addr) : Sp := fun vs H Q _ => ∃ (p : Addr) (n : Int) (ps : List Pc), vs = [.ref p] ∧ RunsAt C H p n ps ∧ Rea n ps ∧ ps.length ≤ 900 ∧
  ∀ q H' qs, RunsAt C H' q (n + 1) qs → Rea (n + 1) qs → NFl qs → qs.length ≤ ps.length + 1 → (∀ j, 0 ≤ j → j < n → valP qs j = valP ps j) → valP qs n = n → Same H H' → Q (.ref q) H'
theorem ok_wider_runs (T : Tx w K mg a) : FnOk P w K mg base CX0 5 a.f_wider_runs a.d_wider_runs ["runs"] (spWider a.C_Runs) := by
  refine T.F_wider_runs.ok sc_wider_runs (fun vs H Q E h => ?_) (fun cdv A outer s H vs Q E hr h => ?_)
  · obtain ⟨p, n, ps, rfl, _⟩ := h
    rfl
  · obtain ⟨p, n, ps, rfl, ⟨dx, fs, t, rs, p1, p2, p3, p4, p5, p6⟩, hR, hl, k⟩ := h
    refine ⟨_, 
(pss_one (ps_ret (pe_make T.mk_Runs (ok_Runs_init T) hr (by rfl) T.c_Runs T.b_Runs_init .nil pass0 (pa_cons (pe_op op_add (pe_fld (pv 0) rfl) pe_int) (pa_cons (pe_lst (StX.pa_star (pe_fld (pv 0) rfl) (pa_cons (pe_tup (pa_cons (pe_fld (pv 0) rfl) (pa_cons pe_int (pa_cons (pe_fld (pv 0) rfl) (pa_cons pe_int pa_nil))))) pa_nil))) pa_nil))))), ?_⟩
    have n0 := hR.pos
    refine ⟨.ref p, rfl, p, a.C_Runs, dx, _, _, rfl, p1, T.cl_Runs, T.n_Runs_size, p2.1, _, 1, rfl, rfl, .ref p, rfl, p, a.C_Runs, dx, _, _, rfl, p1, T.cl_Runs, T.n_Runs_rows, p3, t, _, rfl, .inl (SqT.at p5), ?_⟩
    refine ⟨.ref p, rfl, p, a.C_Runs, dx, _, _, rfl, p1, T.cl_Runs, T.n_Runs_size, p2.1, .ref p, rfl, p, a.C_Runs, dx, _, _, rfl, p1, T.cl_Runs, T.n_Runs_size, p2.1, sz (show 4 ≤ 100000 by decide), fun nt nnt => ?_⟩
    have s1 := same_upd (o := .tup [.int n, .int 1, .int n, .int 1]) nnt
    have e1 : (upd H nt (.tup [.int n, .int 1, .int n, .int 1])) nt = some (.tup (pcV ⟨n, 1, n, 1⟩)) := upd_same
    generalize upd H nt (.tup [.int n, .int 1, .int n, .int 1]) = H1 at s1 e1 ⊢
    have rl := p6.len
    refine ⟨sz (by simp; omega), fun L nL => ?_⟩
    have s2 := same_upd (o := .lst (rs.map V.ref ++ [V.ref nt])) nL
    have eL : (upd H1 L (.lst (rs.map V.ref ++ [V.ref nt]))) L = some (.lst ((rs ++ [nt]).map V.ref)) := by
      rw [upd_same, List.map_append]
      rfl
    generalize upd H1 L (.lst (rs.map V.ref ++ [V.ref nt])) = H2 at s2 eL ⊢
    have hp2 : PcsH H2 (rs ++ [nt]) (ps ++ [⟨n, 1, n, 1⟩]) := PcsH.snoc (s2 _ _ e1) ((p6.same s1).same s2)
    refine fun q dy hq hdy ne => ?_
    obtain ⟨s6, ep⟩ := madeR (C := a.C_Runs) hq hdy ne
    generalize upd (upd H2 dy (.own q)) q (.ins a.C_Runs dy []) = H6 at s6 ep ⊢
    have hc : Chain 0 (n + 1) (ps ++ [⟨n, 1, n, 1⟩]) := hR.ch.append ⟨rfl, Int.le_refl _, .inl rfl, rfl⟩
    have v1 : ∀ j, 0 ≤ j → j < n → valP (ps ++ [⟨n, 1, n, 1⟩]) j = valP ps j := fun j j0 j1 => val_left hR.ch j1 j0
    have v2 : valP (ps ++ [⟨n, 1, n, 1⟩]) n = n := by
      rw [val_right hR.ch (Int.le_refl _), val_head (r := []) (by show n < n + 1; omega)]
      show n + 1 * (n - n) = n
      omega
    have hR1 : Rea (n + 1) (ps ++ [⟨n, 1, n, 1⟩]) := by
      refine rea_of (f := fun j => if j < n then valP ps j else n) hc (fun j j0 j1 => ?_) (fun j j0 j1 => ?_) fun i j i0 i1 j0 j1 e => ?_
      · by_cases c : j < n
        · rw [if_pos c]
          exact v1 j j0 c
        · have : j = n := by omega
          rw [if_neg c, this]
          exact v2
      · split
        · rename_i c
          have := hR.val j j0 c
          omega
        · omega
      · have e : (if i < n then valP ps i else n) = if j < n then valP ps j else n := e
        split at e
        · rename_i c
          have a1 := hR.val i i0 c
          split at e
          · rename_i c2
            exact hR.inj i j i0 c j0 c2 e
          · omega
        · split at e
          · rename_i c2
            have := hR.val j j0 c2
            omega
          · omega
    obtain ⟨o1, o2, o3⟩ := hR1.one
    have ll : (ps ++ [(⟨n, 1, n, 1⟩ : Pc)]).length = ps.length + 1 := by
      rw [List.length_append]
      rfl
    exact ⟨q, dy, L, n + 1, rs ++ [nt], _, rfl, ep, s6 _ _ eL, hp2.same s6, by omega, fun H7 hR7 hk => ⟨rfl, k q H7 _ hR7 o1 o2 (fold_le1000 (by omega)) (fun j j0 j1 => (o3 j j0 (by omega)).trans (v1 j j0 j1)) ((o3 n n0 (by omega)).trans v2) (s1.trans (s2.trans fun b o e => hk b o (s6 b o e) (ne_of_none e hq)))⟩⟩
end

/-- the row that moves nothing -/
def idP (k : Int) : List Pc := oneF [⟨0, k, 0, 1⟩]
theorem btM_int {lo hi i : Int} (h1 : lo ≤ i) (h2 : i ≤ hi) : btM lo hi (.int i) = true := by
  simp only [btM, Bool.and_eq_true, decide_eq_true_eq]
  omega
/-- the exchange of two places -/
def exchM (x y j : Int) : Int := if j = x then y else if j = y then x else j
/-- a roll of x to y by c places -/
def rollM (x y c j : Int) : Int := if x ≤ j ∧ j ≤ y then x + (j - x - c).fmod (y - x + 1) else j
theorem id_ok {k : Int} (h : 1 ≤ k) : Chain 0 k (idP k) ∧ (idP k).length ≤ 10 := by
  have c : Chain 0 k [(⟨0, k, 0, 1⟩ : Pc)] := ⟨rfl, h, .inl rfl, by show 0 + k = k; omega⟩
  refine ⟨(oneF_ok c).1, ?_⟩
  have := fold_len [(⟨0, k, 0, 1⟩ : Pc)] []
  exact Nat.le_trans this (show 0 + 1 ≤ 10 by decide)
theorem full_ok {k x y : Int} {ps : List Pc} (h : WCh 0 k ((⟨0, x, 0, 1⟩ : Pc) :: (ps ++ [(⟨y + 1, k - y - 1, y + 1, 1⟩ : Pc)]))) (hl : ps.length ≤ 8) :
    Chain 0 k (oneF (fullP k x y ps)) ∧ (oneF (fullP k x y ps)).length ≤ 10 ∧ ∀ j, 0 ≤ j → j < k → valP (oneF (fullP k x y ps)) j = valP ((⟨0, x, 0, 1⟩ : Pc) :: (ps ++ [(⟨y + 1, k - y - 1, y + 1, 1⟩ : Pc)])) j := by
  obtain ⟨a, b⟩ := filt_ok h
  obtain ⟨c, d⟩ := oneF_ok a
  refine ⟨c, ?_, fun j j0 j1 => (d j j0 j1).trans (b j j0)⟩
  have h1 := fold_len (fullP k x y ps) []
  have h2 : (fullP k x y ps).length ≤ _ := List.length_filter_le _ _
  simp only [List.length_nil, List.length_cons, List.length_append] at h1 h2
  show (oneF (fullP k x y ps)).length ≤ 10
  have h3 : (oneF (fullP k x y ps)).length ≤ 0 + (fullP k x y ps).length := h1
  omega
theorem exch_ok {k x y : Int} (h0 : 0 ≤ x) (h1 : x < y) (h2 : y < k) : WCh 0 k ((⟨0, x, 0, 1⟩ : Pc) :: ([(⟨x, 1, y, 1⟩ : Pc), ⟨x + 1, y - x - 1, x + 1, 1⟩, ⟨y, 1, x, 1⟩] ++ [(⟨y + 1, k - y - 1, y + 1, 1⟩ : Pc)])) ∧
    ∀ j, 0 ≤ j → j < k → valP ((⟨0, x, 0, 1⟩ : Pc) :: ([(⟨x, 1, y, 1⟩ : Pc), ⟨x + 1, y - x - 1, x + 1, 1⟩, ⟨y, 1, x, 1⟩] ++ [(⟨y + 1, k - y - 1, y + 1, 1⟩ : Pc)])) j = exchM x y j := by
  refine ⟨?_, fun j j0 j1 => ?_⟩
  · simp only [WCh, List.cons_append, List.nil_append, true_or, true_and]
    omega
  · simp only [valP, List.cons_append, List.nil_append, exchM]
    repeat' split
    all_goals omega
theorem roll_ok {k x y A : Int} (h0 : 0 ≤ x) (h1 : x < y) (h2 : y < k) (a0 : 0 ≤ A) (a1 : A < y - x + 1) : WCh 0 k ((⟨0, x, 0, 1⟩ : Pc) :: ([(⟨x, A, y + 1 - A, 1⟩ : Pc), ⟨x + A, y - x + 1 - A, x, 1⟩] ++ [(⟨y + 1, k - y - 1, y + 1, 1⟩ : Pc)])) ∧
    ∀ j, 0 ≤ j → j < k → valP ((⟨0, x, 0, 1⟩ : Pc) :: ([(⟨x, A, y + 1 - A, 1⟩ : Pc), ⟨x + A, y - x + 1 - A, x, 1⟩] ++ [(⟨y + 1, k - y - 1, y + 1, 1⟩ : Pc)])) j = rollM x y A j := by
  have em : ∀ j, x ≤ j → j ≤ y → (j - x - A).fmod (y - x + 1) = if j - x < A then j - x - A + (y - x + 1) else j - x - A := fun j j0 j1 => by
    rw [Int.fmod_eq_emod_of_nonneg _ (by omega)]
    split
    · rw [← Int.add_emod_right, Int.emod_eq_of_lt (by omega) (by omega)]
    · exact Int.emod_eq_of_lt (by omega) (by omega)
  refine ⟨?_, fun j j0 j1 => ?_⟩
  · simp only [WCh, List.cons_append, List.nil_append, true_or, true_and]
    omega
  · unfold rollM
    by_cases c : x ≤ j ∧ j ≤ y
    · rw [if_pos c, em j c.1 c.2]
      simp only [valP, List.cons_append, List.nil_append]
      repeat' split
      all_goals omega
    · rw [if_neg c]
      simp only [valP, List.cons_append, List.nil_append]
      repeat' split
      all_goals omega
theorem roll_by {x y b j : Int} (h : x < y) : rollM x y (b.fmod (y - x + 1)) j = rollM x y b j := by
  unfold rollM
  split
  · congr 1
    have hl : (0 : Int) ≤ y - x + 1 := by omega
    rw [Int.fmod_eq_emod_of_nonneg _ hl, Int.fmod_eq_emod_of_nonneg _ hl, Int.fmod_eq_emod_of_nonneg _ hl, Int.sub_emod (j - x), Int.emod_emod_of_dvd _ (Int.dvd_refl _), ← Int.sub_emod]
  · rfl
theorem full_len {k x y : Int} {ps : List Pc} : (oneF (fullP k x y ps)).length ≤ ps.length + 2 := by
  have h1 := fold_len (fullP k x y ps) []
  have h2 : (fullP k x y ps).length ≤ _ := List.length_filter_le _ _
  simp only [List.length_nil, List.length_cons, List.length_append] at h1 h2
  have h3 : (oneF (fullP k x y ps)).length ≤ 0 + (fullP k x y ps).length := h1
  omega
/-- what an exchange, a roll do with k places -/
def exG (k x y j : Int) : Int := if 0 ≤ x ∧ x < k ∧ 0 ≤ y ∧ y < k then exchM x y j else j
def roG (k x y b j : Int) : Int := if 0 ≤ x ∧ y < k ∧ x < y then rollM x y b j else j
theorem exG_in {k x y j : Int} (j0 : 0 ≤ j) (j1 : j < k) : 0 ≤ exG k x y j ∧ exG k x y j < k := by
  unfold exG exchM
  repeat' split
  all_goals omega
theorem exG_inj {k x y i j : Int} (e : exG k x y i = exG k x y j) : i = j := by
  unfold exG exchM at e
  split at e
  · repeat' split at e
    all_goals omega
  · exact e
theorem rollM_in {x y b j : Int} (h : x < y) (j0 : x ≤ j) (j1 : j ≤ y) : x ≤ rollM x y b j ∧ rollM x y b j ≤ y := by
  unfold rollM
  rw [if_pos ⟨j0, j1⟩]
  have a0 : 0 ≤ (j - x - b).fmod (y - x + 1) := Int.fmod_nonneg_of_pos _ (by omega)
  have a1 : (j - x - b).fmod (y - x + 1) < y - x + 1 := Int.fmod_lt_of_pos _ (by omega)
  omega
theorem fmod_near {m i j : Int} (hm : 0 < m) (e : i.fmod m = j.fmod m) (h1 : i - j < m) (h2 : j - i < m) : i = j := by
  rw [Int.fmod_eq_emod_of_nonneg _ (by omega), Int.fmod_eq_emod_of_nonneg _ (by omega)] at e
  have d := Int.emod_eq_emod_iff_emod_sub_eq_zero.mp e
  have dv := Int.dvd_of_emod_eq_zero d
  obtain ⟨q, hq⟩ := dv
  have q1 : q < 1 := Decidable.byContradiction fun z => by
    have : m * 1 ≤ m * q := Int.mul_le_mul_of_nonneg_left (by omega) (by omega)
    omega
  have q2 : -1 < q := Decidable.byContradiction fun z => by
    have : m * q ≤ m * (-1) := Int.mul_le_mul_of_nonneg_left (by omega) (by omega)
    omega
  have : q = 0 := by omega
  subst this
  omega
theorem roG_in {k x y b j : Int} (j0 : 0 ≤ j) (j1 : j < k) : 0 ≤ roG k x y b j ∧ roG k x y b j < k := by
  unfold roG
  split
  · rename_i h
    by_cases c : x ≤ j ∧ j ≤ y
    · have := rollM_in (b := b) h.2.2 c.1 c.2
      omega
    · unfold rollM
      rw [if_neg c]
      exact ⟨j0, j1⟩
  · exact ⟨j0, j1⟩
theorem roG_inj {k x y b i j : Int} (e : roG k x y b i = roG k x y b j) : i = j := by
  unfold roG at e
  split at e
  · rename_i h
    by_cases c : x ≤ i ∧ i ≤ y
    · by_cases d : x ≤ j ∧ j ≤ y
      · unfold rollM at e
        rw [if_pos c, if_pos d] at e
        have := fmod_near (m := y - x + 1) (by omega) (show (i - x - b).fmod (y - x + 1) = (j - x - b).fmod (y - x + 1) by omega) (by omega) (by omega)
        omega
      · have := rollM_in (b := b) h.2.2 c.1 c.2
        rw [e] at this
        unfold rollM at this
        rw [if_neg d] at this
        exact absurd this d
    · by_cases d : x ≤ j ∧ j ≤ y
      · have := rollM_in (b := b) h.2.2 d.1 d.2
        rw [← e] at this
        unfold rollM at this
        rw [if_neg c] at this
        exact absurd this c
      · unfold rollM at e
        rw [if_neg c, if_neg d] at e
        exact e
  · exact e
theorem id_rea {k : Int} (h : 1 ≤ k) : Rea k (idP k) ∧ NFl (idP k) ∧ (idP k).length ≤ 1 ∧ ∀ z, 0 ≤ z → z < k → valP (idP k) z = z := by
  have c : Chain 0 k [(⟨0, k, 0, 1⟩ : Pc)] := ⟨rfl, h, .inl rfl, by show 0 + k = k; omega⟩
  have v : ∀ z, 0 ≤ z → z < k → valP [(⟨0, k, 0, 1⟩ : Pc)] z = z := fun z z0 z1 => by
    rw [val_head (r := []) (by show z < 0 + k; omega)]
    show 0 + 1 * (z - 0) = z
    omega
  obtain ⟨o1, o2, o3⟩ := (rea_of (f := fun z => z) c v (fun j a b => ⟨a, b⟩) fun i j _ _ _ _ e => e).one
  exact ⟨o1, o2, fold_le1000 (Nat.le_refl 1), fun z z0 z1 => (o3 z z0 z1).trans (v z z0 z1)⟩
section
variable {P : Program} {w : World} {K : PySem.W.Frag} {mg : Str → Option Value} {base : Heap} {a : Ad}
def spNothingRuns (C CS : Addr) : Sp := fun vs H Q E => ∃ (y : V) (ib : Bool), vs = [y] ∧ IsI H y ib ∧ ((∃ k : Int, y = .int k ∧ 1 ≤ k ∧ k ≤ 10 ^ 30 ∧ ∀ p H', RunsAt C H' p k (idP k) → Same H H' → Q (.ref p) H') ∨ (btM 1 (10 ^ 30) y = false ∧ ∀ H' d, Same H H' → H' d = some (.xd [("size", y)]) → E (.ref CS) (some d) H'))
theorem ok_nothing_runs (T : Tx w K mg a) : FnOk P w K mg base (L2.CX P w) 5 a.f_nothing_runs a.d_nothing_runs ["k"] (spNothingRuns a.C_Runs a.C_BadSize) := by
  refine T.F_nothing_runs.okX sc_nothing_runs (fun vs H Q E h => ?_) (fun cdv A outer s H vs Q E hr h => ?_)
  · obtain ⟨y, ib, rfl, _⟩ := h
    rfl
  · obtain ⟨y, ib, rfl, hI, h⟩ := h
    refine ⟨_, 
(pss_cons (ps_expr (pe_callS (ok_check_far_size T) (hr.mono (by decide)) (by rfl) T.m_check_far_size T.F_check_far_size.kp T.b_check_far_size (fun σ => passAt (takes_of rfl rfl rfl rfl) σ) (pa_cons (pv 0) pa_nil)))
  (pss_one (ps_ret (pe_make T.mk_Runs (ok_Runs_init T) hr (by rfl) T.c_Runs T.b_Runs_init .nil pass0 (pa_cons (pv 0) (pa_cons (pe_lst (pa_cons (pe_tup (pa_cons pe_int (pa_cons (pv 0) (pa_cons pe_int (pa_cons pe_int pa_nil))))) pa_nil)) pa_nil)))))), ?_⟩
    rcases h with ⟨k, rfl, k1, k2, q⟩ | ⟨hb, hE⟩
    rotate_left
    · exact ⟨_, rfl, y, ib, rfl, hI, .inr ⟨hb, hE⟩⟩
    refine ⟨_, rfl, .int k, ib, rfl, hI, .inl ⟨btM_int k1 k2, ?_⟩⟩
    refine ⟨_, rfl, _, rfl, sz (show 4 ≤ 100000 by decide), fun t nt => ⟨sz (show 1 ≤ 100000 by decide), fun D hD => ?_⟩⟩
    have s1 := (same_upd (o := .tup [.int 0, .int k, .int 0, .int 1]) nt)
    have e1 : (upd H t (.tup [.int 0, .int k, .int 0, .int 1])) t = some (.tup (pcV ⟨0, k, 0, 1⟩)) := upd_same
    have s2 := s1.trans (same_upd (o := .lst [.ref t]) hD)
    have e2 := (same_upd (o := .lst [.ref t]) hD) _ _ e1
    have eD : (upd (upd H t (.tup [.int 0, .int k, .int 0, .int 1])) D (.lst [.ref t])) D = some (.lst ([t].map V.ref)) := upd_same
    generalize upd (upd H t (.tup [.int 0, .int k, .int 0, .int 1])) D (.lst [.ref t]) = H2 at s2 e2 eD ⊢
    refine fun p dx hp hdx ne => ?_
    obtain ⟨s5, ep⟩ := madeR (C := a.C_Runs) hp hdx ne
    generalize upd (upd H2 dx (.own p)) p (.ins a.C_Runs dx []) = H5 at s5 ep ⊢
    exact ⟨p, dx, D, k, [t], [⟨0, k, 0, 1⟩], rfl, ep, s5 _ _ eD, ⟨s5 _ _ e2, trivial⟩, (show 1 ≤ 1000 by decide), fun H6 hR hk => ⟨rfl, q p H6 hR (s2.trans fun b o e => hk b o (s5 b o e) (ne_of_none e hp))⟩⟩
def spExchRuns (C CS : Addr) : Sp := fun vs H Q E => ∃ (z : V) (x y : Int) (ib : Bool), vs = [z, .int x, .int y] ∧ IsI H z ib ∧ ((∃ k : Int, z = .int k ∧ 1 ≤ k ∧ k ≤ 10 ^ 30 ∧ ∀ p H' ps, RunsAt C H' p k ps → Rea k ps → NFl ps → ps.length ≤ 5 → (∀ j, 0 ≤ j → j < k → valP ps j = exG k x y j) → Same H H' → Q (.ref p) H') ∨ (btM 1 (10 ^ 30) z = false ∧ ∀ H' d, Same H H' → H' d = some (.xd [("size", z)]) → E (.ref CS) (some d) H'))
theorem ok_exchange_runs (T : Tx w K mg a) : FnOk P w K mg base (L2.CX P w) 6 a.f_exchange_runs a.d_exchange_runs ["k", "x", "y"] (spExchRuns a.C_Runs a.C_BadSize) := by
  refine T.F_exchange_runs.okX sc_exchange_runs (fun vs H Q E h => ?_) (fun cdv A outer s H vs Q E hr h => ?_)
  · obtain ⟨z, x, y, ib, rfl, _⟩ := h
    rfl
  · obtain ⟨z, x, y, ib, rfl, hI, h⟩ := h
    refine ⟨_, 
(pss_cons (ps_expr (pe_callS (ok_check_far_size T) (hr.mono (by decide)) (by rfl) T.m_check_far_size T.F_check_far_size.kp T.b_check_far_size (fun σ => passAt (takes_of rfl rfl rfl rfl) σ) (pa_cons (pv 0) pa_nil)))
  (pss_cons (ps_set (i := 3) sc_exchange_runs.nd rfl (.inl rfl) (pe_callB (call_min2 rfl) (by rfl) T.z_min (by decide +kernel) (pa_cons (pv 1) (pa_cons (pv 2) pa_nil))))
  (pss_cons (ps_set (i := 4) sc_exchange_runs.nd rfl (.inl rfl) (pe_callB (call_max2 rfl) (by rfl) T.z_max (by decide +kernel) (pa_cons (pv 1) (pa_cons (pv 2) pa_nil))))
  (pss_cons (ps_if (PW.pt (pw_or (pt_cmpR op_lt (pv 3) pe_int (nomark _)) (pw_or (pt_cmpR op_ge (pv 4) (pv 0) (nomark _)) (pw_or1 (pt_cmpR op_eq (pv 3) (pv 4) (nomark _))))))
  (pss_one (ps_ret (pe_callS (ok_nothing_runs T) hr (by rfl) T.m_nothing_runs T.F_nothing_runs.kp T.b_nothing_runs (fun σ => passAt (takes_of rfl rfl rfl rfl) σ) (pa_cons (pv 0) pa_nil))))
  pss_nil)
  (pss_cons (ps_set (i := 5) sc_exchange_runs.nd rfl (.inl rfl) (pe_lst (pa_cons (pe_tup (pa_cons (pv 3) (pa_cons pe_int (pa_cons (pv 4) (pa_cons pe_int pa_nil))))) (pa_cons (pe_tup (pa_cons (pe_op op_add (pv 3) pe_int) (pa_cons (pe_op op_sub (pe_op op_sub (pv 4) (pv 3)) pe_int) (pa_cons (pe_op op_add (pv 3) pe_int) (pa_cons pe_int pa_nil))))) (pa_cons (pe_tup (pa_cons (pv 4) (pa_cons pe_int (pa_cons (pv 3) (pa_cons pe_int pa_nil))))) pa_nil)))))
  (pss_one (ps_ret (pe_call (ok_moved_block T) hr (by rfl) T.m_moved_block T.F_moved_block.kp T.b_moved_block .nil pass0 (pa_cons (pv 0) (pa_cons (pv 3) (pa_cons (pv 4) (pa_cons (pv 5) pa_nil)))))))))))), ?_⟩
    rcases h with ⟨k, rfl, k1, k2, q⟩ | ⟨hb, hE⟩
    rotate_left
    · exact ⟨_, rfl, z, ib, rfl, hI, .inr ⟨hb, hE⟩⟩
    refine ⟨_, rfl, .int k, ib, rfl, hI, .inl ⟨btM_int k1 k2, ?_⟩⟩
    refine ⟨_, rfl, _, rfl, x, y, rfl, _, rfl, _, rfl, x, y, rfl, ?_⟩
    obtain ⟨hid1, hid2, hid3, hid4⟩ := id_rea k1
    have nr : ¬ (0 ≤ x ∧ x < k ∧ 0 ≤ y ∧ y < k ∧ x ≠ y) → ∀ p H', RunsAt a.C_Runs H' p k (idP k) → Same H H' → Q (.ref p) H' := fun hn p H' hR s => q p H' _ hR hid1 hid2 (by omega) (fun j j0 j1 => by
      rw [hid4 j j0 j1]
      unfold exG exchM
      repeat' split
      all_goals omega) s
    obtain ⟨lo, hlo⟩ : ∃ lo, (if y < x then y else x) = lo := ⟨_, rfl⟩
    obtain ⟨hi, hhi⟩ : ∃ hi, (if y > x then y else x) = hi := ⟨_, rfl⟩
    have hcase : (lo = x ∧ hi = y ∧ x ≤ y) ∨ (lo = y ∧ hi = x ∧ y ≤ x) := by
      rw [← hlo, ← hhi]
      repeat' split
      all_goals omega
    rw [hlo, hhi]
    refine ⟨_, rfl, _, 0, rfl, rfl, _, rfl, ite2 (fun c => ?_) (fun c => ?_)⟩
    · have c : lo < 0 := of_decide_eq_true c
      exact iteT ⟨_, rfl, .int k, ib, rfl, hI, .inl ⟨k, rfl, k1, k2, nr (by omega)⟩⟩
    have c : 0 ≤ lo := by
      have := c
      simp only [Bool.not_eq_true, decide_eq_false_iff_not] at this
      omega
    refine ⟨_, rfl, _, rfl, _, _, rfl, rfl, _, rfl, ite2 (fun c2 => ?_) (fun c2 => ?_)⟩
    · have c2 : k ≤ hi := of_decide_eq_true c2
      exact iteT ⟨_, rfl, .int k, ib, rfl, hI, .inl ⟨k, rfl, k1, k2, nr (by omega)⟩⟩
    have c2 : hi < k := by
      have := c2
      simp only [Bool.not_eq_true, decide_eq_false_iff_not] at this
      omega
    refine ⟨_, rfl, _, rfl, rfl, _, rfl, ?_⟩
    by_cases c3 : lo = hi
    · rw [decide_eq_true (show V.int lo = V.int hi by rw [c3])]
      exact iteT ⟨_, rfl, .int k, ib, rfl, hI, .inl ⟨k, rfl, k1, k2, nr (by omega)⟩⟩
    rw [decide_eq_false (show ¬ V.int lo = V.int hi from fun z => c3 (V.int.inj z))]
    refine iteF ?_
    clear nr
    have hlt : lo < hi := by omega
    -- between = [(low, 1, high, 1), ..]
    refine ⟨_, rfl, _, rfl, sz (show 4 ≤ 100000 by decide), fun t1 n1 => ?_⟩
    have s1 := same_upd (o := .tup [.int lo, .int 1, .int hi, .int 1]) n1
    have e1 : (upd H t1 (.tup [.int lo, .int 1, .int hi, .int 1])) t1 = some (.tup (pcV ⟨lo, 1, hi, 1⟩)) := upd_same
    generalize upd H t1 (.tup [.int lo, .int 1, .int hi, .int 1]) = H1 at s1 e1 ⊢
    refine ⟨_, rfl, _, 1, rfl, rfl, _, rfl, _, rfl, _, _, rfl, rfl, _, 1, rfl, rfl, _, rfl, _, 1, rfl, rfl, sz (show 4 ≤ 100000 by decide), fun t2 n2 => ?_⟩
    have s2 := same_upd (o := .tup [.int (lo + 1), .int (hi - lo - 1), .int (lo + 1), .int 1]) n2
    have e2 : (upd H1 t2 (.tup [.int (lo + 1), .int (hi - lo - 1), .int (lo + 1), .int 1])) t2 = some (.tup (pcV ⟨lo + 1, hi - lo - 1, lo + 1, 1⟩)) := upd_same
    generalize upd H1 t2 (.tup [.int (lo + 1), .int (hi - lo - 1), .int (lo + 1), .int 1]) = H2 at s2 e2 ⊢
    refine ⟨_, rfl, _, rfl, sz (show 4 ≤ 100000 by decide), fun t3 n3 => ⟨sz (show 3 ≤ 100000 by decide), fun l nl => ?_⟩⟩
    have s3 := same_upd (o := .tup [.int hi, .int 1, .int lo, .int 1]) n3
    have e3 : (upd H2 t3 (.tup [.int hi, .int 1, .int lo, .int 1])) t3 = some (.tup (pcV ⟨hi, 1, lo, 1⟩)) := upd_same
    generalize upd H2 t3 (.tup [.int hi, .int 1, .int lo, .int 1]) = H3 at s3 e3 nl ⊢
    have s4 := same_upd (o := .lst [.ref t1, .ref t2, .ref t3]) nl
    have e4 : (upd H3 l (.lst [.ref t1, .ref t2, .ref t3])) l = some (.lst ([t1, t2, t3].map V.ref)) := upd_same
    change gName 5 (V.ref l) _ (upd H3 l (.lst [.ref t1, .ref t2, .ref t3])) _
    generalize upd H3 l (.lst [.ref t1, .ref t2, .ref t3]) = H4 at s4 e4 ⊢
    obtain ⟨w1, w2⟩ := exch_ok c hlt c2
    obtain ⟨f1, f2, f3⟩ := full_ok (k := k) (x := lo) (y := hi) (ps := [(⟨lo, 1, hi, 1⟩ : Pc), ⟨lo + 1, hi - lo - 1, lo + 1, 1⟩, ⟨hi, 1, lo, 1⟩]) w1 (show 3 ≤ 8 by decide)
    refine ⟨_, rfl, _, rfl, _, rfl, _, rfl, k, lo, hi, l, [t1, t2, t3], [(⟨lo, 1, hi, 1⟩ : Pc), ⟨lo + 1, hi - lo - 1, lo + 1, 1⟩, ⟨hi, 1, lo, 1⟩], rfl, e4, ⟨s4 _ _ (s3 _ _ (s2 _ _ e1)), s4 _ _ (s3 _ _ e2), s4 _ _ e3, trivial⟩, (show 3 ≤ 10 by decide), fun p H' hR s5 => ?_⟩
    have hv : ∀ j, 0 ≤ j → j < k → valP (oneF (fullP k lo hi [(⟨lo, 1, hi, 1⟩ : Pc), ⟨lo + 1, hi - lo - 1, lo + 1, 1⟩, ⟨hi, 1, lo, 1⟩])) j = exG k x y j := fun j j0 j1 => by
      have e : exG k x y j = exchM x y j := if_pos (by omega)
      rw [f3 j j0 j1, w2 j j0 j1, e]
      unfold exchM
      repeat' split
      all_goals omega
    have hch := (filt_ok w1).1
    exact q p H' _ hR (rea_of f1 hv (fun j j0 j1 => exG_in j0 j1) fun i j _ _ _ _ e => exG_inj e) (oneF_nf hch) full_len hv ((s1.trans s2).trans (s3.trans (s4.trans s5)))
end
section
variable {P : Program} {w : World} {K : PySem.W.Frag} {mg : Str → Option Value} {base : Heap} {a : Ad}
def spRollRuns (C CS : Addr) : Sp := fun vs H Q E => ∃ (z cv : V) (x y b : Int) (ib : Bool), vs = [z, .int x, .int y, cv] ∧ IsI H z ib ∧ ((cv = .non ∧ b = (y - x + 1).fdiv 2) ∨ cv = .int b) ∧ ((∃ k : Int, z = .int k ∧ 1 ≤ k ∧ k ≤ 10 ^ 30 ∧ ∀ p H' ps, RunsAt C H' p k ps → Rea k ps → NFl ps → ps.length ≤ 5 → (∀ j, 0 ≤ j → j < k → valP ps j = roG k x y b j) → Same H H' → Q (.ref p) H') ∨ (btM 1 (10 ^ 30) z = false ∧ ∀ H' d, Same H H' → H' d = some (.xd [("size", z)]) → E (.ref CS) (some d) H'))
theorem ok_roll_runs (T : Tx w K mg a) : FnOk P w K mg base (L2.CX P w) 6 a.f_roll_runs a.d_roll_runs ["k", "x", "y", "c"] (spRollRuns a.C_Runs a.C_BadSize) := by
  refine T.F_roll_runs.okX sc_roll_runs (fun vs H Q E h => ?_) (fun cdv A outer s H vs Q E hr h => ?_)
  · obtain ⟨z, cv, x, y, b, ib, rfl, _⟩ := h
    rfl
  · obtain ⟨z, cv, x, y, b, ib, rfl, hI, hb0, h⟩ := h
    refine ⟨_, 
(pss_cons (ps_expr (pe_callS (ok_check_far_size T) (hr.mono (by decide)) (by rfl) T.m_check_far_size T.F_check_far_size.kp T.b_check_far_size (fun σ => passAt (takes_of rfl rfl rfl rfl) σ) (pa_cons (pv 0) pa_nil)))
  (pss_cons (ps_if (PW.pt (pw_or (pt_cmpR op_lt (pv 1) pe_int (nomark _)) (pw_or (pt_cmpR op_ge (pv 2) (pv 0) (nomark _)) (pw_or1 (pt_cmpR op_ge (pv 1) (pv 2) (nomark _))))))
  (pss_one (ps_ret (pe_callS (ok_nothing_runs T) hr (by rfl) T.m_nothing_runs T.F_nothing_runs.kp T.b_nothing_runs (fun σ => passAt (takes_of rfl rfl rfl rfl) σ) (pa_cons (pv 0) pa_nil))))
  pss_nil)
  (pss_cons (ps_set (i := 4) sc_roll_runs.nd rfl (.inl rfl) (pe_op op_add (pe_op op_sub (pv 2) (pv 1)) pe_int))
  (C8.pss_cut (ps_set (i := 5) sc_roll_runs.nd rfl (.inl rfl) (pe_ifExp (pt_cmpR op_isN (pv 3) pe_non (nomark _)) (pe_op op_fdivN (pv 4) pe_int) (pe_op op_modN (pv 3) (pv 4))))
  (pss_one (ps_ret (pe_call (ok_moved_block T) hr (by rfl) T.m_moved_block T.F_moved_block.kp T.b_moved_block .nil pass0 (pa_cons (pv 0) (pa_cons (pv 1) (pa_cons (pv 2) (pa_cons (pe_lst (pa_cons (pe_tup (pa_cons (pv 1) (pa_cons (pv 5) (pa_cons (pe_op op_sub (pe_op op_add (pv 2) pe_int) (pv 5)) (pa_cons pe_int pa_nil))))) (pa_cons (pe_tup (pa_cons (pe_op op_add (pv 1) (pv 5)) (pa_cons (pe_op op_sub (pv 4) (pv 5)) (pa_cons (pv 1) (pa_cons pe_int pa_nil))))) pa_nil))) pa_nil))))))))))), ?_⟩
    rcases h with ⟨k, rfl, k1, k2, q⟩ | ⟨hb, hE⟩
    rotate_left
    · exact ⟨_, rfl, z, ib, rfl, hI, .inr ⟨hb, hE⟩⟩
    refine ⟨_, rfl, .int k, ib, rfl, hI, .inl ⟨btM_int k1 k2, ?_⟩⟩
    obtain ⟨hid1, hid2, hid3, hid4⟩ := id_rea k1
    have nr : ¬ (0 ≤ x ∧ y < k ∧ x < y) → ∀ p H', RunsAt a.C_Runs H' p k (idP k) → Same H H' → Q (.ref p) H' := fun hn p H' hR s => q p H' _ hR hid1 hid2 (by omega) (fun j j0 j1 => by
      rw [hid4 j j0 j1]
      unfold roG
      rw [if_neg hn]) s
    have dn : ∀ {p : Prop} [Decidable p], ¬ decide p = true → ¬ p := fun h z => h (decide_eq_true z)
    refine ⟨_, rfl, _, 0, rfl, rfl, _, rfl, ite2 (fun c => iteT ⟨_, rfl, .int k, ib, rfl, hI, .inl ⟨k, rfl, k1, k2, nr (by have := of_decide_eq_true c; omega)⟩⟩) (fun c => ?_)⟩
    have c := dn c
    refine ⟨_, rfl, _, rfl, _, _, rfl, rfl, _, rfl, ite2 (fun c => iteT ⟨_, rfl, .int k, ib, rfl, hI, .inl ⟨k, rfl, k1, k2, nr (by have := of_decide_eq_true c; omega)⟩⟩) (fun c2 => ?_)⟩
    have c2 := dn c2
    refine ⟨_, rfl, _, rfl, _, _, rfl, rfl, _, rfl, ite2 (fun c => ⟨_, rfl, .int k, ib, rfl, hI, .inl ⟨k, rfl, k1, k2, nr (by have := of_decide_eq_true c; omega)⟩⟩) (fun c3 => ?_)⟩
    have c3 := dn c3
    clear nr
    have hxy : x < y := by omega
    -- length = y - x + 1
    refine ⟨_, rfl, _, rfl, _, _, rfl, rfl, _, 1, rfl, rfl, ?_⟩
    -- ahead = length // 2 if c is None else c % length
    refine ⟨fun σ' H' => σ' = [some (.int k), some (.int x), some (.int y), some cv, some (.int (y - x + 1)), some (.int (b.fmod (y - x + 1)))] ∧ H' = H, ?_, ?_⟩
    · refine ⟨_, rfl, rfl, _, rfl, ?_⟩
      rcases hb0 with ⟨rfl, hb⟩ | rfl
      · rw [decide_eq_true (show V.non = V.non from rfl)]
        refine iteT ⟨_, rfl, _, 2, rfl, rfl, by unfold CDivN; omega, ?_, rfl⟩
        have e : b.fmod (y - x + 1) = (y - x + 1).fdiv 2 := by
          rw [hb, Int.fdiv_eq_ediv_of_nonneg _ (by decide), Int.fmod_eq_emod_of_nonneg _ (by omega), Int.emod_eq_of_lt (by omega) (by omega)]
        rw [e]
        rfl
      · rw [decide_eq_false (show ¬ V.int b = V.non from fun z => by cases z)]
        exact iteF ⟨_, rfl, _, rfl, _, _, rfl, rfl, by omega, rfl, rfl⟩
    rintro σ' H' ⟨rfl, rfl⟩
    have a0 : 0 ≤ b.fmod (y - x + 1) := Int.fmod_nonneg_of_pos _ (by omega)
    have a1 : b.fmod (y - x + 1) < y - x + 1 := Int.fmod_lt_of_pos _ (by omega)
    have hby := fun j => roll_by (b := b) (j := j) hxy
    generalize b.fmod (y - x + 1) = A' at a0 a1 hby ⊢
    -- moved_block(k, x, y, [..])
    refine ⟨_, rfl, _, rfl, _, rfl, _, rfl, _, rfl, _, rfl, _, 1, rfl, rfl, _, rfl, _, _, rfl, rfl, sz (show 4 ≤ 100000 by decide), fun t1 n1 => ?_⟩
    have s1 := same_upd (o := .tup [.int x, .int A', .int (y + 1 - A'), .int 1]) n1
    have e1 : (upd H' t1 (.tup [.int x, .int A', .int (y + 1 - A'), .int 1])) t1 = some (.tup (pcV ⟨x, A', y + 1 - A', 1⟩)) := upd_same
    generalize upd H' t1 (.tup [.int x, .int A', .int (y + 1 - A'), .int 1]) = H1 at s1 e1 ⊢
    refine ⟨_, rfl, _, rfl, _, _, rfl, rfl, _, rfl, _, rfl, _, _, rfl, rfl, _, rfl, sz (show 4 ≤ 100000 by decide), fun t2 n2 => ⟨sz (show 2 ≤ 100000 by decide), fun l nl => ?_⟩⟩
    have s2 := same_upd (o := .tup [.int (x + A'), .int (y - x + 1 - A'), .int x, .int 1]) n2
    have e2 : (upd H1 t2 (.tup [.int (x + A'), .int (y - x + 1 - A'), .int x, .int 1])) t2 = some (.tup (pcV ⟨x + A', y - x + 1 - A', x, 1⟩)) := upd_same
    generalize upd H1 t2 (.tup [.int (x + A'), .int (y - x + 1 - A'), .int x, .int 1]) = H2 at s2 e2 nl ⊢
    have s4 := same_upd (o := .lst [.ref t1, .ref t2]) nl
    have e4 : (upd H2 l (.lst [.ref t1, .ref t2])) l = some (.lst ([t1, t2].map V.ref)) := upd_same
    obtain ⟨w1, w2⟩ := roll_ok (k := k) (show 0 ≤ x by omega) hxy (show y < k by omega) a0 a1
    obtain ⟨f1, f2, f3⟩ := full_ok (k := k) (x := x) (y := y) (ps := [(⟨x, A', y + 1 - A', 1⟩ : Pc), ⟨x + A', y - x + 1 - A', x, 1⟩]) w1 (show 2 ≤ 8 by decide)
    refine ⟨k, x, y, l, [t1, t2], [(⟨x, A', y + 1 - A', 1⟩ : Pc), ⟨x + A', y - x + 1 - A', x, 1⟩], rfl, e4, ⟨s4 _ _ (s2 _ _ e1), s4 _ _ e2, trivial⟩, (show 2 ≤ 10 by decide), fun p H' hR s5 => ?_⟩
    have hv : ∀ j, 0 ≤ j → j < k → valP (oneF (fullP k x y [(⟨x, A', y + 1 - A', 1⟩ : Pc), ⟨x + A', y - x + 1 - A', x, 1⟩])) j = roG k x y b j := fun j j0 j1 => by
      have e : roG k x y b j = rollM x y b j := if_pos (by omega)
      rw [f3 j j0 j1, w2 j j0 j1, hby j, e]
    have hch := (filt_ok w1).1
    exact q p H' _ hR (rea_of f1 hv (fun j j0 j1 => roG_in j0 j1) fun i j _ _ _ _ e => roG_inj e) (oneF_nf hch) (Nat.le_trans full_len (by show 2 + 2 ≤ 5; decide)) hv ((s1.trans s2).trans (s4.trans s5))
end

/-! ### what a move, a word does with k places -/
/-- the place from which place j gets its thing -/
def srcM (m : Mv) (k j : Int) : Int := match m with
  | .turn => k - 1 - j
  | .exch x y => exG k (plV x k) (plV y k) j
  | .roll x y c => roG k (plV x k) (plV y k) (amV c (plV y k - plV x k + 1)) j
theorem srcM_in {m : Mv} {k j : Int} (j0 : 0 ≤ j) (j1 : j < k) : 0 ≤ srcM m k j ∧ srcM m k j < k := by
  cases m with
  | turn =>
    show 0 ≤ k - 1 - j ∧ k - 1 - j < k
    omega
  | exch x y => exact exG_in j0 j1
  | roll x y c => exact roG_in j0 j1
/-- the last move first -/
def fromM (ms : List Mv) (k j : Int) : Int := ms.reverse.foldl (fun p m => srcM m k p) j
theorem fromM_snoc (ms : List Mv) (m : Mv) (k j : Int) : fromM (ms ++ [m]) k j = fromM ms k (srcM m k j) := by
  unfold fromM
  rw [List.reverse_append]
  rfl
theorem fromM_app (ms ns : List Mv) (k j : Int) : fromM (ms ++ ns) k j = fromM ms k (fromM ns k j) := by
  unfold fromM
  rw [List.reverse_append, List.foldl_append]
theorem fromM_in : ∀ (ms : List Mv) {k j : Int}, 0 ≤ j → j < k → 0 ≤ fromM ms k j ∧ fromM ms k j < k := fun ms => by
  have go : ∀ (l : List Mv) {k j : Int}, 0 ≤ j → j < k → 0 ≤ l.foldl (fun p m => srcM m k p) j ∧ l.foldl (fun p m => srcM m k p) j < k := fun l => by
    induction l with
    | nil => exact fun a b => ⟨a, b⟩
    | cons m r ih =>
      intro k j a b
      obtain ⟨c, d⟩ := srcM_in (m := m) a b
      exact ih c d
  exact fun {k j} a b => go ms.reverse a b
theorem turn_ok {k : Int} (h : 1 ≤ k) : Chain 0 k [(⟨0, k, k - 1, -1⟩ : Pc)] ∧ ∀ j, 0 ≤ j → j < k → valP [(⟨0, k, k - 1, -1⟩ : Pc)] j = k - 1 - j := by
  refine ⟨⟨rfl, h, .inr rfl, by show 0 + k = k; omega⟩, fun j j0 j1 => ?_⟩
  rw [val_head (r := []) (by show j < 0 + k; omega)]
  show k - 1 + -1 * (j - 0) = _
  omega
theorem parts_get {m : Mv} {i : Nat} {z : Str} (h : m.parts[i]? = some z) : atI (strsV m.parts) (i : Int) = some (.str z) := strs_get h
section
variable {P : Program} {w : World} {K : PySem.W.Frag} {mg : Str → Option Value} {base : Heap} {a : Ad}
def spMoveRuns (C CS : Addr) : Sp := fun vs H Q _ => ∃ (t : Addr) (m : Mv) (k : Int), vs = [.ref t, .int k] ∧ H t = some (.tup (strsV m.parts)) ∧ m.ok ∧ 1 ≤ k ∧ k ≤ 10 ^ 30 ∧
  ∀ p H' ps, RunsAt C H' p k ps → Rea k ps → NFl ps → ps.length ≤ 5 → (∀ j, 0 ≤ j → j < k → valP ps j = srcM m k j) → Same H H' → Q (.ref p) H'
theorem ok_move_runs (T : Tx w K mg a) : FnOk P w K mg base (L2.CX P w) 7 a.f_move_runs a.d_move_runs ["move", "k"] (spMoveRuns a.C_Runs a.C_BadSize) := by
  refine T.F_move_runs.okX sc_move_runs (fun vs H Q E h => ?_) (fun cdv A outer s H vs Q E hr h => ?_)
  · obtain ⟨t, m, k, rfl, _⟩ := h
    rfl
  · obtain ⟨t, m, k, rfl, ht, hm, k1, k2, q⟩ := h
    refine ⟨_, 
(pss_cons (ps_if (pt_cmpR op_eq (pe_ix ix_tup (pv 0) pe_int (fun _ _ => rfl)) pe_str (nomark _))
  (pss_one (ps_ret (pe_make T.mk_Runs (ok_Runs_init T) (hr.mono (by decide)) (by rfl) T.c_Runs T.b_Runs_init .nil pass0 (pa_cons (pv 1) (pa_cons (pe_lst (pa_cons (pe_tup (pa_cons pe_int (pa_cons (pv 1) (pa_cons (pe_op op_sub (pv 1) pe_int) (pa_cons (pe_un un_neg pe_int) pa_nil))))) pa_nil)) pa_nil)))))
  pss_nil)
  (pss_cons (ps_set (i := 2) sc_move_runs.nd rfl (.inl rfl) (pe_call (ok_place_of T) (hr.mono (by decide)) (by rfl) T.m_place_of T.F_place_of.kp T.b_place_of .nil pass0 (pa_cons (pe_ix ix_tup (pv 0) pe_int (fun _ _ => rfl)) (pa_cons (pv 1) pa_nil))))
  (pss_cons (ps_set (i := 3) sc_move_runs.nd rfl (.inl rfl) (pe_call (ok_place_of T) (hr.mono (by decide)) (by rfl) T.m_place_of T.F_place_of.kp T.b_place_of .nil pass0 (pa_cons (pe_ix ix_tup (pv 0) pe_int (fun _ _ => rfl)) (pa_cons (pv 1) pa_nil))))
  (pss_cons (ps_if (pt_cmpR op_eq (pe_ix ix_tup (pv 0) pe_int (fun _ _ => rfl)) pe_str (nomark _))
  (pss_one (ps_ret (pe_callS (ok_exchange_runs T) hr (by rfl) T.m_exchange_runs T.F_exchange_runs.kp T.b_exchange_runs (fun σ => passAt (takes_of rfl rfl rfl rfl) σ) (pa_cons (pv 1) (pa_cons (pv 2) (pa_cons (pv 3) pa_nil))))))
  pss_nil)
  (pss_one (ps_ret (pe_callS (ok_roll_runs T) hr (by rfl) T.m_roll_runs T.F_roll_runs.kp T.b_roll_runs (fun σ => passAt (takes_of rfl rfl rfl rfl) σ) (pa_cons (pv 1) (pa_cons (pv 2) (pa_cons (pv 3) (pa_cons (pe_ifExp (pt_cmpR op_eq (pe_ix ix_tup (pv 0) pe_int (fun _ _ => rfl)) pe_str (nomark _)) pe_non (pe_callTy call_int_str (by rfl) T.z_int (by decide +kernel) (pa_cons (pe_ix ix_tup (pv 0) pe_int (fun _ _ => rfl)) pa_nil))) pa_nil))))))))))), ?_⟩
    have g : ∀ {i : Nat} {z : Str}, m.parts[i]? = some z → atI (strsV m.parts) (i : Int) = some (.str z) := fun h => strs_get h
    cases m with
    | turn =>
      refine ⟨_, rfl, t, _, 0, _, rfl, rfl, SqT.at ht, g (i := 0) rfl, rfl, _, rfl, ?_⟩
      rw [decide_eq_true rfl]
      refine iteT ⟨_, rfl, _, rfl, _, rfl, _, 1, rfl, rfl, 1, rfl, sz (show 4 ≤ 100000 by decide), fun nt nnt => ⟨sz (show 1 ≤ 100000 by decide), fun L nL => ?_⟩⟩
      have s1 := same_upd (o := .tup [.int 0, .int k, .int (k - 1), .int (-1)]) nnt
      have e1 : (upd H nt (.tup [.int 0, .int k, .int (k - 1), .int (-1)])) nt = some (.tup (pcV ⟨0, k, k - 1, -1⟩)) := upd_same
      have s2 := s1.trans (same_upd (o := .lst [.ref nt]) nL)
      have e2 := (same_upd (o := .lst [.ref nt]) nL) _ _ e1
      have eL : (upd (upd H nt (.tup [.int 0, .int k, .int (k - 1), .int (-1)])) L (.lst [.ref nt])) L = some (.lst ([nt].map V.ref)) := upd_same
      generalize upd (upd H nt (.tup [.int 0, .int k, .int (k - 1), .int (-1)])) L (.lst [.ref nt]) = H2 at s2 e2 eL ⊢
      refine fun p dx hp hdx ne => ?_
      obtain ⟨s5, ep⟩ := madeR (C := a.C_Runs) hp hdx ne
      generalize upd (upd H2 dx (.own p)) p (.ins a.C_Runs dx []) = H5 at s5 ep ⊢
      obtain ⟨c1, c2⟩ := turn_ok k1
      obtain ⟨o1, o2, o3⟩ := (rea_of c1 c2 (fun j a b => by omega) fun i j _ _ _ _ e => by omega).one
      exact ⟨p, dx, L, k, [nt], [⟨0, k, k - 1, -1⟩], rfl, ep, s5 _ _ eL, ⟨s5 _ _ e2, trivial⟩, (show 1 ≤ 1000 by decide), fun H6 hR hk => ⟨rfl, q p H6 _ hR o1 o2 (Nat.le_trans (fold_le1000 (Nat.le_refl 1)) (by decide)) (fun j j0 j1 => (o3 j j0 j1).trans (c2 j j0 j1)) (s2.trans fun b o e => hk b o (s5 b o e) (ne_of_none e hp))⟩⟩
    | exch x y =>
      obtain ⟨hx, hy⟩ := hm
      refine ⟨_, rfl, t, _, 0, _, rfl, rfl, SqT.at ht, g (i := 0) rfl, rfl, _, rfl, ?_⟩
      rw [decide_eq_false (show ¬ V.str "exchange" = V.str "turn" from fun z => absurd (V.str.inj z) (by decide +kernel))]
      refine iteF ⟨_, rfl, t, _, 1, _, rfl, rfl, SqT.at ht, g (i := 1) rfl, _, rfl, x, k, rfl, hx, ?_⟩
      refine ⟨_, rfl, t, _, 2, _, rfl, rfl, SqT.at ht, g (i := 2) rfl, _, rfl, y, k, rfl, hy, ?_⟩
      refine ⟨_, rfl, t, _, 0, _, rfl, rfl, SqT.at ht, g (i := 0) rfl, rfl, _, rfl, ?_⟩
      rw [decide_eq_true rfl]
      exact iteT ⟨_, rfl, _, rfl, _, rfl, .int k, plV x k, plV y k, true, rfl, .int _, .inl ⟨k, rfl, k1, k2, q⟩⟩
    | roll x y c =>
      obtain ⟨hx, hy, hc⟩ := hm
      obtain ⟨ci, cl, _⟩ := am_chk hc
      refine ⟨_, rfl, t, _, 0, _, rfl, rfl, SqT.at ht, g (i := 0) rfl, rfl, _, rfl, ?_⟩
      rw [decide_eq_false (show ¬ V.str "roll" = V.str "turn" from fun z => absurd (V.str.inj z) (by decide +kernel))]
      refine iteF ⟨_, rfl, t, _, 1, _, rfl, rfl, SqT.at ht, g (i := 1) rfl, _, rfl, x, k, rfl, hx, ?_⟩
      refine ⟨_, rfl, t, _, 2, _, rfl, rfl, SqT.at ht, g (i := 2) rfl, _, rfl, y, k, rfl, hy, ?_⟩
      refine ⟨_, rfl, t, _, 0, _, rfl, rfl, SqT.at ht, g (i := 0) rfl, rfl, _, rfl, ?_⟩
      rw [decide_eq_false (show ¬ V.str "roll" = V.str "exchange" from fun z => absurd (V.str.inj z) (by decide +kernel))]
      refine iteF ⟨_, rfl, _, rfl, _, rfl, _, rfl, t, _, 3, _, rfl, rfl, SqT.at ht, g (i := 3) rfl, rfl, _, rfl, ?_⟩
      by_cases h : c = "half"
      · rw [decide_eq_true (show V.str c = V.str "half" by rw [h])]
        refine iteT ⟨.int k, .non, plV x k, plV y k, _, true, rfl, .int _, .inl ⟨rfl, rfl⟩, .inl ⟨k, rfl, k1, k2, fun p H' ps h1 h2 h3 h4 h5 => q p H' ps h1 h2 h3 h4 fun j j0 j1 => ?_⟩⟩
        rw [h5 j j0 j1]
        show _ = roG k (plV x k) (plV y k) (amV c _) j
        unfold amV
        rw [if_pos h]
      · rw [decide_eq_false (show ¬ V.str c = V.str "half" from fun z => h (V.str.inj z))]
        cases hn : PySem.intText? c with
        | none =>
          rcases ci with e | e
          · exact absurd e h
          · rw [hn] at e
            cases e
        | some n =>
          refine iteF ⟨_, rfl, t, _, 3, _, rfl, rfl, SqT.at ht, g (i := 3) rfl, _, n, rfl, hn, by omega, ?_⟩
          refine ⟨.int k, .int n, plV x k, plV y k, n, true, rfl, .int _, .inr rfl, .inl ⟨k, rfl, k1, k2, fun p H' ps h1 h2 h3 h4 h5 => q p H' ps h1 h2 h3 h4 fun j j0 j1 => ?_⟩⟩
          rw [h5 j j0 j1]
          show _ = roG k (plV x k) (plV y k) (amV c _) j
          unfold amV
          rw [if_neg h, hn]
          rfl
end

/-! ### what a call comes to: None, or the error's tuple -/
def spMetN (P : Program) (w : World) (K : PySem.W.Frag) (mg : Str → Option Value) (base : Heap) (k : Nat) (rs : List (Addr × Str × Str)) : Sp := fun vs H Q _ => ∃ (f : Addr) (sp : Hp → VK → XK → Prop), vs = [.ref f] ∧ Thk P w K mg base k H f sp ∧
  ∀ (Q' : VK) (E' : XK), (∀ v H', Q .non H' → Q' v H') → (∀ cls d H', MetX rs Q cls d H' → E' cls d H') → sp H Q' E'
/-- asked of a lambda that is made on the spot -/
theorem metN_live {X : Cx} {σ : L2.St} {H1 : Hp} {h : Heap} {k kk : Nat} {t : XK → TE} {f : Addr} {rs : List (Addr × Str × Str)} {Q : VK} {E : XK} (hh : HeldAt X σ H1 h) (l : LamAt X k H1 f t) (hk : k + 1 ≤ kk)
    (q : ∀ (H0 : Hp) (told : VK) (err : XK), Same H1 H0 → (∀ b, H0 b = none → H1 b = none) →
      (∀ v H', Same H0 H' → (∀ Hf, Same H1 Hf → Q .non Hf) → told v H') →
      (∀ C tag fld dd v H', (C, tag, fld) ∈ rs → Same H0 H' → H' dd = some (.xd [(fld, v)]) → (∀ p Hf, Same H1 Hf → Hf p = some (.tup [.str tag, v, .bl true]) → Q (.ref p) Hf) → err (.ref C) (some dd) H') →
      t err σ H0 told) :
    spMetN X.prog X.w X.K X.mg X.base kk rs [.ref f] (heldH (csOf X.env.cells) h H1) (HeldQ X Q) E := by
  obtain ⟨sp, th, run⟩ := l.thk hh
  refine ⟨f, sp, rfl, th.mono hk, fun Q' E' hQ hE => run Q' E' fun H0 R s1 fr hR => ?_⟩
  have fin : ∀ {H' G : Hp} {p : Addr} {o : HO}, Same H0 H' → Back (csOf X.env.cells) H' G → G p = none → (∀ ob, o ≠ celF ob) →
      Same H1 (freedH (csOf X.env.cells) (upd G p o)) ∧ freedH (csOf X.env.cells) (upd G p o) p = some o := fun {H' G p o} s' bk np ne => by
    obtain ⟨n, e⟩ := freed_made (o := o) bk np
    rw [e]
    have up : ∀ b u, b ∉ csOf X.env.cells → H' b = some u → upd (freedH (csOf X.env.cells) H') p o b = some u := fun b u nb hb => by
      have nbp : b ≠ p := fun z => by
        rw [← z, bk.ne b nb, hb] at np
        cases np
      rw [upd_ne nbp, freedH_ne nb]
      exact hb
    refine ⟨fun b u hb => up b u (fun z => ?_) (s' b u (s1 b u hb)), upd_same⟩
    rw [hh.off b z] at hb
    cases hb
  refine q H0 (fun v H' => R (Q' v) H') (fun cls d H' => R (E' cls d) H') s1 fr (fun v H' s' qq => hR _ _ fun G bk => hQ v G fun _ => qq _ fun b o e => ?_) (fun C tag fld dd v H' hm s' hd qq => hR _ _ fun G bk => hE _ _ _ ?_)
  · have nb : b ∉ csOf X.env.cells := fun z => by
      rw [hh.off b z] at e
      cases e
    rw [freedH_ne nb, bk.ne b nb]
    exact s' b o (s1 b o e)
  · refine ⟨C, tag, fld, dd, v, hm, rfl, rfl, ?_, fun p np _ => ?_⟩
    · rw [bk.ne dd (bk.off dd _ hd fun ob z => by cases z)]
      exact hd
    · obtain ⟨a1, a3⟩ := fin (o := .tup [.str tag, v, .bl true]) s' bk np (fun ob z => by cases z)
      exact qq p _ a1 a3

/-! ### what stands of a level behind draws, lambdas and calls -/
def K3 (H H' : Hp) : Prop := ∀ b o, H b = some o → (∃ xs, o = .lst xs ∨ o = .tup xs) ∨ (∃ C dx fs, o = .ins C dx fs) → H' b = some o
theorem K3.refl {H : Hp} : K3 H H := fun _ _ e _ => e
theorem K3.trans {H H1 H2 : Hp} (x : K3 H H1) (y : K3 H1 H2) : K3 H H2 := fun b o e h => y b o (x b o e h) h
theorem k3_same {H H' : Hp} (s : Same H H') : K3 H H' := fun b o e _ => s b o e
theorem k3_but {d c : Addr} {n : Nat} {H H' : Hp} (p : Pen H d c n) (s : But d H H') : K3 H H' := fun b o e h => by
  obtain ⟨_, hd⟩ := p.dict
  exact s b o e (ne_of e hd (by rcases h with ⟨xs, rfl | rfl⟩ | ⟨_, _, _, rfl⟩ <;> intro z <;> cases z))
theorem k3_ext {H H' : Hp} (s : LamX.ExtN H H') : K3 H H' := fun b o e h => s b o e fun ps z => by rcases h with ⟨xs, rfl | rfl⟩ | ⟨_, _, _, rfl⟩ <;> cases z
theorem K3.lst {H H' : Hp} (k : K3 H H') {b : Addr} {xs : List V} (e : H b = some (.lst xs)) : H' b = some (.lst xs) := k _ _ e (.inl ⟨_, .inl rfl⟩)
theorem K3.tup {H H' : Hp} (k : K3 H H') {b : Addr} {xs : List V} (e : H b = some (.tup xs)) : H' b = some (.tup xs) := k _ _ e (.inl ⟨_, .inr rfl⟩)
theorem K3.ins {H H' : Hp} (k : K3 H H') {b C dx : Addr} {fs : List (Str × V)} (e : H b = some (.ins C dx fs)) : H' b = some (.ins C dx fs) := k _ _ e (.inr ⟨_, _, _, rfl⟩)
theorem Held.k3 {H H' : Hp} (e : K3 H H') : ∀ {rs : List Addr} {ms : List Mv}, Held H rs ms → Held H' rs ms
  | [], [], _ => trivial
  | _ :: _, _ :: _, h => ⟨e.tup h.1, Held.k3 e h.2⟩
theorem WordAt.k3 {C : Addr} {H H' : Hp} {p : Addr} {ms : List Mv} (h : WordAt C H p ms) (e : K3 H H') : WordAt C H' p ms := by
  obtain ⟨dx, t, rs, h1, h2, h3⟩ := h
  exact ⟨dx, t, rs, e.ins h1, e.tup h2, h3.k3 e⟩
theorem RunsAt.k3 {C : Addr} {H H' : Hp} {p : Addr} {n : Int} {ps : List Pc} (h : RunsAt C H p n ps) (e : K3 H H') : RunsAt C H' p n ps := h.mono fun x o ex z => e x o ex z

section
variable {P : Program} {w : World} {K : PySem.W.Frag} {mg : Str → Option Value} {base : Heap} {a : Ad}
def rsN (a : Ad) : List (Addr × Str × Str) := [(a.C_BadSize, "size", "size"), (a.C_BadPlace, "place", "place"), (a.C_BadRow, "row", "index")]
theorem ok__law_refused (T : Tx w K mg a) : FnOk P w K mg base CX0 10 a.f__law_refused a.d__law_refused ["call"] (spMetN P w K mg base 9 (rsN a)) := by
  refine T.F__law_refused.ok sc__law_refused (fun vs H Q E h => ?_) (fun cdv A outer s H vs Q E hr h => ?_)
  · obtain ⟨f, sp, rfl, _⟩ := h
    rfl
  · obtain ⟨f, sp, rfl, hT, hsp⟩ := h
    refine ⟨_, 
(pss_cons (ps_try_manyAs rfl rfl sc__law_refused.nd takes0 (fun W pn xe tk po => (pss_one (ps_expr (show PE _ _ (rThk P w K mg base _ 0 W) from pe_thk (i := 0) rfl (.inl rfl) hr tk))))
  (.cons (i := 1) rfl rfl ⟨rfl, by decide, .inl T.c_BadSize⟩ (fun x oe cls d pn hz hf => (pss_one (ps_ret (pe_tup (pa_cons pe_str (pa_cons (pe_xf T.ox_BadSize.x T.ox_BadSize.no hz hf (pv 1)) (pa_cons (pe_callB (call_isD T.ox_BadSize.i hz hf) (by rfl) T.z_isinstance (by decide +kernel) (pa_cons (pv 1) (pa_cons (pe_glob (v := .ref a.C_EveryError) (by rfl) T.c_EveryError rfl) pa_nil))) pa_nil)))))))
  (.cons (i := 1) rfl rfl ⟨rfl, by decide, .inl T.c_BadPlace⟩ (fun x oe cls d pn hz hf => (pss_one (ps_ret (pe_tup (pa_cons pe_str (pa_cons (pe_xf T.ox_BadPlace.x T.ox_BadPlace.no hz hf (pv 1)) (pa_cons (pe_callB (call_isD T.ox_BadPlace.i hz hf) (by rfl) T.z_isinstance (by decide +kernel) (pa_cons (pv 1) (pa_cons (pe_glob (v := .ref a.C_EveryError) (by rfl) T.c_EveryError rfl) pa_nil))) pa_nil)))))))
  (.cons (i := 1) rfl rfl ⟨rfl, by decide, .inl T.c_BadRow⟩ (fun x oe cls d pn hz hf => (pss_one (ps_ret (pe_tup (pa_cons pe_str (pa_cons (pe_xf T.ox_BadRow.x T.ox_BadRow.no hz hf (pv 1)) (pa_cons (pe_callB (call_isD T.ox_BadRow.i hz hf) (by rfl) T.z_isinstance (by decide +kernel) (pa_cons (pv 1) (pa_cons (pe_glob (v := .ref a.C_EveryError) (by rfl) T.c_EveryError rfl) pa_nil))) pa_nil)))))))
  .nil))))
  (pss_one (ps_ret pe_non))), ?_⟩
    refine ⟨f, sp, rfl, hT, hsp _ _ (fun v H' q => ?_) (fun cls d H' hx => ?_)⟩
    · exact q
    · obtain ⟨C, tag, fld, dd, v, hm, rfl, rfl, hd, q⟩ := hx
      have hm : (C, tag, fld) = (a.C_BadSize, Str.ofString "size", Str.ofString "size") ∨ (C, tag, fld) = (a.C_BadPlace, Str.ofString "place", Str.ofString "place") ∨ (C, tag, fld) = (a.C_BadRow, Str.ofString "row", Str.ofString "index") := by simpa [rsN] using hm
      rcases hm with e | e | e
      · cases e
        refine ⟨true, T.em_BadSize_BadSize, fun _ x hx => ?_, fun q => Bool.noConfusion q⟩
        refine ⟨.ref x, rfl, rfl, rfl, dd, _, _, rfl, hd, rfl, .ref x, rfl, dd, _, .ref a.C_EveryError, .ref a.C_EveryError, true, rfl, rfl, hd, rfl, fun u r => r, T.kt_BadSize_EveryError, ?_⟩
        exact ⟨sz (show 3 ≤ 100000 by decide), fun o no => q o no⟩
      · cases e
        refine ⟨false, T.em_BadPlace_BadSize, fun q => Bool.noConfusion q, fun _ => ⟨true, T.em_BadPlace_BadPlace, fun _ x hx => ?_, fun q => Bool.noConfusion q⟩⟩
        refine ⟨.ref x, rfl, rfl, rfl, dd, _, _, rfl, hd, rfl, .ref x, rfl, dd, _, .ref a.C_EveryError, .ref a.C_EveryError, true, rfl, rfl, hd, rfl, fun u r => r, T.kt_BadPlace_EveryError, ?_⟩
        exact ⟨sz (show 3 ≤ 100000 by decide), fun o no => q o no⟩
      · cases e
        refine ⟨false, T.em_BadRow_BadSize, fun q => Bool.noConfusion q, fun _ => ⟨false, T.em_BadRow_BadPlace, fun q => Bool.noConfusion q, fun _ => ⟨true, T.em_BadRow_BadRow, fun _ x hx => ?_, fun q => Bool.noConfusion q⟩⟩⟩
        refine ⟨.ref x, rfl, rfl, rfl, dd, _, _, rfl, hd, rfl, .ref x, rfl, dd, _, .ref a.C_EveryError, .ref a.C_EveryError, true, rfl, rfl, hd, rfl, fun u r => r, T.kt_BadRow_EveryError, ?_⟩
        exact ⟨sz (show 3 ≤ 100000 by decide), fun o no => q o no⟩
end

section
variable {P : Program} {w : World} {K : PySem.W.Frag} {mg : Str → Option Value} {base : Heap} {a : Ad}
def spRunsEq (C : Addr) : Sp := fun vs H Q _ => ∃ (p : Addr) (n : Int) (ps : List Pc), RunsAt C H p n ps ∧ ((∃ (q : Addr) (m : Int) (qs : List Pc), vs = [.ref p, .ref q] ∧ RunsAt C H q m qs ∧ Q (.bl (decide (ps = qs))) H) ∨ (∃ (l : Addr) (xs : List V), vs = [.ref p, .ref l] ∧ H l = some (.lst xs) ∧ Q (.bl false) H))
theorem ok_Runs_eq (T : Tx w K mg a) : FnOk P w K mg base CX0 3 a.f_Runs_eq a.d_Runs_eq ["self", "other"] (spRunsEq a.C_Runs) := by
  refine T.F_Runs_eq.ok sc_Runs_eq (fun vs H Q E h => ?_) (fun cdv A outer s H vs Q E hr h => ?_)
  · obtain ⟨p, n, ps, _, ⟨q, m, qs, rfl, _⟩ | ⟨l, xs, rfl, _⟩⟩ := h <;> rfl
  · obtain ⟨p, n, ps, ⟨dx, fs, t, rs, p1, p2, p3, p4, p5, p6⟩, ⟨q, m, qs, rfl, ⟨dy, gs, u, rq, q1, q2, q3, q4, q5, q6⟩, k⟩ | ⟨l, xs, rfl, el, k⟩⟩ := h
    · refine ⟨_, 
(pss_one (ps_ret (pe_and (pe_callB call_isi (by rfl) T.z_isinstance (by decide +kernel) (pa_cons (pv 1) (pa_cons (pe_glob (v := .ref a.C_Runs) (by rfl) T.c_Runs rfl) pa_nil))) (pe_one (pe_cmpR (op_eqD hr.units) (pe_fld (pv 0) rfl) (pe_fld (pv 1) rfl) (nomark _)))))), ?_⟩
      refine ⟨.ref q, rfl, .ref q, .ref a.C_Runs, .ref a.C_Runs, .ref a.C_Runs, true, rfl, .own _, .base (.ins q1 T.cl_Runs T.ow_Runs.cls T.ow_Runs.get T.ow_Runs.tak T.ow_Runs.mro), ?_, ?_⟩
      · unfold PySem.W.kitOne
        rw [if_pos (by simp)]
      refine ⟨true, rfl, iteT ⟨.ref p, rfl, p, a.C_Runs, dx, _, _, rfl, p1, T.cl_Runs, T.n_Runs_rows, p3, .ref q, rfl, q, a.C_Runs, dy, _, _, rfl, q1, T.cl_Runs, T.n_Runs_rows, q3, ?_⟩⟩
      refine ⟨rsD ps, rsD qs, .tup (SqT.at p5) (dp_pcs p6), .tup (SqT.at q5) (dp_pcs q6), shaped_rs ps, shaped_rs qs, ?_⟩
      rw [eqv_rs]
      exact k
    · refine ⟨_, 
(pss_one (ps_ret (pe_and (pe_callB call_isi (by rfl) T.z_isinstance (by decide +kernel) (pa_cons (pv 1) (pa_cons (pe_glob (v := .ref a.C_Runs) (by rfl) T.c_Runs rfl) pa_nil))) (pe_one (pe_cmpR (op_eqD hr.units) (pe_fld (pv 0) rfl) (pe_fld (pv 1) rfl) (nomark _)))))), ?_⟩
      exact ⟨.ref l, rfl, .ref l, .ref a.C_Runs, .type "list", .ref a.C_Runs, false, rfl, .own _, .base (.lst el), T.ow2_Runs.ktl, ⟨false, rfl, iteF k⟩⟩
theorem eq_rn {K : PySem.W.Frag} {C : Addr} {H : Hp} {p q : Addr} {n m : Int} {ps qs : List Pc} {Q : VK} (h1 : RunsAt C H p n ps) (h2 : RunsAt C H q m qs) (k : Q (.bl (decide (ps = qs))) H) : rEqOwn2 K C (spRunsEq C) (.ref p) (.ref q) H Q := by
  obtain ⟨dx, fs, _, _, p1, _⟩ := id h1
  obtain ⟨dy, gs, _, _, q1, _⟩ := id h2
  refine ⟨p, dx, fs, .ref C, rfl, p1, .ins q1, ?_, p, n, ps, h1, .inl ⟨q, m, qs, rfl, h2, ⟨_, rfl⟩, k⟩⟩
  unfold PySem.W.notFirst
  simp
theorem ne_rn {K : PySem.W.Frag} {C : Addr} {H : Hp} {p q : Addr} {n m : Int} {ps qs : List Pc} {Q : VK} (h1 : RunsAt C H p n ps) (h2 : RunsAt C H q m qs) (k : Q (.bl (!decide (ps = qs))) H) : rNeOwn2 K C (spRunsEq C) (.ref p) (.ref q) H Q := by
  obtain ⟨dx, fs, _, _, p1, _⟩ := id h1
  obtain ⟨dy, gs, _, _, q1, _⟩ := id h2
  refine ⟨p, dx, fs, .ref C, rfl, p1, .ins q1, ?_, p, n, ps, h1, .inl ⟨q, m, qs, rfl, h2, _, rfl, k⟩⟩
  unfold PySem.W.notFirst
  simp
theorem eq_rl {K : PySem.W.Frag} {C : Addr} {H : Hp} {p l : Addr} {n : Int} {ps : List Pc} {xs : List V} {Q : VK} (hn : PySem.W.notFirst K C (.type "list") = true) (h1 : RunsAt C H p n ps) (h2 : H l = some (.lst xs)) (k : Q (.bl false) H) : rEqOwn2 K C (spRunsEq C) (.ref p) (.ref l) H Q := by
  obtain ⟨dx, fs, _, _, p1, _⟩ := id h1
  exact ⟨p, dx, fs, .type "list", rfl, p1, .lst h2, hn, p, n, ps, h1, .inr ⟨l, xs, rfl, h2, ⟨_, rfl⟩, k⟩⟩
end

section
variable {P : Program} {w : World} {K : PySem.W.Frag} {mg : Str → Option Value} {base : Heap} {a : Ad}
def spRunsOf (C CW CS : Addr) : Sp := fun vs H Q E => ∃ (p : Addr) (ms : List Mv) (y : V) (ib : Bool), vs = [.ref p, y] ∧ WordAt CW H p ms ∧ (∀ m ∈ ms, m.ok) ∧ ms.length ≤ 100 ∧ IsI H y ib ∧
  ((∃ k : Int, y = .int k ∧ 1 ≤ k ∧ k ≤ 10 ^ 30 ∧ ∀ q H' ps, RunsAt C H' q k ps → Rea k ps → NFl ps → ps.length ≤ 1 + 5 * ms.length → (∀ j, 0 ≤ j → j < k → valP ps j = fromM ms k j) → Same H H' → Q (.ref q) H') ∨ (btM 1 (10 ^ 30) y = false ∧ ∀ H' d, Same H H' → H' d = some (.xd [("size", y)]) → E (.ref CS) (some d) H'))
theorem ok_runs_of (T : Tx w K mg a) : FnOk P w K mg base (L2.CX P w) 8 a.f_runs_of a.d_runs_of ["word", "k"] (spRunsOf a.C_Runs a.C_Word a.C_BadSize) := by
  refine T.F_runs_of.okX sc_runs_of (fun vs H Q E h => ?_) (fun cdv A outer s H vs Q E hr h => ?_)
  · obtain ⟨p, ms, y, ib, rfl, _⟩ := h
    rfl
  · obtain ⟨p, ms, y, ib, rfl, ⟨dx, t, rs, hp, ht, held⟩, hok, ml, hI, h⟩ := h
    refine ⟨_, 
(pss_cons (ps_set (i := 2) sc_runs_of.nd rfl (.inl rfl) (pe_callS (ok_nothing_runs T) (hr.mono (by decide)) (by rfl) T.m_nothing_runs T.F_nothing_runs.kp T.b_nothing_runs (fun σ => passAt (takes_of rfl rfl rfl rfl) σ) (pa_cons (pv 1) pa_nil)))
  (pss_cons (ps_for PassesOwn.leaving rfl (pi_tup (pe_fld (pv 0) rfl)) (pg_name (i := 3) sc_runs_of.nd rfl (.inl rfl))
  (pss_one (ps_set (i := 2) sc_runs_of.nd rfl (.inl rfl) (pe_mulS T.mu_Runs (ok_Runs_mul T) (hr.mono (by decide)) T.b_Runs_mul (takes_of rfl rfl rfl rfl) (pv 2) (pe_callS (ok_move_runs T) hr (by rfl) T.m_move_runs T.F_move_runs.kp T.b_move_runs (fun σ => passAt (takes_of rfl rfl rfl rfl) σ) (pa_cons (pv 3) (pa_cons (pv 1) pa_nil)))))))
  (pss_one (ps_ret (pv 2))))), ?_⟩
    rcases h with ⟨k, rfl, k1, k2, q⟩ | ⟨hb, hE⟩
    rotate_left
    · exact ⟨_, rfl, y, ib, rfl, hI, .inr ⟨hb, hE⟩⟩
    obtain ⟨i1, i2, i3, i4⟩ := id_rea k1
    -- runs = nothing_runs(k)
    refine ⟨_, rfl, .int k, true, rfl, .int _, .inl ⟨k, rfl, k1, k2, fun r H1 hR1 s1 => ?_⟩⟩
    -- for move in word.moves
    refine ⟨.ref p, rfl, p, a.C_Word, dx, _, _, rfl, s1 _ _ hp, T.cl_Word, T.n_Word_moves, flW_moves ms t, t, rfl, ⟨_, SqT.at (s1 _ _ ht)⟩, ?_⟩
    have hrl : (rs.map V.ref).length = ms.length := by rw [List.length_map, held.len]
    refine for_it (walk_tup (xs := rs.map V.ref)) (fun i σ H3 => ∃ (r : Addr) (y3 : Option V) (ps : List Pc), σ = [some (.ref p), some (.int k), some (.ref r), y3] ∧ Same H H3 ∧ RunsAt a.C_Runs H3 r k ps ∧ Rea k ps ∧ NFl ps ∧ ps.length ≤ 1 + 5 * i ∧ ∀ j, 0 ≤ j → j < k → valP ps j = fromM (ms.take i) k j) ?h0 ?hG ?hs ?hd
    case h0 => exact ⟨r, none, idP k, rfl, s1, hR1, i1, i2, by omega, fun j j0 j1 => i4 j j0 j1⟩
    case hG =>
      rintro i σ H3 _ ⟨_, _, _, _, sm, _⟩
      exact SqT.at (sm _ _ ht)
    case hs =>
      rintro i v σ H3 H4 hi ⟨r, y3, ps, rfl, sm, hR, reR, nfR, ln, hv⟩ ⟨rfl, ev⟩
      rw [hrl] at hi
      obtain ⟨tt, htt, ett⟩ := held.get (List.getElem?_eq_getElem hi)
      rw [List.getElem?_map, htt] at ev
      cases ev
      have hm := hok _ (List.getElem_mem hi)
      have tk : ms.take (i + 1) = ms.take i ++ [ms[i]] := by
        rw [List.take_succ, List.getElem?_eq_getElem hi]
        rfl
      generalize ms[i] = m at ett hm tk
      obtain ⟨dr, fr, _, _, r1, _⟩ := id hR
      refine ⟨_, rfl, _, rfl, _, rfl, tt, m, k, rfl, sm _ _ ett, hm, k1, k2, fun r2 H5 qs hR2 re2 nf2 ln2 hv2 s5 => ?_⟩
      obtain ⟨d2, f2, _, _, x2, _⟩ := id hR2
      refine ⟨r, dr, fr, r2, d2, f2, rfl, rfl, s5 _ _ r1, x2, r, r2, k, k, ps, qs, rfl, hR.same s5, hR2, .inl ⟨rfl, reR, re2, by omega, fun r3 H6 hs hR3 re3 nf3 ln3 hv3 s6 => ⟨⟨r3, rfl⟩, ?_⟩⟩⟩
      refine ⟨r3, _, hs, rfl, sm.trans (s5.trans s6), hR3, re3, nf3, by omega, fun j j0 j1 => ?_⟩
      obtain ⟨m0, m1⟩ := srcM_in (m := m) j0 j1
      rw [hv3 j j0 j1, hv2 j j0 j1, tk, fromM_snoc]
      exact hv _ m0 m1
    case hd =>
      rintro σ H3 ⟨r, y3, ps, rfl, sm, hR, reR, nfR, ln, hv⟩
      rw [hrl] at ln hv
      rw [List.take_length] at hv
      exact ⟨_, rfl, q r H3 ps hR reR nfR ln hv sm⟩
end

/-! ### the law's own one form of a list -/
/-- the piece p cannot go on at the place at -/
def StopAt (xs : List Int) (at' : Nat) (ps : List Pc) : Prop := ∀ p, ps.getLast? = some p → ∀ (h : at' < xs.length) (q : Pc), q.g = xs[at'] → cwF p q = 0
/-- so many members go on from the place at, in this way -/
structure Goes (xs : List Int) (at' : Nat) (v : Int) (m : Nat) : Prop where
  m1 : 1 ≤ m
  le : at' + m ≤ xs.length
  all : ∀ t, t < m → ∀ h : at' + t < xs.length, ∀ h0 : at' < xs.length, xs[at' + t] = xs[at'] + v * t
theorem goes_one {xs : List Int} {at' : Nat} {v : Int} (h : at' < xs.length) : Goes xs at' v 1 := ⟨Nat.le_refl _, h, fun t ht h1 h0 => by
  have : t = 0 := by omega
  subst this
  show xs[at'] = _ + v * ((0 : Nat) : Int)
  rw [show v * ((0 : Nat) : Int) = 0 by simp]
  omega⟩
/-- the piece that the law makes -/
def lawP (xs : List Int) (at' : Nat) (v : Int) (m : Nat) : Pc := ⟨at', m, xs.getD at' 0, if 1 < m then v else 1⟩
theorem lawP_ok {xs : List Int} {at' m : Nat} {v : Int} (g : Goes xs at' v m) (hv : v = 1 ∨ v = -1) (h0 : at' < xs.length) {ps : List Pc} (hc : Chain 0 at' ps) (hn : NFl ps) (hs : StopAt xs at' ps) (hval : ∀ (j : Nat) (h : j < xs.length), j < at' → valP ps (j : Int) = xs[j])
    (hend : ∀ h : at' + m < xs.length, xs[at' + m] ≠ xs[at'] + v * m) (hone : m = 1 → ∀ h : at' + 1 < xs.length, xs[at' + 1] ≠ xs[at'] - 1 ∧ xs[at' + 1] ≠ xs[at'] + 1) :
    Chain 0 (at' + m : Nat) (ps ++ [lawP xs at' v m]) ∧ NFl (ps ++ [lawP xs at' v m]) ∧ StopAt xs (at' + m) (ps ++ [lawP xs at' v m]) ∧ ∀ (j : Nat) (h : j < xs.length), j < at' + m → valP (ps ++ [lawP xs at' v m]) (j : Int) = xs[j] := by
  obtain ⟨m1, le, all⟩ := g
  have w1 : (lawP xs at' v m).w = 1 ∨ (lawP xs at' v m).w = -1 := by
    show (if 1 < m then v else 1) = 1 ∨ (if 1 < m then v else 1) = -1
    split
    · exact hv
    · exact .inl rfl
  have wv : 1 < m → (lawP xs at' v m).w = v := fun h => if_pos h
  have gv : (lawP xs at' v m).g = xs[at'] := getD_get h0
  have one : Chain (at' : Int) ((at' + m : Nat) : Int) [lawP xs at' v m] := ⟨rfl, by show (1 : Int) ≤ (m : Int); omega, w1, by show (at' : Int) + (m : Int) = _; omega⟩
  refine ⟨hc.append one, hn.snoc (fun h => ?_) (fun q hq => hs q hq h0 _ gv), fun p hp h q hq => ?_, fun j h hj => ?_⟩
  · have h : (m : Int) = 1 := h
    exact if_neg (by omega)
  · rw [List.getLast?_concat] at hp
    cases hp
    rcases cw_cases (lawP xs at' v m) q with e | ⟨e1, e2, e3, e4⟩
    · exact e
    · exfalso
      rw [gv, hq] at e4
      have e2 : (m : Int) = 1 ∨ (lawP xs at' v m).w = cwF (lawP xs at' v m) q := e2
      have e4 : xs[at' + m] = xs[at'] + cwF (lawP xs at' v m) q * (m : Int) := e4
      generalize cwF (lawP xs at' v m) q = c at e1 e2 e4
      by_cases hm : m = 1
      · subst hm
        obtain ⟨n1, n2⟩ := hone rfl h
        rcases e1 with rfl | rfl
        · exact n2 (by rw [e4]; simp)
        · exact n1 (by rw [e4]; simp; omega)
      · rcases e2 with e2 | e2
        · omega
        · rw [wv (by omega)] at e2
          rw [← e2] at e4
          exact hend h e4
  · by_cases c : j < at'
    · rw [val_left hc (by omega) (by omega)]
      exact hval j h c
    · rw [val_right hc (by omega), val_head (r := []) (by show (j : Int) < (at' : Int) + (m : Int); omega), gv]
      show xs[at'] + (if 1 < m then v else 1) * ((j : Int) - (at' : Int)) = xs[j]
      obtain ⟨t, rfl⟩ : ∃ t, j = at' + t := ⟨j - at', by omega⟩
      rw [all t (by omega) h h0, show ((at' + t : Nat) : Int) - (at' : Int) = (t : Int) by omega]
      by_cases hm : 1 < m
      · rw [if_pos hm]
      · have : t = 0 := by omega
        subst this
        simp
section
variable {P : Program} {w : World} {K : PySem.W.Frag} {mg : Str → Option Value} {base : Heap} {a : Ad}
def spLawForm (K : PySem.W.Frag) : Sp := fun vs H Q _ => ∃ (p : Addr) (xs : List Int), vs = [.ref p] ∧ SqL K H p (xs.map V.int) ∧ xs.length ≤ 1000 ∧
  ∀ o rs ps H', H o = none → H' o = some (.lst (rs.map V.ref)) → PcsH H' rs ps → Chain 0 xs.length ps → NFl ps → ValIs ps xs → Same H H' → Q (.ref o) H'
theorem ok__law_form (T : Tx w K mg a) : FnOk P w K mg base CX0 1 a.f__law_form a.d__law_form ["row"] (spLawForm K) := by
  refine T.F__law_form.ok sc__law_form (fun vs H Q E h => ?_) (fun cdv A outer s H vs Q E hr h => ?_)
  · obtain ⟨p, xs, rfl, _⟩ := h
    rfl
  · obtain ⟨p, xs, rfl, hS, hl, k⟩ := h
    refine ⟨_, 
(pss_cons (ps_par (i := 1) (j := 2) (by rfl) sc__law_form.nd rfl rfl (by decide) rfl rfl (pa_cons (pe_lst pa_nil) (pa_cons pe_int pa_nil)) (by rfl))
  (pss_cons (ps_for PassesOwn.never rfl (pi_range1 (by rfl) T.z_range (pa_cons (pe_callB call_len_seq (by rfl) T.z_len PySem.boot_len (pa_cons (pv 0) pa_nil)) pa_nil)) (pg_name (i := 3) sc__law_form.nd rfl (.inl rfl))
  (pss_one (ps_if (pt_cmpR op_lt (pv 2) (pe_callB call_len_seq (by rfl) T.z_len PySem.boot_len (pa_cons (pv 0) pa_nil)) (nomark _))
  (pss_cons (ps_asg (pe_tup (pa_cons pe_int (pa_cons pe_int pa_nil))) (pg_tup rfl (pgs_cons (pg_name (i := 4) sc__law_form.nd rfl (.inl rfl)) (pgs_cons (pg_name (i := 5) sc__law_form.nd rfl (.inl rfl)) pgs_nil))))
  (C8.pss_cut (ps_if (PW.pt (pw_and (pt_cmpR op_lt (pe_op op_add (pv 2) pe_int) (pe_callB call_len_seq (by rfl) T.z_len PySem.boot_len (pa_cons (pv 0) pa_nil)) (nomark _)) (pw_and1 (pt_cmpR op_eq (pe_ix ix_list (pv 0) (pe_op op_add (pv 2) pe_int) (fun _ _ => rfl)) (pe_op op_sub (pe_ix ix_list (pv 0) (pv 2) (fun _ _ => rfl)) pe_int) (nomark _)))))
  (pss_one (ps_set (i := 5) sc__law_form.nd rfl (.inl rfl) (pe_un un_neg pe_int)))
  pss_nil)
  (pss_cons (ps_for PassesOwn.never rfl (pi_range2 (by rfl) T.z_range (pa_cons (pe_op op_add (pv 2) pe_int) (pa_cons (pe_callB call_len_seq (by rfl) T.z_len PySem.boot_len (pa_cons (pv 0) pa_nil)) pa_nil))) (pg_name (i := 6) sc__law_form.nd rfl (.inl rfl))
  (pss_one (ps_if (PW.pt (pw_and (pt_cmpR op_eq (pv 6) (pe_op op_add (pv 2) (pv 4)) (nomark _)) (pw_and1 (pt_cmpR op_eq (pe_ix ix_list (pv 0) (pv 6) (fun _ _ => rfl)) (pe_op op_add (pe_ix ix_list (pv 0) (pv 2) (fun _ _ => rfl)) (pe_op op_mul (pv 5) (pv 4))) (nomark _)))))
  (pss_one (ps_set (i := 4) sc__law_form.nd rfl (.inl rfl) (pe_op op_add (pv 4) pe_int)))
  pss_nil)))
  (pss_cons (ps_expr (pe_bm PySem.F.plainAttrs_list PySem.F.slot_list_append PySem.F.type_list_append mt_append (pv 1) (pa_cons (pe_tup (pa_cons (pv 2) (pa_cons (pv 4) (pa_cons (pe_ix ix_list (pv 0) (pv 2) (fun _ _ => rfl)) (pa_cons (pe_ifExp (pt_cmpR op_gt (pv 4) pe_int (nomark _)) (pv 5) pe_int) pa_nil))))) pa_nil)))
  (pss_one (ps_set (i := 2) sc__law_form.nd rfl (.inl rfl) (pe_op op_add (pv 2) (pv 4))))))))
  pss_nil)))
  (pss_one (ps_ret (pv 1))))), ?_⟩
    refine ⟨sz (show 0 ≤ 100000 by decide), fun o no => ⟨.ref o, .int 0, rfl, ?_⟩⟩
    have s1 := same_upd (o := .lst []) no
    have eo : (upd H o (.lst [])) o = some (.lst []) := upd_same
    generalize upd H o (.lst []) = H1 at s1 eo ⊢
    refine ⟨.ref p, rfl, p, xs.map V.int, rfl, .inl (s1.seq hS), _, rfl, by omega, by rw [List.length_map]; omega, ?_⟩
    have rd : ∀ {H' : Hp}, Same H H' → ∀ {i : Nat} (h : i < xs.length) {Q' : VK}, Q' (.int xs[i]) H' → rIxL K (.ref p) (.int (i : Int)) H' Q' := fun {H'} sm {i} h {Q'} q => ⟨p, _, (i : Int), _, rfl, rfl, sm.seq hS, atI_nat (by rw [List.getElem?_map, List.getElem?_eq_getElem h]; rfl), q⟩
    -- for turn in range(len(row))
    refine for_range (lo := 0) (n := (xs.map V.int).length) (fun i σ H' => ∃ (at' : Nat) (y3 y4 y5 y6 : Option V) (rs : List Addr) (ps : List Pc), σ = [some (.ref p), some (.ref o), some (.int (at' : Int)), y3, y4, y5, y6] ∧ Same H H' ∧ H' o = some (.lst (rs.map V.ref)) ∧ PcsH H' rs ps ∧ Chain 0 at' ps ∧ NFl ps ∧ StopAt xs at' ps ∧ (∀ (j : Nat) (h : j < xs.length), j < at' → valP ps (j : Int) = xs[j]) ∧ at' ≤ xs.length ∧ (i ≤ at' ∨ at' = xs.length) ∧ ps.length ≤ at') ?g0 ?gs ?gd
    case g0 => exact ⟨0, none, none, none, none, [], [], rfl, s1, eo, trivial, rfl, trivial, fun p hp => (by cases hp), fun j _ hj => absurd hj (Nat.not_lt_zero _), Nat.zero_le _, .inl (Nat.le_refl _), Nat.le_refl _⟩
    case gs =>
      rintro i σ H2 hi ⟨at', y3, y4, y5, y6, rs, ps, rfl, sm, eo2, hps, hc, hn, hst, hval, hat, hia, hpl⟩
      -- if at < len(row)
      refine ⟨_, rfl, .ref p, rfl, p, xs.map V.int, rfl, .inl (sm.seq hS), _, _, rfl, rfl, _, rfl, ?_⟩
      rw [List.length_map] at hi ⊢
      by_cases c : at' < xs.length
      rotate_left
      · rw [decide_eq_false (show ¬ (at' : Int) < (xs.length : Int) by omega)]
        exact iteF ⟨at', _, y4, y5, y6, rs, ps, rfl, sm, eo2, hps, hc, hn, hst, hval, hat, .inr (by omega), hpl⟩
      rw [decide_eq_true (show (at' : Int) < (xs.length : Int) by omega)]
      refine iteT ?_
      -- many, way = 1, 1
      refine ⟨sz (show 2 ≤ 100000 by decide), fun t nt => ?_⟩
      have s3 := same_upd (o := .tup [.int 1, .int 1]) nt
      refine ⟨t, [.int 1, .int 1], rfl, SqT.at upd_same, rfl, .int 1, [.int 1], rfl, .int 1, [], rfl, rfl, ?_⟩
      have sm3 := sm.trans s3
      have eo3 := s3 _ _ eo2
      have hps3 := hps.same s3
      change C8.tCut _ _ _ _ (upd H2 t (.tup [.int 1, .int 1]))
      generalize upd H2 t (.tup [.int 1, .int 1]) = H3 at sm3 eo3 hps3 ⊢
      clear s3 hps eo2 sm nt
      -- if at + 1 < len(row) and row[at + 1] == row[at] - 1: way = -1
      refine ⟨fun σ' H' => ∃ v : Int, σ' = [some (.ref p), some (.ref o), some (.int (at' : Int)), some (.int (0 + (i : Int))), some (.int 1), some (.int v), y6] ∧ H' = H3 ∧ (v = 1 ∨ v = -1) ∧ (v = 1 → ∀ h : at' + 1 < xs.length, xs[at' + 1] ≠ xs[at'] - 1) ∧ (v = -1 → ∃ h : at' + 1 < xs.length, xs[at' + 1] = xs[at'] - 1), ?_, ?_⟩
      · refine ⟨_, rfl, _, 1, rfl, rfl, .ref p, rfl, p, xs.map V.int, rfl, .inl (sm3.seq hS), _, _, rfl, rfl, _, rfl, ?_⟩
        rw [List.length_map]
        by_cases c1 : at' + 1 < xs.length
        rotate_left
        · rw [decide_eq_false (show ¬ (at' : Int) + 1 < (xs.length : Int) by omega)]
          exact iteF (iteF ⟨1, rfl, rfl, .inl rfl, fun _ h => absurd h c1, fun z => by cases z⟩)
        rw [decide_eq_true (show (at' : Int) + 1 < (xs.length : Int) by omega)]
        refine iteT ⟨.ref p, rfl, _, rfl, _, 1, rfl, rfl, rd sm3 c1 ⟨.ref p, rfl, _, rfl, rd sm3 c ⟨_, 1, rfl, rfl, rfl, _, rfl, ?_⟩⟩⟩
        by_cases c2 : xs[at' + 1] = xs[at'] - 1
        · rw [decide_eq_true (show V.int xs[at' + 1] = V.int (xs[at'] - 1) by rw [c2])]
          exact iteT ⟨1, rfl, -1, rfl, rfl, .inr rfl, fun z => (by cases z), fun _ => ⟨c1, c2⟩⟩
        · rw [decide_eq_false (show ¬ V.int xs[at' + 1] = V.int (xs[at'] - 1) from fun z => c2 (V.int.inj z))]
          exact iteF ⟨1, rfl, rfl, .inl rfl, fun _ _ => c2, fun z => by cases z⟩
      rintro σ' H' ⟨v, rfl, rfl, hv, hv1, hv2⟩
      -- for k in range(at + 1, len(row))
      refine ⟨_, rfl, _, 1, rfl, rfl, .ref p, rfl, p, xs.map V.int, rfl, .inl (sm3.seq hS), (at' : Int) + 1, (xs.length : Int), by rw [List.length_map], by omega, ?_⟩
      rw [show ((xs.length : Int) - ((at' : Int) + 1)).toNat = xs.length - (at' + 1) by omega]
      refine for_range (lo := (at' : Int) + 1) (n := xs.length - (at' + 1)) (fun j σ' H'' => ∃ (m : Nat) (y6 : Option V), σ' = [some (.ref p), some (.ref o), some (.int (at' : Int)), some (.int (0 + (i : Int))), some (.int (m : Int)), some (.int v), y6] ∧ H'' = H' ∧ Goes xs at' v m ∧ m ≤ j + 1 ∧ (m < j + 1 → ∀ h : at' + m < xs.length, xs[at' + m] ≠ xs[at'] + v * m)) ?h0 ?hs ?hd
      case h0 => exact ⟨1, y6, rfl, rfl, goes_one c, Nat.le_refl _, fun h => absurd h (Nat.lt_irrefl _)⟩
      case hs =>
        rintro j σ' H'' hj ⟨m, y6, rfl, rfl, g, mj, mend⟩
        refine ⟨_, rfl, _, rfl, _, rfl, _, _, rfl, rfl, rfl, _, rfl, ?_⟩
        by_cases ck : m = j + 1
        rotate_left
        · rw [decide_eq_false (show ¬ V.int ((at' : Int) + 1 + (j : Int)) = V.int ((at' : Int) + (m : Int)) from fun z => by have := V.int.inj z; omega)]
          exact iteF (iteF ⟨m, _, rfl, rfl, g, by omega, fun _ => mend (by omega)⟩)
        subst ck
        rw [decide_eq_true (show V.int ((at' : Int) + 1 + (j : Int)) = V.int ((at' : Int) + ((j + 1 : Nat) : Int)) by congr 1; omega)]
        have hk : at' + 1 + j < xs.length := by omega
        refine iteT ⟨.ref p, rfl, _, rfl, ?_⟩
        rw [show (at' : Int) + 1 + (j : Int) = ((at' + 1 + j : Nat) : Int) by omega]
        refine rd sm3 hk ⟨.ref p, rfl, _, rfl, rd sm3 c ⟨_, rfl, _, rfl, _, _, rfl, rfl, .inl (by rcases hv with h | h <;> rw [h] <;> decide), _, _, rfl, rfl, rfl, _, rfl, ?_⟩⟩
        by_cases c3 : xs[at' + 1 + j] = xs[at'] + v * ((j + 1 : Nat) : Int)
        · rw [decide_eq_true (show V.int xs[at' + 1 + j] = V.int (xs[at'] + v * ((j + 1 : Nat) : Int)) by rw [c3])]
          refine iteT ⟨_, rfl, _, 1, rfl, rfl, j + 1 + 1, _, rfl, rfl, ⟨by omega, by omega, fun t ht h h0 => ?_⟩, by omega, fun z => absurd z (Nat.lt_irrefl _)⟩
          by_cases ct : t < j + 1
          · exact g.all t ct h h0
          · have : t = j + 1 := by omega
            subst this
            have e : at' + (j + 1) = at' + 1 + j := by omega
            simp only [e]
            exact c3
        · rw [decide_eq_false (show ¬ V.int xs[at' + 1 + j] = V.int (xs[at'] + v * ((j + 1 : Nat) : Int)) from fun z => c3 (V.int.inj z))]
          refine iteF ⟨j + 1, _, rfl, rfl, g, by omega, fun _ h z => c3 ?_⟩
          have e : at' + (j + 1) = at' + 1 + j := by omega
          simp only [e] at z
          exact z
      case hd =>
        rintro σ' H'' ⟨m, y6, rfl, rfl, g, mj, mend⟩
        have gl := g.le
        have m1 := g.m1
        have hend : ∀ h : at' + m < xs.length, xs[at' + m] ≠ xs[at'] + v * m := fun h => mend (by omega) h
        have hone : m = 1 → ∀ h : at' + 1 < xs.length, xs[at' + 1] ≠ xs[at'] - 1 ∧ xs[at' + 1] ≠ xs[at'] + 1 := fun e h => by
          subst e
          have := hend h
          rcases hv with rfl | rfl
          · exact ⟨hv1 rfl h, fun z => this (by rw [z]; simp)⟩
          · obtain ⟨_, z⟩ := hv2 rfl
            exact absurd (show xs[at' + 1] = xs[at'] + -1 * ((1 : Nat) : Int) by rw [z, Int.sub_eq_add_neg]; rfl) this
        obtain ⟨r1, r2, r3, r4⟩ := lawP_ok g hv c hc hn hst hval hend hone
        have ul := hps3.len
        -- found.append((at, many, row[at], way if many > 1 else 1)); at = at + many
        refine ⟨_, rfl, .inl ⟨rfl, _, SqL.at eo3⟩, _, rfl, _, rfl, .ref p, rfl, _, rfl, rd sm3 c ⟨_, rfl, _, 1, rfl, rfl, _, rfl, ?_⟩⟩
        have gx : xs.getD at' 0 = xs[at'] := getD_get c
        have f1 : i + 1 ≤ at' + m := by
          clear hv1 hv2 hone hend mend hv
          omega
        have f2 : (ps ++ [lawP xs at' v m]).length ≤ at' + m := by
          rw [List.length_append]
          show ps.length + 1 ≤ at' + m
          clear hv1 hv2 hone hend mend hv
          omega
        have f3 : (rs.map V.ref).length ≤ 100000 := by
          rw [List.length_map]
          clear hv1 hv2 hone hend mend hv
          omega
        by_cases cm : 1 < m
        · rw [decide_eq_true (show (1 : Int) < (m : Int) by omega)]
          have eP : [V.int (at' : Int), .int (m : Int), .int xs[at'], .int v] = pcV (lawP xs at' v m) := by
            unfold lawP pcV
            rw [gx, if_pos cm]
          refine iteT ⟨_, rfl, sz (show 4 ≤ 100000 by decide), fun nt nnt => ?_⟩
          have s4 := same_upd (o := .tup [.int (at' : Int), .int (m : Int), .int xs[at'], .int v]) nnt
          have ent : (upd H'' nt (.tup [.int (at' : Int), .int (m : Int), .int xs[at'], .int v])) nt = some (.tup (pcV (lawP xs at' v m))) := by
            rw [upd_same, ← eP]
          generalize upd H'' nt (.tup [.int (at' : Int), .int (m : Int), .int xs[at'], .int v]) = H4 at s4 ent ⊢
          have eo4 := s4 _ _ eo3
          have nO : ∀ b xs, H4 b = some (.tup xs) → b ≠ o := fun b xs e z => by
            rw [z, eo4] at e
            cases e
          refine ⟨o, rs.map V.ref, .ref nt, rfl, rfl, eo4, szlt f3, _, rfl, _, rfl, _, _, rfl, rfl, at' + m, _, _, _, _, rs ++ [nt], ps ++ [lawP xs at' v m], rfl, keep_upd (sm3.trans s4) no, by rw [upd_same, List.map_append]; rfl, ?_, r1, r2, r3, r4, gl, .inl f1, f2⟩
          refine PcsH.snoc ?_ ((hps3.same s4).mono fun b o e ⟨xs, h⟩ => ?_)
          · rw [upd_ne (nO _ _ ent)]
            exact ent
          · subst h
            rw [upd_ne (nO _ _ e)]
            exact e
        · rw [decide_eq_false (show ¬ (1 : Int) < (m : Int) by omega)]
          have eP : [V.int (at' : Int), .int (m : Int), .int xs[at'], .int 1] = pcV (lawP xs at' v m) := by
            unfold lawP pcV
            rw [gx, if_neg cm]
          refine iteF ⟨sz (show 4 ≤ 100000 by decide), fun nt nnt => ?_⟩
          have s4 := same_upd (o := .tup [.int (at' : Int), .int (m : Int), .int xs[at'], .int 1]) nnt
          have ent : (upd H'' nt (.tup [.int (at' : Int), .int (m : Int), .int xs[at'], .int 1])) nt = some (.tup (pcV (lawP xs at' v m))) := by
            rw [upd_same, ← eP]
          generalize upd H'' nt (.tup [.int (at' : Int), .int (m : Int), .int xs[at'], .int 1]) = H4 at s4 ent ⊢
          have eo4 := s4 _ _ eo3
          have nO : ∀ b xs, H4 b = some (.tup xs) → b ≠ o := fun b xs e z => by
            rw [z, eo4] at e
            cases e
          refine ⟨o, rs.map V.ref, .ref nt, rfl, rfl, eo4, szlt f3, _, rfl, _, rfl, _, _, rfl, rfl, at' + m, _, _, _, _, rs ++ [nt], ps ++ [lawP xs at' v m], rfl, keep_upd (sm3.trans s4) no, by rw [upd_same, List.map_append]; rfl, ?_, r1, r2, r3, r4, gl, .inl f1, f2⟩
          refine PcsH.snoc ?_ ((hps3.same s4).mono fun b o e ⟨xs, h⟩ => ?_)
          · rw [upd_ne (nO _ _ ent)]
            exact ent
          · subst h
            rw [upd_ne (nO _ _ e)]
            exact e
    case gd =>
      rintro σ H2 ⟨at', y3, y4, y5, y6, rs, ps, rfl, sm, eo2, hps, hc, hn, hst, hval, hat, hia, hpl⟩
      rw [List.length_map] at hia
      have e : at' = xs.length := by omega
      subst e
      exact ⟨_, rfl, k o rs ps H2 no eo2 hps hc hn (fun j h => hval j h h) sm⟩
end

theorem perm_ints {vs : List V} {xs : List Int} (h : vs.Perm (xs.map V.int)) : ∃ ys : List Int, vs = ys.map V.int ∧ ys.Perm xs := by
  let un : V → Int := fun v => match v with
    | .int i => i
    | _ => 0
  have e : vs = (vs.map un).map V.int := by
    rw [List.map_map]
    conv => lhs; rw [← List.map_id vs]
    refine List.map_congr_left fun v hv => ?_
    obtain ⟨i, _, rfl⟩ := List.mem_map.mp (h.mem_iff.mp hv)
    rfl
  refine ⟨vs.map un, e, ?_⟩
  have p := h.map un
  rw [List.map_map] at p
  have e2 : xs.map (un ∘ V.int) = xs := by
    conv => rhs; rw [← List.map_id xs]
    exact List.map_congr_left fun _ _ => rfl
  rw [e2] at p
  exact p

/-! ### the law's lists of blocks -/
def HeldB (H : Hp) (L : List (Addr × List Int)) : Prop := ∀ e ∈ L, H e.1 = some (.lst (e.2.map V.int))
def flatB (L : List (Addr × List Int)) : List Int := (L.map (·.2)).flatten
theorem HeldB.mono {H H' : Hp} {L : List (Addr × List Int)} (h : HeldB H L) (e : ∀ b xs, H b = some (.lst xs) → (∃ f ∈ L, f.1 = b) → H' b = some (.lst xs)) : HeldB H' L := fun f hf => e _ _ (h f hf) ⟨f, hf, rfl⟩
theorem flat_perm {L M : List (Addr × List Int)} (h : L.Perm M) : (flatB L).Perm (flatB M) := by
  unfold flatB
  induction h with
  | nil => exact .refl _
  | cons x _ ih => exact ih.append_left _
  | swap x y l =>
    simp only [List.map_cons, List.flatten_cons, ← List.append_assoc]
    exact List.perm_append_comm.append_right _
  | trans _ _ h1 h2 => exact h1.trans h2
theorem flat_snoc (L : List (Addr × List Int)) (e : Addr × List Int) : flatB (L ++ [e]) = flatB L ++ e.2 := by
  unfold flatB
  simp
/-- from lo on, m ints -/
def riF (lo m : Nat) : List Int := (List.range m).map fun i : Nat => ((lo + i : Nat) : Int)
theorem rgV_riF (lo m : Nat) : rgV (lo : Int) ((lo + m : Nat) : Int) = (riF lo m).map V.int := by
  unfold rgV riF
  rw [List.map_map, show (((lo + m : Nat) : Int) - (lo : Int)).toNat = m by omega]
  refine List.map_congr_left fun i _ => ?_
  show V.int ((lo : Int) + (i : Nat)) = V.int ((lo + i : Nat) : Int)
  congr 1
theorem ri_add (lo m : Nat) : ri (lo + m) = ri lo ++ riF lo m := by
  unfold ri riF
  rw [List.range_add, List.map_append, List.map_map]
  rfl
theorem riF_len (lo m : Nat) : (riF lo m).length = m := by
  unfold riF
  rw [List.length_map, List.length_range]
/-- where the making of blocks stands, turn i -/
def BlkI (d c fo bo : Addr) (n m : Nat) (H : Hp) (i : Nat) (σ : L2.St) (H' : Hp) : Prop := ∃ (at' : Nat) (y5 y6 y7 : Option V) (L : List (Addr × List Int)), σ = [some (.ref d), some (.int (m : Int)), some (.ref fo), some (.int (at' : Int)), some (.ref bo), y5, y6, y7] ∧ Pen H' d c (n + 2 * i) ∧ But d H H' ∧ H' fo = some (.lst []) ∧ H' bo = some (.lst (L.map fun e => V.ref e.1)) ∧ HeldB H' L ∧ (flatB L).Perm (ri at') ∧ at' ≤ m ∧ (i ≤ at' ∨ at' = m) ∧ L.length ≤ at' ∧ ∀ e ∈ L, e.1 ≠ bo
theorem blk_step {d c fo bo bq : Addr} {n m i at' mm : Nat} {H H5 : Hp} {L : List (Addr × List Int)} {zs : List Int} {y5 y6 y7 : Option V} (hd : d ≠ bo) (hc : c ≠ bo) (nbo : H bo = none) (hp : Pen H5 d c (n + 2 * i + 2)) (bt : But d H H5) (ef : H5 fo = some (.lst [])) (eb : H5 bo = some (.lst (L.map fun e => V.ref e.1))) (hL : HeldB H5 L) (pm : (flatB L).Perm (ri at')) (hz : H5 bq = some (.lst (zs.map V.int))) (nq : bq ≠ bo) (pz : zs.Perm (riF at' mm)) (m1 : 1 ≤ mm) (m2 : at' + mm ≤ m) (hi : i ≤ at' ∨ at' = m) (ll : L.length ≤ at') (lb : ∀ e ∈ L, e.1 ≠ bo) (fb : fo ≠ bo) {σ : L2.St} (hσ : σ = [some (.ref d), some (.int (m : Int)), some (.ref fo), some (.int ((at' + mm : Nat) : Int)), some (.ref bo), y5, y6, y7]) :
    BlkI d c fo bo n m H (i + 1) σ (upd H5 bo (.lst ((L.map fun e => V.ref e.1) ++ [V.ref bq]))) := by
  refine ⟨at' + mm, y5, y6, y7, L ++ [(bq, zs)], hσ, ?_, bt.mut nbo, ?_, ?_, ?_, ?_, m2, .inl (by omega), ?_, ?_⟩
  · have := hp.mut (o := .lst ((L.map fun e => V.ref e.1) ++ [V.ref bq])) hd hc
    rw [show n + 2 * (i + 1) = n + 2 * i + 2 by omega]
    exact this
  · rw [upd_ne fb]
    exact ef
  · rw [upd_same, List.map_append]
    rfl
  · intro e he
    rcases List.mem_append.mp he with h | h
    · rw [upd_ne (lb e h)]
      exact hL e h
    · rw [List.mem_singleton] at h
      subst h
      show upd H5 bo _ bq = _
      rw [upd_ne nq]
      exact hz
  · rw [flat_snoc, ri_add]
    exact pm.append pz
  · rw [List.length_append]
    show L.length + 1 ≤ at' + mm
    omega
  · intro e he
    rcases List.mem_append.mp he with h | h
    · exact lb e h
    · rw [List.mem_singleton] at h
      subst h
      exact nq
section
variable {P : Program} {w : World} {K : PySem.W.Frag} {mg : Str → Option Value} {base : Heap} {a : Ad}
def spLawBlocks : Sp := fun vs H Q _ => ∃ (d c : Addr) (n m : Nat), vs = [.ref d, .int (m : Int)] ∧ Pen H d c n ∧ n + 4 * m < 2 ^ 40 ∧ m ≤ 1000 ∧
  ∀ p ys H', IsRow ys → ys.length = m → H' p = some (.lst (ys.map V.int)) → Pen H' d c (n + 3 * m) → But d H H' → Q (.ref p) H'
theorem ok__law_blocks (T : Tx w K mg a) : FnOk P w K mg base CX0 3 a.f__law_blocks a.d__law_blocks ["pen", "size"] spLawBlocks := by
  refine T.F__law_blocks.ok sc__law_blocks (fun vs H Q E h => ?_) (fun cdv A outer s H vs Q E hr h => ?_)
  · obtain ⟨d, c, n, m, rfl, _⟩ := h
    rfl
  · obtain ⟨d, c, n, m, rfl, hp, hn, hm, k⟩ := h
    refine ⟨_, 
(pss_cons (ps_par3 (i := 2) (j := 3) (l := 4) (by rfl) sc__law_blocks.nd rfl rfl rfl (by decide) (by decide) (by decide) rfl rfl rfl (pa_cons (pe_lst pa_nil) (pa_cons pe_int (pa_cons (pe_lst pa_nil) pa_nil))) (by rfl))
  (pss_cons (ps_for PassesOwn.never rfl (pi_range1 (by rfl) T.z_range (pa_cons (pv 1) pa_nil)) (pg_name (i := 5) sc__law_blocks.nd rfl (.inl rfl))
  (pss_one (ps_if (pt_cmpR op_lt (pv 3) (pv 1) (nomark _))
  (pss_cons (ps_set (i := 6) sc__law_blocks.nd rfl (.inl rfl) (pe_op op_add pe_int (pe_call (ok__law_draw T) (hr.mono (by decide)) (by rfl) T.m__law_draw T.F__law_draw.kp T.b__law_draw .nil pass0 (pa_cons (pv 0) (pa_cons (pe_callB (call_min2 rfl) (by rfl) T.z_min (by decide +kernel) (pa_cons pe_int (pa_cons (pe_callTy call_int1 (by rfl) T.z_int (by decide +kernel) (pa_cons (pe_op op_sub (pv 1) (pv 3)) pa_nil)) pa_nil))) pa_nil)))))
  (pss_cons (ps_set (i := 7) sc__law_blocks.nd rfl (.inl rfl) (pe_listRg rfl (by rfl) T.z_list (prg_2 (by rfl) T.z_range (pv 3) (pe_op op_add (pv 3) (pv 6)))))
  (pss_cons (ps_expr (pe_bm PySem.F.plainAttrs_list PySem.F.slot_list_append PySem.F.type_list_append mt_append (pv 4) (pa_cons (pe_ifExp (pt_cmpR op_eq (pe_call (ok__law_draw T) (hr.mono (by decide)) (by rfl) T.m__law_draw T.F__law_draw.kp T.b__law_draw .nil pass0 (pa_cons (pv 0) (pa_cons pe_int pa_nil))) pe_int (nomark _)) (pe_revL (pv 7)) (pv 7)) pa_nil)))
  (pss_one (ps_set (i := 3) sc__law_blocks.nd rfl (.inl rfl) (pe_op op_add (pv 3) (pv 6)))))))
  pss_nil)))
  (pss_cons (ps_for PassesOwn.never rfl (pi_list (pe_call (ok__law_shuffled T) hr (by rfl) T.m__law_shuffled T.F__law_shuffled.kp T.b__law_shuffled .nil pass0 (pa_cons (pv 0) (pa_cons (pv 4) pa_nil)))) (pg_name (i := 7) sc__law_blocks.nd rfl (.inl rfl))
  (pss_one (ps_set (i := 2) sc__law_blocks.nd rfl (.inl rfl) (pe_op op_cat (pv 2) (pv 7)))))
  (pss_one (ps_ret (pv 2)))))), ?_⟩
    refine ⟨sz (show 0 ≤ 100000 by decide), fun fo nfo => ⟨sz (show 0 ≤ 100000 by decide), fun bo nbo => ?_⟩⟩
    have s1 := same_upd (o := .lst []) nfo
    have ef : (upd H fo (.lst [])) fo = some (.lst []) := upd_same
    generalize upd H fo (.lst []) = H0 at s1 ef nbo ⊢
    have s2 := same_upd (o := .lst []) nbo
    have eb : (upd H0 bo (.lst [])) bo = some (.lst []) := upd_same
    have ef2 := s2 _ _ ef
    have nbo0 := s1.free nbo
    have sm0 := s1.trans s2
    generalize upd H0 bo (.lst []) = H1 at s2 eb ef2 sm0 ⊢
    refine ⟨.ref fo, .int 0, .ref bo, rfl, ?_⟩
    obtain ⟨_, hdd⟩ := hp.dict
    obtain ⟨_, hcc⟩ := hp.cells
    have nd : d ≠ bo := ne_of_none hdd nbo0
    have nc : c ≠ bo := ne_of_none hcc nbo0
    have nf : fo ≠ bo := ne_of_none ef nbo
    -- for turn in range(size)
    refine ⟨_, rfl, (m : Int), rfl, by omega, by omega, ?_⟩
    refine for_range (lo := 0) (n := m) (BlkI d c fo bo n m H) ⟨0, none, none, none, [], rfl, hp.same sm0, but_same sm0, ef2, eb, fun e he => (by cases he), .refl _, Nat.zero_le _, .inl (Nat.le_refl _), Nat.le_refl _, fun e he => (by cases he)⟩ ?_ ?_
    · rintro i σ H2 hi ⟨at', y5, y6, y7, L, rfl, hp2, bt2, ef3, eb3, hL, pm, hat, hia, ll, lb⟩
      -- if at < size
      refine ⟨_, rfl, _, rfl, _, _, rfl, rfl, _, rfl, ?_⟩
      by_cases c1 : at' < m
      rotate_left
      · rw [decide_eq_false (show ¬ (at' : Int) < (m : Int) by omega)]
        exact iteF ⟨at', _, y6, y7, L, rfl, hp2.up (by omega), bt2, ef3, eb3, hL, pm, hat, .inr (by omega), ll, lb⟩
      rw [decide_eq_true (show (at' : Int) < (m : Int) by omega)]
      refine iteT ⟨_, rfl, _, rfl, _, rfl, _, _, rfl, rfl, .inl ⟨_, rfl, 6, (m : Int) - (at' : Int), rfl, d, c, n + 2 * i, _, rfl, hp2, by omega, ?_, ?_, fun v H3 v0 v1 hp3 b3 => ⟨1, v, rfl, rfl, ?_⟩⟩⟩
      · split <;> omega
      · split
        · have : ((100000 : Nat) : Int) < 2 ^ 200 := by decide
          omega
        · decide
      obtain ⟨mm, em, m1, m2⟩ : ∃ mm : Nat, 1 + v = (mm : Int) ∧ 1 ≤ mm ∧ at' + mm ≤ m := ⟨(1 + v).toNat, by omega, by omega, by split at v1 <;> omega⟩
      change gName 6 (V.int (1 + v)) _ _ _
      rw [em]
      have bt3 := bt2.trans b3
      obtain ⟨_, hd2⟩ := hp2.dict
      have ef4 := b3.list hd2 ef3
      have eb4 := b3.list hd2 eb3
      have hL4 : HeldB H3 L := fun e he => b3.list hd2 (hL e he)
      -- block = list(range(at, at + many))
      refine ⟨_, rfl, _, rfl, _, rfl, _, _, rfl, rfl, _, _, rfl, rfl, RgOk.of_le (by omega) (by omega) (by omega) (by omega), fun bl nbl => ?_⟩
      rw [show (at' : Int) + (mm : Int) = ((at' + mm : Nat) : Int) by omega, rgV_riF]
      have s5 := same_upd (o := .lst ((riF at' mm).map V.int)) nbl
      have ebl : (upd H3 bl (.lst ((riF at' mm).map V.int))) bl = some (.lst ((riF at' mm).map V.int)) := upd_same
      have nbl2 : bl ≠ bo := fun z => by
        rw [z, eb4] at nbl
        cases nbl
      change tSeq _ _ _ _ (upd H3 bl (.lst ((riF at' mm).map V.int)))
      generalize upd H3 bl (.lst ((riF at' mm).map V.int)) = H4 at s5 ebl ⊢
      have hp4 := hp3.same s5
      have bt4 := bt3.trans (but_same s5)
      have ef5 := s5 _ _ ef4
      have eb5 := s5 _ _ eb4
      have hL5 : HeldB H4 L := fun e he => s5 _ _ (hL4 e he)
      obtain ⟨_, hd4⟩ := hp4.dict
      -- blocks.append(..)
      refine ⟨_, rfl, .inl ⟨rfl, _, SqL.at eb5⟩, _, rfl, d, c, n + 2 * i + 1, 3, rfl, hp4, by omega, by decide, by decide, fun u H6 u0 u1 hp6 b6 => ⟨rfl, _, rfl, ?_⟩⟩
      have bt6 := bt4.trans b6
      have ef6 := b6.list hd4 ef5
      have eb6 := b6.list hd4 eb5
      have ebl6 := b6.list hd4 ebl
      have hL6 : HeldB H6 L := fun e he => b6.list hd4 (hL5 e he)
      have lc : (L.map fun e => V.ref e.1).length ≤ 100000 := by
        rw [List.length_map]
        omega
      refine ite2 (fun _ => ?_) (fun _ => ?_)
      · refine ⟨_, rfl, bl, _, rfl, SqL.at ebl6, fun bq nbq => ?_⟩
        have s7 := same_upd (o := .lst ((riF at' mm).map V.int).reverse) nbq
        have ebq : (upd H6 bq (.lst ((riF at' mm).map V.int).reverse)) bq = some (.lst ((riF at' mm).reverse.map V.int)) := by
          rw [upd_same, List.map_reverse]
        have nbq2 : bq ≠ bo := fun z => by
          rw [z, eb6] at nbq
          cases nbq
        generalize upd H6 bq (.lst ((riF at' mm).map V.int).reverse) = H7 at s7 ebq ⊢
        refine ⟨bo, _, .ref bq, rfl, rfl, s7 _ _ eb6, szlt lc, _, rfl, _, rfl, _, _, rfl, rfl, ?_⟩
        exact blk_step nd nc nbo0 (hp6.same s7) (bt6.trans (but_same s7)) (s7 _ _ ef6) (s7 _ _ eb6) (fun e he => s7 _ _ (hL6 e he)) pm ebq nbq2 (List.reverse_perm _) m1 m2 hia ll lb nf rfl
      · refine ⟨_, rfl, bo, _, .ref bl, rfl, rfl, eb6, szlt lc, _, rfl, _, rfl, _, _, rfl, rfl, ?_⟩
        exact blk_step nd nc nbo0 hp6 bt6 ef6 eb6 hL6 pm ebl6 nbl2 (.refl _) m1 m2 hia ll lb nf rfl
    · rintro σ H2 ⟨at', y5, y6, y7, L, rfl, hp2, bt2, ef3, eb3, hL, pm, hat, hia, ll, lb⟩
      have e : at' = m := by omega
      subst e
      -- for block in _law_shuffled(pen, blocks)
      refine ⟨_, rfl, _, rfl, d, c, bo, n + 2 * at', _, rfl, hp2, by rw [List.length_map]; omega, SqL.at eb3, by rw [List.length_map]; omega, fun sh ys H3 pys nsh esh hp3 b3 => ?_⟩
      obtain ⟨M, rfl, pM⟩ := perm_map_inv pys rfl
      obtain ⟨_, hd2⟩ := hp2.dict
      have hM : HeldB H3 M := fun e he => b3.list hd2 (hL e (pM.mem_iff.mp he))
      rw [List.length_map] at hp3
      have ef4 := b3.list hd2 ef3
      have ml := pM.length_eq
      refine ⟨sh, rfl, ⟨_, SqL.at esh⟩, ?_⟩
      have tl : ∀ k, (flatB (M.take k)).length ≤ at' := fun k => by
        have h1 : (flatB M).length = at' := by
          rw [(flat_perm pM).length_eq, pm.length_eq, ri_len]
        have h2 : flatB M = flatB (M.take k) ++ flatB (M.drop k) := by
          unfold flatB
          rw [← List.flatten_append, ← List.map_append, List.take_append_drop]
        rw [h2, List.length_append] at h1
        omega
      refine for_it (walk_list (xs := M.map fun e => V.ref e.1)) (fun j σ H' => ∃ (fo' : Addr) (y7 : Option V), σ = [some (.ref d), some (.int (at' : Int)), some (.ref fo'), some (.int (at' : Int)), some (.ref bo), y5, y6, y7] ∧ Same H3 H' ∧ H' fo' = some (.lst ((flatB (M.take j)).map V.int))) ?g0 ?gG ?gs ?gd
      case g0 => exact ⟨fo, y7, rfl, Same.refl _, ef4⟩
      case gG =>
        rintro j σ H' _ ⟨_, _, _, sm, _⟩
        exact sm.seq (SqL.at esh)
      case gs =>
        rintro j yy σ H4 H5 hj ⟨fo', y7, rfl, sm, ef5⟩ ⟨rfl, ex⟩
        rw [List.length_map] at hj
        rw [List.getElem?_map, List.getElem?_eq_getElem hj] at ex
        cases ex
        have hb := sm _ _ (hM _ (List.getElem_mem hj))
        have tk : flatB (M.take (j + 1)) = flatB (M.take j) ++ (M[j]'hj).2 := by
          rw [List.take_succ, List.getElem?_eq_getElem hj]
          exact flat_snoc _ _
        have l1 := tl (j + 1)
        rw [tk, List.length_append] at l1
        refine ⟨_, rfl, _, rfl, fo', _, _, _, rfl, rfl, ef5, hb, sz (by rw [List.length_map, List.length_map]; omega), fun nw nnw => ?_⟩
        refine ⟨nw, _, rfl, sm.trans (same_upd nnw), ?_⟩
        rw [upd_same, tk, List.map_append]
      case gd =>
        rintro σ H4 ⟨fo', y7, rfl, sm, ef5⟩
        rw [List.length_map, List.take_length] at ef5
        have hpm := (flat_perm pM).trans pm
        refine ⟨_, rfl, k fo' (flatB M) H4 (isRow_of at' hpm) (by rw [hpm.length_eq, ri_len]) ef5 ((hp3.same sm).up (by omega)) (bt2.trans (b3.trans (but_same sm)))⟩
end

theorem RunsAt.but {C d : Addr} {H H' : Hp} {kvs : List (Key × V)} {p : Addr} {n : Int} {ps : List Pc} (h : RunsAt C H p n ps) (b : But d H H') (hd : H d = some (.dK kvs)) : RunsAt C H' p n ps :=
  h.mono fun x o e z => b x o e (ne_of e hd (by rcases z with ⟨xs, rfl | rfl⟩ | ⟨_, _, _, rfl⟩ <;> intro z <;> cases z))
theorem form_ne {K : PySem.W.Frag} {H1 : Hp} {Qv : VK} {p t : Addr} {rs : List Addr} {ps : List Pc} {xs : List Int} (hx : SqL K H1 p (xs.map V.int)) (hl : xs.length ≤ 1000) (hr : IsRow xs) (et : H1 t = some (.tup (rs.map V.ref))) (hps : PcsH H1 rs ps) (hc : Rea xs.length ps) (hn : NFl ps) (hv : ValIs ps xs) (k : ∀ H', Same H1 H' → Qv (.bl false) H') :
    spLawForm K [.ref p] H1 (fun x H2 => ∃ p' ys, [x] = [.ref p'] ∧ ((SqL K H2 p' ys ∧ ∀ l, H2 l = none → rNeD K (.ref t) (.ref l) (upd H2 l (.tup ys)) Qv) ∨ (SqT K H2 p' ys ∧ rNeD K (.ref t) (.ref p') H2 Qv))) L2.E0 := by
  refine ⟨p, xs, rfl, hx, hl, fun o rs2 qs H2 no eo hqs qc qn qv s2 => ⟨o, _, rfl, .inl ⟨SqL.at eo, fun l nl => ?_⟩⟩⟩
  have s3 := same_upd (o := .tup (rs2.map V.ref)) nl
  have el : (upd H2 l (.tup (rs2.map V.ref))) l = some (.tup (rs2.map V.ref)) := upd_same
  generalize upd H2 l (.tup (rs2.map V.ref)) = H3 at s3 el ⊢
  have s13 := s2.trans s3
  have e : ps = qs := hc.uniq (qv.rea qc hr) hn qn fun j j0 j1 => by
    have h1 := hv j.toNat (by omega)
    have h2 := qv j.toNat (by omega)
    rw [show ((j.toNat : Nat) : Int) = j by omega] at h1 h2
    rw [h1, h2]
  refine ⟨rsD ps, rsD qs, .tup (SqT.at (s13 _ _ et)) (dp_pcs (hps.same s13)), .tup (SqT.at el) (dp_pcs (hqs.same s3)), shaped_rs ps, shaped_rs qs, ?_⟩
  rw [eqv_rs, decide_eq_true e]
  exact k H3 s13

section
variable {P : Program} {w : World} {K : PySem.W.Frag} {mg : Str → Option Value} {base : Heap} {a : Ad}
/-- runs that tell the list -/
structure Tells (C : Addr) (H : Hp) (p : Addr) (ys : List Int) (ps : List Pc) : Prop where
  rn : RunsAt C H p ys.length ps
  re : Rea ys.length ps
  nf : NFl ps
  le : ps.length ≤ 100
  vi : ValIs ps ys
def spIsTold (K : PySem.W.Frag) (C : Addr) : Sp := fun vs H Q _ => ∃ (p o : Addr) (ys : List Int) (ps : List Pc), vs = [.ref p, .ref o] ∧ Tells C H p ys ps ∧ SqL K H o (ys.map V.int) ∧ IsRow ys ∧ ys.length ≤ 100 ∧ ∀ H', Same H H' → Q (.bl true) H'
theorem ok__law_is_told (T : Tx w K mg a) : FnOk P w K mg base CX0 5 a.f__law_is_told a.d__law_is_told ["told", "row"] (spIsTold K a.C_Runs) := by
  refine T.F__law_is_told.ok sc__law_is_told (fun vs H Q E h => ?_) (fun cdv A outer s H vs Q E hr h => ?_)
  · obtain ⟨p, o, ys, ps, rfl, _⟩ := h
    rfl
  · obtain ⟨p, o, ys, ps, rfl, ⟨hR, re, nf, le, vi⟩, hy, ry, ly, q⟩ := h
    refine ⟨_, 
(pss_cons (ps_if (PW.pt (pw_or (pt_not (pt_val (pe_callB call_isi (by rfl) T.z_isinstance (by decide +kernel) (pa_cons (pe_fld (pv 0) rfl) (pa_cons (pe_bltn (v := .ty "tuple") (by rfl) T.z_tuple (by decide +kernel) rfl) pa_nil))))) (pw_or (pt_cmpR (op_neD hr.units) (pe_fld (pv 0) rfl) (pe_callTy call_tuple_of (by rfl) T.z_tuple (by decide +kernel) (pa_cons (pe_call (ok__law_form T) (hr.mono (by decide)) (by rfl) T.m__law_form T.F__law_form.kp T.b__law_form .nil pass0 (pa_cons (pv 1) pa_nil)) pa_nil)) (nomark _)) (pw_or1 (pt_cmpR op_ne (pe_fld (pv 0) rfl) (pe_callB call_len_seq (by rfl) T.z_len PySem.boot_len (pa_cons (pv 1) pa_nil)) (nomark _))))))
  (pss_one (ps_ret pe_bl))
  pss_nil)
  (pss_one (ps_ret (pe_cmpR (op_eqD hr.units) (pe_lc (own := [("place", 2)]) (g := gName 2) rfl sc__law_is_told.nd (pi_range1 (by rfl) T.z_range (pa_cons (pe_callB call_len_seq (by rfl) T.z_len PySem.boot_len (pa_cons (pv 1) pa_nil)) pa_nil)) (blkOk_by (own := [("place", 2)]) (N := ["told", "row", "place"]) (sc := defScope s__law_is_told) (by decide +kernel)) (fun _ _ _ _ _ => pg_name (i := 2) sc__law_is_told.nd rfl (Or.inl rfl)) (fun _ _ _ _ _ => pts_nil) (fun _ _ _ _ _ => (pe_methS (pv 0) T.cl_Runs T.me_Runs_at (ok_Runs_at T) (hr.mono (by decide)) T.b_Runs_at takes0 (pa_cons (pv 2) pa_nil)))) (pv 1) (nomark _))))), ?_⟩
    obtain ⟨dx, fs, t, rs, p1, p2, p3, p4, p5, p6⟩ := id hR
    refine ⟨.ref p, rfl, p, a.C_Runs, dx, _, _, rfl, p1, T.cl_Runs, T.n_Runs_rows, p3, ?_⟩
    refine ⟨_, .ty "tuple", _, _, true, rfl, .ty "tuple", .base (.tup p5), kit_ty (by decide +kernel), ?_⟩
    refine ⟨true, rfl, iteF ?_⟩
    refine ⟨.ref p, rfl, p, a.C_Runs, dx, _, _, rfl, p1, T.cl_Runs, T.n_Runs_rows, p3, _, rfl, ?_⟩
    refine form_ne hy (by omega) ry p5 p6 re nf vi fun H1 s1 => ⟨_, rfl, iteF ?_⟩
    have hy1 := s1.seq hy
    refine ⟨.ref p, rfl, p, a.C_Runs, dx, _, _, rfl, s1 _ _ p1, T.cl_Runs, T.n_Runs_size, p2.1, _, rfl, o, _, rfl, .inl hy1, rfl, _, rfl, ?_⟩
    rw [List.length_map, decide_eq_true rfl]
    refine iteF ⟨_, rfl, o, _, rfl, .inl hy1, _, rfl, ?_⟩
    rw [List.length_map]
    refine ⟨by omega, by omega, fun D nD => ?_⟩
    refine lc_range (lo := 0) (n := ((ys.length : Nat) : Int).toNat) (fun j H' => Same H1 H' ∧ H' D = some (.lst ((ys.take j).map V.int))) ?h0 ?hs ?hd
    case h0 => exact ⟨same_upd nD, upd_same⟩
    case hs =>
      rintro j H2 hj ⟨sm, eD⟩
      rw [Int.toNat_natCast] at hj
      have sm1 := s1.trans sm
      have htk : ys.take (j + 1) = ys.take j ++ [ys[j]] := by
        rw [List.take_succ, List.getElem?_eq_getElem hj]
        rfl
      have tl : (ys.take j).length ≤ 100 := by rw [List.length_take]; omega
      rw [htk, show (0 : Int) + (j : Int) = (j : Int) from Int.zero_add _]
      refine ⟨rfl, .ref p, rfl, p, dx, fs, rfl, sm1 _ _ p1, p4, _, rfl, p, _, .int (j : Int), true, ps, rfl, hR.same sm1, .int _, by omega, .inl ⟨(j : Int), rfl, re.ch, by omega, by omega, _, eD, szlt (by rw [List.length_map]; omega), keep_upd sm nD, ?_⟩⟩
      rw [upd_same, List.map_append, vi j hj]
      rfl
    case hd =>
    rintro H2 ⟨sm, eD⟩
    rw [Int.toNat_natCast, List.take_length] at eD
    refine ⟨_, rfl, _, _, dp_ints (SqL.at eD), dp_ints (sm.seq hy1), shaped_ints, shaped_ints, ?_⟩
    rw [eqv_ints, decide_eq_true rfl]
    exact q _ (s1.trans sm)
end

/-! ### rows with one wrong member -/
theorem fwI_bad (n : Nat) : ∀ (xs : List Int) (seen : List Int) (k m : Nat) (v : V), xs.Nodup → (∀ x ∈ xs, 0 ≤ x ∧ x < (n : Int) ∧ x ∉ seen) → m < xs.length → (∀ i, v = .int i → ¬ (0 ≤ i ∧ i < (n : Int) ∧ i ∉ seen)) → fwI n seen k ((xs.map V.int).set m v) = some (k + m)
  | [], _, _, _, _, _, _, hm, _ => absurd hm (Nat.not_lt_zero _)
  | x :: r, seen, k, 0, v, _, _, _, hv => by
    show fwI n seen k (v :: r.map V.int) = some (k + 0)
    cases v with
    | int i => rw [fwI, if_neg (hv i rfl)]; rfl
    | non => rfl
    | bl b => rfl
    | str z => rfl
    | byt z => rfl
    | flt z => rfl
    | ref z => rfl
    | ty z => rfl
  | x :: r, seen, k, m + 1, v, hn, hb, hm, hv => by
    have hx := hb x List.mem_cons_self
    have hn' := List.nodup_cons.mp hn
    show fwI n seen k (V.int x :: (r.map V.int).set m v) = some (k + (m + 1))
    rw [fwI, if_pos hx, fwI_bad n r (x :: seen) (k + 1) m v hn'.2 (fun y hy => ?_) (by simpa using hm) (fun i e z => hv i e ⟨z.1, z.2.1, fun q => z.2.2 (List.mem_cons_of_mem _ q)⟩)]
    · congr 1
      omega
    · obtain ⟨h1, h2, h3⟩ := hb y (List.mem_cons_of_mem _ hy)
      refine ⟨h1, h2, fun q => ?_⟩
      rcases List.mem_cons.mp q with e | q
      · exact hn'.1 (e ▸ hy)
      · exact h3 q
/-- a member that has come ahead -/
theorem fwI_come (n : Nat) : ∀ (xs : List Int) (seen : List Int) (k j : Nat) (hj : j < xs.length), xs.Nodup → (∀ x ∈ xs, 0 ≤ x ∧ x < (n : Int) ∧ (x ∈ seen → x = xs[j])) → xs[j] ∈ seen → fwI n seen k (xs.map V.int) = some (k + j)
  | [], _, _, _, hj, _, _, _ => absurd hj (Nat.not_lt_zero _)
  | x :: r, seen, k, 0, _, _, _, hs => by
    show fwI n seen k (V.int x :: r.map V.int) = some (k + 0)
    rw [fwI, if_neg (fun z => z.2.2 hs)]
    rfl
  | x :: r, seen, k, j + 1, hj, hn, hb, hs => by
    have hn' := List.nodup_cons.mp hn
    have hj' : j < r.length := by simpa using hj
    have ne : x ≠ r[j] := fun e => hn'.1 (e ▸ List.getElem_mem hj')
    obtain ⟨h1, h2, h3⟩ := hb x List.mem_cons_self
    show fwI n seen k (V.int x :: r.map V.int) = some (k + (j + 1))
    rw [fwI, if_pos ⟨h1, h2, fun z => ne (h3 z)⟩, fwI_come n r (x :: seen) (k + 1) j hj' hn'.2 (fun y hy => ?_) (List.mem_cons_of_mem _ hs)]
    · congr 1
      omega
    · obtain ⟨g1, g2, g3⟩ := hb y (List.mem_cons_of_mem _ hy)
      refine ⟨g1, g2, fun q => ?_⟩
      rcases List.mem_cons.mp q with e | q
      · exact absurd (e ▸ hy) hn'.1
      · exact g3 q
theorem fwI_dup (n : Nat) : ∀ (xs : List Int) (seen : List Int) (k m j : Nat) (hj : j < xs.length), xs.Nodup → (∀ x ∈ xs, 0 ≤ x ∧ x < (n : Int) ∧ x ∉ seen) → m < xs.length → j ≠ m → fwI n seen k ((xs.map V.int).set m (.int xs[j])) = some (k + max m j)
  | [], _, _, _, _, hj, _, _, _, _ => absurd hj (Nat.not_lt_zero _)
  | x :: r, seen, k, 0, 0, _, _, _, _, h => absurd rfl h
  | x :: r, seen, k, 0, j + 1, hj, hn, hb, _, _ => by
    have hn' := List.nodup_cons.mp hn
    have hj' : j < r.length := by simpa using hj
    have hx := hb r[j] (List.mem_cons_of_mem _ (List.getElem_mem hj'))
    show fwI n seen k (V.int r[j] :: r.map V.int) = some (k + max 0 (j + 1))
    rw [fwI, if_pos hx, fwI_come n r (r[j] :: seen) (k + 1) j hj' hn'.2 (fun y hy => ?_) List.mem_cons_self]
    · congr 1
      omega
    · obtain ⟨g1, g2, g3⟩ := hb y (List.mem_cons_of_mem _ hy)
      refine ⟨g1, g2, fun q => ?_⟩
      rcases List.mem_cons.mp q with e | q
      · exact e
      · exact absurd q g3
  | x :: r, seen, k, m + 1, 0, _, hn, hb, hm, _ => by
    have hn' := List.nodup_cons.mp hn
    have hx := hb x List.mem_cons_self
    show fwI n seen k (V.int x :: (r.map V.int).set m (.int x)) = some (k + max (m + 1) 0)
    rw [fwI, if_pos hx, fwI_bad n r (x :: seen) (k + 1) m _ hn'.2 (fun y hy => ?_) (by simpa using hm) (fun i e z => ?_)]
    · congr 1
      omega
    · obtain ⟨g1, g2, g3⟩ := hb y (List.mem_cons_of_mem _ hy)
      refine ⟨g1, g2, fun q => ?_⟩
      rcases List.mem_cons.mp q with e | q
      · exact hn'.1 (e ▸ hy)
      · exact g3 q
    · cases e
      exact z.2.2 List.mem_cons_self
  | x :: r, seen, k, m + 1, j + 1, hj, hn, hb, hm, h => by
    have hn' := List.nodup_cons.mp hn
    have hx := hb x List.mem_cons_self
    have hj' : j < r.length := by simpa using hj
    show fwI n seen k (V.int x :: (r.map V.int).set m (.int r[j])) = some (k + max (m + 1) (j + 1))
    rw [fwI, if_pos hx, fwI_dup n r (x :: seen) (k + 1) m j hj' hn'.2 (fun y hy => ?_) (by simpa using hm) (fun e => h (by omega))]
    · congr 1
      omega
    · obtain ⟨g1, g2, g3⟩ := hb y (List.mem_cons_of_mem _ hy)
      refine ⟨g1, g2, fun q => ?_⟩
      rcases List.mem_cons.mp q with e | q
      · exact hn'.1 (e ▸ hy)
      · exact g3 q

theorem eqD_self {K : PySem.W.Frag} {H : Hp} {x y : V} {D : PyData} {Q : VK} (hx : Dp K H x D) (hy : Dp K H y D) (h : SeqAt.shaped D = true) (q : Q (.bl true) H) : rEqD K x y H Q := by
  refine ⟨D, D, hx, hy, h, h, ?_⟩
  rw [SeqAt.eqv_refl _ (SeqAt.canLay_of_shaped h)]
  exact q
theorem neD_self {K : PySem.W.Frag} {H : Hp} {x y : V} {D : PyData} {Q : VK} (hx : Dp K H x D) (hy : Dp K H y D) (h : SeqAt.shaped D = true) (q : Q (.bl false) H) : rNeD K x y H Q := by
  refine ⟨D, D, hx, hy, h, h, ?_⟩
  rw [SeqAt.eqv_refl _ (SeqAt.canLay_of_shaped h)]
  exact q

theorem cut_take (ns : List Int) (k : Nat) : cutV (ns.map V.int) none (some (k : Int)) = (ns.take k).map V.int := by
  unfold cutV
  rw [show HT.sIx (ns.map V.int).length (ns.map V.int).length (some (k : Int)) = min k (ns.map V.int).length from HT.sIx_nat _ _ k, HT.sIx_none, List.drop_zero, Nat.sub_zero, List.map_take, List.take_eq_take_iff]
  omega
theorem cut_drop (ns : List Int) {k : Nat} (h : k ≤ ns.length) : cutV (ns.map V.int) (some (k : Int)) none = (ns.drop k).map V.int := by
  unfold cutV
  have e : HT.sIx (ns.map V.int).length 0 (some (k : Int)) = k := by
    rw [HT.sIx_nat, List.length_map]
    omega
  rw [e, HT.sIx_none, List.length_map, ← List.map_drop, List.take_of_length_le (by rw [List.length_map, List.length_drop]; exact Nat.le_refl _)]

/-- the tuple of an error: what stands in it can be compared -/
def Leaf (y : V) (d : PyData) : Prop := (∀ K H, Dp K H y d) ∧ ∀ tag : Str, PyData.strOk tag = true → SeqAt.shaped (.tuple [.str tag, d, .bool true]) = true
theorem leaf_sh {d : PyData} (h1 : PyData.canLay0 d = true) (h2 : PyData.depth d = 0) : ∀ tag : Str, PyData.strOk tag = true → SeqAt.shaped (.tuple [.str tag, d, .bool true]) = true := fun tag ht => by
  unfold SeqAt.shaped
  simp [PyData.canLay0, PyData.canLayAll0, PyData.depth, PyData.depthAll, h1, h2, ht]
theorem leaf_int (i : Int) : Leaf (.int i) (.int i) := ⟨fun _ _ => .int _, leaf_sh (by simp [PyData.canLay0]) (by simp [PyData.depth])⟩
theorem leaf_bl (b : Bool) : Leaf (.bl b) (.bool b) := ⟨fun _ _ => .bl _, leaf_sh (by simp [PyData.canLay0]) (by simp [PyData.depth])⟩
theorem leaf_non : Leaf .non .none := ⟨fun _ _ => .non, leaf_sh (by simp [PyData.canLay0]) (by simp [PyData.depth])⟩
theorem leaf_str {z : Str} (h : PyData.strOk z = true) : Leaf (.str z) (.str z) := ⟨fun _ _ => .str _, leaf_sh (by simpa [PyData.canLay0] using h) (by simp [PyData.depth])⟩
theorem set_cut {α : Type} (xs : List α) (m : Nat) (v : α) (h : m < xs.length) : xs.take m ++ [v] ++ xs.drop (m + 1) = xs.set m v := by
  rw [List.set_eq_take_append_cons_drop, if_pos h, List.append_assoc]
  rfl
theorem fwR_bad {xs : List Int} (n : Nat) (hn : n = xs.length) {m : Nat} {v : V} (hd : xs.Nodup) (hb : ∀ x ∈ xs, 0 ≤ x ∧ x < (n : Int)) (hm : m < xs.length) (hv : ∀ i, v = .int i → ¬ (0 ≤ i ∧ i < (n : Int))) : fwR ((xs.map V.int).set m v) = some m := by
  unfold fwR
  rw [List.length_set, List.length_map, ← hn, fwI_bad n xs [] 0 m v hd (fun x hx => ⟨(hb x hx).1, (hb x hx).2, fun z => by cases z⟩) hm (fun i e h => hv i e ⟨h.1, h.2.1⟩), Nat.zero_add]
theorem fwR_dup {xs : List Int} {m j : Nat} (hr : IsRow xs) (hj : j < xs.length) (hm : m < xs.length) (h : j < m) : fwR ((xs.map V.int).set m (.int xs[j])) = some m := by
  unfold fwR
  rw [List.length_set, List.length_map, fwI_dup xs.length xs [] 0 m j hj hr.nodup (fun x hx => ⟨(hr.mem.mp hx).1, (hr.mem.mp hx).2, fun z => by cases z⟩) hm (by omega), Nat.zero_add, Nat.max_eq_left (by omega)]
theorem tabs_lst {TT : List (Addr × Str)} {H : Hp} {c : Addr} {xs ys : List V} (h : LamX.Tabs TT H) (e : H c = some (.lst xs)) : LamX.Tabs TT (upd H c (.lst ys)) := fun p hp => by
  obtain ⟨ps, h1, h2, h3⟩ := h p hp
  refine ⟨ps, ?_, h2, fun pos cv hc => ?_⟩
  · rw [upd_ne (ne_of h1 e (by intro z; cases z))]
    exact h1
  · obtain ⟨c', e1, e2⟩ := h3 pos cv hc
    refine ⟨c', e1, ?_⟩
    rw [upd_ne (ne_of e2 e (by intro z; unfold LamX.CodeO at z; cases z))]
    exact e2
theorem K3.put {H H1 H2 : Hp} {x : Addr} {o : HO} (k : K3 H H1) (n : H1 x = none) (k2 : K3 H1 H2) : K3 H (upd H2 x o) := fun b o' e h => by
  have e1 := k b o' e h
  rw [upd_ne (ne_of_none e1 n)]
  exact k2 b o' e1 h
theorem take1 {xs : List Int} (h : 0 < xs.length) : xs.take 1 = [xs[0]] := by
  cases xs with
  | nil => exact absurd h (Nat.lt_irrefl _)
  | cons z r => rfl
theorem rowV_set {K : PySem.W.Frag} {H : Hp} {p : Addr} {xs : List Int} {m : Nat} {v : V} (hp : H p = some (.lst ((xs.map V.int).set m v))) (hl : xs.length ≤ 100000) (hv : ∃ b, IsI H v b) : RowV K H p ((xs.map V.int).set m v) :=
  ⟨.inl (SqL.at hp), by rw [List.length_set, List.length_map]; exact hl, fun x hx => by
    rcases List.mem_or_eq_of_mem_set hx with h | h
    · exact isI_ints x h
    · rw [h]
      exact hv⟩
section
variable {P : Program} {w : World} {K : PySem.W.Frag} {mg : Str → Option Value} {base : Heap} {a : Ad}
def spLists (TT : List (Addr × Str)) : Sp := fun vs H Q _ => ∃ (d c b : Addr) (n : Nat) (ys : List Int), vs = [.ref d, .ref b] ∧ PT2 TT H d c n ∧ n + 10 < 2 ^ 40 ∧ H b = some (.lst (ys.map V.int)) ∧ IsRow ys ∧ 1 ≤ ys.length ∧ ys.length ≤ 30 ∧ ∀ H', PT2 TT H' d c (n + 5) → K3 H H' → Q (.bl true) H'
theorem ok__law_lists_refused (T : Tx w K mg a) (B : Tb base mg a) : FnOk P w K mg base CX0 11 a.f__law_lists_refused a.d__law_lists_refused ["pen", "blocks"] (spLists (tabsOf a)) := by
  refine T.L__law_lists_refused.ok T.b__law_lists_refused sc__law_lists_refused (fun vs H Q E h => ?_) (fun A outer s H vs Q E hr h => ?_)
  · obtain ⟨d, c, b, n, ys, rfl, _⟩ := h
    rfl
  · obtain ⟨d, c, b, n, ys, rfl, hpt, hn, hb, ry, l1, l30, q⟩ := h
    refine ⟨_, 
(pss_cons (ps_set (i := 2) sc__law_lists_refused.nd rfl (.inl rfl) (pe_call (ok__law_draw T) (hr.mono (by decide)) (by rfl) T.m__law_draw T.F__law_draw.kp T.b__law_draw .nil pass0 (pa_cons (pv 0) (pa_cons (pe_callB call_len_seq (by rfl) T.z_len PySem.boot_len (pa_cons (pv 1) pa_nil)) pa_nil))))
  (pss_cons (ps_set (i := 4) sc__law_lists_refused.nd rfl (.inr rfl) (pe_op op_cat (pe_op op_cat (pe_slice sl_list (pv 1) po_none (po_some (pv 2))) (pe_lst (pa_cons (pe_call (ok__law_pick T) (hr.mono (by decide)) (by rfl) T.m__law_pick T.F__law_pick.kp T.b__law_pick .nil pass0 (pa_cons (pv 0) (pa_cons (pe_lst (pa_cons (pe_callB call_len_seq (by rfl) T.z_len PySem.boot_len (pa_cons (pv 1) pa_nil)) (pa_cons (pe_un un_neg pe_int) (pa_cons pe_non (pa_cons pe_bl pa_nil))))) pa_nil))) pa_nil))) (pe_slice sl_list (pv 1) (po_some (pe_op op_add (pv 2) pe_int)) po_none)))
  (pss_cons (ps_if (pt_cmpR (op_neD hr.units) (pe_callH (ok__law_refused (P := P) (base := base) T) hr (by rfl) T.m__law_refused T.F__law_refused.kp T.b__law_refused (pa_cons (pe_lam (k := 5) (T := tabsOf a) B.tb__law_lists_refused rfl (.head _) B.hu__law_lists_refused rfl ⟨LamX.lamS_by (sc := defScope s__law_lists_refused) (by decide +kernel), fun _ _ _ _ _ => rfl, fun A outer s H E f c hr => (pe_callS (ok_runs_of_list T) hr (by rfl) T.m_runs_of_list T.F_runs_of_list.kp T.b_runs_of_list (fun σ => passAt (takes_of rfl rfl rfl rfl) σ) (pa_cons (pv 4) pa_nil))⟩) pa_nil)) (pe_tup (pa_cons pe_str (pa_cons (pv 2) (pa_cons pe_bl pa_nil)))) (nomark _))
  (pss_one (ps_ret pe_bl))
  pss_nil)
  (pss_cons (ps_if (pt_cmpR (op_neD hr.units) (pe_callH (ok__law_refused (P := P) (base := base) T) hr (by rfl) T.m__law_refused T.F__law_refused.kp T.b__law_refused (pa_cons (pe_lam (k := 5) (T := tabsOf a) B.tb__law_lists_refused rfl (.head _) B.hu__law_lists_refused rfl ⟨LamX.lamS_by (sc := defScope s__law_lists_refused) (by decide +kernel), fun _ _ _ _ _ => rfl, fun A outer s H E f c hr => (pe_callS (ok_runs_of_list T) hr (by rfl) T.m_runs_of_list T.F_runs_of_list.kp T.b_runs_of_list (fun σ => passAt (takes_of rfl rfl rfl rfl) σ) (pa_cons (pe_lst pa_nil) pa_nil))⟩) pa_nil)) (pe_tup (pa_cons pe_str (pa_cons pe_int (pa_cons pe_bl pa_nil)))) (nomark _))
  (pss_one (ps_ret pe_bl))
  pss_nil)
  (pss_cons (ps_set (i := 3) sc__law_lists_refused.nd rfl (.inr rfl) (pe_op op_cat (pe_op op_cat (pe_slice sl_list (pv 1) po_none (po_some (pv 2))) (pe_slice sl_list (pv 1) po_none (po_some pe_int))) (pe_slice sl_list (pv 1) (po_some (pe_op op_add (pv 2) pe_int)) po_none)))
  (C8.pss_cut (ps_if (PW.pt (pw_and (pt_cmpR op_gt (pv 2) pe_int (nomark _)) (pw_and1 (pt_cmpR (op_neD hr.units) (pe_callH (ok__law_refused (P := P) (base := base) T) hr (by rfl) T.m__law_refused T.F__law_refused.kp T.b__law_refused (pa_cons (pe_lam (k := 5) (T := tabsOf a) B.tb__law_lists_refused rfl (.head _) B.hu__law_lists_refused rfl ⟨LamX.lamS_by (sc := defScope s__law_lists_refused) (by decide +kernel), fun _ _ _ _ _ => rfl, fun A outer s H E f c hr => (pe_callS (ok_runs_of_list T) hr (by rfl) T.m_runs_of_list T.F_runs_of_list.kp T.b_runs_of_list (fun σ => passAt (takes_of rfl rfl rfl rfl) σ) (pa_cons (pv 3) pa_nil))⟩) pa_nil)) (pe_tup (pa_cons pe_str (pa_cons (pv 2) (pa_cons pe_bl pa_nil)))) (nomark _)))))
  (pss_one (ps_ret pe_bl))
  pss_nil)
  (pss_cons (ps_set (i := 5) sc__law_lists_refused.nd rfl (.inr rfl) (pe_listRg rfl (by rfl) T.z_list (prg_1 (by rfl) T.z_range pe_int)))
  (pss_cons (ps_asg (pe_call (ok__law_pick T) (hr.mono (by decide)) (by rfl) T.m__law_pick T.F__law_pick.kp T.b__law_pick .nil pass0 (pa_cons (pv 0) (pa_cons (pe_lst (pa_cons (pe_un un_neg pe_int) (pa_cons pe_non (pa_cons pe_int pa_nil)))) pa_nil))) (pg_sub (pv 5) (pv 2) set_list))
  (pss_cons (ps_if (pt_cmpR (op_neD hr.units) (pe_callH (ok__law_refused (P := P) (base := base) T) hr (by rfl) T.m__law_refused T.F__law_refused.kp T.b__law_refused (pa_cons (pe_lam (k := 5) (T := tabsOf a) B.tb__law_lists_refused rfl (.head _) B.hu__law_lists_refused rfl ⟨LamX.lamS_by (sc := defScope s__law_lists_refused) (by decide +kernel), fun _ _ _ _ _ => rfl, fun A outer s H E f c hr => (pe_callS (ok_runs_of_list T) hr (by rfl) T.m_runs_of_list T.F_runs_of_list.kp T.b_runs_of_list (fun σ => passAt (takes_of rfl rfl rfl rfl) σ) (pa_cons (pv 5) pa_nil))⟩) pa_nil)) (pe_tup (pa_cons pe_str (pa_cons (pv 2) (pa_cons pe_bl pa_nil)))) (nomark _))
  (pss_one (ps_ret pe_bl))
  pss_nil)
  (pss_one (ps_ret pe_bl))))))))))), ?_⟩
    obtain ⟨_, hdd⟩ := hpt.pen.dict
    have big : (ys.length : Int) < 2 ^ 200 := by
      have : ((30 : Nat) : Int) < 2 ^ 200 := by decide
      omega
    -- spot = _law_draw(pen, len(blocks))
    refine ⟨_, rfl, _, rfl, b, _, rfl, .inl (SqL.at hb), d, c, n, _, rfl, hpt.pen, by omega, by rw [List.length_map]; omega, by rw [List.length_map]; exact big, fun v H1 v0 v1 hp1 b1 => ?_⟩
    rw [List.length_map] at v1
    obtain ⟨m, rfl⟩ : ∃ m : Nat, v = (m : Int) := ⟨v.toNat, by omega⟩
    have hm : m < ys.length := by omega
    obtain ⟨pt1, k1⟩ := hpt.but hp1 b1
    have k1 := k3_but hpt.pen b1
    have hb1 := k1.lst hb
    -- bad
    refine ⟨_, rfl, _, rfl, _, rfl, b, _, rfl, SqL.at hb1, fun o1 no1 => ?_⟩
    rw [cut_take]
    have u1 := same_upd (o := .lst ((ys.take m).map V.int)) no1
    have e1 : (upd H1 o1 (.lst ((ys.take m).map V.int))) o1 = some (.lst ((ys.take m).map V.int)) := upd_same
    generalize upd H1 o1 (.lst ((ys.take m).map V.int)) = H2 at u1 e1 ⊢
    have pt2 := pt1.same u1
    have k2 := k1.trans (k3_same u1)
    refine ⟨_, rfl, _, rfl, b, _, rfl, .inl (SqL.at (k2.lst hb)), 1, rfl, sz (show 4 ≤ 100000 by decide), fun lo nlo => ?_⟩
    rw [List.length_map]
    have u3 := same_upd (o := .lst [.int (ys.length : Int), .int (-1), .non, .bl true]) nlo
    have e3 : (upd H2 lo (.lst [.int (ys.length : Int), .int (-1), .non, .bl true])) lo = some (.lst [.int (ys.length : Int), .int (-1), .non, .bl true]) := upd_same
    generalize upd H2 lo (.lst [.int (ys.length : Int), .int (-1), .non, .bl true]) = H3 at u3 e3 ⊢
    have pt3 := pt2.same u3
    have k3 := k2.trans (k3_same u3)
    refine ⟨d, c, lo, _, [.int (ys.length : Int), .int (-1), .non, .bl true], rfl, pt3.pen, by omega, SqL.at e3, (show 0 < 4 by decide), (show 4 ≤ 100000 by decide), fun y H4 hy hp4 b4 => ⟨sz (show 1 ≤ 100000 by decide), fun o2 no2 => ?_⟩⟩
    obtain ⟨pt4, _⟩ := pt3.but hp4 b4
    have k34 := k3_but pt3.pen b4
    have k4 := k3.trans k34
    have e14 := k34.lst (u3 _ _ e1)
    have u5 := same_upd (o := .lst [y]) no2
    have e5 : (upd H4 o2 (.lst [y])) o2 = some (.lst [y]) := upd_same
    generalize upd H4 o2 (.lst [y]) = H5 at u5 e5 ⊢
    have e15 := u5 _ _ e14
    refine ⟨o1, o2, _, _, rfl, rfl, e15, e5, sz (by rw [List.length_map, List.length_take]; show _ + 1 ≤ _; omega), fun o3 no3 => ?_⟩
    have u6 := same_upd (o := .lst ((ys.take m).map V.int ++ [y])) no3
    have e6 : (upd H5 o3 (.lst ((ys.take m).map V.int ++ [y]))) o3 = some (.lst ((ys.take m).map V.int ++ [y])) := upd_same
    generalize upd H5 o3 (.lst ((ys.take m).map V.int ++ [y])) = H6 at u6 e6 ⊢
    have k6 := k4.trans (k3_same (u5.trans u6))
    refine ⟨_, rfl, _, rfl, _, 1, rfl, rfl, _, rfl, b, _, rfl, SqL.at (k6.lst hb), fun o4 no4 => ?_⟩
    rw [show (m : Int) + 1 = ((m + 1 : Nat) : Int) by omega, cut_drop _ (by omega)]
    have u7 := same_upd (o := .lst ((ys.drop (m + 1)).map V.int)) no4
    have e7 : (upd H6 o4 (.lst ((ys.drop (m + 1)).map V.int))) o4 = some (.lst ((ys.drop (m + 1)).map V.int)) := upd_same
    generalize upd H6 o4 (.lst ((ys.drop (m + 1)).map V.int)) = H7 at u7 e7 ⊢
    refine ⟨o3, o4, _, _, rfl, rfl, u7 _ _ e6, e7, sz (by rw [List.length_append, List.length_map, List.length_map, List.length_take, List.length_drop]; show _ + 1 + _ ≤ _; omega), fun bd nbd => ?_⟩
    have eset : (ys.take m).map V.int ++ [y] ++ (ys.drop (m + 1)).map V.int = (ys.map V.int).set m y := by
      rw [← set_cut _ m y (by rw [List.length_map]; exact hm), List.map_take, List.map_drop]
    rw [eset]
    have u8 := same_upd (o := .lst ((ys.map V.int).set m y)) nbd
    have e8 : (upd H7 bd (.lst ((ys.map V.int).set m y))) bd = some (.lst ((ys.map V.int).set m y)) := upd_same
    generalize upd H7 bd (.lst ((ys.map V.int).set m y)) = H8 at u8 e8 ⊢
    have u48 := u5.trans (u6.trans (u7.trans u8))
    have pt8 := pt4.same u48
    have k8 := k4.trans (k3_same u48)
    have yOk : (∀ H, ∃ b, IsI H y b) ∧ ∀ i, y = .int i → ¬ (0 ≤ i ∧ i < (ys.length : Int)) := by
      simp only [List.mem_cons, List.not_mem_nil, or_false] at hy
      rcases hy with rfl | rfl | rfl | rfl
      · exact ⟨fun _ => ⟨_, .int _⟩, fun i e => by cases e; omega⟩
      · exact ⟨fun _ => ⟨_, .int _⟩, fun i e => by cases e; omega⟩
      · exact ⟨fun _ => ⟨_, .non⟩, fun i e => by cases e⟩
      · exact ⟨fun _ => ⟨_, .bl _⟩, fun i e => by cases e⟩
    have row : ∀ x ∈ ys, 0 ≤ x ∧ x < (ys.length : Int) := fun x hx => ry.mem.mp hx
    have mem3 : (a.C_BadRow, Str.ofString "row", Str.ofString "index") ∈ rsN a := List.mem_cons_of_mem _ (List.mem_cons_of_mem _ List.mem_cons_self)
    have mem1 : (a.C_BadSize, Str.ofString "size", Str.ofString "size") ∈ rsN a := List.mem_cons_self
    have shr := (leaf_int (m : Int)).2 "row" (by decide +kernel)
    clear hpt k1 hb1 no1 u1 e1 pt1 pt2 k2 nlo u3 e3 pt3 k3 hp4 b4 pt4 k34 k4 e14 u5 e5 e15 u6 e6 k6 u7 e7 u48 hy no2 no3 no4 nbd u8 hp1 b1
    -- _law_refused(lambda: runs_of_list(bad)) != ("row", spot, True)
    refine ⟨pt8.tabs, fun f Ha x7 r7 T7 n7 l7 h7 hh7 => metN_live hh7 l7 (by decide) fun H0 told err s0 r0 htold herr => ?_⟩
    have ka := k3_ext x7
    refine ⟨_, rfl, bd, _, rfl, rowV_set (s0 _ _ (ka.lst e8)) (by omega) (yOk.1 _), .inr (.inl ⟨m, fwR_bad _ rfl ry.nodup row hm yOk.2, fun H' d' s' ed => herr a.C_BadRow "row" "index" d' _ H' mem3 s' ed fun pa Hb sa epa => ?_⟩)⟩
    clear htold herr
    refine ⟨_, rfl, sz (show 3 ≤ 100000 by decide), fun qa nqa => ?_⟩
    have ua := same_upd (o := .tup [.str "row", .int (m : Int), .bl true]) nqa
    refine neD_self (.tup (SqT.at (ua _ _ epa)) (.cons (.str _) (.cons (.int _) (.cons (.bl _) .nil)))) (.tup (SqT.at upd_same) (.cons (.str _) (.cons (.int _) (.cons (.bl _) .nil)))) shr ⟨_, rfl, iteF ?_⟩
    have k9 := k8.trans (ka.trans (k3_same (sa.trans ua)))
    have pt9 := (PT2.mk (pt8.pen.ext x7) T7).same (sa.trans ua)
    generalize upd Hb qa (.tup [.str "row", .int (m : Int), .bl true]) = H9 at k9 pt9 ⊢
    clear x7 r7 T7 n7 l7 h7 hh7 ka k8 pt8 sa ua epa e8
    -- _law_refused(lambda: runs_of_list([])) != ("size", 0, True)
    refine ⟨pt9.tabs, fun f Ha x7 r7 T7 n7 l7 h7 hh7 => metN_live hh7 l7 (by decide) fun H0 told err s0 r0 htold herr => ?_⟩
    have ka := k3_ext x7
    refine ⟨sz (show 0 ≤ 100000 by decide), fun em nem => ?_⟩
    have ue := same_upd (o := .lst []) nem
    refine ⟨em, [], rfl, ⟨.inl (SqL.at upd_same), (show 0 ≤ 100000 by decide), fun x hx => by cases hx⟩, .inr (.inr ⟨rfl, fun h => absurd h.1 (by decide), fun H' d' s' ed => herr a.C_BadSize "size" "size" d' _ H' mem1 (ue.trans s') ed fun pa Hb sa epa => ?_⟩)⟩
    clear htold herr
    refine ⟨sz (show 3 ≤ 100000 by decide), fun qa nqa => ?_⟩
    have ua := same_upd (o := .tup [.str "size", .int 0, .bl true]) nqa
    refine neD_self (.tup (SqT.at (ua _ _ epa)) (.cons (.str _) (.cons (.int _) (.cons (.bl _) .nil)))) (.tup (SqT.at upd_same) (.cons (.str _) (.cons (.int _) (.cons (.bl _) .nil)))) ((leaf_int 0).2 "size" (by decide +kernel)) ⟨_, rfl, iteF ?_⟩
    have k10 := k9.trans (ka.trans (k3_same (sa.trans ua)))
    have pt10 := (PT2.mk (pt9.pen.ext x7) T7).same (sa.trans ua)
    generalize upd Hb qa (.tup [.str "size", .int 0, .bl true]) = H10 at k10 pt10 ⊢
    clear x7 r7 T7 n7 l7 h7 hh7 ka k9 pt9 sa ua epa ue nem
    -- again = blocks[:spot] + blocks[:1] + blocks[spot + 1:]
    refine ⟨_, rfl, _, rfl, _, rfl, b, _, rfl, SqL.at (k10.lst hb), fun o1 no1 => ?_⟩
    rw [cut_take]
    have u1 := same_upd (o := .lst ((ys.take m).map V.int)) no1
    have e1 : (upd H10 o1 (.lst ((ys.take m).map V.int))) o1 = some (.lst ((ys.take m).map V.int)) := upd_same
    generalize upd H10 o1 (.lst ((ys.take m).map V.int)) = H11 at u1 e1 ⊢
    refine ⟨_, rfl, 1, rfl, b, _, rfl, SqL.at (u1 _ _ (k10.lst hb)), fun o2 no2 => ?_⟩
    rw [show (1 : Int) = ((1 : Nat) : Int) from rfl, cut_take, take1 l1]
    have u2 := same_upd (o := .lst ([ys[0]].map V.int)) no2
    have e2 : (upd H11 o2 (.lst ([ys[0]].map V.int))) o2 = some (.lst ([ys[0]].map V.int)) := upd_same
    generalize upd H11 o2 (.lst ([ys[0]].map V.int)) = H12 at u2 e2 ⊢
    refine ⟨o1, o2, _, _, rfl, rfl, u2 _ _ e1, e2, sz (by rw [List.length_map, List.length_take]; show _ + 1 ≤ _; omega), fun o3 no3 => ?_⟩
    have u3 := same_upd (o := .lst ((ys.take m).map V.int ++ [ys[0]].map V.int)) no3
    have e3 : (upd H12 o3 (.lst ((ys.take m).map V.int ++ [ys[0]].map V.int))) o3 = some (.lst ((ys.take m).map V.int ++ [ys[0]].map V.int)) := upd_same
    generalize upd H12 o3 (.lst ((ys.take m).map V.int ++ [ys[0]].map V.int)) = H13 at u3 e3 ⊢
    have u13 := u1.trans (u2.trans u3)
    refine ⟨_, rfl, _, rfl, _, 1, rfl, rfl, _, rfl, b, _, rfl, SqL.at (u13 _ _ (k10.lst hb)), fun o4 no4 => ?_⟩
    rw [show (m : Int) + 1 = ((m + 1 : Nat) : Int) by omega, cut_drop _ (by omega)]
    have u4 := same_upd (o := .lst ((ys.drop (m + 1)).map V.int)) no4
    have e4 : (upd H13 o4 (.lst ((ys.drop (m + 1)).map V.int))) o4 = some (.lst ((ys.drop (m + 1)).map V.int)) := upd_same
    generalize upd H13 o4 (.lst ((ys.drop (m + 1)).map V.int)) = H14 at u4 e4 ⊢
    refine ⟨o3, o4, _, _, rfl, rfl, u4 _ _ e3, e4, sz (by simp only [List.length_append, List.length_map, List.length_take, List.length_drop, List.length_cons, List.length_nil]; omega), fun ag nag => ?_⟩
    have eset2 : (ys.take m).map V.int ++ [ys[0]].map V.int ++ (ys.drop (m + 1)).map V.int = (ys.map V.int).set m (.int ys[0]) := by
      rw [← set_cut _ m (V.int ys[0]) (by rw [List.length_map]; exact hm), List.map_take, List.map_drop]
      rfl
    rw [eset2]
    have u5 := same_upd (o := .lst ((ys.map V.int).set m (.int ys[0]))) nag
    have e5 : (upd H14 ag (.lst ((ys.map V.int).set m (.int ys[0])))) ag = some (.lst ((ys.map V.int).set m (.int ys[0]))) := upd_same
    generalize upd H14 ag (.lst ((ys.map V.int).set m (.int ys[0]))) = H15 at u5 e5 ⊢
    have u15 := u13.trans (u4.trans u5)
    have pt15 := pt10.same u15
    have k15 := k10.trans (k3_same u15)
    clear u1 u2 u3 u4 u5 u13 u15 e1 e2 e3 e4 no1 no2 no3 no4 nag pt10 k10
    -- spot > 0 and _law_refused(lambda: runs_of_list(again)) != ("row", spot, True)
    refine ⟨fun σ' H' => σ' = [some (.ref d), some (.ref b), some (.int (m : Int)), some (.ref ag), some (.ref bd), none] ∧ PT2 (tabsOf a) H' d c (n + 1 + 1) ∧ K3 H H', ?_, ?_⟩
    · refine ⟨_, rfl, _, 0, rfl, rfl, _, rfl, ?_⟩
      by_cases c0 : (0 : Int) < (m : Int)
      rotate_left
      · rw [decide_eq_false c0]
        exact iteF (iteF ⟨rfl, pt15, k15⟩)
      rw [decide_eq_true c0]
      refine iteT ⟨pt15.tabs, fun f Ha x7 r7 T7 n7 l7 h7 hh7 => metN_live hh7 l7 (by decide) fun H0 told err s0 r0 htold herr => ?_⟩
      have ka := k3_ext x7
      refine ⟨_, rfl, ag, _, rfl, rowV_set (s0 _ _ (ka.lst e5)) (by omega) ⟨_, .int _⟩, .inr (.inl ⟨m, fwR_dup ry l1 hm (by omega), fun H' d' s' ed => herr a.C_BadRow "row" "index" d' _ H' mem3 s' ed fun pa Hb sa epa => ?_⟩)⟩
      clear htold herr
      refine ⟨_, rfl, sz (show 3 ≤ 100000 by decide), fun qa nqa => ?_⟩
      have ua := same_upd (o := .tup [.str "row", .int (m : Int), .bl true]) nqa
      refine neD_self (.tup (SqT.at (ua _ _ epa)) (.cons (.str _) (.cons (.int _) (.cons (.bl _) .nil)))) (.tup (SqT.at upd_same) (.cons (.str _) (.cons (.int _) (.cons (.bl _) .nil)))) shr ⟨_, rfl, iteF ?_⟩
      exact ⟨rfl, (PT2.mk (pt15.pen.ext x7) T7).same (sa.trans ua), k15.trans (ka.trans (k3_same (sa.trans ua)))⟩
    clear pt15 k15 e5
    rintro σ' H16 ⟨rfl, pt16, k16⟩
    -- far = list(range(1001))
    refine ⟨_, rfl, RgOk.of_le (by decide) (by decide) (by decide) (by decide), fun fr nfr => ?_⟩
    rw [show rgV 0 1001 = (ri 1001).map V.int from rgV_ri 1001]
    have u1 := same_upd (o := .lst ((ri 1001).map V.int)) nfr
    have e1 : (upd H16 fr (.lst ((ri 1001).map V.int))) fr = some (.lst ((ri 1001).map V.int)) := upd_same
    generalize upd H16 fr (.lst ((ri 1001).map V.int)) = H17 at u1 e1 ⊢
    have pt17 := pt16.same u1
    have k17 := k16.trans (k3_same u1)
    -- far[spot] = _law_pick(pen, [-1, None, 1001])
    refine ⟨_, rfl, 1, rfl, sz (show 3 ≤ 100000 by decide), fun l2 nl2 => ?_⟩
    have u2 := same_upd (o := .lst [.int (-1), .non, .int 1001]) nl2
    have e2 : (upd H17 l2 (.lst [.int (-1), .non, .int 1001])) l2 = some (.lst [.int (-1), .non, .int 1001]) := upd_same
    generalize upd H17 l2 (.lst [.int (-1), .non, .int 1001]) = H18 at u2 e2 ⊢
    refine ⟨d, c, l2, _, [.int (-1), .non, .int 1001], rfl, (pt17.same u2).pen, by omega, SqL.at e2, (show 0 < 3 by decide), (show 3 ≤ 100000 by decide), fun z H19 hz hp19 b19 => ?_⟩
    obtain ⟨pt19, _⟩ := (pt17.same u2).but hp19 b19
    have k89 := k3_but (pt17.same u2).pen b19
    have e19 := k89.lst (u2 _ _ e1)
    have rl : (ri 1001).length = 1001 := ri_len 1001
    refine ⟨_, rfl, _, rfl, fr, _, _, m, rfl, rfl, e19, by rw [List.length_map, rl]; exact ixN_nat (by omega) (by omega), ?_⟩
    obtain ⟨_, hd19⟩ := pt19.pen.dict
    obtain ⟨_, hc19⟩ := pt19.pen.cells
    have dn : d ≠ fr := fun w => by
      rw [w, e19] at hd19
      cases hd19
    obtain ⟨_, hc16⟩ := pt16.pen.cells
    have cn : c ≠ fr := ne_of_none hc16 nfr
    have pt20 : PT2 (tabsOf a) (upd H19 fr (.lst (((ri 1001).map V.int).set m z))) d c (n + 1 + 1 + 1) := ⟨pt19.pen.mut dn cn, tabs_lst pt19.tabs e19⟩
    have k20 : K3 H (upd H19 fr (.lst (((ri 1001).map V.int).set m z))) := k16.put nfr ((k3_same (u1.trans u2)).trans k89)
    have e20 : (upd H19 fr (.lst (((ri 1001).map V.int).set m z))) fr = some (.lst (((ri 1001).map V.int).set m z)) := upd_same
    generalize upd H19 fr (.lst (((ri 1001).map V.int).set m z)) = H20 at pt20 k20 e20 ⊢
    have zOk : (∀ H, ∃ b, IsI H z b) ∧ ∀ i, z = .int i → ¬ (0 ≤ i ∧ i < ((1001 : Nat) : Int)) := by
      simp only [List.mem_cons, List.not_mem_nil, or_false] at hz
      rcases hz with rfl | rfl | rfl
      · exact ⟨fun _ => ⟨_, .int _⟩, fun i e => by cases e; omega⟩
      · exact ⟨fun _ => ⟨_, .non⟩, fun i e => by cases e⟩
      · exact ⟨fun _ => ⟨_, .int _⟩, fun i e => by cases e; omega⟩
    clear pt16 k16 u1 e1 pt17 k17 u2 e2 hp19 b19 pt19 k89 e19 hd19 hc19 dn cn hc16 nfr nl2 hz
    -- _law_refused(lambda: runs_of_list(far)) != ("row", spot, True)
    refine ⟨pt20.tabs, fun f Ha x7 r7 T7 n7 l7 h7 hh7 => metN_live hh7 l7 (by decide) fun H0 told err s0 r0 htold herr => ?_⟩
    have ka := k3_ext x7
    refine ⟨_, rfl, fr, _, rfl, rowV_set (s0 _ _ (ka.lst e20)) (by rw [rl]; decide) (zOk.1 _), .inr (.inl ⟨m, fwR_bad 1001 rl.symm (ri_nodup _) (fun x hx => ri_mem.mp hx) (by rw [rl]; omega) zOk.2, fun H' d' s' ed => herr a.C_BadRow "row" "index" d' _ H' mem3 s' ed fun pa Hb sa epa => ?_⟩)⟩
    clear htold herr
    refine ⟨_, rfl, sz (show 3 ≤ 100000 by decide), fun qa nqa => ?_⟩
    have ua := same_upd (o := .tup [.str "row", .int (m : Int), .bl true]) nqa
    refine neD_self (.tup (SqT.at (ua _ _ epa)) (.cons (.str _) (.cons (.int _) (.cons (.bl _) .nil)))) (.tup (SqT.at upd_same) (.cons (.str _) (.cons (.int _) (.cons (.bl _) .nil)))) shr ⟨_, rfl, iteF ?_⟩
    exact q _ (((PT2.mk (pt20.pen.ext x7) T7).same (sa.trans ua)).up (by omega)) (k20.trans (ka.trans (k3_same (sa.trans ua))))
end

/-! ### a word's rearrangement as a list, place by place -/
theorem ro_src (xs : List Int) (x y : Nat) (c : Int) (hxy : x ≤ y) (hy : y < xs.length) {j : Nat} (hj : j < xs.length) : (roF xs x y c)[j]? = xs[(rollM (x : Int) (y : Int) c (j : Int)).toNat]? := by
  unfold roF
  have bl : ((xs.drop x).take (y + 1 - x)).length = y + 1 - x := by
    rw [List.length_take, List.length_drop]
    omega
  simp only [bl]
  generalize hL : y + 1 - x = L
  have L0 : 0 < (L : Int) := by omega
  have f0 := Int.fmod_nonneg_of_pos c L0
  have f1 := Int.fmod_lt_of_pos c L0
  have fe : Int.fmod c (L : Int) = c % (L : Int) := Int.fmod_eq_emod_of_nonneg _ (by omega)
  have dv := Int.emod_add_mul_ediv c (L : Int)
  rw [← fe] at dv
  generalize c / (L : Int) = qq at dv
  generalize Int.fmod c (L : Int) = f at f0 f1 dv
  have er : x ≤ j → j ≤ y → rollM (x : Int) (y : Int) c (j : Int) = if (j : Int) - x < f then (j : Int) - f + L else (j : Int) - f := fun h1 h2 => by
    unfold rollM
    rw [if_pos ⟨by omega, by omega⟩, show (y : Int) - x + 1 = (L : Int) by omega, Int.fmod_eq_emod_of_nonneg _ (by omega)]
    by_cases d : (j : Int) - x < f
    · rw [if_pos d, show (j : Int) - x - c = ((j : Int) - x - f + L) + (L : Int) * (-qq - 1) by
        rw [Int.mul_sub, Int.mul_neg, Int.mul_one]
        omega, Int.add_mul_emod_self_left, Int.emod_eq_of_lt (by omega) (by omega)]
      omega
    · rw [if_neg d, show (j : Int) - x - c = ((j : Int) - x - f) + (L : Int) * (-qq) by
        rw [Int.mul_neg]
        omega, Int.add_mul_emod_self_left, Int.emod_eq_of_lt (by omega) (by omega)]
      omega
  by_cases c1 : x ≤ j ∧ j ≤ y
  · rw [er c1.1 c1.2]
    simp only [List.getElem?_append, List.length_append, List.length_take, List.length_drop, List.getElem?_take, List.getElem?_drop]
    repeat' split
    all_goals first | rfl | (congr 1; omega) | (exfalso; omega)
  · have e : rollM (x : Int) (y : Int) c (j : Int) = (j : Int) := if_neg fun h => c1 ⟨by omega, by omega⟩
    rw [e]
    simp only [List.getElem?_append, List.length_append, List.length_take, List.length_drop, List.getElem?_take, List.getElem?_drop]
    repeat' split
    all_goals first | rfl | (congr 1; omega) | (exfalso; omega)
theorem ex_src (xs : List Int) {x y : Nat} (hx : x < xs.length) (hy : y < xs.length) {j : Nat} (hj : j < xs.length) : (exF xs x y)[j]? = xs[(exchM (x : Int) (y : Int) (j : Int)).toNat]? := by
  unfold exF exchM
  rw [getD_get hx, getD_get hy, List.getElem?_set, List.getElem?_set, List.length_set]
  by_cases c1 : y = j
  · rw [if_pos c1, if_pos hy]
    by_cases c2 : (j : Int) = x
    · have : x = j := by omega
      subst this
      rw [if_pos rfl]
      subst c1
      rw [Int.toNat_natCast, List.getElem?_eq_getElem hx]
    · rw [if_neg c2, if_pos (by omega), Int.toNat_natCast, List.getElem?_eq_getElem hx]
  · rw [if_neg c1]
    by_cases c2 : x = j
    · rw [if_pos c2, if_pos hx, if_pos (by omega), Int.toNat_natCast, List.getElem?_eq_getElem hy]
    · rw [if_neg c2, if_neg (by omega), if_neg (by omega), Int.toNat_natCast]
theorem mv_src (m : Mv) (xs : List Int) {j : Nat} (hj : j < xs.length) : (mvF m xs)[j]? = xs[(srcM m xs.length (j : Int)).toNat]? := by
  cases m with
  | turn =>
    show xs.reverse[j]? = xs[((xs.length : Int) - 1 - (j : Int)).toNat]?
    rw [List.getElem?_reverse hj]
    congr 1
    omega
  | exch x y =>
    show (if inB (plV x xs.length) xs.length && inB (plV y xs.length) xs.length then exF xs (plV x xs.length).toNat (plV y xs.length).toNat else xs)[j]? = xs[(exG xs.length (plV x xs.length) (plV y xs.length) (j : Int)).toNat]?
    generalize plV x xs.length = X
    generalize plV y xs.length = Y
    unfold exG inB
    by_cases c : 0 ≤ X ∧ X < (xs.length : Int) ∧ 0 ≤ Y ∧ Y < (xs.length : Int)
    · rw [if_pos (by simp [c]), if_pos c, ex_src xs (by omega) (by omega) hj]
      rw [show ((X.toNat : Nat) : Int) = X by omega, show ((Y.toNat : Nat) : Int) = Y by omega]
    · rw [if_neg (by simp; omega), if_neg c, Int.toNat_natCast]
  | roll x y c =>
    show (if inB (plV x xs.length) xs.length && inB (plV y xs.length) xs.length && decide (plV x xs.length ≤ plV y xs.length) then roF xs (plV x xs.length).toNat (plV y xs.length).toNat (amV c ((plV y xs.length).toNat + 1 - (plV x xs.length).toNat : Nat)) else xs)[j]? = xs[(roG xs.length (plV x xs.length) (plV y xs.length) (amV c (plV y xs.length - plV x xs.length + 1)) (j : Int)).toNat]?
    generalize plV x xs.length = X
    generalize plV y xs.length = Y
    unfold inB
    by_cases c0 : 0 ≤ X ∧ Y < (xs.length : Int) ∧ X ≤ Y
    · rw [if_pos (by simp; omega), show (((Y.toNat + 1 - X.toNat : Nat)) : Int) = Y - X + 1 by omega]
      generalize amV c (Y - X + 1) = b
      rw [ro_src xs X.toNat Y.toNat b (by omega) (by omega) hj, show ((X.toNat : Nat) : Int) = X by omega, show ((Y.toNat : Nat) : Int) = Y by omega]
      unfold roG
      by_cases c1 : X < Y
      · rw [if_pos ⟨c0.1, c0.2.1, c1⟩]
      · have e : X = Y := by omega
        rw [if_neg (by omega)]
        unfold rollM
        by_cases d : X ≤ (j : Int) ∧ (j : Int) ≤ Y
        · rw [if_pos d, show Y - X + 1 = 1 by omega, Int.fmod_one]
          congr 2
          omega
        · rw [if_neg d]
    · unfold roG
      rw [if_neg (by simp; omega), if_neg (by omega), Int.toNat_natCast]
theorem all_src (k : Nat) : ∀ (r : List Mv) (j : Nat), j < k → (allF r.reverse (ri k))[j]? = some (fromM r.reverse (k : Int) (j : Int))
  | [], j, h => ri_get h
  | m :: r, j, h => by
    rw [List.reverse_cons, all_snoc, fromM_snoc]
    have al : (allF r.reverse (ri k)).length = k := by rw [allF_len, ri_len]
    rw [mv_src m _ (by rw [al]; exact h), al]
    obtain ⟨a, b⟩ := srcM_in (m := m) (k := (k : Int)) (j := (j : Int)) (by omega) (by omega)
    rw [all_src k r _ (by omega)]
    congr 2
    omega
theorem vals_all {k : Nat} {ms : List Mv} {fs : List Pc} (v : ∀ j, 0 ≤ j → j < (k : Int) → valP fs j = fromM ms k j) : ValIs fs (allF ms (ri k)) := fun j h => by
  have hk : j < k := by
    rw [allF_len, ri_len] at h
    exact h
  have e := all_src k ms.reverse j hk
  rw [List.reverse_reverse] at e
  rw [v _ (by omega) (by omega)]
  rw [List.getElem?_eq_getElem h] at e
  exact (Option.some.inj e).symm

section
variable {P : Program} {w : World} {K : PySem.W.Frag} {mg : Str → Option Value} {base : Heap} {a : Ad}
end

theorem row_snoc {rs : List Int} (hr : IsRow rs) : IsRow (rs ++ [(rs.length : Int)]) := by
  refine isRow_mk ?_ ?_
  · rw [List.nodup_append]
    refine ⟨hr.nodup, by simp, ?_⟩
    intro x hx y hy e
    have := hr.mem.mp hx
    rw [List.mem_singleton] at hy
    omega
  · intro x hx
    rw [List.length_append]
    rcases List.mem_append.mp hx with h | h
    · have := hr.mem.mp h
      simp
      omega
    · rw [List.mem_singleton] at h
      subst h
      simp
      omega
def odd27 : List V := [.int 0, .int (-1), .non, .bl true, .str "4", .int (10 ^ (30 : Int).toNat + 1), .int (-(10 ^ (40 : Int).toNat))]
theorem odd27_ok {y : V} (h : y ∈ odd27) : (∃ ib, ∀ H, IsI H y ib) ∧ btM 1 (10 ^ 30) y = false ∧ ∃ D, Leaf y D := by
  simp only [odd27, List.mem_cons, List.not_mem_nil, or_false] at h
  rcases h with rfl | rfl | rfl | rfl | rfl | rfl | rfl
  · exact ⟨⟨_, fun _ => .int _⟩, by decide +kernel, _, leaf_int _⟩
  · exact ⟨⟨_, fun _ => .int _⟩, by decide +kernel, _, leaf_int _⟩
  · exact ⟨⟨_, fun _ => .non⟩, rfl, _, leaf_non⟩
  · exact ⟨⟨_, fun _ => .bl _⟩, rfl, _, leaf_bl _⟩
  · exact ⟨⟨_, fun _ => .str _⟩, rfl, _, leaf_str (by decide +kernel)⟩
  · exact ⟨⟨_, fun _ => .int _⟩, by decide +kernel, _, leaf_int _⟩
  · exact ⟨⟨_, fun _ => .int _⟩, by decide +kernel, _, leaf_int _⟩
def pl27 (k : Int) : List V := [.int (-1), .int k, .non, .bl true, .str "0", .int (k + 10 ^ (30 : Int).toNat)]
theorem pl27_ok {k : Int} (hk : 1 ≤ k) {y : V} (h : y ∈ pl27 k) : (∃ ib, ∀ H, IsI H y ib) ∧ btM 0 (k - 1) y = false ∧ ∃ D, Leaf y D := by
  have bi : ∀ i : Int, i < 0 ∨ k ≤ i → btM 0 (k - 1) (.int i) = false := fun i hi => by
    simp only [btM, Bool.and_eq_false_iff, decide_eq_false_iff_not]
    omega
  have p30 : (0 : Int) ≤ 10 ^ (30 : Int).toNat := by decide +kernel
  simp only [pl27, List.mem_cons, List.not_mem_nil, or_false] at h
  rcases h with rfl | rfl | rfl | rfl | rfl | rfl
  · exact ⟨⟨_, fun _ => .int _⟩, bi _ (by omega), _, leaf_int _⟩
  · exact ⟨⟨_, fun _ => .int _⟩, bi _ (by omega), _, leaf_int _⟩
  · exact ⟨⟨_, fun _ => .non⟩, rfl, _, leaf_non⟩
  · exact ⟨⟨_, fun _ => .bl _⟩, rfl, _, leaf_bl _⟩
  · exact ⟨⟨_, fun _ => .str _⟩, rfl, _, leaf_str (by decide +kernel)⟩
  · exact ⟨⟨_, fun _ => .int _⟩, bi _ (by omega), _, leaf_int _⟩
theorem tells_eq {fs gs : List Pc} {xs ys : List Int} (hf : Rea xs.length fs) (hg : Rea ys.length gs) (nf : NFl fs) (ng : NFl gs) (vf : ValIs fs xs) (vg : ValIs gs ys) : decide (fs = gs) = decide (xs = ys) := by
  refine decide_eq_decide.mpr ⟨fun e => ?_, fun e => ?_⟩
  · subst e
    have l : xs.length = ys.length := by
      have h1 := chain_sum hf.ch
      have h2 := chain_sum hg.ch
      omega
    refine List.ext_getElem l fun j h1 h2 => ?_
    rw [← vf j h1, ← vg j h2]
  · subst e
    exact hf.uniq hg nf ng fun j j0 j1 => by
      have h1 := vf j.toNat (by omega)
      have h2 := vg j.toNat (by omega)
      rw [show ((j.toNat : Nat) : Int) = j by omega] at h1 h2
      rw [h1, h2]
section
variable {P : Program} {w : World} {K : PySem.W.Frag} {mg : Str → Option Value} {base : Heap} {a : Ad}
def spLaw (K : PySem.W.Frag) (TT : List (Addr × Str)) : Sp := fun vs H Q _ => ∃ (s : Addr) (ns : List Int), vs = [.ref s] ∧ SqL K H s (ns.map V.int) ∧ ns.length ≤ 63 ∧ LamX.Tabs TT H ∧ ∀ H', Q (.bl true) H'
theorem ok_law (T : Tx w K mg a) (B : Tb base mg a) : FnOk P w K mg base CX0 12 a.f_law a.d_law ["script"] (spLaw K (tabsOf a)) := by
  refine T.L_law.ok T.b_law sc_law (fun vs H Q E h => ?_) (fun A outer s H vs Q E hr h => ?_)
  · obtain ⟨x, ns, rfl, _⟩ := h
    rfl
  · obtain ⟨x, ns, rfl, hS, hlen, hTb, q⟩ := h
    refine ⟨_, 
(pss_cons (ps_set (i := 1) sc_law.nd rfl (.inl rfl) (pe_call (ok__law_pen T) (hr.mono (by decide)) (by rfl) T.m__law_pen T.F__law_pen.kp T.b__law_pen .nil pass0 (pa_cons (pv 0) pa_nil)))
  (pss_cons (ps_for PassesOwn.never rfl (pi_range1 (by rfl) T.z_range (pa_cons pe_int pa_nil)) (pg_name (i := 2) sc_law.nd rfl (.inl rfl))
  (pss_cons (ps_par (i := 3) (j := 4) (by rfl) sc_law.nd rfl rfl (by decide) rfl rfl (pa_cons (pe_call (ok__law_moves T) (hr.mono (by decide)) (by rfl) T.m__law_moves T.F__law_moves.kp T.b__law_moves .nil pass0 (pa_cons (pv 1) pa_nil)) (pa_cons (pe_op op_add pe_int (pe_call (ok__law_draw T) (hr.mono (by decide)) (by rfl) T.m__law_draw T.F__law_draw.kp T.b__law_draw .nil pass0 (pa_cons (pv 1) (pa_cons pe_int pa_nil)))) pa_nil)) (by rfl))
  (pss_cons (ps_asg (pe_tup (pa_cons (pe_call (ok__law_all_moved T) (hr.mono (by decide)) (by rfl) T.m__law_all_moved T.F__law_all_moved.kp T.b__law_all_moved .nil pass0 (pa_cons (pe_listRg rfl (by rfl) T.z_list (prg_1 (by rfl) T.z_range (pv 4))) (pa_cons (pv 3) pa_nil))) (pa_cons (pe_make T.mk_Word (ok_Word_init T) (hr.mono (by decide)) (by rfl) T.c_Word T.b_Word_init .nil pass0 (pa_cons (pe_call (ok__law_word_text T) (hr.mono (by decide)) (by rfl) T.m__law_word_text T.F__law_word_text.kp T.b__law_word_text .nil pass0 (pa_cons (pv 3) pa_nil)) pa_nil)) pa_nil))) (pg_tup rfl (pgs_cons (pg_name (i := 5) sc_law.nd rfl (.inl rfl)) (pgs_cons (pg_name (i := 11) sc_law.nd rfl (.inr rfl)) pgs_nil))))
  (pss_cons (ps_set (i := 10) sc_law.nd rfl (.inr rfl) (pe_callS (ok_runs_of T) (hr.mono (by decide)) (by rfl) T.m_runs_of T.F_runs_of.kp T.b_runs_of (fun σ => passAt takes0 σ) (pa_cons (pv 11) (pa_cons (pv 4) pa_nil))))
  (pss_cons (ps_if (PW.pt (pw_or (pt_not (pt_val (pe_call (ok__law_is_told T) (hr.mono (by decide)) (by rfl) T.m__law_is_told T.F__law_is_told.kp T.b__law_is_told .nil pass0 (pa_cons (pv 10) (pa_cons (pv 5) pa_nil))))) (pw_or (pt_not (pt_cmpR (op_eq_own2 (ok_Runs_eq T) (hr.mono (by decide)) T.ow_Runs.eq T.ow_Runs.fn T.b_Runs_eq) (pv 10) (pe_callS (ok_runs_of_list T) (hr.mono (by decide)) (by rfl) T.m_runs_of_list T.F_runs_of_list.kp T.b_runs_of_list (fun σ => passAt takes0 σ) (pa_cons (pv 5) pa_nil)) (nomark _))) (pw_or (pt_cmpR (op_eq_own2 (ok_Runs_eq T) (hr.mono (by decide)) T.ow_Runs.eq T.ow_Runs.fn T.b_Runs_eq) (pv 10) (pv 5) (nomark _)) (pw_or1 (pt_cmpR (op_ne_own2 (ok_Runs_eq T) (hr.mono (by decide)) T.ow_Runs.eq T.ow2_Runs.ne T.ow_Runs.mro T.ow_Runs.fn T.b_Runs_eq) (pv 10) (pe_callS (ok_runs_of T) (hr.mono (by decide)) (by rfl) T.m_runs_of T.F_runs_of.kp T.b_runs_of (fun σ => passAt takes0 σ) (pa_cons (pv 11) (pa_cons (pv 4) pa_nil))) (nomark _)))))))
  (pss_one (ps_ret pe_bl))
  pss_nil)
  (pss_cons (ps_set (i := 6) sc_law.nd rfl (.inl rfl) (pe_call (ok__law_blocks T) (hr.mono (by decide)) (by rfl) T.m__law_blocks T.F__law_blocks.kp T.b__law_blocks .nil pass0 (pa_cons (pv 1) (pa_cons (pe_op op_add pe_int (pe_call (ok__law_draw T) (hr.mono (by decide)) (by rfl) T.m__law_draw T.F__law_draw.kp T.b__law_draw .nil pass0 (pa_cons (pv 1) (pa_cons pe_int pa_nil)))) pa_nil))))
  (pss_cons (ps_if (PW.pt (pw_or (pt_not (pt_val (pe_call (ok__law_is_told T) (hr.mono (by decide)) (by rfl) T.m__law_is_told T.F__law_is_told.kp T.b__law_is_told .nil pass0 (pa_cons (pe_callS (ok_runs_of_list T) (hr.mono (by decide)) (by rfl) T.m_runs_of_list T.F_runs_of_list.kp T.b_runs_of_list (fun σ => passAt takes0 σ) (pa_cons (pe_callTy call_tuple_of (by rfl) T.z_tuple (by decide +kernel) (pa_cons (pv 6) pa_nil)) pa_nil)) (pa_cons (pv 6) pa_nil))))) (pw_or1 (pt_not (pt_val (pe_call (ok__law_is_told T) (hr.mono (by decide)) (by rfl) T.m__law_is_told T.F__law_is_told.kp T.b__law_is_told .nil pass0 (pa_cons (pe_callS (ok_nothing_runs T) (hr.mono (by decide)) (by rfl) T.m_nothing_runs T.F_nothing_runs.kp T.b_nothing_runs (fun σ => passAt takes0 σ) (pa_cons (pv 4) pa_nil)) (pa_cons (pe_listRg rfl (by rfl) T.z_list (prg_1 (by rfl) T.z_range (pv 4))) pa_nil))))))))
  (pss_one (ps_ret pe_bl))
  pss_nil)
  (pss_cons (ps_if (pt_not (pt_val (pe_call (ok__law_is_told T) (hr.mono (by decide)) (by rfl) T.m__law_is_told T.F__law_is_told.kp T.b__law_is_told .nil pass0 (pa_cons (pe_call (ok_wider_runs T) (hr.mono (by decide)) (by rfl) T.m_wider_runs T.F_wider_runs.kp T.b_wider_runs .nil pass0 (pa_cons (pe_callS (ok_runs_of_list T) (hr.mono (by decide)) (by rfl) T.m_runs_of_list T.F_runs_of_list.kp T.b_runs_of_list (fun σ => passAt takes0 σ) (pa_cons (pv 6) pa_nil)) pa_nil)) (pa_cons (pe_op op_cat (pv 6) (pe_lst (pa_cons (pe_callB call_len_seq (by rfl) T.z_len PySem.boot_len (pa_cons (pv 6) pa_nil)) pa_nil))) pa_nil)))))
  (pss_one (ps_ret pe_bl))
  pss_nil)
  (pss_cons (ps_if (pt_cmpR op_ne (pe_cmpR (op_eq_own2 (ok_Runs_eq T) (hr.mono (by decide)) T.ow_Runs.eq T.ow_Runs.fn T.b_Runs_eq) (pe_callS (ok_runs_of_list T) (hr.mono (by decide)) (by rfl) T.m_runs_of_list T.F_runs_of_list.kp T.b_runs_of_list (fun σ => passAt takes0 σ) (pa_cons (pv 6) pa_nil)) (pv 10) (nomark _)) (pe_cmpR (op_eqD hr.units) (pv 6) (pv 5) (nomark _)) (nomark _))
  (pss_one (ps_ret pe_bl))
  pss_nil)
  (pss_cons (ps_set (i := 8) sc_law.nd rfl (.inr rfl) (pe_call (ok__law_pick T) (hr.mono (by decide)) (by rfl) T.m__law_pick T.F__law_pick.kp T.b__law_pick .nil pass0 (pa_cons (pv 1) (pa_cons (pe_lst (pa_cons pe_int (pa_cons (pe_un un_neg pe_int) (pa_cons pe_non (pa_cons pe_bl (pa_cons pe_str (pa_cons (pe_op op_add (pe_op op_pow pe_int pe_int) pe_int) (pa_cons (pe_un un_neg (pe_op op_pow pe_int pe_int)) pa_nil)))))))) pa_nil))))
  (pss_cons (ps_if (pt_cmpR (op_neD hr.units) (pe_callH (ok__law_refused (P := P) (base := base) T) (hr.mono (by decide)) (by rfl) T.m__law_refused T.F__law_refused.kp T.b__law_refused (pa_cons (pe_lam (k := 8) (T := tabsOf a) B.tb_law rfl (.tail _ (.head _)) B.hu_law rfl ⟨LamX.lamS_by (sc := defScope s_law) (by decide +kernel), fun _ _ _ _ _ => rfl, fun A outer s H E f c hr => (pe_callS (ok_runs_of T) hr (by rfl) T.m_runs_of T.F_runs_of.kp T.b_runs_of (fun σ => passAt (takes_of rfl rfl rfl rfl) σ) (pa_cons (pv 11) (pa_cons (pv 8) pa_nil)))⟩) pa_nil)) (pe_tup (pa_cons pe_str (pa_cons (pv 8) (pa_cons pe_bl pa_nil)))) (nomark _))
  (pss_one (ps_ret pe_bl))
  pss_nil)
  (pss_cons (ps_if (pt_cmpR (op_neD hr.units) (pe_callH (ok__law_refused (P := P) (base := base) T) (hr.mono (by decide)) (by rfl) T.m__law_refused T.F__law_refused.kp T.b__law_refused (pa_cons (pe_lam (k := 5) (T := tabsOf a) B.tb_law rfl (.tail _ (.head _)) B.hu_law rfl ⟨LamX.lamS_by (sc := defScope s_law) (by decide +kernel), fun _ _ _ _ _ => rfl, fun A outer s H E f c hr => (pe_callS (ok_nothing_runs T) hr (by rfl) T.m_nothing_runs T.F_nothing_runs.kp T.b_nothing_runs (fun σ => passAt (takes_of rfl rfl rfl rfl) σ) (pa_cons (pv 8) pa_nil))⟩) pa_nil)) (pe_tup (pa_cons pe_str (pa_cons (pv 8) (pa_cons pe_bl pa_nil)))) (nomark _))
  (pss_one (ps_ret pe_bl))
  pss_nil)
  (pss_cons (ps_set (i := 9) sc_law.nd rfl (.inr rfl) (pe_call (ok__law_pick T) (hr.mono (by decide)) (by rfl) T.m__law_pick T.F__law_pick.kp T.b__law_pick .nil pass0 (pa_cons (pv 1) (pa_cons (pe_lst (pa_cons (pe_un un_neg pe_int) (pa_cons (pv 4) (pa_cons pe_non (pa_cons pe_bl (pa_cons pe_str (pa_cons (pe_op op_add (pv 4) (pe_op op_pow pe_int pe_int)) pa_nil))))))) pa_nil))))
  (pss_cons (ps_if (pt_cmpR (op_neD hr.units) (pe_callH (ok__law_refused (P := P) (base := base) T) (hr.mono (by decide)) (by rfl) T.m__law_refused T.F__law_refused.kp T.b__law_refused (pa_cons (pe_lam (k := 4) (T := tabsOf a) B.tb_law rfl (.tail _ (.head _)) B.hu_law rfl ⟨LamX.lamS_by (sc := defScope s_law) (by decide +kernel), fun _ _ _ _ _ => rfl, fun A outer s H E f c hr => (pe_methS (pv 10) T.cl_Runs T.me_Runs_at (ok_Runs_at T) (hr.mono (by decide)) T.b_Runs_at (takes_of rfl rfl rfl rfl) (pa_cons (pv 9) pa_nil))⟩) pa_nil)) (pe_tup (pa_cons pe_str (pa_cons (pv 9) (pa_cons pe_bl pa_nil)))) (nomark _))
  (pss_one (ps_ret pe_bl))
  pss_nil)
  (pss_cons (ps_if (pt_not (pt_val (pe_call (ok__law_lists_refused (P := P) (base := base) T B) hr (by rfl) T.m__law_lists_refused T.F__law_lists_refused.kp T.b__law_lists_refused .nil pass0 (pa_cons (pv 1) (pa_cons (pv 6) pa_nil)))))
  (pss_one (ps_ret pe_bl))
  pss_nil)
  (pss_cons (ps_set (i := 7) sc_law.nd rfl (.inr rfl) (pe_revL (pe_listRg rfl (by rfl) T.z_list (prg_1 (by rfl) T.z_range (pe_op op_add pe_int (pv 2))))))
  (pss_one (ps_if (pt_cmpR (op_neD hr.units) (pe_callH (ok__law_refused (P := P) (base := base) T) (hr.mono (by decide)) (by rfl) T.m__law_refused T.F__law_refused.kp T.b__law_refused (pa_cons (pe_lam (k := 5) (T := tabsOf a) B.tb_law rfl (.tail _ (.head _)) B.hu_law rfl ⟨LamX.lamS_by (sc := defScope s_law) (by decide +kernel), fun _ _ _ _ _ => rfl, fun A outer s H E f c hr => (pe_callS (ok_runs_of_list T) hr (by rfl) T.m_runs_of_list T.F_runs_of_list.kp T.b_runs_of_list (fun σ => passAt (takes_of rfl rfl rfl rfl) σ) (pa_cons (pv 7) pa_nil))⟩) pa_nil)) (pe_ifExp (pt_cmpR op_eq (pv 2) pe_int (nomark _)) pe_non (pe_tup (pa_cons pe_str (pa_cons (pe_op op_add pe_int (pv 2)) (pa_cons pe_bl pa_nil))))) (nomark _))
  (pss_one (ps_ret pe_bl))
  pss_nil))))))))))))))))))
  (pss_one (ps_ret pe_bl)))), ?_⟩
    refine ⟨.ref x, rfl, x, ns, rfl, hS, hlen, fun d c H1 hdn hcn hp s1 => ?_⟩
    have hT1 := hTb.ext s1
    refine ⟨3, rfl, by decide, by decide, ?_⟩
    refine for_range (lo := 0) (n := 3) (fun i σ H2 => (∃ y2 y3 y4 y5 y6 y7 y8 y9 y10 y11 : Option V, σ = [some (.ref x), some (.ref d), y2, y3, y4, y5, y6, y7, y8, y9, y10, y11]) ∧ PT2 (tabsOf a) H2 d c (i * 1000)) ?_ ?_ ?_
    · exact ⟨⟨none, none, none, none, none, none, none, none, none, none, rfl⟩, hp, hT1⟩
    · rintro i σ H2 hi ⟨⟨y2, y3, y4, y5, y6, y7, y8, y9, y10, y11, rfl⟩, pt2⟩
      -- moves, k = _law_moves(pen), 1 + _law_draw(pen, 60)
      refine ⟨_, rfl, d, c, _, rfl, pt2.pen, by omega, fun one ps1 ms1 H3 hw1 no1 eo1 hh1 hps1 hp3 b3 => ?_⟩
      obtain ⟨pt3, _⟩ := pt2.but hp3 b3
      refine ⟨_, rfl, d, c, _, 60, rfl, pt3.pen, by omega, by decide, by decide, fun v4 H4 u0 u1 hp4 b4 => ⟨1, v4, rfl, rfl, ?_⟩⟩
      obtain ⟨k, em, k1, k60⟩ : ∃ k : Nat, 1 + v4 = (k : Int) ∧ 1 ≤ k ∧ k ≤ 60 := ⟨(1 + v4).toNat, by omega, by omega, by omega⟩
      refine ⟨.ref one, .int (k : Int), by show [V.ref one, V.int (1 + v4)] = _; rw [em], ?_⟩
      obtain ⟨pt4, _⟩ := pt3.but hp4 b4
      obtain ⟨_, hd3⟩ := hp3.dict
      have eo4 := b4.list hd3 eo1
      have hh4 : HeldL H4 ps1 ms1 := HeldL.mono (fun p _ m _ e => b4.list hd3 e) hh1
      have l41 := hw1.l4
      clear pt2 hp3 b3 pt3 hp4 b4 hd3 eo1 hh1 hps1 no1
      -- row, word = _law_all_moved(list(range(k)), moves), Word(_law_word_text(moves))
      refine ⟨_, rfl, _, rfl, RgOk.of_le (by decide) (by omega) (by decide) (by omega), fun l nl => ?_⟩
      rw [rgV_ri]
      have u1 := same_upd (o := .lst ((ri k).map V.int)) nl
      have el : (upd H4 l (.lst ((ri k).map V.int))) l = some (.lst ((ri k).map V.int)) := upd_same
      generalize upd H4 l (.lst ((ri k).map V.int)) = H5 at u1 el ⊢
      refine ⟨_, rfl, l, one, ps1, ms1, ri k, rfl, SqL.at el, SqL.at (u1 _ _ eo4), hh4.same u1, hw1.ok, by rw [ri_len]; omega, fun r H6 nr er u2 => ?_⟩
      have u12 := u1.trans u2
      refine ⟨_, rfl, one, ps1, ms1, rfl, SqL.at (u12 _ _ eo4), hh4.same u12, l41, hw1.ok, fun H7 s7 => ?_⟩
      refine fun pw dx npw ndx nwx => ?_
      refine ⟨pw, dx, ms1, rfl, upd_same, hw1, wtext_len hw1, fun H8 hW8 k8 => ⟨rfl, ?_⟩⟩
      have s78 : Same H7 H8 := fun b u e => k8 b u (by
        rw [upd_ne (ne_of_none e npw), upd_ne (ne_of_none e ndx)]
        exact e) (ne_of_none e npw)
      have u18 := u12.trans (s7.trans s78)
      have pt8 := pt4.same u18
      have er8 := s78 _ _ (s7 _ _ er)
      refine ⟨sz (show 2 ≤ 100000 by decide), fun tt ntt => ⟨tt, [.ref r, .ref pw], rfl, SqT.at upd_same, rfl, .ref r, [.ref pw], rfl, .ref pw, [], rfl, rfl, ?_⟩⟩
      have s9 := same_upd (o := .tup [.ref r, .ref pw]) ntt
      generalize upd H8 tt (.tup [.ref r, .ref pw]) = H9 at s9 ⊢
      have pt9 := pt8.same s9
      have er9 := s9 _ _ er8
      have hW9 := hW8.same s9
      clear pt4 pt8 er8 hW8 s9 u18 s78 s7 k8 u12 u2 u1 el eo4 hh4 er npw ndx nwx nr nl ntt
      -- told = runs_of(word, k)
      have kz1 : (1 : Int) ≤ (k : Int) := by omega
      have kz2 : (k : Int) ≤ 10 ^ 30 := by omega
      refine ⟨_, rfl, _, rfl, pw, ms1, .int (k : Int), true, rfl, hW9, hw1.ok, by omega, .int _, .inl ⟨(k : Int), rfl, kz1, kz2, fun f H10 fs hF reF nfF lnF vF s10 => ?_⟩⟩
      have rowR := all_row ms1 k
      have vi := vals_all vF
      have Rl : (allF ms1 (ri k)).length = k := by rw [allF_len, ri_len]
      generalize allF ms1 (ri k) = R at er9 rowR vi Rl
      have reF' : Rea R.length fs := by rw [Rl]; exact reF
      have er10 := s10 _ _ er9
      have hW10 := hW9.same s10
      have pt10 := pt9.same s10
      clear er9 hW9 pt9 s10
      -- not _law_is_told(told, row)
      refine ⟨_, rfl, _, rfl, f, r, R, fs, rfl, ⟨by rw [Rl]; exact hF, reF', nfF, by omega, vi⟩, SqL.at er10, rowR, by omega, fun H11 s11 => ⟨_, rfl, iteF ?_⟩⟩
      -- not told == runs_of_list(row)
      refine ⟨_, rfl, _, rfl, r, _, rfl, rowV_ints (.inl (SqL.at (s11 _ _ er10))) (by omega), .inl ⟨R, rfl, rowR, by omega, by omega, fun g H12 gs hG reG nfG lnG vG s12 => ?_⟩⟩
      have s1012 := s11.trans s12
      refine eq_rn (hF.same s1012) hG ?_
      rw [tells_eq reF' reG nfF nfG vi vG, decide_eq_true rfl]
      refine ⟨_, rfl, iteF ?_⟩
      -- told == row
      refine ⟨_, rfl, _, rfl, eq_rl T.ow2_Runs.fsl (hF.same s1012) (s1012 _ _ er10) ⟨_, rfl, iteF ?_⟩⟩
      -- told != runs_of(word, k)
      refine ⟨_, rfl, _, rfl, _, rfl, pw, ms1, .int (k : Int), true, rfl, hW10.same s1012, hw1.ok, by omega, .int _, .inl ⟨(k : Int), rfl, kz1, kz2, fun g2 H13 gs2 hG2 reG2 nfG2 lnG2 vG2 s13 => ?_⟩⟩
      have s1013 := s1012.trans s13
      refine ne_rn (hF.same s1013) hG2 ?_
      rw [decide_eq_true (reF.uniq reG2 nfF nfG2 fun j j0 j1 => by rw [vF j j0 j1, vG2 j j0 j1])]
      refine ⟨_, rfl, iteF ?_⟩
      have pt13 := pt10.same s1013
      have er13 := s1013 _ _ er10
      have hW13 := hW10.same s1013
      have hF13 := hF.same s1013
      clear pt10 er10 hW10 hF s11 s12 s13 s1012 s1013 hG reG nfG lnG vG hG2 reG2 nfG2 lnG2 vG2
      -- blocks = _law_blocks(pen, 1 + _law_draw(pen, 24))
      refine ⟨_, rfl, _, rfl, d, c, _, 24, rfl, pt13.pen, by omega, by decide, by decide, fun v5 H14 w0 w1 hp14 b14 => ⟨1, v5, rfl, rfl, ?_⟩⟩
      obtain ⟨m, em2, m1, m24⟩ : ∃ m : Nat, 1 + v5 = (m : Int) ∧ 1 ≤ m ∧ m ≤ 24 := ⟨(1 + v5).toNat, by omega, by omega, by omega⟩
      obtain ⟨pt14, _⟩ := pt13.but hp14 b14
      refine ⟨d, c, _, m, by show [V.ref d, V.int (1 + v5)] = _; rw [em2], pt14.pen, by omega, by omega, fun bo ys H15 ry ly ey hp15 b15 => ?_⟩
      obtain ⟨pt15, _⟩ := pt14.but hp15 b15
      have k1315 := (k3_but pt13.pen b14).trans (k3_but pt14.pen b15)
      have er15 := k1315.lst er13
      have hW15 := hW13.k3 k1315
      have hF15 := hF13.k3 k1315
      subst ly
      clear pt13 hp14 b14 pt14 hp15 b15 k1315 er13 hW13 hF13
      -- not _law_is_told(runs_of_list(tuple(blocks)), blocks)
      refine ⟨_, rfl, bo, _, rfl, .inl ⟨SqL.at ey, fun tb ntb => ?_⟩⟩
      have s16 := same_upd (o := .tup (ys.map V.int)) ntb
      have et : (upd H15 tb (.tup (ys.map V.int))) tb = some (.tup (ys.map V.int)) := upd_same
      generalize upd H15 tb (.tup (ys.map V.int)) = H16 at s16 et ⊢
      refine ⟨tb, _, rfl, rowV_ints (.inr (SqT.at et)) (by omega), .inl ⟨ys, rfl, ry, m1, by omega, fun g1 H17 gs1 hG1 re1 nf1 ln1 vG1 s17 => ?_⟩⟩
      have s1517 := s16.trans s17
      refine ⟨_, rfl, g1, bo, ys, gs1, rfl, ⟨hG1, re1, nf1, by omega, vG1⟩, SqL.at (s1517 _ _ ey), ry, by omega, fun H18 s18 => ⟨_, rfl, iteF ?_⟩⟩
      -- not _law_is_told(nothing_runs(k), list(range(k)))
      refine ⟨_, rfl, .int (k : Int), true, rfl, .int _, .inl ⟨(k : Int), rfl, kz1, kz2, fun nn H19 hN s19 => ?_⟩⟩
      obtain ⟨i1, i2, i3, i4⟩ := id_rea kz1
      refine ⟨_, rfl, _, rfl, RgOk.of_le (by decide) (by omega) (by decide) (by omega), fun l nl => ?_⟩
      rw [rgV_ri]
      have s20 := same_upd (o := .lst ((ri k).map V.int)) nl
      have el : (upd H19 l (.lst ((ri k).map V.int))) l = some (.lst ((ri k).map V.int)) := upd_same
      generalize upd H19 l (.lst ((ri k).map V.int)) = H20 at s20 el ⊢
      have idl : (idP (k : Int)).length ≤ 100 := Nat.le_trans (id_ok kz1).2 (by decide)
      refine ⟨nn, l, ri k, idP (k : Int), rfl, ⟨by rw [ri_len]; exact hN.same s20, by rw [ri_len]; exact i1, i2, idl, fun j hj => ?_⟩, SqL.at el, isRow_ri k, by rw [ri_len]; omega, fun H21 s21 => ⟨_, rfl, iteF ?_⟩⟩
      · have hjk : j < k := by
          rw [ri_len] at hj
          exact hj
        rw [i4 _ (by omega) (by omega)]
        have e := ri_get hjk
        rw [List.getElem?_eq_getElem hj] at e
        exact (Option.some.inj e).symm
      have s1521 := s1517.trans (s18.trans (s19.trans (s20.trans s21)))
      have ey21 := s1521 _ _ ey
      -- not _law_is_told(wider_runs(runs_of_list(blocks)), blocks + [len(blocks)])
      refine ⟨_, rfl, bo, _, rfl, rowV_ints (.inl (SqL.at ey21)) (by omega), .inl ⟨ys, rfl, ry, m1, by omega, fun g3 H22 gs3 hG3 re3 nf3 ln3 vG3 s22 => ?_⟩⟩
      refine ⟨g3, _, gs3, rfl, hG3, re3, by omega, fun wr H23 ws hWr reW nfW lnW vW1 vW2 s23 => ?_⟩
      have ey23 := s23 _ _ (s22 _ _ ey21)
      refine ⟨_, rfl, _, rfl, bo, _, rfl, .inl (SqL.at ey23), sz (show 1 ≤ 100000 by decide), fun o1 no1 => ?_⟩
      rw [List.length_map]
      have s24 := same_upd (o := .lst [.int (ys.length : Int)]) no1
      have e24 : (upd H23 o1 (.lst [.int (ys.length : Int)])) o1 = some (.lst [.int (ys.length : Int)]) := upd_same
      generalize upd H23 o1 (.lst [.int (ys.length : Int)]) = H24 at s24 e24 ⊢
      refine ⟨bo, o1, _, _, rfl, rfl, s24 _ _ ey23, e24, sz (by rw [List.length_map]; show _ + 1 ≤ _; omega), fun o2 no2 => ?_⟩
      have s25 := same_upd (o := .lst (ys.map V.int ++ [.int (ys.length : Int)])) no2
      have e25 : (upd H24 o2 (.lst (ys.map V.int ++ [.int (ys.length : Int)]))) o2 = some (.lst ((ys ++ [(ys.length : Int)]).map V.int)) := by
        rw [upd_same, List.map_append]
        rfl
      generalize upd H24 o2 (.lst (ys.map V.int ++ [.int (ys.length : Int)])) = H25 at s25 e25 ⊢
      have wl : (ys ++ [(ys.length : Int)]).length = ys.length + 1 := by rw [List.length_append]; rfl
      have wi : (((ys ++ [(ys.length : Int)]).length : Nat) : Int) = (ys.length : Int) + 1 := by omega
      refine ⟨wr, o2, ys ++ [(ys.length : Int)], ws, rfl, ⟨by rw [wi]; exact (hWr.same s24).same s25, by rw [wi]; exact reW, nfW, by omega, fun j hj => ?_⟩, SqL.at e25, row_snoc ry, by omega, fun H26 s26 => ⟨_, rfl, iteF ?_⟩⟩
      · rcases Nat.lt_or_ge j ys.length with h | h
        · rw [vW1 _ (by omega) (by omega), vG3 j h, List.getElem_append_left h]
        · have : j = ys.length := by omega
          subst this
          rw [vW2, List.getElem_append_right (Nat.le_refl _)]
          simp
      have s1526 := s1521.trans (s22.trans (s23.trans (s24.trans (s25.trans s26))))
      have pt26 := pt15.same s1526
      have ey26 := s1526 _ _ ey
      have er26 := s1526 _ _ er15
      have hW26 := hW15.same s1526
      have hF26 := hF15.same s1526
      clear ey er15 hW15 hF15 s16 et hG1 re1 nf1 ln1 vG1 s17 s1517 s18 hN s19 i1 i2 i3 i4 s20 el idl s21 s1521 ey21 hG3 re3 nf3 ln3 vG3 s22 s23 ey23 s24 e24 s25 e25 hWr reW nfW lnW vW1 vW2 s26 s1526 pt15 ntb nl no1 no2 wl wi
      -- (runs_of_list(blocks) == told) != (blocks == row)
      refine ⟨_, rfl, bo, _, rfl, rowV_ints (.inl (SqL.at ey26)) (by omega), .inl ⟨ys, rfl, ry, m1, by omega, fun g3 H27 gs3 hG3 re3 nf3 ln3 vG3 s27 => ?_⟩⟩
      refine ⟨_, rfl, eq_rn hG3 (hF26.same s27) ?_⟩
      rw [tells_eq re3 reF' nf3 nfF vG3 vi]
      refine ⟨_, rfl, _, rfl, _, _, dp_ints (SqL.at (s27 _ _ ey26)), dp_ints (SqL.at (s27 _ _ er26)), shaped_ints, shaped_ints, ?_⟩
      rw [eqv_ints]
      refine ⟨rfl, _, rfl, ?_⟩
      rw [decide_eq_true rfl]
      refine iteF ?_
      have pt27 := pt26.same s27
      have ey27 := s27 _ _ ey26
      have hW27 := hW26.same s27
      have hF27 := hF26.same s27
      clear pt26 ey26 er26 hW26 hF26 s27 hG3 re3 nf3 ln3 vG3
      have mem1 : (a.C_BadSize, Str.ofString "size", Str.ofString "size") ∈ rsN a := List.mem_cons_self
      have mem2 : (a.C_BadPlace, Str.ofString "place", Str.ofString "place") ∈ rsN a := List.mem_cons_of_mem _ List.mem_cons_self
      have fl100 : fs.length ≤ 100 := by omega
      -- odd = _law_pick(pen, [..])
      refine ⟨_, rfl, 1, rfl, 10, 30, rfl, rfl, ⟨by decide, by decide, by decide⟩, _, 1, rfl, rfl, 10, 40, rfl, rfl, ⟨by decide, by decide, by decide⟩, _, rfl, sz (show 7 ≤ 100000 by decide), fun lo nlo => ?_⟩
      have s28 := same_upd (o := .lst odd27) nlo
      refine ⟨d, c, lo, _, odd27, rfl, (pt27.same s28).pen, by omega, SqL.at upd_same, (show 0 < 7 by decide), (show 7 ≤ 100000 by decide), fun od H29 hod hp29 b29 => ?_⟩
      obtain ⟨pt29, _⟩ := (pt27.same s28).but hp29 b29
      have k29 := (k3_same s28).trans (k3_but (pt27.same s28).pen b29)
      obtain ⟨⟨ib, hI⟩, hbt, D, hD, hsh⟩ := odd27_ok hod
      have ey29 := k29.lst ey27
      have hW29 := hW27.k3 k29
      have hF29 := hF27.k3 k29
      clear pt27 s28 hp29 b29 k29 ey27 hW27 hF27 nlo
      -- _law_refused(lambda: runs_of(word, odd)) != ("size", odd, True)
      refine ⟨pt29.tabs, fun fa Ha x7 r7 T7 n7 l7 h7 hh7 => metN_live hh7 l7 (by decide) fun H0 told err s0 r0 htold herr => ?_⟩
      have ka := k3_ext x7
      refine ⟨_, rfl, _, rfl, pw, ms1, od, ib, rfl, (hW29.k3 ka).same s0, hw1.ok, by omega, hI _, .inr ⟨hbt, fun H' d' s' ed => herr a.C_BadSize "size" "size" d' od H' mem1 s' ed fun pa Hb sa epa => ?_⟩⟩
      clear htold herr
      refine ⟨_, rfl, sz (show 3 ≤ 100000 by decide), fun qa nqa => ?_⟩
      have ua := same_upd (o := .tup [.str "size", od, .bl true]) nqa
      refine neD_self (.tup (SqT.at (ua _ _ epa)) (.cons (.str _) (.cons (hD _ _) (.cons (.bl _) .nil)))) (.tup (SqT.at upd_same) (.cons (.str _) (.cons (hD _ _) (.cons (.bl _) .nil)))) (hsh "size" (by decide +kernel)) ⟨_, rfl, iteF ?_⟩
      have kb := ka.trans (k3_same (sa.trans ua))
      have pt30 := (PT2.mk (pt29.pen.ext x7) T7).same (sa.trans ua)
      generalize upd Hb qa (.tup [.str "size", od, .bl true]) = H30 at kb pt30 ⊢
      have ey30 := kb.lst ey29
      have hF30 := hF29.k3 kb
      clear x7 r7 T7 n7 l7 h7 hh7 ka sa ua epa kb pt29 ey29 hW29 hF29
      -- _law_refused(lambda: nothing_runs(odd)) != ("size", odd, True)
      refine ⟨pt30.tabs, fun fa Ha x7 r7 T7 n7 l7 h7 hh7 => metN_live hh7 l7 (by decide) fun H0 told err s0 r0 htold herr => ?_⟩
      have ka := k3_ext x7
      refine ⟨_, rfl, od, ib, rfl, hI _, .inr ⟨hbt, fun H' d' s' ed => herr a.C_BadSize "size" "size" d' od H' mem1 s' ed fun pa Hb sa epa => ?_⟩⟩
      clear htold herr
      refine ⟨_, rfl, sz (show 3 ≤ 100000 by decide), fun qa nqa => ?_⟩
      have ua := same_upd (o := .tup [.str "size", od, .bl true]) nqa
      refine neD_self (.tup (SqT.at (ua _ _ epa)) (.cons (.str _) (.cons (hD _ _) (.cons (.bl _) .nil)))) (.tup (SqT.at upd_same) (.cons (.str _) (.cons (hD _ _) (.cons (.bl _) .nil)))) (hsh "size" (by decide +kernel)) ⟨_, rfl, iteF ?_⟩
      have kb := ka.trans (k3_same (sa.trans ua))
      have pt31 := (PT2.mk (pt30.pen.ext x7) T7).same (sa.trans ua)
      generalize upd Hb qa (.tup [.str "size", od, .bl true]) = H31 at kb pt31 ⊢
      have ey31 := kb.lst ey30
      have hF31 := hF30.k3 kb
      clear x7 r7 T7 n7 l7 h7 hh7 ka sa ua epa kb pt30 ey30 hF30 hsh hD hbt hI hod
      -- place = _law_pick(pen, [-1, k, None, True, "0", k + 10 ** 30])
      refine ⟨_, rfl, 1, rfl, _, rfl, _, rfl, 10, 30, rfl, rfl, ⟨by decide, by decide, by decide⟩, _, _, rfl, rfl, sz (show 6 ≤ 100000 by decide), fun lo nlo => ?_⟩
      have s28 := same_upd (o := .lst (pl27 (k : Int))) nlo
      refine ⟨d, c, lo, _, pl27 (k : Int), rfl, (pt31.same s28).pen, by omega, SqL.at upd_same, (show 0 < 6 by decide), (show 6 ≤ 100000 by decide), fun pc H32 hpc hp32 b32 => ?_⟩
      obtain ⟨pt32, _⟩ := (pt31.same s28).but hp32 b32
      have k32 := (k3_same s28).trans (k3_but (pt31.same s28).pen b32)
      obtain ⟨⟨ib2, hI2⟩, hbt2, D2, hD2, hsh2⟩ := pl27_ok kz1 hpc
      have ey32 := k32.lst ey31
      have hF32 := hF31.k3 k32
      clear pt31 s28 hp32 b32 k32 ey31 hF31 nlo
      -- _law_refused(lambda: told.at(place)) != ("place", place, True)
      refine ⟨pt32.tabs, fun fa Ha x7 r7 T7 n7 l7 h7 hh7 => metN_live hh7 l7 (by decide) fun H0 told err s0 r0 htold herr => ?_⟩
      have ka := k3_ext x7
      have hF0 := (hF32.k3 ka).same s0
      obtain ⟨df, uf, _, _, f1, _, _, f4, _⟩ := id hF0
      refine ⟨_, rfl, f, df, uf, rfl, f1, f4, _, rfl, f, _, pc, ib2, fs, rfl, hF0, hI2 _, by omega, .inr ⟨hbt2, fun H' d' s' ed => herr a.C_BadPlace "place" "place" d' pc H' mem2 s' ed fun pa Hb sa epa => ?_⟩⟩
      clear htold herr hF0 f1 f4
      refine ⟨_, rfl, sz (show 3 ≤ 100000 by decide), fun qa nqa => ?_⟩
      have ua := same_upd (o := .tup [.str "place", pc, .bl true]) nqa
      refine neD_self (.tup (SqT.at (ua _ _ epa)) (.cons (.str _) (.cons (hD2 _ _) (.cons (.bl _) .nil)))) (.tup (SqT.at upd_same) (.cons (.str _) (.cons (hD2 _ _) (.cons (.bl _) .nil)))) (hsh2 "place" (by decide +kernel)) ⟨_, rfl, iteF ?_⟩
      have kb := ka.trans (k3_same (sa.trans ua))
      have pt33 := (PT2.mk (pt32.pen.ext x7) T7).same (sa.trans ua)
      generalize upd Hb qa (.tup [.str "place", pc, .bl true]) = H33 at kb pt33 ⊢
      have ey33 := kb.lst ey32
      clear x7 r7 T7 n7 l7 h7 hh7 ka sa ua epa kb pt32 ey32 hF32 hsh2 hD2 hbt2 hI2 hpc
      -- not _law_lists_refused(pen, blocks)
      refine ⟨_, rfl, _, rfl, d, c, bo, _, ys, rfl, pt33, by omega, ey33, ry, m1, by omega, fun H34 pt34 k34 => ⟨_, rfl, iteF ?_⟩⟩
      -- many = list(range(1000 + lap))[::-1]
      refine ⟨_, rfl, _, _, rfl, rfl, _, rfl, RgOk.of_le (by decide) (by omega) (by decide) (by omega), fun l nl => ?_⟩
      have en : (1000 : Int) + (0 + (i : Int)) = ((1000 + i : Nat) : Int) := by omega
      rw [en, rgV_ri]
      have u1 := same_upd (o := .lst ((ri (1000 + i)).map V.int)) nl
      have e1 : (upd H34 l (.lst ((ri (1000 + i)).map V.int))) l = some (.lst ((ri (1000 + i)).map V.int)) := upd_same
      generalize upd H34 l (.lst ((ri (1000 + i)).map V.int)) = H35 at u1 e1 ⊢
      refine ⟨l, _, rfl, SqL.at e1, fun mn nmn => ?_⟩
      have u2 := same_upd (o := .lst ((ri (1000 + i)).map V.int).reverse) nmn
      have e2 : (upd H35 mn (.lst ((ri (1000 + i)).map V.int).reverse)) mn = some (.lst ((ri (1000 + i)).reverse.map V.int)) := by
        rw [upd_same, List.map_reverse]
      generalize upd H35 mn (.lst ((ri (1000 + i)).map V.int).reverse) = H36 at u2 e2 ⊢
      have pt36 := pt34.same (u1.trans u2)
      have rowM : IsRow (ri (1000 + i)).reverse := isRow_of (1000 + i) (List.reverse_perm _)
      have ml : (ri (1000 + i)).reverse.length = 1000 + i := by rw [List.length_reverse, ri_len]
      generalize (ri (1000 + i)).reverse = M at e2 rowM ml
      clear pt33 ey33 pt34 k34 u1 e1 u2 nl nmn
      -- _law_refused(lambda: runs_of_list(many)) != (None if lap == 0 else ("size", 1000 + lap, True))
      refine ⟨pt36.tabs, fun fa Ha x7 r7 T7 n7 l7 h7 hh7 => metN_live hh7 l7 (by decide) fun H0 told err s0 r0 htold herr => ?_⟩
      have ka := k3_ext x7
      have rv : RowV K H0 mn (M.map V.int) := rowV_ints (.inl (SqL.at (s0 _ _ (ka.lst e2)))) (by omega)
      by_cases c0 : i = 0
      · refine ⟨_, rfl, mn, _, rfl, rv, .inl ⟨M, rfl, rowM, by omega, by omega, fun q' H' ps' _ _ _ _ _ s' => htold _ H' s' fun Hf sf => ?_⟩⟩
        refine ⟨_, rfl, rfl, _, rfl, ?_⟩
        rw [decide_eq_true (show V.int (0 + (i : Int)) = V.int 0 by rw [c0]; rfl)]
        refine iteT ?_
        unfold tC
        refine neD_self (D := .none) .non .non (by decide) ⟨_, rfl, iteF ?_⟩
        exact ⟨⟨_, _, _, _, _, _, _, _, _, _, rfl⟩, ((PT2.mk (pt36.pen.ext x7) T7).same sf).up (by omega)⟩
      · refine ⟨_, rfl, mn, _, rfl, rv, .inr (.inr ⟨fwR_row rowM, fun h => by rw [List.length_map, ml] at h; omega, fun H' d' s' ed => herr a.C_BadSize "size" "size" d' _ H' mem1 s' ed fun pa Hb sa epa => ?_⟩)⟩
        refine ⟨_, rfl, rfl, _, rfl, ?_⟩
        rw [decide_eq_false (show ¬ V.int (0 + (i : Int)) = V.int 0 from fun z => by
          have := V.int.inj z
          omega)]
        refine iteF ⟨_, rfl, _, _, rfl, rfl, sz (show 3 ≤ 100000 by decide), fun qa nqa => ?_⟩
        rw [show (((M.map V.int).length : Nat) : Int) = 1000 + (0 + (i : Int)) by rw [List.length_map, ml]; omega] at epa
        have ua := same_upd (o := .tup [.str "size", .int (1000 + (0 + (i : Int))), .bl true]) nqa
        refine neD_self (.tup (SqT.at (ua _ _ epa)) (.cons (.str _) (.cons (.int _) (.cons (.bl _) .nil)))) (.tup (SqT.at upd_same) (.cons (.str _) (.cons (.int _) (.cons (.bl _) .nil)))) ((leaf_int _).2 "size" (by decide +kernel)) ⟨_, rfl, iteF ?_⟩
        exact ⟨⟨_, _, _, _, _, _, _, _, _, _, rfl⟩, ((PT2.mk (pt36.pen.ext x7) T7).same (sa.trans ua)).up (by omega)⟩
    · rintro σ H2 ⟨⟨y2, y3, y4, y5, y6, y7, y8, y9, y10, y11, rfl⟩, _⟩
      exact q _
end


theorem all_mk {l : PySem.W.OpenLaw} {w : World} {K : PySem.W.Frag} {h : Heap} {mg : Str → Option Value} {fa : Addr} (X : K.In h) (G : h.Ns mainGlobals mg) (hfa : mg "law" = some (.ref fa)) {ts : List Addr} (hts : ∀ P ∈ ts, h.get? P = some (PySem.W.tabObj #[]))
    {f0 : Addr} {od0 an0 : Option Addr} {sl0 : Array (Option Value)} {oc0 kV0 dc0 pm0 cd0 ct0 : Value}
    {f1 : Addr} {od1 an1 : Option Addr} {sl1 : Array (Option Value)} {oc1 kV1 dc1 pm1 cd1 ct1 : Value}
    {f2 : Addr} {od2 an2 : Option Addr} {sl2 : Array (Option Value)} {oc2 kV2 dc2 pm2 cd2 ct2 : Value}
    {f3 : Addr} {od3 an3 : Option Addr} {sl3 : Array (Option Value)} {oc3 kV3 dc3 pm3 cd3 ct3 : Value}
    {f4 : Addr} {od4 an4 : Option Addr} {sl4 : Array (Option Value)} {oc4 kV4 dc4 pm4 cd4 ct4 : Value}
    {f5 : Addr} {od5 an5 : Option Addr} {sl5 : Array (Option Value)} {oc5 kV5 dc5 pm5 cd5 ct5 : Value}
    {f6 : Addr} {od6 an6 : Option Addr} {sl6 : Array (Option Value)} {oc6 kV6 dc6 pm6 cd6 ct6 : Value}
    {f7 : Addr} {od7 an7 : Option Addr} {sl7 : Array (Option Value)} {oc7 kV7 dc7 pm7 cd7 ct7 : Value}
    {f8 : Addr} {od8 an8 : Option Addr} {sl8 : Array (Option Value)} {oc8 kV8 dc8 pm8 cd8 ct8 : Value}
    {f9 : Addr} {od9 an9 : Option Addr} {sl9 : Array (Option Value)} {oc9 kV9 dc9 pm9 cd9 ct9 : Value}
    {f10 : Addr} {od10 an10 : Option Addr} {sl10 : Array (Option Value)} {oc10 kV10 dc10 pm10 cd10 ct10 : Value}
    {f11 : Addr} {od11 an11 : Option Addr} {sl11 : Array (Option Value)} {oc11 kV11 dc11 pm11 cd11 ct11 : Value}
    {f12 : Addr} {od12 an12 : Option Addr} {sl12 : Array (Option Value)} {oc12 kV12 dc12 pm12 cd12 ct12 : Value}
    {f13 : Addr} {od13 an13 : Option Addr} {sl13 : Array (Option Value)} {oc13 kV13 dc13 pm13 cd13 ct13 : Value}
    {f14 : Addr} {od14 an14 : Option Addr} {sl14 : Array (Option Value)} {oc14 kV14 dc14 pm14 cd14 ct14 : Value}
    {f15 : Addr} {od15 an15 : Option Addr} {sl15 : Array (Option Value)} {oc15 kV15 dc15 pm15 cd15 ct15 : Value}
    {f16 : Addr} {od16 an16 : Option Addr} {sl16 : Array (Option Value)} {oc16 kV16 dc16 pm16 cd16 ct16 : Value}
    {f17 : Addr} {od17 an17 : Option Addr} {sl17 : Array (Option Value)} {oc17 kV17 dc17 pm17 cd17 ct17 : Value}
    {f18 : Addr} {od18 an18 : Option Addr} {sl18 : Array (Option Value)} {oc18 kV18 dc18 pm18 cd18 ct18 : Value}
    {f19 : Addr} {od19 an19 : Option Addr} {sl19 : Array (Option Value)} {oc19 kV19 dc19 pm19 cd19 ct19 : Value}
    {f20 : Addr} {od20 an20 : Option Addr} {sl20 : Array (Option Value)} {oc20 kV20 dc20 pm20 cd20 ct20 : Value}
    {f21 : Addr} {od21 an21 : Option Addr} {sl21 : Array (Option Value)} {oc21 kV21 dc21 pm21 cd21 ct21 : Value}
    {f22 : Addr} {od22 an22 : Option Addr} {sl22 : Array (Option Value)} {oc22 kV22 dc22 pm22 cd22 ct22 : Value}
    {f23 : Addr} {od23 an23 : Option Addr} {sl23 : Array (Option Value)} {oc23 kV23 dc23 pm23 cd23 ct23 : Value}
    {f24 : Addr} {od24 an24 : Option Addr} {sl24 : Array (Option Value)} {oc24 kV24 dc24 pm24 cd24 ct24 : Value}
    {f25 : Addr} {od25 an25 : Option Addr} {sl25 : Array (Option Value)} {oc25 kV25 dc25 pm25 cd25 ct25 : Value}
    {f26 : Addr} {od26 an26 : Option Addr} {sl26 : Array (Option Value)} {oc26 kV26 dc26 pm26 cd26 ct26 : Value}
    {f27 : Addr} {od27 an27 : Option Addr} {sl27 : Array (Option Value)} {oc27 kV27 dc27 pm27 cd27 ct27 : Value}
    {f28 : Addr} {od28 an28 : Option Addr} {sl28 : Array (Option Value)} {oc28 kV28 dc28 pm28 cd28 ct28 : Value}
    {f29 : Addr} {od29 an29 : Option Addr} {sl29 : Array (Option Value)} {oc29 kV29 dc29 pm29 cd29 ct29 : Value}
    {f30 : Addr} {od30 an30 : Option Addr} {sl30 : Array (Option Value)} {oc30 kV30 dc30 pm30 cd30 ct30 : Value}
    {f31 : Addr} {od31 an31 : Option Addr} {sl31 : Array (Option Value)} {oc31 kV31 dc31 pm31 cd31 ct31 : Value}
    {f32 : Addr} {od32 an32 : Option Addr} {sl32 : Array (Option Value)} {oc32 kV32 dc32 pm32 cd32 ct32 : Value}
    {f33 : Addr} {od33 an33 : Option Addr} {sl33 : Array (Option Value)} {oc33 kV33 dc33 pm33 cd33 ct33 : Value}
    {f34 : Addr} {od34 an34 : Option Addr} {sl34 : Array (Option Value)} {oc34 kV34 dc34 pm34 cd34 ct34 : Value}
    {f35 : Addr} {od35 an35 : Option Addr} {sl35 : Array (Option Value)} {oc35 kV35 dc35 pm35 cd35 ct35 : Value}
    {f36 : Addr} {od36 an36 : Option Addr} {sl36 : Array (Option Value)} {oc36 kV36 dc36 pm36 cd36 ct36 : Value}
    {f37 : Addr} {od37 an37 : Option Addr} {sl37 : Array (Option Value)} {oc37 kV37 dc37 pm37 cd37 ct37 : Value}
    {f38 : Addr} {od38 an38 : Option Addr} {sl38 : Array (Option Value)} {oc38 kV38 dc38 pm38 cd38 ct38 : Value}
    {f39 : Addr} {od39 an39 : Option Addr} {sl39 : Array (Option Value)} {oc39 kV39 dc39 pm39 cd39 ct39 : Value}
    {f40 : Addr} {od40 an40 : Option Addr} {sl40 : Array (Option Value)} {oc40 kV40 dc40 pm40 cd40 ct40 : Value}
    {f41 : Addr} {od41 an41 : Option Addr} {sl41 : Array (Option Value)} {oc41 kV41 dc41 pm41 cd41 ct41 : Value}
    {f42 : Addr} {od42 an42 : Option Addr} {sl42 : Array (Option Value)} {oc42 kV42 dc42 pm42 cd42 ct42 : Value}
    {f43 : Addr} {od43 an43 : Option Addr} {sl43 : Array (Option Value)} {oc43 kV43 dc43 pm43 cd43 ct43 : Value}
    {f44 : Addr} {od44 an44 : Option Addr} {sl44 : Array (Option Value)} {oc44 kV44 dc44 pm44 cd44 ct44 : Value}
    {f45 : Addr} {od45 an45 : Option Addr} {sl45 : Array (Option Value)} {oc45 kV45 dc45 pm45 cd45 ct45 : Value}
    {f46 : Addr} {od46 an46 : Option Addr} {sl46 : Array (Option Value)} {oc46 kV46 dc46 pm46 cd46 ct46 : Value}
    {f47 : Addr} {od47 an47 : Option Addr} {sl47 : Array (Option Value)} {oc47 kV47 dc47 pm47 cd47 ct47 : Value}
    {f48 : Addr} {od48 an48 : Option Addr} {sl48 : Array (Option Value)} {oc48 kV48 dc48 pm48 cd48 ct48 : Value}
    {f49 : Addr} {od49 an49 : Option Addr} {sl49 : Array (Option Value)} {oc49 kV49 dc49 pm49 cd49 ct49 : Value}
    {f50 : Addr} {od50 an50 : Option Addr} {sl50 : Array (Option Value)} {oc50 kV50 dc50 pm50 cd50 ct50 : Value}
    {f51 : Addr} {od51 an51 : Option Addr} {sl51 : Array (Option Value)} {oc51 kV51 dc51 pm51 cd51 ct51 : Value}
    {f52 : Addr} {od52 an52 : Option Addr} {sl52 : Array (Option Value)} {oc52 kV52 dc52 pm52 cd52 ct52 : Value}
    {f53 : Addr} {od53 an53 : Option Addr} {sl53 : Array (Option Value)} {oc53 kV53 dc53 pm53 cd53 ct53 : Value}
    {f54 : Addr} {od54 an54 : Option Addr} {sl54 : Array (Option Value)} {oc54 kV54 dc54 pm54 cd54 ct54 : Value}
    {f55 : Addr} {od55 an55 : Option Addr} {sl55 : Array (Option Value)} {oc55 kV55 dc55 pm55 cd55 ct55 : Value}
    {f56 : Addr} {od56 an56 : Option Addr} {sl56 : Array (Option Value)} {oc56 kV56 dc56 pm56 cd56 ct56 : Value}
    {f57 : Addr} {od57 an57 : Option Addr} {sl57 : Array (Option Value)} {oc57 kV57 dc57 pm57 cd57 ct57 : Value}
    {f58 : Addr} {od58 an58 : Option Addr} {sl58 : Array (Option Value)} {oc58 kV58 dc58 pm58 cd58 ct58 : Value}
    {f59 cA59 : Addr} {od59 an59 : Option Addr} {sl59 : Array (Option Value)} {oc59 kV59 dc59 pm59 ct59 : Value}
    {f60 cA60 : Addr} {od60 an60 : Option Addr} {sl60 : Array (Option Value)} {oc60 kV60 dc60 pm60 ct60 : Value}
    {C_EveryError : Addr}
    {C_BadWord : Addr}
    {C_BadSize : Addr}
    {C_BadPlace : Addr}
    {C_BadRow : Addr}
    {C_Word : Addr}
    {C_Runs : Addr}
    {en_BadWord eq_BadWord : Str} {eN_BadWord : Addr} {eb_BadWord em_BadWord : List Value} {es_BadWord : List Str} {eu_BadWord : List Value} {ea_BadWord : Bool} {eo_BadWord : Option Bool} {ed_BadWord : Option Addr} {e0_BadWord e1_BadWord e2_BadWord e3_BadWord e5_BadWord : Option Value}
    {en_BadSize eq_BadSize : Str} {eN_BadSize : Addr} {eb_BadSize em_BadSize : List Value} {es_BadSize : List Str} {eu_BadSize : List Value} {ea_BadSize : Bool} {eo_BadSize : Option Bool} {ed_BadSize : Option Addr} {e0_BadSize e1_BadSize e2_BadSize e3_BadSize e5_BadSize : Option Value}
    {en_BadPlace eq_BadPlace : Str} {eN_BadPlace : Addr} {eb_BadPlace em_BadPlace : List Value} {es_BadPlace : List Str} {eu_BadPlace : List Value} {ea_BadPlace : Bool} {eo_BadPlace : Option Bool} {ed_BadPlace : Option Addr} {e0_BadPlace e1_BadPlace e2_BadPlace e3_BadPlace e5_BadPlace : Option Value}
    {en_BadRow eq_BadRow : Str} {eN_BadRow : Addr} {eb_BadRow em_BadRow : List Value} {es_BadRow : List Str} {eu_BadRow : List Value} {ea_BadRow : Bool} {eo_BadRow : Option Bool} {ed_BadRow : Option Addr} {e0_BadRow e1_BadRow e2_BadRow e3_BadRow e5_BadRow : Option Value}
    {t_MOST_PLACES : Tok}
    {t_MOST_MOVES : Tok}
    {a_FIGURES : Addr} {o_FIGURES : Obj}
    {a_PLACE_FRONTS : Addr} {o_PLACE_FRONTS : Obj}
    {a_AMOUNT_FRONTS : Addr} {o_AMOUNT_FRONTS : Obj}
    {a_SHAPES : Addr} {es_SHAPES : Array DictEntry} {n_SHAPES : Nat} {p_SHAPES_0 : Addr} {o_SHAPES_0 : Obj} {p_SHAPES_1 : Addr} {o_SHAPES_1 : Obj} {p_SHAPES_2 : Addr} {o_SHAPES_2 : Obj}
    {t_NO_PART : Tok}
    {t_MOST_SIZE : Tok}
    {t_FEW : Tok}
    (c_EveryError : PySem.W.nsIn K mainGlobals "EveryError" = some (some (.ref C_EveryError)))
    (c_BadWord : PySem.W.nsIn K mainGlobals "BadWord" = some (some (.ref C_BadWord)))
    (c_BadSize : PySem.W.nsIn K mainGlobals "BadSize" = some (some (.ref C_BadSize)))
    (c_BadPlace : PySem.W.nsIn K mainGlobals "BadPlace" = some (some (.ref C_BadPlace)))
    (c_BadRow : PySem.W.nsIn K mainGlobals "BadRow" = some (some (.ref C_BadRow)))
    (c_Word : PySem.W.nsIn K mainGlobals "Word" = some (some (.ref C_Word)))
    (c_Runs : PySem.W.nsIn K mainGlobals "Runs" = some (some (.ref C_Runs)))
    (a0 : PySem.W.nsIn K mainGlobals "is_integer" = some (some (.ref f0)))
    (l0 : K.lookup f0 = some ⟨oc0, od0, .func (PySem.W.fnOf "is_integer" "is_integer" (defArgs s_is_integer) (defBody s_is_integer) (defScope s_is_integer) .none kV0 dc0 pm0 an0 cd0 ct0), sl0⟩)
    (e0 : PySem.W.codeIn K cd0 "is_integer" = true)
    (k0 : PySem.W.keepIn K (.ref f0) = true)
    (a1 : PySem.W.nsIn K mainGlobals "is_between" = some (some (.ref f1)))
    (l1 : K.lookup f1 = some ⟨oc1, od1, .func (PySem.W.fnOf "is_between" "is_between" (defArgs s_is_between) (defBody s_is_between) (defScope s_is_between) .none kV1 dc1 pm1 an1 cd1 ct1), sl1⟩)
    (e1 : PySem.W.codeIn K cd1 "is_between" = true)
    (k1 : PySem.W.keepIn K (.ref f1) = true)
    (a2 : PySem.W.nsIn K mainGlobals "first_wrong" = some (some (.ref f2)))
    (l2 : K.lookup f2 = some ⟨oc2, od2, .func (PySem.W.fnOf "first_wrong" "first_wrong" (defArgs s_first_wrong) (defBody s_first_wrong) (defScope s_first_wrong) .none kV2 dc2 pm2 an2 cd2 ct2), sl2⟩)
    (e2 : PySem.W.codeIn K cd2 "first_wrong" = true)
    (k2 : PySem.W.keepIn K (.ref f2) = true)
    (a3 : PySem.W.findIn K (.ref C_BadWord) "__init__" = some (some (.ref f3)))
    (l3 : K.lookup f3 = some ⟨oc3, od3, .func (PySem.W.fnOf "__init__" "BadWord.__init__" (defArgs s_BadWord_init) (defBody s_BadWord_init) (defScope s_BadWord_init) .none kV3 dc3 pm3 an3 cd3 ct3), sl3⟩)
    (e3 : PySem.W.codeIn K cd3 "BadWord.__init__" = true)
    (k3 : PySem.W.keepIn K (.ref f3) = true)
    (a4 : PySem.W.findIn K (.ref C_BadSize) "__init__" = some (some (.ref f4)))
    (l4 : K.lookup f4 = some ⟨oc4, od4, .func (PySem.W.fnOf "__init__" "BadSize.__init__" (defArgs s_BadSize_init) (defBody s_BadSize_init) (defScope s_BadSize_init) .none kV4 dc4 pm4 an4 cd4 ct4), sl4⟩)
    (e4 : PySem.W.codeIn K cd4 "BadSize.__init__" = true)
    (k4 : PySem.W.keepIn K (.ref f4) = true)
    (a5 : PySem.W.findIn K (.ref C_BadPlace) "__init__" = some (some (.ref f5)))
    (l5 : K.lookup f5 = some ⟨oc5, od5, .func (PySem.W.fnOf "__init__" "BadPlace.__init__" (defArgs s_BadPlace_init) (defBody s_BadPlace_init) (defScope s_BadPlace_init) .none kV5 dc5 pm5 an5 cd5 ct5), sl5⟩)
    (e5 : PySem.W.codeIn K cd5 "BadPlace.__init__" = true)
    (k5 : PySem.W.keepIn K (.ref f5) = true)
    (a6 : PySem.W.findIn K (.ref C_BadRow) "__init__" = some (some (.ref f6)))
    (l6 : K.lookup f6 = some ⟨oc6, od6, .func (PySem.W.fnOf "__init__" "BadRow.__init__" (defArgs s_BadRow_init) (defBody s_BadRow_init) (defScope s_BadRow_init) .none kV6 dc6 pm6 an6 cd6 ct6), sl6⟩)
    (e6 : PySem.W.codeIn K cd6 "BadRow.__init__" = true)
    (k6 : PySem.W.keepIn K (.ref f6) = true)
    (a7 : PySem.W.nsIn K mainGlobals "check_row" = some (some (.ref f7)))
    (l7 : K.lookup f7 = some ⟨oc7, od7, .func (PySem.W.fnOf "check_row" "check_row" (defArgs s_check_row) (defBody s_check_row) (defScope s_check_row) .none kV7 dc7 pm7 an7 cd7 ct7), sl7⟩)
    (e7 : PySem.W.codeIn K cd7 "check_row" = true)
    (k7 : PySem.W.keepIn K (.ref f7) = true)
    (a8 : PySem.W.nsIn K mainGlobals "is_figure_behind" = some (some (.ref f8)))
    (l8 : K.lookup f8 = some ⟨oc8, od8, .func (PySem.W.fnOf "is_figure_behind" "is_figure_behind" (defArgs s_is_figure_behind) (defBody s_is_figure_behind) (defScope s_is_figure_behind) .none kV8 dc8 pm8 an8 cd8 ct8), sl8⟩)
    (e8 : PySem.W.codeIn K cd8 "is_figure_behind" = true)
    (k8 : PySem.W.keepIn K (.ref f8) = true)
    (a9 : PySem.W.nsIn K mainGlobals "is_place_word" = some (some (.ref f9)))
    (l9 : K.lookup f9 = some ⟨oc9, od9, .func (PySem.W.fnOf "is_place_word" "is_place_word" (defArgs s_is_place_word) (defBody s_is_place_word) (defScope s_is_place_word) .none kV9 dc9 pm9 an9 cd9 ct9), sl9⟩)
    (e9 : PySem.W.codeIn K cd9 "is_place_word" = true)
    (k9 : PySem.W.keepIn K (.ref f9) = true)
    (a10 : PySem.W.nsIn K mainGlobals "is_amount" = some (some (.ref f10)))
    (l10 : K.lookup f10 = some ⟨oc10, od10, .func (PySem.W.fnOf "is_amount" "is_amount" (defArgs s_is_amount) (defBody s_is_amount) (defScope s_is_amount) .none kV10 dc10 pm10 an10 cd10 ct10), sl10⟩)
    (e10 : PySem.W.codeIn K cd10 "is_amount" = true)
    (k10 : PySem.W.keepIn K (.ref f10) = true)
    (a11 : PySem.W.nsIn K mainGlobals "place_of" = some (some (.ref f11)))
    (l11 : K.lookup f11 = some ⟨oc11, od11, .func (PySem.W.fnOf "place_of" "place_of" (defArgs s_place_of) (defBody s_place_of) (defScope s_place_of) .none kV11 dc11 pm11 an11 cd11 ct11), sl11⟩)
    (e11 : PySem.W.codeIn K cd11 "place_of" = true)
    (k11 : PySem.W.keepIn K (.ref f11) = true)
    (a12 : PySem.W.nsIn K mainGlobals "amount_of" = some (some (.ref f12)))
    (l12 : K.lookup f12 = some ⟨oc12, od12, .func (PySem.W.fnOf "amount_of" "amount_of" (defArgs s_amount_of) (defBody s_amount_of) (defScope s_amount_of) .none kV12 dc12 pm12 an12 cd12 ct12), sl12⟩)
    (e12 : PySem.W.codeIn K cd12 "amount_of" = true)
    (k12 : PySem.W.keepIn K (.ref f12) = true)
    (a13 : PySem.W.nsIn K mainGlobals "is_part" = some (some (.ref f13)))
    (l13 : K.lookup f13 = some ⟨oc13, od13, .func (PySem.W.fnOf "is_part" "is_part" (defArgs s_is_part) (defBody s_is_part) (defScope s_is_part) .none kV13 dc13 pm13 an13 cd13 ct13), sl13⟩)
    (e13 : PySem.W.codeIn K cd13 "is_part" = true)
    (k13 : PySem.W.keepIn K (.ref f13) = true)
    (a14 : PySem.W.nsIn K mainGlobals "read_move" = some (some (.ref f14)))
    (l14 : K.lookup f14 = some ⟨oc14, od14, .func (PySem.W.fnOf "read_move" "read_move" (defArgs s_read_move) (defBody s_read_move) (defScope s_read_move) .none kV14 dc14 pm14 an14 cd14 ct14), sl14⟩)
    (e14 : PySem.W.codeIn K cd14 "read_move" = true)
    (k14 : PySem.W.keepIn K (.ref f14) = true)
    (a15 : PySem.W.nsIn K mainGlobals "read_moves" = some (some (.ref f15)))
    (l15 : K.lookup f15 = some ⟨oc15, od15, .func (PySem.W.fnOf "read_moves" "read_moves" (defArgs s_read_moves) (defBody s_read_moves) (defScope s_read_moves) .none kV15 dc15 pm15 an15 cd15 ct15), sl15⟩)
    (e15 : PySem.W.codeIn K cd15 "read_moves" = true)
    (k15 : PySem.W.keepIn K (.ref f15) = true)
    (a16 : PySem.W.nsIn K mainGlobals "exchanged" = some (some (.ref f16)))
    (l16 : K.lookup f16 = some ⟨oc16, od16, .func (PySem.W.fnOf "exchanged" "exchanged" (defArgs s_exchanged) (defBody s_exchanged) (defScope s_exchanged) .none kV16 dc16 pm16 an16 cd16 ct16), sl16⟩)
    (e16 : PySem.W.codeIn K cd16 "exchanged" = true)
    (k16 : PySem.W.keepIn K (.ref f16) = true)
    (a17 : PySem.W.nsIn K mainGlobals "rolled" = some (some (.ref f17)))
    (l17 : K.lookup f17 = some ⟨oc17, od17, .func (PySem.W.fnOf "rolled" "rolled" (defArgs s_rolled) (defBody s_rolled) (defScope s_rolled) .none kV17 dc17 pm17 an17 cd17 ct17), sl17⟩)
    (e17 : PySem.W.codeIn K cd17 "rolled" = true)
    (k17 : PySem.W.keepIn K (.ref f17) = true)
    (a18 : PySem.W.nsIn K mainGlobals "moved" = some (some (.ref f18)))
    (l18 : K.lookup f18 = some ⟨oc18, od18, .func (PySem.W.fnOf "moved" "moved" (defArgs s_moved) (defBody s_moved) (defScope s_moved) .none kV18 dc18 pm18 an18 cd18 ct18), sl18⟩)
    (e18 : PySem.W.codeIn K cd18 "moved" = true)
    (k18 : PySem.W.keepIn K (.ref f18) = true)
    (a19 : PySem.W.findIn K (.ref C_Word) "__init__" = some (some (.ref f19)))
    (l19 : K.lookup f19 = some ⟨oc19, od19, .func (PySem.W.fnOf "__init__" "Word.__init__" (defArgs s_Word_init) (defBody s_Word_init) (defScope s_Word_init) .none kV19 dc19 pm19 an19 cd19 ct19), sl19⟩)
    (e19 : PySem.W.codeIn K cd19 "Word.__init__" = true)
    (k19 : PySem.W.keepIn K (.ref f19) = true)
    (a20 : PySem.W.findIn K (.ref C_Word) "__eq__" = some (some (.ref f20)))
    (l20 : K.lookup f20 = some ⟨oc20, od20, .func (PySem.W.fnOf "__eq__" "Word.__eq__" (defArgs s_Word_eq) (defBody s_Word_eq) (defScope s_Word_eq) .none kV20 dc20 pm20 an20 cd20 ct20), sl20⟩)
    (e20 : PySem.W.codeIn K cd20 "Word.__eq__" = true)
    (k20 : PySem.W.keepIn K (.ref f20) = true)
    (a21 : PySem.W.findIn K (.ref C_Word) "at" = some (some (.ref f21)))
    (l21 : K.lookup f21 = some ⟨oc21, od21, .func (PySem.W.fnOf "at" "Word.at" (defArgs s_Word_at) (defBody s_Word_at) (defScope s_Word_at) .none kV21 dc21 pm21 an21 cd21 ct21), sl21⟩)
    (e21 : PySem.W.codeIn K cd21 "Word.at" = true)
    (k21 : PySem.W.keepIn K (.ref f21) = true)
    (a22 : PySem.W.nsIn K mainGlobals "common_way" = some (some (.ref f22)))
    (l22 : K.lookup f22 = some ⟨oc22, od22, .func (PySem.W.fnOf "common_way" "common_way" (defArgs s_common_way) (defBody s_common_way) (defScope s_common_way) .none kV22 dc22 pm22 an22 cd22 ct22), sl22⟩)
    (e22 : PySem.W.codeIn K cd22 "common_way" = true)
    (k22 : PySem.W.keepIn K (.ref f22) = true)
    (a23 : PySem.W.nsIn K mainGlobals "one_form" = some (some (.ref f23)))
    (l23 : K.lookup f23 = some ⟨oc23, od23, .func (PySem.W.fnOf "one_form" "one_form" (defArgs s_one_form) (defBody s_one_form) (defScope s_one_form) .none kV23 dc23 pm23 an23 cd23 ct23), sl23⟩)
    (e23 : PySem.W.codeIn K cd23 "one_form" = true)
    (k23 : PySem.W.keepIn K (.ref f23) = true)
    (a24 : PySem.W.nsIn K mainGlobals "way_of" = some (some (.ref f24)))
    (l24 : K.lookup f24 = some ⟨oc24, od24, .func (PySem.W.fnOf "way_of" "way_of" (defArgs s_way_of) (defBody s_way_of) (defScope s_way_of) .none kV24 dc24 pm24 an24 cd24 ct24), sl24⟩)
    (e24 : PySem.W.codeIn K cd24 "way_of" = true)
    (k24 : PySem.W.keepIn K (.ref f24) = true)
    (a25 : PySem.W.nsIn K mainGlobals "index_of_run" = some (some (.ref f25)))
    (l25 : K.lookup f25 = some ⟨oc25, od25, .func (PySem.W.fnOf "index_of_run" "index_of_run" (defArgs s_index_of_run) (defBody s_index_of_run) (defScope s_index_of_run) .none kV25 dc25 pm25 an25 cd25 ct25), sl25⟩)
    (e25 : PySem.W.codeIn K cd25 "index_of_run" = true)
    (k25 : PySem.W.keepIn K (.ref f25) = true)
    (a26 : PySem.W.nsIn K mainGlobals "goal_of" = some (some (.ref f26)))
    (l26 : K.lookup f26 = some ⟨oc26, od26, .func (PySem.W.fnOf "goal_of" "goal_of" (defArgs s_goal_of) (defBody s_goal_of) (defScope s_goal_of) .none kV26 dc26 pm26 an26 cd26 ct26), sl26⟩)
    (e26 : PySem.W.codeIn K cd26 "goal_of" = true)
    (k26 : PySem.W.keepIn K (.ref f26) = true)
    (a27 : PySem.W.nsIn K mainGlobals "led_on" = some (some (.ref f27)))
    (l27 : K.lookup f27 = some ⟨oc27, od27, .func (PySem.W.fnOf "led_on" "led_on" (defArgs s_led_on) (defBody s_led_on) (defScope s_led_on) .none kV27 dc27 pm27 an27 cd27 ct27), sl27⟩)
    (e27 : PySem.W.codeIn K cd27 "led_on" = true)
    (k27 : PySem.W.keepIn K (.ref f27) = true)
    (a28 : PySem.W.nsIn K mainGlobals "taken_back" = some (some (.ref f28)))
    (l28 : K.lookup f28 = some ⟨oc28, od28, .func (PySem.W.fnOf "taken_back" "taken_back" (defArgs s_taken_back) (defBody s_taken_back) (defScope s_taken_back) .none kV28 dc28 pm28 an28 cd28 ct28), sl28⟩)
    (e28 : PySem.W.codeIn K cd28 "taken_back" = true)
    (k28 : PySem.W.keepIn K (.ref f28) = true)
    (a29 : PySem.W.findIn K (.ref C_Runs) "__init__" = some (some (.ref f29)))
    (l29 : K.lookup f29 = some ⟨oc29, od29, .func (PySem.W.fnOf "__init__" "Runs.__init__" (defArgs s_Runs_init) (defBody s_Runs_init) (defScope s_Runs_init) .none kV29 dc29 pm29 an29 cd29 ct29), sl29⟩)
    (e29 : PySem.W.codeIn K cd29 "Runs.__init__" = true)
    (k29 : PySem.W.keepIn K (.ref f29) = true)
    (a30 : PySem.W.findIn K (.ref C_Runs) "__eq__" = some (some (.ref f30)))
    (l30 : K.lookup f30 = some ⟨oc30, od30, .func (PySem.W.fnOf "__eq__" "Runs.__eq__" (defArgs s_Runs_eq) (defBody s_Runs_eq) (defScope s_Runs_eq) .none kV30 dc30 pm30 an30 cd30 ct30), sl30⟩)
    (e30 : PySem.W.codeIn K cd30 "Runs.__eq__" = true)
    (k30 : PySem.W.keepIn K (.ref f30) = true)
    (a31 : PySem.W.findIn K (.ref C_Runs) "__mul__" = some (some (.ref f31)))
    (l31 : K.lookup f31 = some ⟨oc31, od31, .func (PySem.W.fnOf "__mul__" "Runs.__mul__" (defArgs s_Runs_mul) (defBody s_Runs_mul) (defScope s_Runs_mul) .none kV31 dc31 pm31 an31 cd31 ct31), sl31⟩)
    (e31 : PySem.W.codeIn K cd31 "Runs.__mul__" = true)
    (k31 : PySem.W.keepIn K (.ref f31) = true)
    (a32 : PySem.W.findIn K (.ref C_Runs) "__invert__" = some (some (.ref f32)))
    (l32 : K.lookup f32 = some ⟨oc32, od32, .func (PySem.W.fnOf "__invert__" "Runs.__invert__" (defArgs s_Runs_invert) (defBody s_Runs_invert) (defScope s_Runs_invert) .none kV32 dc32 pm32 an32 cd32 ct32), sl32⟩)
    (e32 : PySem.W.codeIn K cd32 "Runs.__invert__" = true)
    (k32 : PySem.W.keepIn K (.ref f32) = true)
    (a33 : PySem.W.findIn K (.ref C_Runs) "at" = some (some (.ref f33)))
    (l33 : K.lookup f33 = some ⟨oc33, od33, .func (PySem.W.fnOf "at" "Runs.at" (defArgs s_Runs_at) (defBody s_Runs_at) (defScope s_Runs_at) .none kV33 dc33 pm33 an33 cd33 ct33), sl33⟩)
    (e33 : PySem.W.codeIn K cd33 "Runs.at" = true)
    (k33 : PySem.W.keepIn K (.ref f33) = true)
    (a34 : PySem.W.nsIn K mainGlobals "check_far_size" = some (some (.ref f34)))
    (l34 : K.lookup f34 = some ⟨oc34, od34, .func (PySem.W.fnOf "check_far_size" "check_far_size" (defArgs s_check_far_size) (defBody s_check_far_size) (defScope s_check_far_size) .none kV34 dc34 pm34 an34 cd34 ct34), sl34⟩)
    (e34 : PySem.W.codeIn K cd34 "check_far_size" = true)
    (k34 : PySem.W.keepIn K (.ref f34) = true)
    (a35 : PySem.W.nsIn K mainGlobals "moved_block" = some (some (.ref f35)))
    (l35 : K.lookup f35 = some ⟨oc35, od35, .func (PySem.W.fnOf "moved_block" "moved_block" (defArgs s_moved_block) (defBody s_moved_block) (defScope s_moved_block) .none kV35 dc35 pm35 an35 cd35 ct35), sl35⟩)
    (e35 : PySem.W.codeIn K cd35 "moved_block" = true)
    (k35 : PySem.W.keepIn K (.ref f35) = true)
    (a36 : PySem.W.nsIn K mainGlobals "move_runs" = some (some (.ref f36)))
    (l36 : K.lookup f36 = some ⟨oc36, od36, .func (PySem.W.fnOf "move_runs" "move_runs" (defArgs s_move_runs) (defBody s_move_runs) (defScope s_move_runs) .none kV36 dc36 pm36 an36 cd36 ct36), sl36⟩)
    (e36 : PySem.W.codeIn K cd36 "move_runs" = true)
    (k36 : PySem.W.keepIn K (.ref f36) = true)
    (a37 : PySem.W.nsIn K mainGlobals "runs_of" = some (some (.ref f37)))
    (l37 : K.lookup f37 = some ⟨oc37, od37, .func (PySem.W.fnOf "runs_of" "runs_of" (defArgs s_runs_of) (defBody s_runs_of) (defScope s_runs_of) .none kV37 dc37 pm37 an37 cd37 ct37), sl37⟩)
    (e37 : PySem.W.codeIn K cd37 "runs_of" = true)
    (k37 : PySem.W.keepIn K (.ref f37) = true)
    (a38 : PySem.W.nsIn K mainGlobals "runs_of_list" = some (some (.ref f38)))
    (l38 : K.lookup f38 = some ⟨oc38, od38, .func (PySem.W.fnOf "runs_of_list" "runs_of_list" (defArgs s_runs_of_list) (defBody s_runs_of_list) (defScope s_runs_of_list) .none kV38 dc38 pm38 an38 cd38 ct38), sl38⟩)
    (e38 : PySem.W.codeIn K cd38 "runs_of_list" = true)
    (k38 : PySem.W.keepIn K (.ref f38) = true)
    (a39 : PySem.W.nsIn K mainGlobals "nothing_runs" = some (some (.ref f39)))
    (l39 : K.lookup f39 = some ⟨oc39, od39, .func (PySem.W.fnOf "nothing_runs" "nothing_runs" (defArgs s_nothing_runs) (defBody s_nothing_runs) (defScope s_nothing_runs) .none kV39 dc39 pm39 an39 cd39 ct39), sl39⟩)
    (e39 : PySem.W.codeIn K cd39 "nothing_runs" = true)
    (k39 : PySem.W.keepIn K (.ref f39) = true)
    (a40 : PySem.W.nsIn K mainGlobals "exchange_runs" = some (some (.ref f40)))
    (l40 : K.lookup f40 = some ⟨oc40, od40, .func (PySem.W.fnOf "exchange_runs" "exchange_runs" (defArgs s_exchange_runs) (defBody s_exchange_runs) (defScope s_exchange_runs) .none kV40 dc40 pm40 an40 cd40 ct40), sl40⟩)
    (e40 : PySem.W.codeIn K cd40 "exchange_runs" = true)
    (k40 : PySem.W.keepIn K (.ref f40) = true)
    (a41 : PySem.W.nsIn K mainGlobals "roll_runs" = some (some (.ref f41)))
    (l41 : K.lookup f41 = some ⟨oc41, od41, .func (PySem.W.fnOf "roll_runs" "roll_runs" (defArgs s_roll_runs) (defBody s_roll_runs) (defScope s_roll_runs) .none kV41 dc41 pm41 an41 cd41 ct41), sl41⟩)
    (e41 : PySem.W.codeIn K cd41 "roll_runs" = true)
    (k41 : PySem.W.keepIn K (.ref f41) = true)
    (a42 : PySem.W.nsIn K mainGlobals "wider_runs" = some (some (.ref f42)))
    (l42 : K.lookup f42 = some ⟨oc42, od42, .func (PySem.W.fnOf "wider_runs" "wider_runs" (defArgs s_wider_runs) (defBody s_wider_runs) (defScope s_wider_runs) .none kV42 dc42 pm42 an42 cd42 ct42), sl42⟩)
    (e42 : PySem.W.codeIn K cd42 "wider_runs" = true)
    (k42 : PySem.W.keepIn K (.ref f42) = true)
    (a43 : PySem.W.nsIn K mainGlobals "_law_form" = some (some (.ref f43)))
    (l43 : K.lookup f43 = some ⟨oc43, od43, .func (PySem.W.fnOf "_law_form" "_law_form" (defArgs s__law_form) (defBody s__law_form) (defScope s__law_form) .none kV43 dc43 pm43 an43 cd43 ct43), sl43⟩)
    (e43 : PySem.W.codeIn K cd43 "_law_form" = true)
    (k43 : PySem.W.keepIn K (.ref f43) = true)
    (a44 : PySem.W.nsIn K mainGlobals "_law_blocks" = some (some (.ref f44)))
    (l44 : K.lookup f44 = some ⟨oc44, od44, .func (PySem.W.fnOf "_law_blocks" "_law_blocks" (defArgs s__law_blocks) (defBody s__law_blocks) (defScope s__law_blocks) .none kV44 dc44 pm44 an44 cd44 ct44), sl44⟩)
    (e44 : PySem.W.codeIn K cd44 "_law_blocks" = true)
    (k44 : PySem.W.keepIn K (.ref f44) = true)
    (a45 : PySem.W.nsIn K mainGlobals "_law_pen" = some (some (.ref f45)))
    (l45 : K.lookup f45 = some ⟨oc45, od45, .func (PySem.W.fnOf "_law_pen" "_law_pen" (defArgs s__law_pen) (defBody s__law_pen) (defScope s__law_pen) .none kV45 dc45 pm45 an45 cd45 ct45), sl45⟩)
    (e45 : PySem.W.codeIn K cd45 "_law_pen" = true)
    (k45 : PySem.W.keepIn K (.ref f45) = true)
    (a46 : PySem.W.nsIn K mainGlobals "_law_draw" = some (some (.ref f46)))
    (l46 : K.lookup f46 = some ⟨oc46, od46, .func (PySem.W.fnOf "_law_draw" "_law_draw" (defArgs s__law_draw) (defBody s__law_draw) (defScope s__law_draw) .none kV46 dc46 pm46 an46 cd46 ct46), sl46⟩)
    (e46 : PySem.W.codeIn K cd46 "_law_draw" = true)
    (k46 : PySem.W.keepIn K (.ref f46) = true)
    (a47 : PySem.W.nsIn K mainGlobals "_law_pick" = some (some (.ref f47)))
    (l47 : K.lookup f47 = some ⟨oc47, od47, .func (PySem.W.fnOf "_law_pick" "_law_pick" (defArgs s__law_pick) (defBody s__law_pick) (defScope s__law_pick) .none kV47 dc47 pm47 an47 cd47 ct47), sl47⟩)
    (e47 : PySem.W.codeIn K cd47 "_law_pick" = true)
    (k47 : PySem.W.keepIn K (.ref f47) = true)
    (a48 : PySem.W.nsIn K mainGlobals "_law_shuffled" = some (some (.ref f48)))
    (l48 : K.lookup f48 = some ⟨oc48, od48, .func (PySem.W.fnOf "_law_shuffled" "_law_shuffled" (defArgs s__law_shuffled) (defBody s__law_shuffled) (defScope s__law_shuffled) .none kV48 dc48 pm48 an48 cd48 ct48), sl48⟩)
    (e48 : PySem.W.codeIn K cd48 "_law_shuffled" = true)
    (k48 : PySem.W.keepIn K (.ref f48) = true)
    (a49 : PySem.W.nsIn K mainGlobals "_law_place_word" = some (some (.ref f49)))
    (l49 : K.lookup f49 = some ⟨oc49, od49, .func (PySem.W.fnOf "_law_place_word" "_law_place_word" (defArgs s__law_place_word) (defBody s__law_place_word) (defScope s__law_place_word) .none kV49 dc49 pm49 an49 cd49 ct49), sl49⟩)
    (e49 : PySem.W.codeIn K cd49 "_law_place_word" = true)
    (k49 : PySem.W.keepIn K (.ref f49) = true)
    (a50 : PySem.W.nsIn K mainGlobals "_law_value" = some (some (.ref f50)))
    (l50 : K.lookup f50 = some ⟨oc50, od50, .func (PySem.W.fnOf "_law_value" "_law_value" (defArgs s__law_value) (defBody s__law_value) (defScope s__law_value) .none kV50 dc50 pm50 an50 cd50 ct50), sl50⟩)
    (e50 : PySem.W.codeIn K cd50 "_law_value" = true)
    (k50 : PySem.W.keepIn K (.ref f50) = true)
    (a51 : PySem.W.nsIn K mainGlobals "_law_amount" = some (some (.ref f51)))
    (l51 : K.lookup f51 = some ⟨oc51, od51, .func (PySem.W.fnOf "_law_amount" "_law_amount" (defArgs s__law_amount) (defBody s__law_amount) (defScope s__law_amount) .none kV51 dc51 pm51 an51 cd51 ct51), sl51⟩)
    (e51 : PySem.W.codeIn K cd51 "_law_amount" = true)
    (k51 : PySem.W.keepIn K (.ref f51) = true)
    (a52 : PySem.W.nsIn K mainGlobals "_law_move" = some (some (.ref f52)))
    (l52 : K.lookup f52 = some ⟨oc52, od52, .func (PySem.W.fnOf "_law_move" "_law_move" (defArgs s__law_move) (defBody s__law_move) (defScope s__law_move) .none kV52 dc52 pm52 an52 cd52 ct52), sl52⟩)
    (e52 : PySem.W.codeIn K cd52 "_law_move" = true)
    (k52 : PySem.W.keepIn K (.ref f52) = true)
    (a53 : PySem.W.nsIn K mainGlobals "_law_moves" = some (some (.ref f53)))
    (l53 : K.lookup f53 = some ⟨oc53, od53, .func (PySem.W.fnOf "_law_moves" "_law_moves" (defArgs s__law_moves) (defBody s__law_moves) (defScope s__law_moves) .none kV53 dc53 pm53 an53 cd53 ct53), sl53⟩)
    (e53 : PySem.W.codeIn K cd53 "_law_moves" = true)
    (k53 : PySem.W.keepIn K (.ref f53) = true)
    (a54 : PySem.W.nsIn K mainGlobals "_law_word_text" = some (some (.ref f54)))
    (l54 : K.lookup f54 = some ⟨oc54, od54, .func (PySem.W.fnOf "_law_word_text" "_law_word_text" (defArgs s__law_word_text) (defBody s__law_word_text) (defScope s__law_word_text) .none kV54 dc54 pm54 an54 cd54 ct54), sl54⟩)
    (e54 : PySem.W.codeIn K cd54 "_law_word_text" = true)
    (k54 : PySem.W.keepIn K (.ref f54) = true)
    (a55 : PySem.W.nsIn K mainGlobals "_law_moved" = some (some (.ref f55)))
    (l55 : K.lookup f55 = some ⟨oc55, od55, .func (PySem.W.fnOf "_law_moved" "_law_moved" (defArgs s__law_moved) (defBody s__law_moved) (defScope s__law_moved) .none kV55 dc55 pm55 an55 cd55 ct55), sl55⟩)
    (e55 : PySem.W.codeIn K cd55 "_law_moved" = true)
    (k55 : PySem.W.keepIn K (.ref f55) = true)
    (a56 : PySem.W.nsIn K mainGlobals "_law_all_moved" = some (some (.ref f56)))
    (l56 : K.lookup f56 = some ⟨oc56, od56, .func (PySem.W.fnOf "_law_all_moved" "_law_all_moved" (defArgs s__law_all_moved) (defBody s__law_all_moved) (defScope s__law_all_moved) .none kV56 dc56 pm56 an56 cd56 ct56), sl56⟩)
    (e56 : PySem.W.codeIn K cd56 "_law_all_moved" = true)
    (k56 : PySem.W.keepIn K (.ref f56) = true)
    (a57 : PySem.W.nsIn K mainGlobals "_law_refused" = some (some (.ref f57)))
    (l57 : K.lookup f57 = some ⟨oc57, od57, .func (PySem.W.fnOf "_law_refused" "_law_refused" (defArgs s__law_refused) (defBody s__law_refused) (defScope s__law_refused) .none kV57 dc57 pm57 an57 cd57 ct57), sl57⟩)
    (e57 : PySem.W.codeIn K cd57 "_law_refused" = true)
    (k57 : PySem.W.keepIn K (.ref f57) = true)
    (a58 : PySem.W.nsIn K mainGlobals "_law_is_told" = some (some (.ref f58)))
    (l58 : K.lookup f58 = some ⟨oc58, od58, .func (PySem.W.fnOf "_law_is_told" "_law_is_told" (defArgs s__law_is_told) (defBody s__law_is_told) (defScope s__law_is_told) .none kV58 dc58 pm58 an58 cd58 ct58), sl58⟩)
    (e58 : PySem.W.codeIn K cd58 "_law_is_told" = true)
    (k58 : PySem.W.keepIn K (.ref f58) = true)
    (a59 : PySem.W.nsIn K mainGlobals "_law_lists_refused" = some (some (.ref f59)))
    (l59 : K.lookup f59 = some ⟨oc59, od59, .func (PySem.W.fnOf "_law_lists_refused" "_law_lists_refused" (defArgs s__law_lists_refused) (defBody s__law_lists_refused) (defScope s__law_lists_refused) .none kV59 dc59 pm59 an59 (.ref cA59) ct59), sl59⟩)
    (e59 : PySem.W.codeIn K (.ref cA59) "_law_lists_refused" = true)
    (k59 : PySem.W.keepIn K (.ref f59) = true)
    (a60 : PySem.W.nsIn K mainGlobals "law" = some (some (.ref f60)))
    (l60 : K.lookup f60 = some ⟨oc60, od60, .func (PySem.W.fnOf "law" "law" (defArgs s_law) (defBody s_law) (defScope s_law) .none kV60 dc60 pm60 an60 (.ref cA60) ct60), sl60⟩)
    (e60 : PySem.W.codeIn K (.ref cA60) "law" = true)
    (k60 : PySem.W.keepIn K (.ref f60) = true)
    (pg_Word : PySem.W.plainGet K C_Word Str.empty = true)
    (hd_Word : PySem.W.hasDictIn K C_Word = true)
    (po_Word : PySem.W.plainOver K C_Word = true)
    (sa_Word : PySem.W.findIn K (.ref C_Word) "__setattr__" = some (some (.builtin "object.__setattr__")))
    (mk_Word : PySem.W.makesIn K C_Word = true)
    (kc_Word : PySem.W.keepIn K (.ref C_Word) = true)
    (n_Word_text : PySem.W.findIn K (.ref C_Word) "text" = some none)
    (n_Word_moves : PySem.W.findIn K (.ref C_Word) "moves" = some none)
    (n_Word_has_turn : PySem.W.findIn K (.ref C_Word) "has_turn" = some none)
    (i_Word_init : PySem.W.isFn K (.ref f19) = true)
    (i_Word_eq : PySem.W.isFn K (.ref f20) = true)
    (i_Word_at : PySem.W.isFn K (.ref f21) = true)
    (og_Word : PySem.W.findIn K (.ref C_Word) "__class__" = some (some (.builtin "object.__class__")))
    (on_Word : PySem.W.specialIn K (.builtin "object.__class__") "__get__" = some (some (.builtin "getset_descriptor.__get__")))
    (ot_Word : PySem.W.takesIn K (.builtin "object.__class__") = some true)
    (om_Word : PySem.W.mroIn K C_Word (.type "object") = some true)
    (of_Word : PySem.W.notFirst K C_Word (.type "str") = true)
    (ok_Word : PySem.W.kitOne K (.type "str") (.ref C_Word) = some false)
    (pg_Runs : PySem.W.plainGet K C_Runs Str.empty = true)
    (hd_Runs : PySem.W.hasDictIn K C_Runs = true)
    (po_Runs : PySem.W.plainOver K C_Runs = true)
    (sa_Runs : PySem.W.findIn K (.ref C_Runs) "__setattr__" = some (some (.builtin "object.__setattr__")))
    (mk_Runs : PySem.W.makesIn K C_Runs = true)
    (kc_Runs : PySem.W.keepIn K (.ref C_Runs) = true)
    (n_Runs_size : PySem.W.findIn K (.ref C_Runs) "size" = some none)
    (n_Runs_rows : PySem.W.findIn K (.ref C_Runs) "rows" = some none)
    (n_Runs_way : PySem.W.findIn K (.ref C_Runs) "way" = some none)
    (i_Runs_init : PySem.W.isFn K (.ref f29) = true)
    (i_Runs_eq : PySem.W.isFn K (.ref f30) = true)
    (i_Runs_mul : PySem.W.isFn K (.ref f31) = true)
    (i_Runs_invert : PySem.W.isFn K (.ref f32) = true)
    (i_Runs_at : PySem.W.isFn K (.ref f33) = true)
    (og_Runs : PySem.W.findIn K (.ref C_Runs) "__class__" = some (some (.builtin "object.__class__")))
    (on_Runs : PySem.W.specialIn K (.builtin "object.__class__") "__get__" = some (some (.builtin "getset_descriptor.__get__")))
    (ot_Runs : PySem.W.takesIn K (.builtin "object.__class__") = some true)
    (om_Runs : PySem.W.mroIn K C_Runs (.type "object") = some true)
    (of_Runs : PySem.W.notFirst K C_Runs (.type "str") = true)
    (ok_Runs : PySem.W.kitOne K (.type "str") (.ref C_Runs) = some false)
    (sf_Runs : PySem.W.selfFirst K C_Runs = true)
    (o2a_Runs : PySem.W.findIn K (.ref C_Runs) "__ne__" = some (some (.builtin "object.__ne__")))
    (o2b_Runs : PySem.W.notFirst K C_Runs (.type "int") = true)
    (o2c_Runs : PySem.W.notFirst K C_Runs (.type "tuple") = true)
    (ok_int_Runs : PySem.W.kitOne K (.type "int") (.ref C_Runs) = some false)
    (ok_tup_Runs : PySem.W.kitOne K (.type "tuple") (.ref C_Runs) = some false)
    (o2d_Runs : PySem.W.notFirst K C_Runs (.type "list") = true)
    (ok_lst_Runs : PySem.W.kitOne K (.type "list") (.ref C_Runs) = some false)
    (xl_BadWord : K.lookup C_BadWord = some (excClassObj en_BadWord eq_BadWord C_BadWord eN_BadWord eb_BadWord em_BadWord true es_BadWord eu_BadWord ea_BadWord eo_BadWord ed_BadWord e0_BadWord e1_BadWord e2_BadWord e3_BadWord e5_BadWord "ValueError.__new__"))
    (xr_BadWord : PySem.HandSPX.refsVE em_BadWord = true)
    (xsa_BadWord : PySem.W.findIn K (.ref C_BadWord) "__setattr__" = some (some (.builtin "object.__setattr__")))
    (xex_BadWord : PySem.W.subIn K (.ref C_BadWord) (.type "BaseException") = some true)
    (xty_BadWord : PySem.W.typeIn K (.ref C_BadWord) = some (.type "type"))
    (xkc_BadWord : PySem.W.keepIn K (.ref C_BadWord) = true)
    (xga_BadWord : PySem.W.findIn K (.ref C_BadWord) "__getattribute__" = some (some (.builtin "BaseException.__getattribute__")))
    (xgg_BadWord : PySem.W.findIn K (.ref C_BadWord) "__getattr__" = some none)
    (xhd_BadWord : PySem.W.hasDictIn K C_BadWord = true)
    (xha_BadWord : PySem.W.findIn K (.ref C_BadWord) "__class__" = some (some (.builtin "object.__class__")))
    (xhm_BadWord : PySem.W.mroIn K C_BadWord (.type "object") = some true)
    (xno_BadWord : PySem.W.findIn K (.ref C_BadWord) "index" = some none)
    (xhn_BadWord : PySem.W.specialIn K (.builtin "object.__class__") "__get__" = some (some (.builtin "getset_descriptor.__get__")))
    (xht_BadWord : PySem.W.takesIn K (.builtin "object.__class__") = some true)
    (xti_BadWord : PySem.W.typeIn K (.ref f3) = some (.type "function"))
    (xs_BadWord_BadPlace : PySem.W.subIn K (.ref C_BadWord) (.ref C_BadPlace) = some false)
    (xs_BadWord_BadRow : PySem.W.subIn K (.ref C_BadWord) (.ref C_BadRow) = some false)
    (xs_BadWord_BadSize : PySem.W.subIn K (.ref C_BadWord) (.ref C_BadSize) = some false)
    (ok_BadWord_EveryError : PySem.W.kitOne K (.ref C_BadWord) (.ref C_EveryError) = some true)
    (xl_BadSize : K.lookup C_BadSize = some (excClassObj en_BadSize eq_BadSize C_BadSize eN_BadSize eb_BadSize em_BadSize true es_BadSize eu_BadSize ea_BadSize eo_BadSize ed_BadSize e0_BadSize e1_BadSize e2_BadSize e3_BadSize e5_BadSize "ValueError.__new__"))
    (xr_BadSize : PySem.HandSPX.refsVE em_BadSize = true)
    (xsa_BadSize : PySem.W.findIn K (.ref C_BadSize) "__setattr__" = some (some (.builtin "object.__setattr__")))
    (xex_BadSize : PySem.W.subIn K (.ref C_BadSize) (.type "BaseException") = some true)
    (xty_BadSize : PySem.W.typeIn K (.ref C_BadSize) = some (.type "type"))
    (xkc_BadSize : PySem.W.keepIn K (.ref C_BadSize) = true)
    (xga_BadSize : PySem.W.findIn K (.ref C_BadSize) "__getattribute__" = some (some (.builtin "BaseException.__getattribute__")))
    (xgg_BadSize : PySem.W.findIn K (.ref C_BadSize) "__getattr__" = some none)
    (xhd_BadSize : PySem.W.hasDictIn K C_BadSize = true)
    (xha_BadSize : PySem.W.findIn K (.ref C_BadSize) "__class__" = some (some (.builtin "object.__class__")))
    (xhm_BadSize : PySem.W.mroIn K C_BadSize (.type "object") = some true)
    (xno_BadSize : PySem.W.findIn K (.ref C_BadSize) "size" = some none)
    (xhn_BadSize : PySem.W.specialIn K (.builtin "object.__class__") "__get__" = some (some (.builtin "getset_descriptor.__get__")))
    (xht_BadSize : PySem.W.takesIn K (.builtin "object.__class__") = some true)
    (xti_BadSize : PySem.W.typeIn K (.ref f4) = some (.type "function"))
    (xs_BadSize_BadPlace : PySem.W.subIn K (.ref C_BadSize) (.ref C_BadPlace) = some false)
    (xs_BadSize_BadRow : PySem.W.subIn K (.ref C_BadSize) (.ref C_BadRow) = some false)
    (xs_BadSize_BadSize : PySem.W.subIn K (.ref C_BadSize) (.ref C_BadSize) = some true)
    (ok_BadSize_EveryError : PySem.W.kitOne K (.ref C_BadSize) (.ref C_EveryError) = some true)
    (xl_BadPlace : K.lookup C_BadPlace = some (excClassObj en_BadPlace eq_BadPlace C_BadPlace eN_BadPlace eb_BadPlace em_BadPlace true es_BadPlace eu_BadPlace ea_BadPlace eo_BadPlace ed_BadPlace e0_BadPlace e1_BadPlace e2_BadPlace e3_BadPlace e5_BadPlace "ValueError.__new__"))
    (xr_BadPlace : PySem.HandSPX.refsVE em_BadPlace = true)
    (xsa_BadPlace : PySem.W.findIn K (.ref C_BadPlace) "__setattr__" = some (some (.builtin "object.__setattr__")))
    (xex_BadPlace : PySem.W.subIn K (.ref C_BadPlace) (.type "BaseException") = some true)
    (xty_BadPlace : PySem.W.typeIn K (.ref C_BadPlace) = some (.type "type"))
    (xkc_BadPlace : PySem.W.keepIn K (.ref C_BadPlace) = true)
    (xga_BadPlace : PySem.W.findIn K (.ref C_BadPlace) "__getattribute__" = some (some (.builtin "BaseException.__getattribute__")))
    (xgg_BadPlace : PySem.W.findIn K (.ref C_BadPlace) "__getattr__" = some none)
    (xhd_BadPlace : PySem.W.hasDictIn K C_BadPlace = true)
    (xha_BadPlace : PySem.W.findIn K (.ref C_BadPlace) "__class__" = some (some (.builtin "object.__class__")))
    (xhm_BadPlace : PySem.W.mroIn K C_BadPlace (.type "object") = some true)
    (xno_BadPlace : PySem.W.findIn K (.ref C_BadPlace) "place" = some none)
    (xhn_BadPlace : PySem.W.specialIn K (.builtin "object.__class__") "__get__" = some (some (.builtin "getset_descriptor.__get__")))
    (xht_BadPlace : PySem.W.takesIn K (.builtin "object.__class__") = some true)
    (xti_BadPlace : PySem.W.typeIn K (.ref f5) = some (.type "function"))
    (xs_BadPlace_BadPlace : PySem.W.subIn K (.ref C_BadPlace) (.ref C_BadPlace) = some true)
    (xs_BadPlace_BadRow : PySem.W.subIn K (.ref C_BadPlace) (.ref C_BadRow) = some false)
    (xs_BadPlace_BadSize : PySem.W.subIn K (.ref C_BadPlace) (.ref C_BadSize) = some false)
    (ok_BadPlace_EveryError : PySem.W.kitOne K (.ref C_BadPlace) (.ref C_EveryError) = some true)
    (xl_BadRow : K.lookup C_BadRow = some (excClassObj en_BadRow eq_BadRow C_BadRow eN_BadRow eb_BadRow em_BadRow true es_BadRow eu_BadRow ea_BadRow eo_BadRow ed_BadRow e0_BadRow e1_BadRow e2_BadRow e3_BadRow e5_BadRow "ValueError.__new__"))
    (xr_BadRow : PySem.HandSPX.refsVE em_BadRow = true)
    (xsa_BadRow : PySem.W.findIn K (.ref C_BadRow) "__setattr__" = some (some (.builtin "object.__setattr__")))
    (xex_BadRow : PySem.W.subIn K (.ref C_BadRow) (.type "BaseException") = some true)
    (xty_BadRow : PySem.W.typeIn K (.ref C_BadRow) = some (.type "type"))
    (xkc_BadRow : PySem.W.keepIn K (.ref C_BadRow) = true)
    (xga_BadRow : PySem.W.findIn K (.ref C_BadRow) "__getattribute__" = some (some (.builtin "BaseException.__getattribute__")))
    (xgg_BadRow : PySem.W.findIn K (.ref C_BadRow) "__getattr__" = some none)
    (xhd_BadRow : PySem.W.hasDictIn K C_BadRow = true)
    (xha_BadRow : PySem.W.findIn K (.ref C_BadRow) "__class__" = some (some (.builtin "object.__class__")))
    (xhm_BadRow : PySem.W.mroIn K C_BadRow (.type "object") = some true)
    (xno_BadRow : PySem.W.findIn K (.ref C_BadRow) "index" = some none)
    (xhn_BadRow : PySem.W.specialIn K (.builtin "object.__class__") "__get__" = some (some (.builtin "getset_descriptor.__get__")))
    (xht_BadRow : PySem.W.takesIn K (.builtin "object.__class__") = some true)
    (xti_BadRow : PySem.W.typeIn K (.ref f6) = some (.type "function"))
    (xs_BadRow_BadPlace : PySem.W.subIn K (.ref C_BadRow) (.ref C_BadPlace) = some false)
    (xs_BadRow_BadRow : PySem.W.subIn K (.ref C_BadRow) (.ref C_BadRow) = some true)
    (xs_BadRow_BadSize : PySem.W.subIn K (.ref C_BadRow) (.ref C_BadSize) = some false)
    (ok_BadRow_EveryError : PySem.W.kitOne K (.ref C_BadRow) (.ref C_EveryError) = some true)
    (z_bool : PySem.W.nsIn K mainGlobals "bool" = some none)
    (z_enumerate : PySem.W.nsIn K mainGlobals "enumerate" = some none)
    (z_int : PySem.W.nsIn K mainGlobals "int" = some none)
    (z_isinstance : PySem.W.nsIn K mainGlobals "isinstance" = some none)
    (z_len : PySem.W.nsIn K mainGlobals "len" = some none)
    (z_list : PySem.W.nsIn K mainGlobals "list" = some none)
    (z_max : PySem.W.nsIn K mainGlobals "max" = some none)
    (z_min : PySem.W.nsIn K mainGlobals "min" = some none)
    (z_range : PySem.W.nsIn K mainGlobals "range" = some none)
    (z_sorted : PySem.W.nsIn K mainGlobals "sorted" = some none)
    (z_str : PySem.W.nsIn K mainGlobals "str" = some none)
    (z_sum : PySem.W.nsIn K mainGlobals "sum" = some none)
    (z_tuple : PySem.W.nsIn K mainGlobals "tuple" = some none)
    (m_MOST_PLACES : PySem.W.nsIn K mainGlobals "MOST_PLACES" = some (some (.int 1000 t_MOST_PLACES)))
    (m_MOST_MOVES : PySem.W.nsIn K mainGlobals "MOST_MOVES" = some (some (.int 4 t_MOST_MOVES)))
    (m_FIGURES : PySem.W.nsIn K mainGlobals "FIGURES" = some (some (.ref a_FIGURES)))
    (l_FIGURES : K.lookup a_FIGURES = some o_FIGURES)
    (h_FIGURES : tupB o_FIGURES [.str "1", .str "2", .str "3", .str "4", .str "5", .str "6", .str "7", .str "8", .str "9"] = true)
    (m_PLACE_FRONTS : PySem.W.nsIn K mainGlobals "PLACE_FRONTS" = some (some (.ref a_PLACE_FRONTS)))
    (l_PLACE_FRONTS : K.lookup a_PLACE_FRONTS = some o_PLACE_FRONTS)
    (h_PLACE_FRONTS : tupB o_PLACE_FRONTS [.str "", .str "-", .str "half-", .str "half+"] = true)
    (m_AMOUNT_FRONTS : PySem.W.nsIn K mainGlobals "AMOUNT_FRONTS" = some (some (.ref a_AMOUNT_FRONTS)))
    (l_AMOUNT_FRONTS : K.lookup a_AMOUNT_FRONTS = some o_AMOUNT_FRONTS)
    (h_AMOUNT_FRONTS : tupB o_AMOUNT_FRONTS [.str "", .str "-"] = true)
    (m_SHAPES : PySem.W.nsIn K mainGlobals "SHAPES" = some (some (.ref a_SHAPES)))
    (l_SHAPES : K.lookup a_SHAPES = some ⟨.type "dict", none, .dict es_SHAPES n_SHAPES, #[]⟩)
    (y_SHAPES : PySem.W.KeysLit w.params es_SHAPES.toList)
    (h_SHAPES : (a_SHAPES == sysModules) = false)
    (e_SHAPES : PySem.W.nsIn K a_SHAPES "" = some none)
    (h_k_SHAPES : keyB ["exchange", "roll", "turn"] es_SHAPES.toList = true)
    (v_SHAPES_0 : PySem.W.nsIn K a_SHAPES "exchange" = some (some (.ref p_SHAPES_0)))
    (l_SHAPES_0 : K.lookup p_SHAPES_0 = some o_SHAPES_0)
    (h_SHAPES_0 : tupB o_SHAPES_0 [.str "place", .str "place"] = true)
    (v_SHAPES_1 : PySem.W.nsIn K a_SHAPES "roll" = some (some (.ref p_SHAPES_1)))
    (l_SHAPES_1 : K.lookup p_SHAPES_1 = some o_SHAPES_1)
    (h_SHAPES_1 : tupB o_SHAPES_1 [.str "place", .str "place", .str "amount"] = true)
    (v_SHAPES_2 : PySem.W.nsIn K a_SHAPES "turn" = some (some (.ref p_SHAPES_2)))
    (l_SHAPES_2 : K.lookup p_SHAPES_2 = some o_SHAPES_2)
    (h_SHAPES_2 : tupB o_SHAPES_2 [] = true)
    (m_NO_PART : PySem.W.nsIn K mainGlobals "NO_PART" = some (some (.str "" t_NO_PART)))
    (m_MOST_SIZE : PySem.W.nsIn K mainGlobals "MOST_SIZE" = some (some (.int 1000000000000000000000000000000 t_MOST_SIZE)))
    (m_FEW : PySem.W.nsIn K mainGlobals "FEW" = some (some (.int 100 t_FEW)))
    (kr_t59 : PySem.W.codeHdIn K cA59 (tabAddr K cA59) = true)
    (kr_u59 : (K.lookup (tabAddr K cA59)).isNone = true)
    (kr_v59 : ts.contains (tabAddr K cA59) = true)
    (kr_t60 : PySem.W.codeHdIn K cA60 (tabAddr K cA60) = true)
    (kr_u60 : (K.lookup (tabAddr K cA60)).isNone = true)
    (kr_v60 : ts.contains (tabAddr K cA60) = true)
    (kr_d60_59 : (tabAddr K cA60 == tabAddr K cA59) = false)
    : LamX.LawAtS l w K CX0 12 63 "script" mg fa h := by
  have e := hfa.symm.trans (PySem.W.mg_of X G a60)
  cases e
  let a : Ad := ⟨f0, PySem.W.fnOf "is_integer" "is_integer" (defArgs s_is_integer) (defBody s_is_integer) (defScope s_is_integer) .none kV0 dc0 pm0 an0 cd0 ct0, f1, PySem.W.fnOf "is_between" "is_between" (defArgs s_is_between) (defBody s_is_between) (defScope s_is_between) .none kV1 dc1 pm1 an1 cd1 ct1, f2, PySem.W.fnOf "first_wrong" "first_wrong" (defArgs s_first_wrong) (defBody s_first_wrong) (defScope s_first_wrong) .none kV2 dc2 pm2 an2 cd2 ct2, f3, PySem.W.fnOf "__init__" "BadWord.__init__" (defArgs s_BadWord_init) (defBody s_BadWord_init) (defScope s_BadWord_init) .none kV3 dc3 pm3 an3 cd3 ct3, f4, PySem.W.fnOf "__init__" "BadSize.__init__" (defArgs s_BadSize_init) (defBody s_BadSize_init) (defScope s_BadSize_init) .none kV4 dc4 pm4 an4 cd4 ct4, f5, PySem.W.fnOf "__init__" "BadPlace.__init__" (defArgs s_BadPlace_init) (defBody s_BadPlace_init) (defScope s_BadPlace_init) .none kV5 dc5 pm5 an5 cd5 ct5, f6, PySem.W.fnOf "__init__" "BadRow.__init__" (defArgs s_BadRow_init) (defBody s_BadRow_init) (defScope s_BadRow_init) .none kV6 dc6 pm6 an6 cd6 ct6, f7, PySem.W.fnOf "check_row" "check_row" (defArgs s_check_row) (defBody s_check_row) (defScope s_check_row) .none kV7 dc7 pm7 an7 cd7 ct7, f8, PySem.W.fnOf "is_figure_behind" "is_figure_behind" (defArgs s_is_figure_behind) (defBody s_is_figure_behind) (defScope s_is_figure_behind) .none kV8 dc8 pm8 an8 cd8 ct8, f9, PySem.W.fnOf "is_place_word" "is_place_word" (defArgs s_is_place_word) (defBody s_is_place_word) (defScope s_is_place_word) .none kV9 dc9 pm9 an9 cd9 ct9, f10, PySem.W.fnOf "is_amount" "is_amount" (defArgs s_is_amount) (defBody s_is_amount) (defScope s_is_amount) .none kV10 dc10 pm10 an10 cd10 ct10, f11, PySem.W.fnOf "place_of" "place_of" (defArgs s_place_of) (defBody s_place_of) (defScope s_place_of) .none kV11 dc11 pm11 an11 cd11 ct11, f12, PySem.W.fnOf "amount_of" "amount_of" (defArgs s_amount_of) (defBody s_amount_of) (defScope s_amount_of) .none kV12 dc12 pm12 an12 cd12 ct12, f13, PySem.W.fnOf "is_part" "is_part" (defArgs s_is_part) (defBody s_is_part) (defScope s_is_part) .none kV13 dc13 pm13 an13 cd13 ct13, f14, PySem.W.fnOf "read_move" "read_move" (defArgs s_read_move) (defBody s_read_move) (defScope s_read_move) .none kV14 dc14 pm14 an14 cd14 ct14, f15, PySem.W.fnOf "read_moves" "read_moves" (defArgs s_read_moves) (defBody s_read_moves) (defScope s_read_moves) .none kV15 dc15 pm15 an15 cd15 ct15, f16, PySem.W.fnOf "exchanged" "exchanged" (defArgs s_exchanged) (defBody s_exchanged) (defScope s_exchanged) .none kV16 dc16 pm16 an16 cd16 ct16, f17, PySem.W.fnOf "rolled" "rolled" (defArgs s_rolled) (defBody s_rolled) (defScope s_rolled) .none kV17 dc17 pm17 an17 cd17 ct17, f18, PySem.W.fnOf "moved" "moved" (defArgs s_moved) (defBody s_moved) (defScope s_moved) .none kV18 dc18 pm18 an18 cd18 ct18, f19, PySem.W.fnOf "__init__" "Word.__init__" (defArgs s_Word_init) (defBody s_Word_init) (defScope s_Word_init) .none kV19 dc19 pm19 an19 cd19 ct19, f20, PySem.W.fnOf "__eq__" "Word.__eq__" (defArgs s_Word_eq) (defBody s_Word_eq) (defScope s_Word_eq) .none kV20 dc20 pm20 an20 cd20 ct20, f21, PySem.W.fnOf "at" "Word.at" (defArgs s_Word_at) (defBody s_Word_at) (defScope s_Word_at) .none kV21 dc21 pm21 an21 cd21 ct21, f22, PySem.W.fnOf "common_way" "common_way" (defArgs s_common_way) (defBody s_common_way) (defScope s_common_way) .none kV22 dc22 pm22 an22 cd22 ct22, f23, PySem.W.fnOf "one_form" "one_form" (defArgs s_one_form) (defBody s_one_form) (defScope s_one_form) .none kV23 dc23 pm23 an23 cd23 ct23, f24, PySem.W.fnOf "way_of" "way_of" (defArgs s_way_of) (defBody s_way_of) (defScope s_way_of) .none kV24 dc24 pm24 an24 cd24 ct24, f25, PySem.W.fnOf "index_of_run" "index_of_run" (defArgs s_index_of_run) (defBody s_index_of_run) (defScope s_index_of_run) .none kV25 dc25 pm25 an25 cd25 ct25, f26, PySem.W.fnOf "goal_of" "goal_of" (defArgs s_goal_of) (defBody s_goal_of) (defScope s_goal_of) .none kV26 dc26 pm26 an26 cd26 ct26, f27, PySem.W.fnOf "led_on" "led_on" (defArgs s_led_on) (defBody s_led_on) (defScope s_led_on) .none kV27 dc27 pm27 an27 cd27 ct27, f28, PySem.W.fnOf "taken_back" "taken_back" (defArgs s_taken_back) (defBody s_taken_back) (defScope s_taken_back) .none kV28 dc28 pm28 an28 cd28 ct28, f29, PySem.W.fnOf "__init__" "Runs.__init__" (defArgs s_Runs_init) (defBody s_Runs_init) (defScope s_Runs_init) .none kV29 dc29 pm29 an29 cd29 ct29, f30, PySem.W.fnOf "__eq__" "Runs.__eq__" (defArgs s_Runs_eq) (defBody s_Runs_eq) (defScope s_Runs_eq) .none kV30 dc30 pm30 an30 cd30 ct30, f31, PySem.W.fnOf "__mul__" "Runs.__mul__" (defArgs s_Runs_mul) (defBody s_Runs_mul) (defScope s_Runs_mul) .none kV31 dc31 pm31 an31 cd31 ct31, f32, PySem.W.fnOf "__invert__" "Runs.__invert__" (defArgs s_Runs_invert) (defBody s_Runs_invert) (defScope s_Runs_invert) .none kV32 dc32 pm32 an32 cd32 ct32, f33, PySem.W.fnOf "at" "Runs.at" (defArgs s_Runs_at) (defBody s_Runs_at) (defScope s_Runs_at) .none kV33 dc33 pm33 an33 cd33 ct33, f34, PySem.W.fnOf "check_far_size" "check_far_size" (defArgs s_check_far_size) (defBody s_check_far_size) (defScope s_check_far_size) .none kV34 dc34 pm34 an34 cd34 ct34, f35, PySem.W.fnOf "moved_block" "moved_block" (defArgs s_moved_block) (defBody s_moved_block) (defScope s_moved_block) .none kV35 dc35 pm35 an35 cd35 ct35, f36, PySem.W.fnOf "move_runs" "move_runs" (defArgs s_move_runs) (defBody s_move_runs) (defScope s_move_runs) .none kV36 dc36 pm36 an36 cd36 ct36, f37, PySem.W.fnOf "runs_of" "runs_of" (defArgs s_runs_of) (defBody s_runs_of) (defScope s_runs_of) .none kV37 dc37 pm37 an37 cd37 ct37, f38, PySem.W.fnOf "runs_of_list" "runs_of_list" (defArgs s_runs_of_list) (defBody s_runs_of_list) (defScope s_runs_of_list) .none kV38 dc38 pm38 an38 cd38 ct38, f39, PySem.W.fnOf "nothing_runs" "nothing_runs" (defArgs s_nothing_runs) (defBody s_nothing_runs) (defScope s_nothing_runs) .none kV39 dc39 pm39 an39 cd39 ct39, f40, PySem.W.fnOf "exchange_runs" "exchange_runs" (defArgs s_exchange_runs) (defBody s_exchange_runs) (defScope s_exchange_runs) .none kV40 dc40 pm40 an40 cd40 ct40, f41, PySem.W.fnOf "roll_runs" "roll_runs" (defArgs s_roll_runs) (defBody s_roll_runs) (defScope s_roll_runs) .none kV41 dc41 pm41 an41 cd41 ct41, f42, PySem.W.fnOf "wider_runs" "wider_runs" (defArgs s_wider_runs) (defBody s_wider_runs) (defScope s_wider_runs) .none kV42 dc42 pm42 an42 cd42 ct42, f43, PySem.W.fnOf "_law_form" "_law_form" (defArgs s__law_form) (defBody s__law_form) (defScope s__law_form) .none kV43 dc43 pm43 an43 cd43 ct43, f44, PySem.W.fnOf "_law_blocks" "_law_blocks" (defArgs s__law_blocks) (defBody s__law_blocks) (defScope s__law_blocks) .none kV44 dc44 pm44 an44 cd44 ct44, f45, PySem.W.fnOf "_law_pen" "_law_pen" (defArgs s__law_pen) (defBody s__law_pen) (defScope s__law_pen) .none kV45 dc45 pm45 an45 cd45 ct45, f46, PySem.W.fnOf "_law_draw" "_law_draw" (defArgs s__law_draw) (defBody s__law_draw) (defScope s__law_draw) .none kV46 dc46 pm46 an46 cd46 ct46, f47, PySem.W.fnOf "_law_pick" "_law_pick" (defArgs s__law_pick) (defBody s__law_pick) (defScope s__law_pick) .none kV47 dc47 pm47 an47 cd47 ct47, f48, PySem.W.fnOf "_law_shuffled" "_law_shuffled" (defArgs s__law_shuffled) (defBody s__law_shuffled) (defScope s__law_shuffled) .none kV48 dc48 pm48 an48 cd48 ct48, f49, PySem.W.fnOf "_law_place_word" "_law_place_word" (defArgs s__law_place_word) (defBody s__law_place_word) (defScope s__law_place_word) .none kV49 dc49 pm49 an49 cd49 ct49, f50, PySem.W.fnOf "_law_value" "_law_value" (defArgs s__law_value) (defBody s__law_value) (defScope s__law_value) .none kV50 dc50 pm50 an50 cd50 ct50, f51, PySem.W.fnOf "_law_amount" "_law_amount" (defArgs s__law_amount) (defBody s__law_amount) (defScope s__law_amount) .none kV51 dc51 pm51 an51 cd51 ct51, f52, PySem.W.fnOf "_law_move" "_law_move" (defArgs s__law_move) (defBody s__law_move) (defScope s__law_move) .none kV52 dc52 pm52 an52 cd52 ct52, f53, PySem.W.fnOf "_law_moves" "_law_moves" (defArgs s__law_moves) (defBody s__law_moves) (defScope s__law_moves) .none kV53 dc53 pm53 an53 cd53 ct53, f54, PySem.W.fnOf "_law_word_text" "_law_word_text" (defArgs s__law_word_text) (defBody s__law_word_text) (defScope s__law_word_text) .none kV54 dc54 pm54 an54 cd54 ct54, f55, PySem.W.fnOf "_law_moved" "_law_moved" (defArgs s__law_moved) (defBody s__law_moved) (defScope s__law_moved) .none kV55 dc55 pm55 an55 cd55 ct55, f56, PySem.W.fnOf "_law_all_moved" "_law_all_moved" (defArgs s__law_all_moved) (defBody s__law_all_moved) (defScope s__law_all_moved) .none kV56 dc56 pm56 an56 cd56 ct56, f57, PySem.W.fnOf "_law_refused" "_law_refused" (defArgs s__law_refused) (defBody s__law_refused) (defScope s__law_refused) .none kV57 dc57 pm57 an57 cd57 ct57, f58, PySem.W.fnOf "_law_is_told" "_law_is_told" (defArgs s__law_is_told) (defBody s__law_is_told) (defScope s__law_is_told) .none kV58 dc58 pm58 an58 cd58 ct58, f59, PySem.W.fnOf "_law_lists_refused" "_law_lists_refused" (defArgs s__law_lists_refused) (defBody s__law_lists_refused) (defScope s__law_lists_refused) .none kV59 dc59 pm59 an59 (.ref cA59) ct59, fa, PySem.W.fnOf "law" "law" (defArgs s_law) (defBody s_law) (defScope s_law) .none kV60 dc60 pm60 an60 (.ref cA60) ct60, C_EveryError, C_BadWord, C_BadSize, C_BadPlace, C_BadRow, C_Word, C_Runs, a_FIGURES, a_PLACE_FRONTS, a_AMOUNT_FRONTS, a_SHAPES, cA59, tabAddr K cA59, cA60, tabAddr K cA60⟩
  have F0 : Fun K "is_integer" "is_integer" s_is_integer a.f_is_integer a.d_is_integer := fun_mk (st := s_is_integer) l0 e0 k0
  have F1 : Fun K "is_between" "is_between" s_is_between a.f_is_between a.d_is_between := fun_mk (st := s_is_between) l1 e1 k1
  have F2 : Fun K "first_wrong" "first_wrong" s_first_wrong a.f_first_wrong a.d_first_wrong := fun_mk (st := s_first_wrong) l2 e2 k2
  have F3 : Fun K "__init__" "BadWord.__init__" s_BadWord_init a.f_BadWord_init a.d_BadWord_init := fun_mk (st := s_BadWord_init) l3 e3 k3
  have F4 : Fun K "__init__" "BadSize.__init__" s_BadSize_init a.f_BadSize_init a.d_BadSize_init := fun_mk (st := s_BadSize_init) l4 e4 k4
  have F5 : Fun K "__init__" "BadPlace.__init__" s_BadPlace_init a.f_BadPlace_init a.d_BadPlace_init := fun_mk (st := s_BadPlace_init) l5 e5 k5
  have F6 : Fun K "__init__" "BadRow.__init__" s_BadRow_init a.f_BadRow_init a.d_BadRow_init := fun_mk (st := s_BadRow_init) l6 e6 k6
  have F7 : Fun K "check_row" "check_row" s_check_row a.f_check_row a.d_check_row := fun_mk (st := s_check_row) l7 e7 k7
  have F8 : Fun K "is_figure_behind" "is_figure_behind" s_is_figure_behind a.f_is_figure_behind a.d_is_figure_behind := fun_mk (st := s_is_figure_behind) l8 e8 k8
  have F9 : Fun K "is_place_word" "is_place_word" s_is_place_word a.f_is_place_word a.d_is_place_word := fun_mk (st := s_is_place_word) l9 e9 k9
  have F10 : Fun K "is_amount" "is_amount" s_is_amount a.f_is_amount a.d_is_amount := fun_mk (st := s_is_amount) l10 e10 k10
  have F11 : Fun K "place_of" "place_of" s_place_of a.f_place_of a.d_place_of := fun_mk (st := s_place_of) l11 e11 k11
  have F12 : Fun K "amount_of" "amount_of" s_amount_of a.f_amount_of a.d_amount_of := fun_mk (st := s_amount_of) l12 e12 k12
  have F13 : Fun K "is_part" "is_part" s_is_part a.f_is_part a.d_is_part := fun_mk (st := s_is_part) l13 e13 k13
  have F14 : Fun K "read_move" "read_move" s_read_move a.f_read_move a.d_read_move := fun_mk (st := s_read_move) l14 e14 k14
  have F15 : Fun K "read_moves" "read_moves" s_read_moves a.f_read_moves a.d_read_moves := fun_mk (st := s_read_moves) l15 e15 k15
  have F16 : Fun K "exchanged" "exchanged" s_exchanged a.f_exchanged a.d_exchanged := fun_mk (st := s_exchanged) l16 e16 k16
  have F17 : Fun K "rolled" "rolled" s_rolled a.f_rolled a.d_rolled := fun_mk (st := s_rolled) l17 e17 k17
  have F18 : Fun K "moved" "moved" s_moved a.f_moved a.d_moved := fun_mk (st := s_moved) l18 e18 k18
  have F19 : Fun K "__init__" "Word.__init__" s_Word_init a.f_Word_init a.d_Word_init := fun_mk (st := s_Word_init) l19 e19 k19
  have F20 : Fun K "__eq__" "Word.__eq__" s_Word_eq a.f_Word_eq a.d_Word_eq := fun_mk (st := s_Word_eq) l20 e20 k20
  have F21 : Fun K "at" "Word.at" s_Word_at a.f_Word_at a.d_Word_at := fun_mk (st := s_Word_at) l21 e21 k21
  have F22 : Fun K "common_way" "common_way" s_common_way a.f_common_way a.d_common_way := fun_mk (st := s_common_way) l22 e22 k22
  have F23 : Fun K "one_form" "one_form" s_one_form a.f_one_form a.d_one_form := fun_mk (st := s_one_form) l23 e23 k23
  have F24 : Fun K "way_of" "way_of" s_way_of a.f_way_of a.d_way_of := fun_mk (st := s_way_of) l24 e24 k24
  have F25 : Fun K "index_of_run" "index_of_run" s_index_of_run a.f_index_of_run a.d_index_of_run := fun_mk (st := s_index_of_run) l25 e25 k25
  have F26 : Fun K "goal_of" "goal_of" s_goal_of a.f_goal_of a.d_goal_of := fun_mk (st := s_goal_of) l26 e26 k26
  have F27 : Fun K "led_on" "led_on" s_led_on a.f_led_on a.d_led_on := fun_mk (st := s_led_on) l27 e27 k27
  have F28 : Fun K "taken_back" "taken_back" s_taken_back a.f_taken_back a.d_taken_back := fun_mk (st := s_taken_back) l28 e28 k28
  have F29 : Fun K "__init__" "Runs.__init__" s_Runs_init a.f_Runs_init a.d_Runs_init := fun_mk (st := s_Runs_init) l29 e29 k29
  have F30 : Fun K "__eq__" "Runs.__eq__" s_Runs_eq a.f_Runs_eq a.d_Runs_eq := fun_mk (st := s_Runs_eq) l30 e30 k30
  have F31 : Fun K "__mul__" "Runs.__mul__" s_Runs_mul a.f_Runs_mul a.d_Runs_mul := fun_mk (st := s_Runs_mul) l31 e31 k31
  have F32 : Fun K "__invert__" "Runs.__invert__" s_Runs_invert a.f_Runs_invert a.d_Runs_invert := fun_mk (st := s_Runs_invert) l32 e32 k32
  have F33 : Fun K "at" "Runs.at" s_Runs_at a.f_Runs_at a.d_Runs_at := fun_mk (st := s_Runs_at) l33 e33 k33
  have F34 : Fun K "check_far_size" "check_far_size" s_check_far_size a.f_check_far_size a.d_check_far_size := fun_mk (st := s_check_far_size) l34 e34 k34
  have F35 : Fun K "moved_block" "moved_block" s_moved_block a.f_moved_block a.d_moved_block := fun_mk (st := s_moved_block) l35 e35 k35
  have F36 : Fun K "move_runs" "move_runs" s_move_runs a.f_move_runs a.d_move_runs := fun_mk (st := s_move_runs) l36 e36 k36
  have F37 : Fun K "runs_of" "runs_of" s_runs_of a.f_runs_of a.d_runs_of := fun_mk (st := s_runs_of) l37 e37 k37
  have F38 : Fun K "runs_of_list" "runs_of_list" s_runs_of_list a.f_runs_of_list a.d_runs_of_list := fun_mk (st := s_runs_of_list) l38 e38 k38
  have F39 : Fun K "nothing_runs" "nothing_runs" s_nothing_runs a.f_nothing_runs a.d_nothing_runs := fun_mk (st := s_nothing_runs) l39 e39 k39
  have F40 : Fun K "exchange_runs" "exchange_runs" s_exchange_runs a.f_exchange_runs a.d_exchange_runs := fun_mk (st := s_exchange_runs) l40 e40 k40
  have F41 : Fun K "roll_runs" "roll_runs" s_roll_runs a.f_roll_runs a.d_roll_runs := fun_mk (st := s_roll_runs) l41 e41 k41
  have F42 : Fun K "wider_runs" "wider_runs" s_wider_runs a.f_wider_runs a.d_wider_runs := fun_mk (st := s_wider_runs) l42 e42 k42
  have F43 : Fun K "_law_form" "_law_form" s__law_form a.f__law_form a.d__law_form := fun_mk (st := s__law_form) l43 e43 k43
  have F44 : Fun K "_law_blocks" "_law_blocks" s__law_blocks a.f__law_blocks a.d__law_blocks := fun_mk (st := s__law_blocks) l44 e44 k44
  have F45 : Fun K "_law_pen" "_law_pen" s__law_pen a.f__law_pen a.d__law_pen := fun_mk (st := s__law_pen) l45 e45 k45
  have F46 : Fun K "_law_draw" "_law_draw" s__law_draw a.f__law_draw a.d__law_draw := fun_mk (st := s__law_draw) l46 e46 k46
  have F47 : Fun K "_law_pick" "_law_pick" s__law_pick a.f__law_pick a.d__law_pick := fun_mk (st := s__law_pick) l47 e47 k47
  have F48 : Fun K "_law_shuffled" "_law_shuffled" s__law_shuffled a.f__law_shuffled a.d__law_shuffled := fun_mk (st := s__law_shuffled) l48 e48 k48
  have F49 : Fun K "_law_place_word" "_law_place_word" s__law_place_word a.f__law_place_word a.d__law_place_word := fun_mk (st := s__law_place_word) l49 e49 k49
  have F50 : Fun K "_law_value" "_law_value" s__law_value a.f__law_value a.d__law_value := fun_mk (st := s__law_value) l50 e50 k50
  have F51 : Fun K "_law_amount" "_law_amount" s__law_amount a.f__law_amount a.d__law_amount := fun_mk (st := s__law_amount) l51 e51 k51
  have F52 : Fun K "_law_move" "_law_move" s__law_move a.f__law_move a.d__law_move := fun_mk (st := s__law_move) l52 e52 k52
  have F53 : Fun K "_law_moves" "_law_moves" s__law_moves a.f__law_moves a.d__law_moves := fun_mk (st := s__law_moves) l53 e53 k53
  have F54 : Fun K "_law_word_text" "_law_word_text" s__law_word_text a.f__law_word_text a.d__law_word_text := fun_mk (st := s__law_word_text) l54 e54 k54
  have F55 : Fun K "_law_moved" "_law_moved" s__law_moved a.f__law_moved a.d__law_moved := fun_mk (st := s__law_moved) l55 e55 k55
  have F56 : Fun K "_law_all_moved" "_law_all_moved" s__law_all_moved a.f__law_all_moved a.d__law_all_moved := fun_mk (st := s__law_all_moved) l56 e56 k56
  have F57 : Fun K "_law_refused" "_law_refused" s__law_refused a.f__law_refused a.d__law_refused := fun_mk (st := s__law_refused) l57 e57 k57
  have F58 : Fun K "_law_is_told" "_law_is_told" s__law_is_told a.f__law_is_told a.d__law_is_told := fun_mk (st := s__law_is_told) l58 e58 k58
  have F59 : Fun K "_law_lists_refused" "_law_lists_refused" s__law_lists_refused a.f__law_lists_refused a.d__law_lists_refused := fun_mk (st := s__law_lists_refused) l59 e59 k59
  have F60 : Fun K "law" "law" s_law a.f_law a.d_law := fun_mk (st := s_law) l60 e60 k60
  have T : Tx w K mg a := ⟨(F0),
    (F0.binds (ps := ["value"]) fun _ _ _ _ _ _ us hl => match us, hl with | [_], _ => rfl),
    (PySem.W.mg_of X G a0),
    (F1),
    (F1.binds (ps := ["value", "low", "high"]) fun _ _ _ _ _ _ us hl => match us, hl with | [_, _, _], _ => rfl),
    (PySem.W.mg_of X G a1),
    (F2),
    (F2.binds (ps := ["row", "size"]) fun _ _ _ _ _ _ us hl => match us, hl with | [_, _], _ => rfl),
    (PySem.W.mg_of X G a2),
    (F3),
    (F3.binds (ps := ["self", "index"]) fun _ _ _ _ _ _ us hl => match us, hl with | [_, _], _ => rfl),
    (F4),
    (F4.binds (ps := ["self", "size"]) fun _ _ _ _ _ _ us hl => match us, hl with | [_, _], _ => rfl),
    (F5),
    (F5.binds (ps := ["self", "place"]) fun _ _ _ _ _ _ us hl => match us, hl with | [_, _], _ => rfl),
    (F6),
    (F6.binds (ps := ["self", "index"]) fun _ _ _ _ _ _ us hl => match us, hl with | [_, _], _ => rfl),
    (F7),
    (F7.binds (ps := ["row"]) fun _ _ _ _ _ _ us hl => match us, hl with | [_], _ => rfl),
    (PySem.W.mg_of X G a7),
    (F8),
    (F8.binds (ps := ["fronts", "text"]) fun _ _ _ _ _ _ us hl => match us, hl with | [_, _], _ => rfl),
    (PySem.W.mg_of X G a8),
    (F9),
    (F9.binds (ps := ["text"]) fun _ _ _ _ _ _ us hl => match us, hl with | [_], _ => rfl),
    (PySem.W.mg_of X G a9),
    (F10),
    (F10.binds (ps := ["text"]) fun _ _ _ _ _ _ us hl => match us, hl with | [_], _ => rfl),
    (PySem.W.mg_of X G a10),
    (F11),
    (F11.binds (ps := ["word", "size"]) fun _ _ _ _ _ _ us hl => match us, hl with | [_, _], _ => rfl),
    (PySem.W.mg_of X G a11),
    (F12),
    (F12.binds (ps := ["text", "length"]) fun _ _ _ _ _ _ us hl => match us, hl with | [_, _], _ => rfl),
    (PySem.W.mg_of X G a12),
    (F13),
    (F13.binds (ps := ["text", "kind"]) fun _ _ _ _ _ _ us hl => match us, hl with | [_, _], _ => rfl),
    (PySem.W.mg_of X G a13),
    (F14),
    (F14.binds (ps := ["parts", "start", "may_turn"]) fun _ _ _ _ _ _ us hl => match us, hl with | [_, _, _], _ => rfl),
    (PySem.W.mg_of X G a14),
    (F15),
    (F15.binds (ps := ["parts", "start"]) fun _ _ _ _ _ _ us hl => match us, hl with | [_, _], _ => rfl),
    (PySem.W.mg_of X G a15),
    (F16),
    (F16.binds (ps := ["old", "x", "y"]) fun _ _ _ _ _ _ us hl => match us, hl with | [_, _, _], _ => rfl),
    (PySem.W.mg_of X G a16),
    (F17),
    (F17.binds (ps := ["old", "x", "y", "amount"]) fun _ _ _ _ _ _ us hl => match us, hl with | [_, _, _, _], _ => rfl),
    (PySem.W.mg_of X G a17),
    (F18),
    (F18.binds (ps := ["old", "move"]) fun _ _ _ _ _ _ us hl => match us, hl with | [_, _], _ => rfl),
    (PySem.W.mg_of X G a18),
    (F19),
    (F19.binds (ps := ["self", "text"]) fun _ _ _ _ _ _ us hl => match us, hl with | [_, _], _ => rfl),
    (F20),
    (F20.binds (ps := ["self", "other"]) fun _ _ _ _ _ _ us hl => match us, hl with | [_, _], _ => rfl),
    (F21),
    (F21.binds (ps := ["self", "k"]) fun _ _ _ _ _ _ us hl => match us, hl with | [_, _], _ => rfl),
    (F22),
    (F22.binds (ps := ["run", "other"]) fun _ _ _ _ _ _ us hl => match us, hl with | [_, _], _ => rfl),
    (PySem.W.mg_of X G a22),
    (F23),
    (F23.binds (ps := ["pieces"]) fun _ _ _ _ _ _ us hl => match us, hl with | [_], _ => rfl),
    (PySem.W.mg_of X G a23),
    (F24),
    (F24.binds (ps := ["size", "rows"]) fun _ _ _ _ _ _ us hl => match us, hl with | [_, _], _ => rfl),
    (PySem.W.mg_of X G a24),
    (F25),
    (F25.binds (ps := ["rows", "place"]) fun _ _ _ _ _ _ us hl => match us, hl with | [_, _], _ => rfl),
    (PySem.W.mg_of X G a25),
    (F26),
    (F26.binds (ps := ["run", "place"]) fun _ _ _ _ _ _ us hl => match us, hl with | [_, _], _ => rfl),
    (PySem.W.mg_of X G a26),
    (F27),
    (F27.binds (ps := ["rows", "run"]) fun _ _ _ _ _ _ us hl => match us, hl with | [_, _], _ => rfl),
    (PySem.W.mg_of X G a27),
    (F28),
    (F28.binds (ps := ["run"]) fun _ _ _ _ _ _ us hl => match us, hl with | [_], _ => rfl),
    (PySem.W.mg_of X G a28),
    (F29),
    (F29.binds (ps := ["self", "size", "pieces"]) fun _ _ _ _ _ _ us hl => match us, hl with | [_, _, _], _ => rfl),
    (F30),
    (F30.binds (ps := ["self", "other"]) fun _ _ _ _ _ _ us hl => match us, hl with | [_, _], _ => rfl),
    (F31),
    (F31.binds (ps := ["self", "other"]) fun _ _ _ _ _ _ us hl => match us, hl with | [_, _], _ => rfl),
    (F32),
    (F32.binds (ps := ["self"]) fun _ _ _ _ _ _ us hl => match us, hl with | [_], _ => rfl),
    (F33),
    (F33.binds (ps := ["self", "j"]) fun _ _ _ _ _ _ us hl => match us, hl with | [_, _], _ => rfl),
    (F34),
    (F34.binds (ps := ["k"]) fun _ _ _ _ _ _ us hl => match us, hl with | [_], _ => rfl),
    (PySem.W.mg_of X G a34),
    (F35),
    (F35.binds (ps := ["k", "x", "y", "pieces"]) fun _ _ _ _ _ _ us hl => match us, hl with | [_, _, _, _], _ => rfl),
    (PySem.W.mg_of X G a35),
    (F36),
    (F36.binds (ps := ["move", "k"]) fun _ _ _ _ _ _ us hl => match us, hl with | [_, _], _ => rfl),
    (PySem.W.mg_of X G a36),
    (F37),
    (F37.binds (ps := ["word", "k"]) fun _ _ _ _ _ _ us hl => match us, hl with | [_, _], _ => rfl),
    (PySem.W.mg_of X G a37),
    (F38),
    (F38.binds (ps := ["row"]) fun _ _ _ _ _ _ us hl => match us, hl with | [_], _ => rfl),
    (PySem.W.mg_of X G a38),
    (F39),
    (F39.binds (ps := ["k"]) fun _ _ _ _ _ _ us hl => match us, hl with | [_], _ => rfl),
    (PySem.W.mg_of X G a39),
    (F40),
    (F40.binds (ps := ["k", "x", "y"]) fun _ _ _ _ _ _ us hl => match us, hl with | [_, _, _], _ => rfl),
    (PySem.W.mg_of X G a40),
    (F41),
    (F41.binds (ps := ["k", "x", "y", "c"]) fun _ _ _ _ _ _ us hl => match us, hl with | [_, _, _, _], _ => rfl),
    (PySem.W.mg_of X G a41),
    (F42),
    (F42.binds (ps := ["runs"]) fun _ _ _ _ _ _ us hl => match us, hl with | [_], _ => rfl),
    (PySem.W.mg_of X G a42),
    (F43),
    (F43.binds (ps := ["row"]) fun _ _ _ _ _ _ us hl => match us, hl with | [_], _ => rfl),
    (PySem.W.mg_of X G a43),
    (F44),
    (F44.binds (ps := ["pen", "size"]) fun _ _ _ _ _ _ us hl => match us, hl with | [_, _], _ => rfl),
    (PySem.W.mg_of X G a44),
    (F45),
    (F45.binds (ps := ["script"]) fun _ _ _ _ _ _ us hl => match us, hl with | [_], _ => rfl),
    (PySem.W.mg_of X G a45),
    (F46),
    (F46.binds (ps := ["pen", "many"]) fun _ _ _ _ _ _ us hl => match us, hl with | [_, _], _ => rfl),
    (PySem.W.mg_of X G a46),
    (F47),
    (F47.binds (ps := ["pen", "some"]) fun _ _ _ _ _ _ us hl => match us, hl with | [_, _], _ => rfl),
    (PySem.W.mg_of X G a47),
    (F48),
    (F48.binds (ps := ["pen", "some"]) fun _ _ _ _ _ _ us hl => match us, hl with | [_, _], _ => rfl),
    (PySem.W.mg_of X G a48),
    (F49),
    (F49.binds (ps := ["pen"]) fun _ _ _ _ _ _ us hl => match us, hl with | [_], _ => rfl),
    (PySem.W.mg_of X G a49),
    (F50),
    (F50.binds (ps := ["word", "k"]) fun _ _ _ _ _ _ us hl => match us, hl with | [_, _], _ => rfl),
    (PySem.W.mg_of X G a50),
    (F51),
    (F51.binds (ps := ["pen"]) fun _ _ _ _ _ _ us hl => match us, hl with | [_], _ => rfl),
    (PySem.W.mg_of X G a51),
    (F52),
    (F52.binds (ps := ["pen", "has_turn"]) fun _ _ _ _ _ _ us hl => match us, hl with | [_, _], _ => rfl),
    (PySem.W.mg_of X G a52),
    (F53),
    (F53.binds (ps := ["pen"]) fun _ _ _ _ _ _ us hl => match us, hl with | [_], _ => rfl),
    (PySem.W.mg_of X G a53),
    (F54),
    (F54.binds (ps := ["moves"]) fun _ _ _ _ _ _ us hl => match us, hl with | [_], _ => rfl),
    (PySem.W.mg_of X G a54),
    (F55),
    (F55.binds (ps := ["row", "move"]) fun _ _ _ _ _ _ us hl => match us, hl with | [_, _], _ => rfl),
    (PySem.W.mg_of X G a55),
    (F56),
    (F56.binds (ps := ["row", "moves"]) fun _ _ _ _ _ _ us hl => match us, hl with | [_, _], _ => rfl),
    (PySem.W.mg_of X G a56),
    (F57),
    (F57.binds (ps := ["call"]) fun _ _ _ _ _ _ us hl => match us, hl with | [_], _ => rfl),
    (PySem.W.mg_of X G a57),
    (F58),
    (F58.binds (ps := ["told", "row"]) fun _ _ _ _ _ _ us hl => match us, hl with | [_, _], _ => rfl),
    (PySem.W.mg_of X G a58),
    (F59),
    (⟨_, _, _, _, _, _, _, _, rfl, l59, e59⟩),
    (F59.binds (ps := ["pen", "blocks"]) fun _ _ _ _ _ _ us hl => match us, hl with | [_, _], _ => rfl),
    (PySem.W.mg_of X G a59),
    (F60),
    (⟨_, _, _, _, _, _, _, _, rfl, l60, e60⟩),
    (F60.binds (ps := ["script"]) fun _ _ _ _ _ _ us hl => match us, hl with | [_], _ => rfl),
    (PySem.W.mg_of X G a60),
    (PySem.W.mg_of X G c_EveryError),
    (PySem.W.mg_of X G c_BadWord),
    (PySem.W.mg_of X G c_BadSize),
    (PySem.W.mg_of X G c_BadPlace),
    (PySem.W.mg_of X G c_BadRow),
    (PySem.W.mg_of X G c_Word),
    (PySem.W.mg_of X G c_Runs),
    (⟨pg_Word, hd_Word, po_Word, sa_Word⟩),
    (⟨mk_Word, a19, i_Word_init, kc_Word⟩),
    (n_Word_text),
    (n_Word_moves),
    (n_Word_has_turn),
    (⟨a21, i_Word_at, k21⟩),
    (⟨a20, i_Word_eq, og_Word, on_Word, ot_Word, om_Word, of_Word, ok_Word⟩),
    (⟨pg_Runs, hd_Runs, po_Runs, sa_Runs⟩),
    (⟨mk_Runs, a29, i_Runs_init, kc_Runs⟩),
    (n_Runs_size),
    (n_Runs_rows),
    (n_Runs_way),
    (⟨a33, i_Runs_at, k33⟩),
    (⟨a30, i_Runs_eq, og_Runs, on_Runs, ot_Runs, om_Runs, of_Runs, ok_Runs⟩),
    (⟨o2a_Runs, o2b_Runs, o2c_Runs, ok_int_Runs, ok_tup_Runs, o2d_Runs, ok_lst_Runs⟩),
    (⟨sf_Runs, a31, i_Runs_mul⟩),
    (⟨a32, i_Runs_invert⟩),
    (⟨⟨⟨en_BadWord, eq_BadWord, eN_BadWord, eb_BadWord, em_BadWord, es_BadWord, eu_BadWord, ea_BadWord, eo_BadWord, ed_BadWord, e0_BadWord, e1_BadWord, e2_BadWord, e3_BadWord, e5_BadWord, xl_BadWord, xr_BadWord⟩, xsa_BadWord, xex_BadWord, xty_BadWord, xkc_BadWord⟩, a3, xti_BadWord, xno_BadWord, ⟨xga_BadWord, xgg_BadWord, xex_BadWord, xhd_BadWord⟩, ⟨xga_BadWord, xgg_BadWord, xex_BadWord, xhd_BadWord, xha_BadWord, xhn_BadWord, xht_BadWord, xhm_BadWord⟩⟩),
    (exm_ofHd xex_BadPlace xhd_BadPlace xty_BadPlace xs_BadWord_BadPlace),
    (exm_ofHd xex_BadRow xhd_BadRow xty_BadRow xs_BadWord_BadRow),
    (exm_ofHd xex_BadSize xhd_BadSize xty_BadSize xs_BadWord_BadSize),
    (ok_BadWord_EveryError),
    (⟨⟨⟨en_BadSize, eq_BadSize, eN_BadSize, eb_BadSize, em_BadSize, es_BadSize, eu_BadSize, ea_BadSize, eo_BadSize, ed_BadSize, e0_BadSize, e1_BadSize, e2_BadSize, e3_BadSize, e5_BadSize, xl_BadSize, xr_BadSize⟩, xsa_BadSize, xex_BadSize, xty_BadSize, xkc_BadSize⟩, a4, xti_BadSize, xno_BadSize, ⟨xga_BadSize, xgg_BadSize, xex_BadSize, xhd_BadSize⟩, ⟨xga_BadSize, xgg_BadSize, xex_BadSize, xhd_BadSize, xha_BadSize, xhn_BadSize, xht_BadSize, xhm_BadSize⟩⟩),
    (exm_ofHd xex_BadPlace xhd_BadPlace xty_BadPlace xs_BadSize_BadPlace),
    (exm_ofHd xex_BadRow xhd_BadRow xty_BadRow xs_BadSize_BadRow),
    (exm_ofHd xex_BadSize xhd_BadSize xty_BadSize xs_BadSize_BadSize),
    (ok_BadSize_EveryError),
    (⟨⟨⟨en_BadPlace, eq_BadPlace, eN_BadPlace, eb_BadPlace, em_BadPlace, es_BadPlace, eu_BadPlace, ea_BadPlace, eo_BadPlace, ed_BadPlace, e0_BadPlace, e1_BadPlace, e2_BadPlace, e3_BadPlace, e5_BadPlace, xl_BadPlace, xr_BadPlace⟩, xsa_BadPlace, xex_BadPlace, xty_BadPlace, xkc_BadPlace⟩, a5, xti_BadPlace, xno_BadPlace, ⟨xga_BadPlace, xgg_BadPlace, xex_BadPlace, xhd_BadPlace⟩, ⟨xga_BadPlace, xgg_BadPlace, xex_BadPlace, xhd_BadPlace, xha_BadPlace, xhn_BadPlace, xht_BadPlace, xhm_BadPlace⟩⟩),
    (exm_ofHd xex_BadPlace xhd_BadPlace xty_BadPlace xs_BadPlace_BadPlace),
    (exm_ofHd xex_BadRow xhd_BadRow xty_BadRow xs_BadPlace_BadRow),
    (exm_ofHd xex_BadSize xhd_BadSize xty_BadSize xs_BadPlace_BadSize),
    (ok_BadPlace_EveryError),
    (⟨⟨⟨en_BadRow, eq_BadRow, eN_BadRow, eb_BadRow, em_BadRow, es_BadRow, eu_BadRow, ea_BadRow, eo_BadRow, ed_BadRow, e0_BadRow, e1_BadRow, e2_BadRow, e3_BadRow, e5_BadRow, xl_BadRow, xr_BadRow⟩, xsa_BadRow, xex_BadRow, xty_BadRow, xkc_BadRow⟩, a6, xti_BadRow, xno_BadRow, ⟨xga_BadRow, xgg_BadRow, xex_BadRow, xhd_BadRow⟩, ⟨xga_BadRow, xgg_BadRow, xex_BadRow, xhd_BadRow, xha_BadRow, xhn_BadRow, xht_BadRow, xhm_BadRow⟩⟩),
    (exm_ofHd xex_BadPlace xhd_BadPlace xty_BadPlace xs_BadRow_BadPlace),
    (exm_ofHd xex_BadRow xhd_BadRow xty_BadRow xs_BadRow_BadRow),
    (exm_ofHd xex_BadSize xhd_BadSize xty_BadSize xs_BadRow_BadSize),
    (ok_BadRow_EveryError),
    (PySem.W.mg_none_of X G z_bool),
    (PySem.W.mg_none_of X G z_enumerate),
    (PySem.W.mg_none_of X G z_int),
    (PySem.W.mg_none_of X G z_isinstance),
    (PySem.W.mg_none_of X G z_len),
    (PySem.W.mg_none_of X G z_list),
    (PySem.W.mg_none_of X G z_max),
    (PySem.W.mg_none_of X G z_min),
    (PySem.W.mg_none_of X G z_range),
    (PySem.W.mg_none_of X G z_sorted),
    (PySem.W.mg_none_of X G z_str),
    (PySem.W.mg_none_of X G z_sum),
    (PySem.W.mg_none_of X G z_tuple),
    (⟨_, PySem.W.mg_of X G m_MOST_PLACES⟩),
    (⟨_, PySem.W.mg_of X G m_MOST_MOVES⟩),
    (PySem.W.mg_of X G m_FIGURES),
    (fun H => tupB_ok l_FIGURES h_FIGURES),
    (PySem.W.mg_of X G m_PLACE_FRONTS),
    (fun H => tupB_ok l_PLACE_FRONTS h_PLACE_FRONTS),
    (PySem.W.mg_of X G m_AMOUNT_FRONTS),
    (fun H => tupB_ok l_AMOUNT_FRONTS h_AMOUNT_FRONTS),
    (PySem.W.mg_of X G m_SHAPES),
    (⟨_, _, l_SHAPES, y_SHAPES, h_SHAPES⟩),
    (e_SHAPES),
    (⟨_, _, ⟨l_SHAPES, y_SHAPES, h_SHAPES⟩, h_k_SHAPES⟩),
    (⟨_, v_SHAPES_0, fun H => tupB_ok l_SHAPES_0 h_SHAPES_0⟩),
    (⟨_, v_SHAPES_1, fun H => tupB_ok l_SHAPES_1 h_SHAPES_1⟩),
    (⟨_, v_SHAPES_2, fun H => tupB_ok l_SHAPES_2 h_SHAPES_2⟩),
    (⟨_, PySem.W.mg_of X G m_NO_PART⟩),
    (⟨_, PySem.W.mg_of X G m_MOST_SIZE⟩),
    (⟨_, PySem.W.mg_of X G m_FEW⟩)⟩
  refine ⟨a.d_law, [(cA59, tabAddr K cA59), (cA60, tabAddr K cA60)], spLaw K (tabsOf a), (List.forall_mem_cons.mpr ⟨tabs_at hts kr_v59, (List.forall_mem_cons.mpr ⟨tabs_at hts kr_v60, (fun _ h => nomatch h)⟩)⟩), (List.forall_mem_cons.mpr ⟨Option.isNone_iff_eq_none.mp kr_u59, (List.forall_mem_cons.mpr ⟨Option.isNone_iff_eq_none.mp kr_u60, (fun _ h => nomatch h)⟩)⟩), (List.forall_mem_cons.mpr ⟨PySem.W.codeHd_of_K X kr_t59, (List.forall_mem_cons.mpr ⟨PySem.W.codeHd_of_K X kr_t60, (fun _ h => nomatch h)⟩)⟩), fun s v => .of_eq rfl, fun H p ns hl hb hT hS => ?_, fun base KB GB hB => ?_⟩
  · exact ⟨p, ns, rfl, hS, hl, tabs_nil (T := tabsOf a) (cs := [(cA59, tabAddr K cA59), (cA60, tabAddr K cA60)]) rfl hT, fun _ => rfl⟩
  · have B : Tb base mg a := ⟨hB _ (.head _), (List.forall_mem_cons.mpr ⟨fun _ => rfl, (List.forall_mem_cons.mpr ⟨fun z => absurd z (beq_eq_false_iff_ne.mp kr_d60_59), (fun _ h => nomatch h)⟩)⟩), hB _ (.tail _ (.head _)), (List.forall_mem_cons.mpr ⟨fun z => absurd z.symm (beq_eq_false_iff_ne.mp kr_d60_59), (List.forall_mem_cons.mpr ⟨fun _ => rfl, (fun _ h => nomatch h)⟩)⟩)⟩
    exact ok_law T B
end Pf27
open PySem PySem.W PyProof.Rows
set_option maxRecDepth 100000 in
set_option maxHeartbeats 0 in
theorem PySem.Challenge.cw_everyorder_k27_words_as_runs_holds : PySem.Challenge.rw_everyorder_k27_words_as_runs.Holds := by
  w_on; o_law; k_head; (case hw => w_witness2)
  k_fill
  refine LamX.walk_ofTs (l := PySem.Challenge.rw_everyorder_k27_words_as_runs) (n := 63) (k := 12) (x := "script") (CX := fun _ => L2.CX0) rfl (by decide) rfl ⟨rfl, by decide, by decide⟩ (fun w h Y => PySem.W.km_in_of Y) ?F (fun _ _ _ _ _ h => h)
  case F =>
    intro w mg fa h Y KX G hmg
    refine' Pf27.all_mk KX G hmg (PySem.W.km_tabs_of Y) ?c_EveryError ?c_BadWord ?c_BadSize ?c_BadPlace ?c_BadRow ?c_Word ?c_Runs ?a0 ?l0 ?e0 ?k0 ?a1 ?l1 ?e1 ?k1 ?a2 ?l2 ?e2 ?k2 ?a3 ?l3 ?e3 ?k3 ?a4 ?l4 ?e4 ?k4 ?a5 ?l5 ?e5 ?k5 ?a6 ?l6 ?e6 ?k6 ?a7 ?l7 ?e7 ?k7 ?a8 ?l8 ?e8 ?k8 ?a9 ?l9 ?e9 ?k9 ?a10 ?l10 ?e10 ?k10 ?a11 ?l11 ?e11 ?k11 ?a12 ?l12 ?e12 ?k12 ?a13 ?l13 ?e13 ?k13 ?a14 ?l14 ?e14 ?k14 ?a15 ?l15 ?e15 ?k15 ?a16 ?l16 ?e16 ?k16 ?a17 ?l17 ?e17 ?k17 ?a18 ?l18 ?e18 ?k18 ?a19 ?l19 ?e19 ?k19 ?a20 ?l20 ?e20 ?k20 ?a21 ?l21 ?e21 ?k21 ?a22 ?l22 ?e22 ?k22 ?a23 ?l23 ?e23 ?k23 ?a24 ?l24 ?e24 ?k24 ?a25 ?l25 ?e25 ?k25 ?a26 ?l26 ?e26 ?k26 ?a27 ?l27 ?e27 ?k27 ?a28 ?l28 ?e28 ?k28 ?a29 ?l29 ?e29 ?k29 ?a30 ?l30 ?e30 ?k30 ?a31 ?l31 ?e31 ?k31 ?a32 ?l32 ?e32 ?k32 ?a33 ?l33 ?e33 ?k33 ?a34 ?l34 ?e34 ?k34 ?a35 ?l35 ?e35 ?k35 ?a36 ?l36 ?e36 ?k36 ?a37 ?l37 ?e37 ?k37 ?a38 ?l38 ?e38 ?k38 ?a39 ?l39 ?e39 ?k39 ?a40 ?l40 ?e40 ?k40 ?a41 ?l41 ?e41 ?k41 ?a42 ?l42 ?e42 ?k42 ?a43 ?l43 ?e43 ?k43 ?a44 ?l44 ?e44 ?k44 ?a45 ?l45 ?e45 ?k45 ?a46 ?l46 ?e46 ?k46 ?a47 ?l47 ?e47 ?k47 ?a48 ?l48 ?e48 ?k48 ?a49 ?l49 ?e49 ?k49 ?a50 ?l50 ?e50 ?k50 ?a51 ?l51 ?e51 ?k51 ?a52 ?l52 ?e52 ?k52 ?a53 ?l53 ?e53 ?k53 ?a54 ?l54 ?e54 ?k54 ?a55 ?l55 ?e55 ?k55 ?a56 ?l56 ?e56 ?k56 ?a57 ?l57 ?e57 ?k57 ?a58 ?l58 ?e58 ?k58 ?a59 ?l59 ?e59 ?k59 ?a60 ?l60 ?e60 ?k60 ?pg_Word ?hd_Word ?po_Word ?sa_Word ?mk_Word ?kc_Word ?n_Word_text ?n_Word_moves ?n_Word_has_turn ?i_Word_init ?i_Word_eq ?i_Word_at ?og_Word ?on_Word ?ot_Word ?om_Word ?of_Word ?ok_Word ?pg_Runs ?hd_Runs ?po_Runs ?sa_Runs ?mk_Runs ?kc_Runs ?n_Runs_size ?n_Runs_rows ?n_Runs_way ?i_Runs_init ?i_Runs_eq ?i_Runs_mul ?i_Runs_invert ?i_Runs_at ?og_Runs ?on_Runs ?ot_Runs ?om_Runs ?of_Runs ?ok_Runs ?sf_Runs ?o2a_Runs ?o2b_Runs ?o2c_Runs ?ok_int_Runs ?ok_tup_Runs ?o2d_Runs ?ok_lst_Runs ?xl_BadWord ?xr_BadWord ?xsa_BadWord ?xex_BadWord ?xty_BadWord ?xkc_BadWord ?xga_BadWord ?xgg_BadWord ?xhd_BadWord ?xha_BadWord ?xhm_BadWord ?xno_BadWord ?xhn_BadWord ?xht_BadWord ?xti_BadWord ?xs_BadWord_BadPlace ?xs_BadWord_BadRow ?xs_BadWord_BadSize ?ok_BadWord_EveryError ?xl_BadSize ?xr_BadSize ?xsa_BadSize ?xex_BadSize ?xty_BadSize ?xkc_BadSize ?xga_BadSize ?xgg_BadSize ?xhd_BadSize ?xha_BadSize ?xhm_BadSize ?xno_BadSize ?xhn_BadSize ?xht_BadSize ?xti_BadSize ?xs_BadSize_BadPlace ?xs_BadSize_BadRow ?xs_BadSize_BadSize ?ok_BadSize_EveryError ?xl_BadPlace ?xr_BadPlace ?xsa_BadPlace ?xex_BadPlace ?xty_BadPlace ?xkc_BadPlace ?xga_BadPlace ?xgg_BadPlace ?xhd_BadPlace ?xha_BadPlace ?xhm_BadPlace ?xno_BadPlace ?xhn_BadPlace ?xht_BadPlace ?xti_BadPlace ?xs_BadPlace_BadPlace ?xs_BadPlace_BadRow ?xs_BadPlace_BadSize ?ok_BadPlace_EveryError ?xl_BadRow ?xr_BadRow ?xsa_BadRow ?xex_BadRow ?xty_BadRow ?xkc_BadRow ?xga_BadRow ?xgg_BadRow ?xhd_BadRow ?xha_BadRow ?xhm_BadRow ?xno_BadRow ?xhn_BadRow ?xht_BadRow ?xti_BadRow ?xs_BadRow_BadPlace ?xs_BadRow_BadRow ?xs_BadRow_BadSize ?ok_BadRow_EveryError ?z_bool ?z_enumerate ?z_int ?z_isinstance ?z_len ?z_list ?z_max ?z_min ?z_range ?z_sorted ?z_str ?z_sum ?z_tuple ?m_MOST_PLACES ?m_MOST_MOVES ?m_FIGURES ?l_FIGURES ?h_FIGURES ?m_PLACE_FRONTS ?l_PLACE_FRONTS ?h_PLACE_FRONTS ?m_AMOUNT_FRONTS ?l_AMOUNT_FRONTS ?h_AMOUNT_FRONTS ?m_SHAPES ?l_SHAPES ?y_SHAPES ?h_SHAPES ?e_SHAPES ?h_k_SHAPES ?v_SHAPES_0 ?l_SHAPES_0 ?h_SHAPES_0 ?v_SHAPES_1 ?l_SHAPES_1 ?h_SHAPES_1 ?v_SHAPES_2 ?l_SHAPES_2 ?h_SHAPES_2 ?m_NO_PART ?m_MOST_SIZE ?m_FEW ?kr_t59 ?kr_u59 ?kr_v59 ?kr_t60 ?kr_u60 ?kr_v60 ?kr_d60_59
    (case c_EveryError => k_is)
    (case c_BadWord => k_is)
    (case c_BadSize => k_is)
    (case c_BadPlace => k_is)
    (case c_BadRow => k_is)
    (case c_Word => k_is)
    (case c_Runs => k_is)
    (case a0 => k_is)
    (case l0 => k_is)
    (case e0 => k_is)
    (case k0 => k_is)
    (case a1 => k_is)
    (case l1 => k_is)
    (case e1 => k_is)
    (case k1 => k_is)
    (case a2 => k_is)
    (case l2 => k_is)
    (case e2 => k_is)
    (case k2 => k_is)
    (case a3 => k_is)
    (case l3 => k_is)
    (case e3 => k_is)
    (case k3 => k_is)
    (case a4 => k_is)
    (case l4 => k_is)
    (case e4 => k_is)
    (case k4 => k_is)
    (case a5 => k_is)
    (case l5 => k_is)
    (case e5 => k_is)
    (case k5 => k_is)
    (case a6 => k_is)
    (case l6 => k_is)
    (case e6 => k_is)
    (case k6 => k_is)
    (case a7 => k_is)
    (case l7 => k_is)
    (case e7 => k_is)
    (case k7 => k_is)
    (case a8 => k_is)
    (case l8 => k_is)
    (case e8 => k_is)
    (case k8 => k_is)
    (case a9 => k_is)
    (case l9 => k_is)
    (case e9 => k_is)
    (case k9 => k_is)
    (case a10 => k_is)
    (case l10 => k_is)
    (case e10 => k_is)
    (case k10 => k_is)
    (case a11 => k_is)
    (case l11 => k_is)
    (case e11 => k_is)
    (case k11 => k_is)
    (case a12 => k_is)
    (case l12 => k_is)
    (case e12 => k_is)
    (case k12 => k_is)
    (case a13 => k_is)
    (case l13 => k_is)
    (case e13 => k_is)
    (case k13 => k_is)
    (case a14 => k_is)
    (case l14 => k_is)
    (case e14 => k_is)
    (case k14 => k_is)
    (case a15 => k_is)
    (case l15 => k_is)
    (case e15 => k_is)
    (case k15 => k_is)
    (case a16 => k_is)
    (case l16 => k_is)
    (case e16 => k_is)
    (case k16 => k_is)
    (case a17 => k_is)
    (case l17 => k_is)
    (case e17 => k_is)
    (case k17 => k_is)
    (case a18 => k_is)
    (case l18 => k_is)
    (case e18 => k_is)
    (case k18 => k_is)
    (case a19 => k_is)
    (case l19 => k_is)
    (case e19 => k_is)
    (case k19 => k_is)
    (case a20 => k_is)
    (case l20 => k_is)
    (case e20 => k_is)
    (case k20 => k_is)
    (case a21 => k_is)
    (case l21 => k_is)
    (case e21 => k_is)
    (case k21 => k_is)
    (case a22 => k_is)
    (case l22 => k_is)
    (case e22 => k_is)
    (case k22 => k_is)
    (case a23 => k_is)
    (case l23 => k_is)
    (case e23 => k_is)
    (case k23 => k_is)
    (case a24 => k_is)
    (case l24 => k_is)
    (case e24 => k_is)
    (case k24 => k_is)
    (case a25 => k_is)
    (case l25 => k_is)
    (case e25 => k_is)
    (case k25 => k_is)
    (case a26 => k_is)
    (case l26 => k_is)
    (case e26 => k_is)
    (case k26 => k_is)
    (case a27 => k_is)
    (case l27 => k_is)
    (case e27 => k_is)
    (case k27 => k_is)
    (case a28 => k_is)
    (case l28 => k_is)
    (case e28 => k_is)
    (case k28 => k_is)
    (case a29 => k_is)
    (case l29 => k_is)
    (case e29 => k_is)
    (case k29 => k_is)
    (case a30 => k_is)
    (case l30 => k_is)
    (case e30 => k_is)
    (case k30 => k_is)
    (case a31 => k_is)
    (case l31 => k_is)
    (case e31 => k_is)
    (case k31 => k_is)
    (case a32 => k_is)
    (case l32 => k_is)
    (case e32 => k_is)
    (case k32 => k_is)
    (case a33 => k_is)
    (case l33 => k_is)
    (case e33 => k_is)
    (case k33 => k_is)
    (case a34 => k_is)
    (case l34 => k_is)
    (case e34 => k_is)
    (case k34 => k_is)
    (case a35 => k_is)
    (case l35 => k_is)
    (case e35 => k_is)
    (case k35 => k_is)
    (case a36 => k_is)
    (case l36 => k_is)
    (case e36 => k_is)
    (case k36 => k_is)
    (case a37 => k_is)
    (case l37 => k_is)
    (case e37 => k_is)
    (case k37 => k_is)
    (case a38 => k_is)
    (case l38 => k_is)
    (case e38 => k_is)
    (case k38 => k_is)
    (case a39 => k_is)
    (case l39 => k_is)
    (case e39 => k_is)
    (case k39 => k_is)
    (case a40 => k_is)
    (case l40 => k_is)
    (case e40 => k_is)
    (case k40 => k_is)
    (case a41 => k_is)
    (case l41 => k_is)
    (case e41 => k_is)
    (case k41 => k_is)
    (case a42 => k_is)
    (case l42 => k_is)
    (case e42 => k_is)
    (case k42 => k_is)
    (case a43 => k_is)
    (case l43 => k_is)
    (case e43 => k_is)
    (case k43 => k_is)
    (case a44 => k_is)
    (case l44 => k_is)
    (case e44 => k_is)
    (case k44 => k_is)
    (case a45 => k_is)
    (case l45 => k_is)
    (case e45 => k_is)
    (case k45 => k_is)
    (case a46 => k_is)
    (case l46 => k_is)
    (case e46 => k_is)
    (case k46 => k_is)
    (case a47 => k_is)
    (case l47 => k_is)
    (case e47 => k_is)
    (case k47 => k_is)
    (case a48 => k_is)
    (case l48 => k_is)
    (case e48 => k_is)
    (case k48 => k_is)
    (case a49 => k_is)
    (case l49 => k_is)
    (case e49 => k_is)
    (case k49 => k_is)
    (case a50 => k_is)
    (case l50 => k_is)
    (case e50 => k_is)
    (case k50 => k_is)
    (case a51 => k_is)
    (case l51 => k_is)
    (case e51 => k_is)
    (case k51 => k_is)
    (case a52 => k_is)
    (case l52 => k_is)
    (case e52 => k_is)
    (case k52 => k_is)
    (case a53 => k_is)
    (case l53 => k_is)
    (case e53 => k_is)
    (case k53 => k_is)
    (case a54 => k_is)
    (case l54 => k_is)
    (case e54 => k_is)
    (case k54 => k_is)
    (case a55 => k_is)
    (case l55 => k_is)
    (case e55 => k_is)
    (case k55 => k_is)
    (case a56 => k_is)
    (case l56 => k_is)
    (case e56 => k_is)
    (case k56 => k_is)
    (case a57 => k_is)
    (case l57 => k_is)
    (case e57 => k_is)
    (case k57 => k_is)
    (case a58 => k_is)
    (case l58 => k_is)
    (case e58 => k_is)
    (case k58 => k_is)
    (case a59 => k_is)
    (case l59 => k_is)
    (case e59 => k_is)
    (case k59 => k_is)
    (case a60 => k_is)
    (case l60 => k_is)
    (case e60 => k_is)
    (case k60 => k_is)
    (case pg_Word => k_is)
    (case hd_Word => k_is)
    (case po_Word => k_is)
    (case sa_Word => k_is)
    (case mk_Word => k_is)
    (case kc_Word => k_is)
    (case n_Word_text => k_is)
    (case n_Word_moves => k_is)
    (case n_Word_has_turn => k_is)
    (case i_Word_init => k_is)
    (case i_Word_eq => k_is)
    (case i_Word_at => k_is)
    (case og_Word => k_is)
    (case on_Word => k_is)
    (case ot_Word => k_is)
    (case om_Word => k_is)
    (case of_Word => k_is)
    (case ok_Word => kit_is)
    (case pg_Runs => k_is)
    (case hd_Runs => k_is)
    (case po_Runs => k_is)
    (case sa_Runs => k_is)
    (case mk_Runs => k_is)
    (case kc_Runs => k_is)
    (case n_Runs_size => k_is)
    (case n_Runs_rows => k_is)
    (case n_Runs_way => k_is)
    (case i_Runs_init => k_is)
    (case i_Runs_eq => k_is)
    (case i_Runs_mul => k_is)
    (case i_Runs_invert => k_is)
    (case i_Runs_at => k_is)
    (case og_Runs => k_is)
    (case on_Runs => k_is)
    (case ot_Runs => k_is)
    (case om_Runs => k_is)
    (case of_Runs => k_is)
    (case ok_Runs => kit_is)
    (case sf_Runs => k_is)
    (case o2a_Runs => k_is)
    (case o2b_Runs => k_is)
    (case o2c_Runs => k_is)
    (case ok_int_Runs => kit_is)
    (case ok_tup_Runs => kit_is)
    (case o2d_Runs => k_is)
    (case ok_lst_Runs => kit_is)
    (case xl_BadWord => k_is)
    (case xr_BadWord => first | rfl | decide +kernel)
    (case xsa_BadWord => k_is)
    (case xex_BadWord => k_is)
    (case xty_BadWord => k_is)
    (case xkc_BadWord => k_is)
    (case xga_BadWord => k_is)
    (case xgg_BadWord => k_is)
    (case xhd_BadWord => k_is)
    (case xha_BadWord => k_is)
    (case xhm_BadWord => k_is)
    (case xno_BadWord => k_is)
    (case xhn_BadWord => k_is)
    (case xht_BadWord => k_is)
    (case xti_BadWord => k_is)
    (case xs_BadWord_BadPlace => k_is)
    (case xs_BadWord_BadRow => k_is)
    (case xs_BadWord_BadSize => k_is)
    (case ok_BadWord_EveryError => kit_is)
    (case xl_BadSize => k_is)
    (case xr_BadSize => first | rfl | decide +kernel)
    (case xsa_BadSize => k_is)
    (case xex_BadSize => k_is)
    (case xty_BadSize => k_is)
    (case xkc_BadSize => k_is)
    (case xga_BadSize => k_is)
    (case xgg_BadSize => k_is)
    (case xhd_BadSize => k_is)
    (case xha_BadSize => k_is)
    (case xhm_BadSize => k_is)
    (case xno_BadSize => k_is)
    (case xhn_BadSize => k_is)
    (case xht_BadSize => k_is)
    (case xti_BadSize => k_is)
    (case xs_BadSize_BadPlace => k_is)
    (case xs_BadSize_BadRow => k_is)
    (case xs_BadSize_BadSize => k_is)
    (case ok_BadSize_EveryError => kit_is)
    (case xl_BadPlace => k_is)
    (case xr_BadPlace => first | rfl | decide +kernel)
    (case xsa_BadPlace => k_is)
    (case xex_BadPlace => k_is)
    (case xty_BadPlace => k_is)
    (case xkc_BadPlace => k_is)
    (case xga_BadPlace => k_is)
    (case xgg_BadPlace => k_is)
    (case xhd_BadPlace => k_is)
    (case xha_BadPlace => k_is)
    (case xhm_BadPlace => k_is)
    (case xno_BadPlace => k_is)
    (case xhn_BadPlace => k_is)
    (case xht_BadPlace => k_is)
    (case xti_BadPlace => k_is)
    (case xs_BadPlace_BadPlace => k_is)
    (case xs_BadPlace_BadRow => k_is)
    (case xs_BadPlace_BadSize => k_is)
    (case ok_BadPlace_EveryError => kit_is)
    (case xl_BadRow => k_is)
    (case xr_BadRow => first | rfl | decide +kernel)
    (case xsa_BadRow => k_is)
    (case xex_BadRow => k_is)
    (case xty_BadRow => k_is)
    (case xkc_BadRow => k_is)
    (case xga_BadRow => k_is)
    (case xgg_BadRow => k_is)
    (case xhd_BadRow => k_is)
    (case xha_BadRow => k_is)
    (case xhm_BadRow => k_is)
    (case xno_BadRow => k_is)
    (case xhn_BadRow => k_is)
    (case xht_BadRow => k_is)
    (case xti_BadRow => k_is)
    (case xs_BadRow_BadPlace => k_is)
    (case xs_BadRow_BadRow => k_is)
    (case xs_BadRow_BadSize => k_is)
    (case ok_BadRow_EveryError => kit_is)
    (case z_bool => k_is)
    (case z_enumerate => k_is)
    (case z_int => k_is)
    (case z_isinstance => k_is)
    (case z_len => k_is)
    (case z_list => k_is)
    (case z_max => k_is)
    (case z_min => k_is)
    (case z_range => k_is)
    (case z_sorted => k_is)
    (case z_str => k_is)
    (case z_sum => k_is)
    (case z_tuple => k_is)
    (case m_MOST_PLACES => k_is)
    (case m_MOST_MOVES => k_is)
    (case m_FIGURES => k_is)
    (case l_FIGURES => k_is)
    (case h_FIGURES => first | rfl | decide +kernel)
    (case m_PLACE_FRONTS => k_is)
    (case l_PLACE_FRONTS => k_is)
    (case h_PLACE_FRONTS => first | rfl | decide +kernel)
    (case m_AMOUNT_FRONTS => k_is)
    (case l_AMOUNT_FRONTS => k_is)
    (case h_AMOUNT_FRONTS => first | rfl | decide +kernel)
    (case m_SHAPES => k_is)
    (case l_SHAPES => k_is)
    (case y_SHAPES => exact ⟨⟨_, _, rfl, rfl⟩, ⟨_, _, rfl, rfl⟩, ⟨_, _, rfl, rfl⟩, trivial⟩)
    (case h_SHAPES => first | rfl | decide +kernel)
    (case e_SHAPES => k_is)
    (case h_k_SHAPES => first | rfl | decide +kernel)
    (case v_SHAPES_0 => k_is)
    (case l_SHAPES_0 => k_is)
    (case h_SHAPES_0 => first | rfl | decide +kernel)
    (case v_SHAPES_1 => k_is)
    (case l_SHAPES_1 => k_is)
    (case h_SHAPES_1 => first | rfl | decide +kernel)
    (case v_SHAPES_2 => k_is)
    (case l_SHAPES_2 => k_is)
    (case h_SHAPES_2 => first | rfl | decide +kernel)
    (case m_NO_PART => k_is)
    (case m_MOST_SIZE => k_is)
    (case m_FEW => k_is)
    (case kr_t59 => kernel_rfl)
    (case kr_u59 => kernel_rfl)
    (case kr_v59 => kernel_rfl)
    (case kr_t60 => kernel_rfl)
    (case kr_u60 => kernel_rfl)
    (case kr_v60 => kernel_rfl)
    (case kr_d60_59 => kernel_rfl)
