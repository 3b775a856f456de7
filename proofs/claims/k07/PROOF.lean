import PyProof.Rows.All
import Wide.All
import OpenK.AllK
import Wide.FinOn
import HandS.ForMost
import KE.RegKIsAll
import HandS.Codes
import HandS.Conv
import HandS.IsInst
import HandS.Style
import HandS.Walk
import HandS.Wide
import KE.GoesEnum
import KE.GoesMore
import HandS.More
import HandS.StrMore
import KE.GoesEnumKw
import PyProof.Rows.CallKwBuiltin
import HandS.Deep
import HandS.Star
import HandS.Text
import HandS.SortInts
import KE.KSortedM
import HandS.ForMost
import HandS.OwnEq
import OpenK.AllK
import PySem.Challenge.RW_everyorder_k07_whole_words_of_moves
set_option Elab.async false
set_option linter.all false
set_option maxRecDepth 100000
set_option maxHeartbeats 4000000
namespace Pf07
open PySem PySem.Spec PyProof.Rows L2
/-! ### tuples of texts that the top has written -/
def strB : List V → List Value → Bool
  | [], [] => true
  | .str x :: r, .str y _ :: u => decide (x = y) && strB r u
  | _, _ => false
theorem strB_ok : ∀ {xs : List V} {us : List Value}, strB xs us = true → Vals xs us
  | [], [], _ => .nil
  | .str x :: r, .str y t :: u, h => by
    rw [strB, Bool.and_eq_true, decide_eq_true_eq] at h
    obtain ⟨rfl, h2⟩ := h
    exact .cons ⟨t, rfl⟩ (strB_ok h2)
def tupB (o : Obj) (xs : List V) : Bool := match o.cls, o.data with
  | .type c, .seq its _ => decide (c = "tuple") && (decide (its.size ≤ 1000) && strB xs its.toList)
  | _, _ => false
theorem tupB_ok {K : PySem.W.Frag} {H : Hp} {p : Addr} {o : Obj} {xs : List V} (l : K.lookup p = some o) (h : tupB o xs = true) : SqT K H p xs := by
  unfold tupB at h
  split at h
  · rename_i c its n hc hd
    simp only [Bool.and_eq_true, decide_eq_true_eq] at h
    obtain ⟨rfl, h1, h2⟩ := h
    exact .inr ⟨o, its, n, l, hc, hd, Nat.le_trans h1 (by decide), strB_ok h2⟩
  · cases h
/-! ### the text by places -/
def topS (i : Nat) : Stmt := PySem.Challenge.pw_everyorder_k07_whole_words_of_moves.main.body.getD i (.Pass ⟨0, 0, 0, 0⟩)
abbrev s_is_integer : Stmt := topS 1
abbrev s_is_between : Stmt := topS 2
abbrev s_first_wrong : Stmt := topS 3
abbrev s_BadWord_init : Stmt := inClass (topS 6) 0
abbrev s_BadSize_init : Stmt := inClass (topS 7) 0
abbrev s_BadRow_init : Stmt := inClass (topS 8) 0
abbrev s_check_row : Stmt := topS 11
abbrev s_nothing : Stmt := topS 12
abbrev s_joined : Stmt := topS 13
abbrev s_in_turn : Stmt := topS 14
abbrev s_is_figure_behind : Stmt := topS 22
abbrev s_is_place_word : Stmt := topS 23
abbrev s_is_amount : Stmt := topS 24
abbrev s_place_of : Stmt := topS 25
abbrev s_amount_of : Stmt := topS 26
abbrev s_is_part : Stmt := topS 27
abbrev s_read_move : Stmt := topS 28
abbrev s_read_moves : Stmt := topS 29
abbrev s_exchanged : Stmt := topS 30
abbrev s_rolled : Stmt := topS 31
abbrev s_moved : Stmt := topS 32
abbrev s_Word_init : Stmt := inClass (topS 33) 0
abbrev s_Word_eq : Stmt := inClass (topS 33) 1
abbrev s_Word_at : Stmt := inClass (topS 33) 2
abbrev s__law_pen : Stmt := topS 35
abbrev s__law_draw : Stmt := topS 36
abbrev s__law_pick : Stmt := topS 37
abbrev s__law_place_word : Stmt := topS 38
abbrev s__law_value : Stmt := topS 39
abbrev s__law_amount : Stmt := topS 40
abbrev s__law_move : Stmt := topS 41
abbrev s__law_moves : Stmt := topS 42
abbrev s__law_word_text : Stmt := topS 43
abbrev s__law_moved : Stmt := topS 44
abbrev s__law_all_moved : Stmt := topS 45
abbrev s_law : Stmt := topS 46
theorem sc_is_integer : FnScope ["value"] ["value"] (defScope s_is_integer) := ⟨rfl, rfl, rfl, by decide +kernel, rfl, by decide +kernel, by decide +kernel⟩
theorem sc_is_between : FnScope ["value", "low", "high"] ["value", "low", "high"] (defScope s_is_between) := ⟨rfl, rfl, rfl, by decide +kernel, rfl, by decide +kernel, by decide +kernel⟩
theorem sc_first_wrong : FnScope ["row", "size", "has_come", "index", "member"] ["row", "size"] (defScope s_first_wrong) := ⟨rfl, rfl, rfl, by decide +kernel, rfl, by decide +kernel, by decide +kernel⟩
theorem sc_BadWord_init : FnScope ["self", "index"] ["self", "index"] (defScope s_BadWord_init) := ⟨rfl, rfl, rfl, by decide +kernel, rfl, by decide +kernel, by decide +kernel⟩
theorem sc_BadSize_init : FnScope ["self", "size"] ["self", "size"] (defScope s_BadSize_init) := ⟨rfl, rfl, rfl, by decide +kernel, rfl, by decide +kernel, by decide +kernel⟩
theorem sc_BadRow_init : FnScope ["self", "index"] ["self", "index"] (defScope s_BadRow_init) := ⟨rfl, rfl, rfl, by decide +kernel, rfl, by decide +kernel, by decide +kernel⟩
theorem sc_check_row : FnScope ["row", "wrong"] ["row"] (defScope s_check_row) := ⟨rfl, rfl, rfl, by decide +kernel, rfl, by decide +kernel, by decide +kernel⟩
theorem sc_nothing : FnScope ["size"] ["size"] (defScope s_nothing) := ⟨rfl, rfl, rfl, by decide +kernel, rfl, by decide +kernel, by decide +kernel⟩
theorem sc_joined : FnScope ["first", "second"] ["first", "second"] (defScope s_joined) := ⟨rfl, rfl, rfl, by decide +kernel, rfl, by decide +kernel, by decide +kernel⟩
theorem sc_in_turn : FnScope ["first", "second", "place"] ["first", "second"] (defScope s_in_turn) := ⟨rfl, rfl, rfl, by decide +kernel, rfl, by decide +kernel, by decide +kernel⟩
theorem sc_is_figure_behind : FnScope ["fronts", "text"] ["fronts", "text"] (defScope s_is_figure_behind) := ⟨rfl, rfl, rfl, by decide +kernel, rfl, by decide +kernel, by decide +kernel⟩
theorem sc_is_place_word : FnScope ["text"] ["text"] (defScope s_is_place_word) := ⟨rfl, rfl, rfl, by decide +kernel, rfl, by decide +kernel, by decide +kernel⟩
theorem sc_is_amount : FnScope ["text"] ["text"] (defScope s_is_amount) := ⟨rfl, rfl, rfl, by decide +kernel, rfl, by decide +kernel, by decide +kernel⟩
theorem sc_place_of : FnScope ["word", "size"] ["word", "size"] (defScope s_place_of) := ⟨rfl, rfl, rfl, by decide +kernel, rfl, by decide +kernel, by decide +kernel⟩
theorem sc_amount_of : FnScope ["text", "length"] ["text", "length"] (defScope s_amount_of) := ⟨rfl, rfl, rfl, by decide +kernel, rfl, by decide +kernel, by decide +kernel⟩
theorem sc_is_part : FnScope ["text", "kind"] ["text", "kind"] (defScope s_is_part) := ⟨rfl, rfl, rfl, by decide +kernel, rfl, by decide +kernel, by decide +kernel⟩
theorem sc_read_move : FnScope ["parts", "start", "may_turn", "head", "shape", "index", "kind"] ["parts", "start", "may_turn"] (defScope s_read_move) := ⟨rfl, rfl, rfl, by decide +kernel, rfl, by decide +kernel, by decide +kernel⟩
theorem sc_read_moves : FnScope ["parts", "start", "moves", "end", "move"] ["parts", "start"] (defScope s_read_moves) := ⟨rfl, rfl, rfl, by decide +kernel, rfl, by decide +kernel, by decide +kernel⟩
theorem sc_exchanged : FnScope ["old", "x", "y", "new"] ["old", "x", "y"] (defScope s_exchanged) := ⟨rfl, rfl, rfl, by decide +kernel, rfl, by decide +kernel, by decide +kernel⟩
theorem sc_rolled : FnScope ["old", "x", "y", "amount", "block", "cut"] ["old", "x", "y", "amount"] (defScope s_rolled) := ⟨rfl, rfl, rfl, by decide +kernel, rfl, by decide +kernel, by decide +kernel⟩
theorem sc_moved : FnScope ["old", "move", "x", "y"] ["old", "move"] (defScope s_moved) := ⟨rfl, rfl, rfl, by decide +kernel, rfl, by decide +kernel, by decide +kernel⟩
theorem sc_Word_init : FnScope ["self", "text", "parts", "moves", "end"] ["self", "text"] (defScope s_Word_init) := ⟨rfl, rfl, rfl, by decide +kernel, rfl, by decide +kernel, by decide +kernel⟩
theorem sc_Word_eq : FnScope ["self", "other"] ["self", "other"] (defScope s_Word_eq) := ⟨rfl, rfl, rfl, by decide +kernel, rfl, by decide +kernel, by decide +kernel⟩
theorem sc_Word_at : FnScope ["self", "k", "row", "move"] ["self", "k"] (defScope s_Word_at) := ⟨rfl, rfl, rfl, by decide +kernel, rfl, by decide +kernel, by decide +kernel⟩
theorem sc__law_pen : FnScope ["script"] ["script"] (defScope s__law_pen) := ⟨rfl, rfl, rfl, by decide +kernel, rfl, by decide +kernel, by decide +kernel⟩
theorem sc__law_draw : FnScope ["pen", "many", "digit", "at", "cell", "mixed"] ["pen", "many"] (defScope s__law_draw) := ⟨rfl, rfl, rfl, by decide +kernel, rfl, by decide +kernel, by decide +kernel⟩
theorem sc__law_pick : FnScope ["pen", "some"] ["pen", "some"] (defScope s__law_pick) := ⟨rfl, rfl, rfl, by decide +kernel, rfl, by decide +kernel, by decide +kernel⟩
theorem sc__law_place_word : FnScope ["pen", "k"] ["pen"] (defScope s__law_place_word) := ⟨rfl, rfl, rfl, by decide +kernel, rfl, by decide +kernel, by decide +kernel⟩
theorem sc__law_value : FnScope ["word", "k"] ["word", "k"] (defScope s__law_value) := ⟨rfl, rfl, rfl, by decide +kernel, rfl, by decide +kernel, by decide +kernel⟩
theorem sc__law_amount : FnScope ["pen", "k"] ["pen"] (defScope s__law_amount) := ⟨rfl, rfl, rfl, by decide +kernel, rfl, by decide +kernel, by decide +kernel⟩
theorem sc__law_move : FnScope ["pen", "has_turn", "way", "x", "y"] ["pen", "has_turn"] (defScope s__law_move) := ⟨rfl, rfl, rfl, by decide +kernel, rfl, by decide +kernel, by decide +kernel⟩
theorem sc__law_moves : FnScope ["pen", "found", "k"] ["pen"] (defScope s__law_moves) := ⟨rfl, rfl, rfl, by decide +kernel, rfl, by decide +kernel, by decide +kernel⟩
theorem sc__law_word_text : FnScope ["moves", "move"] ["moves"] (defScope s__law_word_text) := ⟨rfl, rfl, rfl, by decide +kernel, rfl, by decide +kernel, by decide +kernel⟩
theorem sc__law_moved : FnScope ["row", "move", "k", "x", "y", "found", "block", "c", "cut"] ["row", "move"] (defScope s__law_moved) := ⟨rfl, rfl, rfl, by decide +kernel, rfl, by decide +kernel, by decide +kernel⟩
theorem sc__law_all_moved : FnScope ["row", "moves", "found", "move"] ["row", "moves"] (defScope s__law_all_moved) := ⟨rfl, rfl, rfl, by decide +kernel, rfl, by decide +kernel, by decide +kernel⟩
theorem sc_law : FnScope ["script", "pen", "lap", "moves", "text", "made", "move", "sizes", "size", "step"] ["script"] (defScope s_law) := ⟨rfl, rfl, rfl, by decide +kernel, rfl, by decide +kernel, by decide +kernel⟩
/-- where the defs and classes stand -/
structure Ad where
  f_is_integer : Addr
  d_is_integer : FuncData
  f_is_between : Addr
  d_is_between : FuncData
  f_first_wrong : Addr
  d_first_wrong : FuncData
  f_BadWord_init : Addr
  d_BadWord_init : FuncData
  f_BadSize_init : Addr
  d_BadSize_init : FuncData
  f_BadRow_init : Addr
  d_BadRow_init : FuncData
  f_check_row : Addr
  d_check_row : FuncData
  f_nothing : Addr
  d_nothing : FuncData
  f_joined : Addr
  d_joined : FuncData
  f_in_turn : Addr
  d_in_turn : FuncData
  f_is_figure_behind : Addr
  d_is_figure_behind : FuncData
  f_is_place_word : Addr
  d_is_place_word : FuncData
  f_is_amount : Addr
  d_is_amount : FuncData
  f_place_of : Addr
  d_place_of : FuncData
  f_amount_of : Addr
  d_amount_of : FuncData
  f_is_part : Addr
  d_is_part : FuncData
  f_read_move : Addr
  d_read_move : FuncData
  f_read_moves : Addr
  d_read_moves : FuncData
  f_exchanged : Addr
  d_exchanged : FuncData
  f_rolled : Addr
  d_rolled : FuncData
  f_moved : Addr
  d_moved : FuncData
  f_Word_init : Addr
  d_Word_init : FuncData
  f_Word_eq : Addr
  d_Word_eq : FuncData
  f_Word_at : Addr
  d_Word_at : FuncData
  f__law_pen : Addr
  d__law_pen : FuncData
  f__law_draw : Addr
  d__law_draw : FuncData
  f__law_pick : Addr
  d__law_pick : FuncData
  f__law_place_word : Addr
  d__law_place_word : FuncData
  f__law_value : Addr
  d__law_value : FuncData
  f__law_amount : Addr
  d__law_amount : FuncData
  f__law_move : Addr
  d__law_move : FuncData
  f__law_moves : Addr
  d__law_moves : FuncData
  f__law_word_text : Addr
  d__law_word_text : FuncData
  f__law_moved : Addr
  d__law_moved : FuncData
  f__law_all_moved : Addr
  d__law_all_moved : FuncData
  f_law : Addr
  d_law : FuncData
  C_EveryError : Addr
  C_BadWord : Addr
  C_BadSize : Addr
  C_BadRow : Addr
  C_Word : Addr
  a_FIGURES : Addr
  a_PLACE_FRONTS : Addr
  a_AMOUNT_FRONTS : Addr
  a_SHAPES : Addr
/-- a class with its own ==: what its instances answer -/
structure OwnC (K : PySem.W.Frag) (C f : Addr) : Prop where
  eq : PySem.W.findIn K (.ref C) "__eq__" = some (some (.ref f))
  fn : PySem.W.isFn K (.ref f) = true
  cls : PySem.W.findIn K (.ref C) "__class__" = some (some (.builtin "object.__class__"))
  get : PySem.W.specialIn K (.builtin "object.__class__") "__get__" = some (some (.builtin "getset_descriptor.__get__"))
  tak : PySem.W.takesIn K (.builtin "object.__class__") = some true
  mro : PySem.W.mroIn K C (.type "object") = some true
  fst : PySem.W.notFirst K C (.type "str") = true
  kit : PySem.W.kitOne K (.type "str") (.ref C) = some false
/-- what the top has written -/
structure Tx (w : World) (K : PySem.W.Frag) (mg : Str → Option Value) (a : Ad) : Prop where
  F_is_integer : Fun K "is_integer" "is_integer" s_is_integer a.f_is_integer a.d_is_integer
  b_is_integer : Binds K a.d_is_integer ["value"] []
  m_is_integer : mg "is_integer" = some (.ref a.f_is_integer)
  F_is_between : Fun K "is_between" "is_between" s_is_between a.f_is_between a.d_is_between
  b_is_between : Binds K a.d_is_between ["value", "low", "high"] []
  m_is_between : mg "is_between" = some (.ref a.f_is_between)
  F_first_wrong : Fun K "first_wrong" "first_wrong" s_first_wrong a.f_first_wrong a.d_first_wrong
  b_first_wrong : Binds K a.d_first_wrong ["row", "size"] []
  m_first_wrong : mg "first_wrong" = some (.ref a.f_first_wrong)
  F_BadWord_init : Fun K "__init__" "BadWord.__init__" s_BadWord_init a.f_BadWord_init a.d_BadWord_init
  b_BadWord_init : Binds K a.d_BadWord_init ["self", "index"] []
  F_BadSize_init : Fun K "__init__" "BadSize.__init__" s_BadSize_init a.f_BadSize_init a.d_BadSize_init
  b_BadSize_init : Binds K a.d_BadSize_init ["self", "size"] []
  F_BadRow_init : Fun K "__init__" "BadRow.__init__" s_BadRow_init a.f_BadRow_init a.d_BadRow_init
  b_BadRow_init : Binds K a.d_BadRow_init ["self", "index"] []
  F_check_row : Fun K "check_row" "check_row" s_check_row a.f_check_row a.d_check_row
  b_check_row : Binds K a.d_check_row ["row"] []
  m_check_row : mg "check_row" = some (.ref a.f_check_row)
  F_nothing : Fun K "nothing" "nothing" s_nothing a.f_nothing a.d_nothing
  b_nothing : Binds K a.d_nothing ["size"] []
  m_nothing : mg "nothing" = some (.ref a.f_nothing)
  F_joined : Fun K "joined" "joined" s_joined a.f_joined a.d_joined
  b_joined : Binds K a.d_joined ["first", "second"] []
  m_joined : mg "joined" = some (.ref a.f_joined)
  F_in_turn : Fun K "in_turn" "in_turn" s_in_turn a.f_in_turn a.d_in_turn
  b_in_turn : Binds K a.d_in_turn ["first", "second"] []
  m_in_turn : mg "in_turn" = some (.ref a.f_in_turn)
  F_is_figure_behind : Fun K "is_figure_behind" "is_figure_behind" s_is_figure_behind a.f_is_figure_behind a.d_is_figure_behind
  b_is_figure_behind : Binds K a.d_is_figure_behind ["fronts", "text"] []
  m_is_figure_behind : mg "is_figure_behind" = some (.ref a.f_is_figure_behind)
  F_is_place_word : Fun K "is_place_word" "is_place_word" s_is_place_word a.f_is_place_word a.d_is_place_word
  b_is_place_word : Binds K a.d_is_place_word ["text"] []
  m_is_place_word : mg "is_place_word" = some (.ref a.f_is_place_word)
  F_is_amount : Fun K "is_amount" "is_amount" s_is_amount a.f_is_amount a.d_is_amount
  b_is_amount : Binds K a.d_is_amount ["text"] []
  m_is_amount : mg "is_amount" = some (.ref a.f_is_amount)
  F_place_of : Fun K "place_of" "place_of" s_place_of a.f_place_of a.d_place_of
  b_place_of : Binds K a.d_place_of ["word", "size"] []
  m_place_of : mg "place_of" = some (.ref a.f_place_of)
  F_amount_of : Fun K "amount_of" "amount_of" s_amount_of a.f_amount_of a.d_amount_of
  b_amount_of : Binds K a.d_amount_of ["text", "length"] []
  m_amount_of : mg "amount_of" = some (.ref a.f_amount_of)
  F_is_part : Fun K "is_part" "is_part" s_is_part a.f_is_part a.d_is_part
  b_is_part : Binds K a.d_is_part ["text", "kind"] []
  m_is_part : mg "is_part" = some (.ref a.f_is_part)
  F_read_move : Fun K "read_move" "read_move" s_read_move a.f_read_move a.d_read_move
  b_read_move : Binds K a.d_read_move ["parts", "start", "may_turn"] []
  m_read_move : mg "read_move" = some (.ref a.f_read_move)
  F_read_moves : Fun K "read_moves" "read_moves" s_read_moves a.f_read_moves a.d_read_moves
  b_read_moves : Binds K a.d_read_moves ["parts", "start"] []
  m_read_moves : mg "read_moves" = some (.ref a.f_read_moves)
  F_exchanged : Fun K "exchanged" "exchanged" s_exchanged a.f_exchanged a.d_exchanged
  b_exchanged : Binds K a.d_exchanged ["old", "x", "y"] []
  m_exchanged : mg "exchanged" = some (.ref a.f_exchanged)
  F_rolled : Fun K "rolled" "rolled" s_rolled a.f_rolled a.d_rolled
  b_rolled : Binds K a.d_rolled ["old", "x", "y", "amount"] []
  m_rolled : mg "rolled" = some (.ref a.f_rolled)
  F_moved : Fun K "moved" "moved" s_moved a.f_moved a.d_moved
  b_moved : Binds K a.d_moved ["old", "move"] []
  m_moved : mg "moved" = some (.ref a.f_moved)
  F_Word_init : Fun K "__init__" "Word.__init__" s_Word_init a.f_Word_init a.d_Word_init
  b_Word_init : Binds K a.d_Word_init ["self", "text"] []
  F_Word_eq : Fun K "__eq__" "Word.__eq__" s_Word_eq a.f_Word_eq a.d_Word_eq
  b_Word_eq : Binds K a.d_Word_eq ["self", "other"] []
  F_Word_at : Fun K "at" "Word.at" s_Word_at a.f_Word_at a.d_Word_at
  b_Word_at : Binds K a.d_Word_at ["self", "k"] []
  F__law_pen : Fun K "_law_pen" "_law_pen" s__law_pen a.f__law_pen a.d__law_pen
  b__law_pen : Binds K a.d__law_pen ["script"] []
  m__law_pen : mg "_law_pen" = some (.ref a.f__law_pen)
  F__law_draw : Fun K "_law_draw" "_law_draw" s__law_draw a.f__law_draw a.d__law_draw
  b__law_draw : Binds K a.d__law_draw ["pen", "many"] []
  m__law_draw : mg "_law_draw" = some (.ref a.f__law_draw)
  F__law_pick : Fun K "_law_pick" "_law_pick" s__law_pick a.f__law_pick a.d__law_pick
  b__law_pick : Binds K a.d__law_pick ["pen", "some"] []
  m__law_pick : mg "_law_pick" = some (.ref a.f__law_pick)
  F__law_place_word : Fun K "_law_place_word" "_law_place_word" s__law_place_word a.f__law_place_word a.d__law_place_word
  b__law_place_word : Binds K a.d__law_place_word ["pen"] []
  m__law_place_word : mg "_law_place_word" = some (.ref a.f__law_place_word)
  F__law_value : Fun K "_law_value" "_law_value" s__law_value a.f__law_value a.d__law_value
  b__law_value : Binds K a.d__law_value ["word", "k"] []
  m__law_value : mg "_law_value" = some (.ref a.f__law_value)
  F__law_amount : Fun K "_law_amount" "_law_amount" s__law_amount a.f__law_amount a.d__law_amount
  b__law_amount : Binds K a.d__law_amount ["pen"] []
  m__law_amount : mg "_law_amount" = some (.ref a.f__law_amount)
  F__law_move : Fun K "_law_move" "_law_move" s__law_move a.f__law_move a.d__law_move
  b__law_move : Binds K a.d__law_move ["pen", "has_turn"] []
  m__law_move : mg "_law_move" = some (.ref a.f__law_move)
  F__law_moves : Fun K "_law_moves" "_law_moves" s__law_moves a.f__law_moves a.d__law_moves
  b__law_moves : Binds K a.d__law_moves ["pen"] []
  m__law_moves : mg "_law_moves" = some (.ref a.f__law_moves)
  F__law_word_text : Fun K "_law_word_text" "_law_word_text" s__law_word_text a.f__law_word_text a.d__law_word_text
  b__law_word_text : Binds K a.d__law_word_text ["moves"] []
  m__law_word_text : mg "_law_word_text" = some (.ref a.f__law_word_text)
  F__law_moved : Fun K "_law_moved" "_law_moved" s__law_moved a.f__law_moved a.d__law_moved
  b__law_moved : Binds K a.d__law_moved ["row", "move"] []
  m__law_moved : mg "_law_moved" = some (.ref a.f__law_moved)
  F__law_all_moved : Fun K "_law_all_moved" "_law_all_moved" s__law_all_moved a.f__law_all_moved a.d__law_all_moved
  b__law_all_moved : Binds K a.d__law_all_moved ["row", "moves"] []
  m__law_all_moved : mg "_law_all_moved" = some (.ref a.f__law_all_moved)
  F_law : Fun K "law" "law" s_law a.f_law a.d_law
  b_law : Binds K a.d_law ["script"] []
  m_law : mg "law" = some (.ref a.f_law)
  c_EveryError : mg "EveryError" = some (.ref a.C_EveryError)
  c_BadWord : mg "BadWord" = some (.ref a.C_BadWord)
  c_BadSize : mg "BadSize" = some (.ref a.C_BadSize)
  c_BadRow : mg "BadRow" = some (.ref a.C_BadRow)
  c_Word : mg "Word" = some (.ref a.C_Word)
  cl_Word : Cls K a.C_Word
  mk_Word : Mk K a.C_Word a.f_Word_init
  n_Word_text : NoAttr K a.C_Word "text"
  n_Word_moves : NoAttr K a.C_Word "moves"
  n_Word_has_turn : NoAttr K a.C_Word "has_turn"
  me_Word_at : Meth K a.C_Word "at" a.f_Word_at
  ow_Word : OwnC K a.C_Word a.f_Word_eq
  z_bool : mg "bool" = none
  z_enumerate : mg "enumerate" = none
  z_int : mg "int" = none
  z_isinstance : mg "isinstance" = none
  z_len : mg "len" = none
  z_list : mg "list" = none
  z_range : mg "range" = none
  z_str : mg "str" = none
  z_tuple : mg "tuple" = none
  m_MOST_PLACES : ∃ t, mg "MOST_PLACES" = some (.int 1000 t)
  m_MOST_MOVES : ∃ t, mg "MOST_MOVES" = some (.int 4 t)
  m_FIGURES : mg "FIGURES" = some (.ref a.a_FIGURES)
  q_FIGURES : ∀ H : Hp, SqT K H a.a_FIGURES [.str "1", .str "2", .str "3", .str "4", .str "5", .str "6", .str "7", .str "8", .str "9"]
  m_PLACE_FRONTS : mg "PLACE_FRONTS" = some (.ref a.a_PLACE_FRONTS)
  q_PLACE_FRONTS : ∀ H : Hp, SqT K H a.a_PLACE_FRONTS [.str "", .str "-", .str "half-", .str "half+"]
  m_AMOUNT_FRONTS : mg "AMOUNT_FRONTS" = some (.ref a.a_AMOUNT_FRONTS)
  q_AMOUNT_FRONTS : ∀ H : Hp, SqT K H a.a_AMOUNT_FRONTS [.str "", .str "-"]
  m_SHAPES : mg "SHAPES" = some (.ref a.a_SHAPES)
  D_SHAPES : ∃ es n, KDict K w a.a_SHAPES es n
  e_SHAPES : PySem.W.nsIn K a.a_SHAPES "" = some none
  v_SHAPES_0 : ∃ p, PySem.W.nsIn K a.a_SHAPES "exchange" = some (some (.ref p)) ∧ ∀ H : Hp, SqT K H p [.str "place", .str "place"]
  v_SHAPES_1 : ∃ p, PySem.W.nsIn K a.a_SHAPES "roll" = some (some (.ref p)) ∧ ∀ H : Hp, SqT K H p [.str "place", .str "place", .str "amount"]
  v_SHAPES_2 : ∃ p, PySem.W.nsIn K a.a_SHAPES "turn" = some (some (.ref p)) ∧ ∀ H : Hp, SqT K H p []
  m_NO_PART : ∃ t, mg "NO_PART" = some (.str "" t)

/-! ### heaps -/
/-- all but what stands at d is as it was -/
def But (d : Addr) (H H' : Hp) : Prop := ∀ b o, H b = some o → b ≠ d → H' b = some o
theorem But.refl {d : Addr} {H : Hp} : But d H H := fun _ _ h _ => h
theorem But.trans {d : Addr} {H H1 H2 : Hp} (x : But d H H1) (y : But d H1 H2) : But d H H2 := fun b o h n => y b o (x b o h n) n
theorem but_same {d : Addr} {H H' : Hp} (h : Same H H') : But d H H' := fun b o e _ => h b o e
theorem same_upd {H : Hp} {p : Addr} {o : HO} (h : H p = none) : Same H (upd H p o) := fun b x e => by
  rw [upd_ne (ne_of_none e h)]
  exact e
theorem but_upd {d : Addr} {H : Hp} {o : HO} : But d H (upd H d o) := fun b x e n => by
  rw [upd_ne n]
  exact e
theorem But.list {d : Addr} {H H' : Hp} {kvs : List (Key × V)} {l : Addr} {xs : List V} (x : But d H H') (hd : H d = some (.dK kvs)) (h : H l = some (.lst xs)) : H' l = some (.lst xs) :=
  x l _ h (ne_of h hd (by intro z; cases z))
theorem But.tup {d : Addr} {H H' : Hp} {kvs : List (Key × V)} {l : Addr} {xs : List V} (x : But d H H') (hd : H d = some (.dK kvs)) (h : H l = some (.tup xs)) : H' l = some (.tup xs) :=
  x l _ h (ne_of h hd (by intro z; cases z))
theorem But.seq {K : PySem.W.Frag} {d : Addr} {H H' : Hp} {kvs : List (Key × V)} {l : Addr} {xs : List V} (x : But d H H') (hd : H d = some (.dK kvs)) (h : SqL K H l xs) : SqL K H' l xs := by
  rcases h with (h | ⟨o, h⟩) | h
  · exact .inl (.inl (x l _ h (ne_of h hd (by intro z; cases z))))
  · exact .inl (.inr ⟨o, x l _ h (ne_of h hd (by intro z; cases z))⟩)
  · exact .inr h
/-- a list changes where none of what is known stood -/
theorem keep_upd {H H' : Hp} {l : Addr} {o : HO} (h : Same H H') (n : H l = none) : Same H (upd H' l o) := fun b u e => by
  rw [upd_ne (ne_of_none e n)]
  exact h b u e
theorem free_of {H H' : Hp} {p : Addr} (e : Same H H') (h : H' p = none) : H p = none := e.free h
theorem SqL.at {K : PySem.W.Frag} {H : Hp} {a : Addr} {xs : List V} (h : H a = some (.lst xs)) : SqL K H a xs := .inl (.inl h)
theorem SqT.at {K : PySem.W.Frag} {H : Hp} {a : Addr} {xs : List V} (h : H a = some (.tup xs)) : SqT K H a xs := .inl (.inl h)
theorem sz {n : Nat} (h : n ≤ 100000) : n ≤ sizeLine := Nat.le_trans h (by decide)
theorem szlt {n : Nat} (h : n ≤ 100000) : n < sizeLine := Nat.lt_of_le_of_lt h (by decide)
/-! ### data: lists of ints -/
def iD (ns : List Int) : PyData := .list (ns.map PyData.int)
theorem dp_all {K : PySem.W.Frag} {H : Hp} : ∀ ns : List Int, DpAll K H (ns.map V.int) (ns.map PyData.int)
  | [] => .nil
  | _ :: r => .cons (.int _) (dp_all r)
theorem dp_ints {K : PySem.W.Frag} {H : Hp} {p : Addr} {ns : List Int} (h : SqL K H p (ns.map V.int)) : Dp K H (.ref p) (iD ns) := .lst h (dp_all ns)
theorem dp_tints {K : PySem.W.Frag} {H : Hp} {p : Addr} {ns : List Int} (h : SqT K H p (ns.map V.int)) : Dp K H (.ref p) (.tuple (ns.map PyData.int)) := .tup h (dp_all ns)
theorem lay_ints : ∀ ns : List Int, PyData.canLayAll0 (ns.map PyData.int) = true
  | [] => by simp [PyData.canLayAll0]
  | _ :: r => by simp [PyData.canLayAll0, PyData.canLay0, lay_ints r]
theorem eqv_all_ints : ∀ ns ms : List Int, PyData.eqvAll (ns.map PyData.int) (ms.map PyData.int) = decide (ns = ms)
  | [], [] => by simp [PyData.eqvAll]
  | [], _ :: _ => by simp [PyData.eqvAll]
  | _ :: _, [] => by simp [PyData.eqvAll]
  | x :: r, y :: u => by
    simp only [List.map_cons, PyData.eqvAll, PyData.eqv, eqv_all_ints r u, List.cons.injEq]
    by_cases h1 : x = y <;> by_cases h2 : r = u <;> simp [h1, h2]
theorem eqv_ints (ns ms : List Int) : PyData.eqv (iD ns) (iD ms) = decide (ns = ms) := by
  unfold iD
  rw [PyData.eqv]
  exact eqv_all_ints ns ms
theorem deep_ints : ∀ ns : List Int, PyData.depthAll (ns.map PyData.int) ≤ 1
  | [] => by simp [PyData.depthAll]
  | _ :: r => by
    have := deep_ints r
    simp only [List.map_cons, PyData.depthAll, PyData.depth]
    omega
theorem shaped_ints {ns : List Int} : SeqAt.shaped (iD ns) = true := by
  unfold SeqAt.shaped iD
  rw [Bool.and_eq_true, decide_eq_true_eq]
  refine ⟨by rw [PyData.canLay0]; exact lay_ints ns, ?_⟩
  have := deep_ints ns
  rw [PyData.depth]
  omega
theorem atI_ints {ns : List Int} {i : Int} (h0 : 0 ≤ i) (h1 : i.toNat < ns.length) : atI (ns.map V.int) i = some (.int (ns[i.toNat]'h1)) := by
  have e : (i.toNat : Int) = i := by omega
  have z : atI (ns.map V.int) (i.toNat : Int) = some (.int (ns[i.toNat]'h1)) := by
    refine atI_nat ?_
    rw [List.getElem?_map, List.getElem?_eq_getElem h1]
    rfl
  rw [e] at z
  exact z
theorem ixN_nat {n : Nat} {i : Int} (h0 : 0 ≤ i) (h1 : i < (n : Int)) : ixN n i = some i.toNat := by
  unfold ixN
  rw [if_pos h0, if_pos h1]
theorem getD_get {ts : List Int} {i : Nat} (h : i < ts.length) : ts.getD i 0 = ts[i] := by
  rw [List.getD_eq_getElem?_getD, List.getElem?_eq_getElem h]
  rfl

/-! ### the pen: a dict of the script's cells and two ints -/
def penD (c : Addr) (t l : Int) : HO := .dK [((.inr "cells" : Key), V.ref c), ((.inr "at" : Key), V.int t), ((.inr "left" : Key), V.int l)]
structure PenAt (H : Hp) (d c : Addr) (ns : List Int) (t l : Int) : Prop where
  dc : H d = some (penD c t l)
  cs : H c = some (.lst (ns.map V.int))
  len : ns.length ≤ 63
  t0 : 0 ≤ t
/-- a pen with which at most n draws were made -/
def Pen (H : Hp) (d c : Addr) (n : Nat) : Prop := ∃ ns t l, PenAt H d c ns t l ∧ t ≤ n
theorem k1 : ¬ (("cells" : Str) = "at") := by decide +kernel
theorem k2 : ¬ (("cells" : Str) = "left") := by decide +kernel
theorem k3 : ¬ (("at" : Str) = "left") := by decide +kernel
theorem kk {x y : Str} (h : ¬ x = y) : ¬ ((Sum.inr x : Key) = Sum.inr y) := fun z => h (Sum.inr.inj z)
theorem pen_valC {c : Addr} {t l : Int} : valV [((.inr "cells" : Key), V.ref c), ((.inr "at" : Key), V.int t), ((.inr "left" : Key), V.int l)] (.inr "cells") = some (.ref c) := by
  simp [valV, List.find?]
theorem pen_valA {c : Addr} {t l : Int} : valV [((.inr "cells" : Key), V.ref c), ((.inr "at" : Key), V.int t), ((.inr "left" : Key), V.int l)] (.inr "at") = some (.int t) := by
  simp [valV, List.find?, k1]
theorem pen_valL {c : Addr} {t l : Int} : valV [((.inr "cells" : Key), V.ref c), ((.inr "at" : Key), V.int t), ((.inr "left" : Key), V.int l)] (.inr "left") = some (.int l) := by
  simp [valV, List.find?, k2, k3]
theorem pen_C {H : Hp} {d c : Addr} {t l : Int} (h : H d = some (penD c t l)) : DGet H d (.str "cells") (some (.ref c)) := by
  have e := DGet.k (k := Sum.inr "cells") h
  rw [pen_valC] at e
  exact e
theorem pen_A {H : Hp} {d c : Addr} {t l : Int} (h : H d = some (penD c t l)) : DGet H d (.str "at") (some (.int t)) := by
  have e := DGet.k (k := Sum.inr "at") h
  rw [pen_valA] at e
  exact e
theorem pen_L {H : Hp} {d c : Addr} {t l : Int} (h : H d = some (penD c t l)) : DGet H d (.str "left") (some (.int l)) := by
  have e := DGet.k (k := Sum.inr "left") h
  rw [pen_valL] at e
  exact e
theorem pen_putA {c : Addr} {t l u : Int} : putK [((.inr "cells" : Key), V.ref c), ((.inr "at" : Key), V.int t), ((.inr "left" : Key), V.int l)] (.inr "at") (.int u) = [((.inr "cells" : Key), V.ref c), ((.inr "at" : Key), V.int u), ((.inr "left" : Key), V.int l)] := by
  simp [putK, k1, k3, show ¬ (("left" : Str) = "at") from fun h => k3 h.symm]
theorem pen_putL {c : Addr} {t l u : Int} : putK [((.inr "cells" : Key), V.ref c), ((.inr "at" : Key), V.int t), ((.inr "left" : Key), V.int l)] (.inr "left") (.int u) = [((.inr "cells" : Key), V.ref c), ((.inr "at" : Key), V.int t), ((.inr "left" : Key), V.int u)] := by
  simp [putK, k2, k3]
theorem pen_setA {H : Hp} {d c : Addr} {t l u : Int} (h : H d = some (penD c t l)) : DPut H d (.str "at") (.int u) (upd H d (penD c u l)) := by
  have e := DPut.k (k := Sum.inr "at") (v := .int u) h (by show 3 < sizeLine; exact szlt (by decide))
  rw [pen_putA] at e
  exact e
theorem pen_setL {H : Hp} {d c : Addr} {t l u : Int} (h : H d = some (penD c t l)) : DPut H d (.str "left") (.int u) (upd H d (penD c t u)) := by
  have e := DPut.k (k := Sum.inr "left") (v := .int u) h (by show 3 < sizeLine; exact szlt (by decide))
  rw [pen_putL] at e
  exact e
theorem pen_mk {l : Addr} : mergeK [] [((.inr "cells" : Key), V.ref l), ((.inr "at" : Key), V.int 0), ((.inr "left" : Key), V.int 0)] = [((.inr "cells" : Key), V.ref l), ((.inr "at" : Key), V.int 0), ((.inr "left" : Key), V.int 0)] := by
  simp [mergeK, putK, k1, k2, k3]
theorem Pen.same {H H' : Hp} {d c : Addr} {n : Nat} (p : Pen H d c n) (h : Same H H') : Pen H' d c n := by
  obtain ⟨ns, t, l, q, e⟩ := p
  exact ⟨ns, t, l, ⟨h _ _ q.dc, h _ _ q.cs, q.len, q.t0⟩, e⟩
theorem Pen.up {H : Hp} {d c : Addr} {n m : Nat} (p : Pen H d c n) (h : n ≤ m) : Pen H d c m := by
  obtain ⟨ns, t, l, q, e⟩ := p
  exact ⟨ns, t, l, q, by omega⟩
theorem Pen.dict {H : Hp} {d c : Addr} {n : Nat} (p : Pen H d c n) : ∃ kvs, H d = some (.dK kvs) := by
  obtain ⟨ns, t, l, q, e⟩ := p
  exact ⟨_, q.dc⟩
theorem Pen.cells {H : Hp} {d c : Addr} {n : Nat} (p : Pen H d c n) : ∃ o, H c = some o := by
  obtain ⟨ns, t, l, q, e⟩ := p
  exact ⟨_, q.cs⟩
/-- a list that is not the pen's changes -/
theorem Pen.mut {H : Hp} {d c l : Addr} {n : Nat} {o : HO} (p : Pen H d c n) (hd : d ≠ l) (hc : c ≠ l) : Pen (upd H l o) d c n := by
  obtain ⟨ns, t, u, q, e⟩ := p
  exact ⟨ns, t, u, ⟨by rw [upd_ne hd]; exact q.dc, by rw [upd_ne hc]; exact q.cs, q.len, q.t0⟩, e⟩
/-- what stands where nothing stood may change -/
theorem But.mut {d l : Addr} {H H' : Hp} {o : HO} (b : But d H H') (h : H l = none) : But d H (upd H' l o) := fun x u e n => by
  rw [upd_ne (ne_of_none e h)]
  exact b x u e n
theorem cut63 (ns : List Int) : cutV (ns.map V.int) none (some 63) = (ns.take 63).map V.int := by
  unfold cutV
  rw [show HT.sIx (ns.map V.int).length (ns.map V.int).length (some 63) = min 63 (ns.map V.int).length from HT.sIx_nat _ _ 63, HT.sIx_none, List.drop_zero, Nat.sub_zero, List.map_take, List.take_eq_take_iff]
  omega
section
variable {P : Program} {w : World} {K : PySem.W.Frag} {mg : Str → Option Value} {base : Heap} {a : Ad}
def spPen (K : PySem.W.Frag) : Sp := fun vs H Q _ => ∃ (s : Addr) (ns : List Int), vs = [.ref s] ∧ SqL K H s (ns.map V.int) ∧ ns.length ≤ 63 ∧
  ∀ d c H', H d = none → H c = none → Pen H' d c 0 → Same H H' → Q (.ref d) H'
theorem ok__law_pen (T : Tx w K mg a) : FnOk P w K mg base CX0 1 a.f__law_pen a.d__law_pen ["script"] (spPen K) := by
  refine T.F__law_pen.ok sc__law_pen (fun vs H Q E h => ?_) (fun cdv A outer s H vs Q E hr h => ?_)
  · obtain ⟨s, ns, rfl, _⟩ := h
    rfl
  · obtain ⟨x, ns, rfl, hS, hlen, q⟩ := h
    have hu := hu_of hr
    refine ⟨_, 
(pss_one (ps_ret (pe_disp (pps_cons pe_str (pe_callTy call_list_of (by rfl) T.z_list (by decide +kernel) (pa_cons (pe_slice sl_list (pv 0) po_none (po_some pe_int)) pa_nil)) (pps_cons pe_str pe_int (pps_cons pe_str pe_int pps_nil))) (by rfl) (by rfl) (fun z => by cases z) (by decide)))), ?_⟩
    intro d hd
    have s1 : Same H (upd H d (.dK [])) := same_upd hd
    refine ⟨.ref x, rfl, 63, rfl, x, ns.map V.int, rfl, s1.seq hS, fun p hp => ?_⟩
    have s2 : Same (upd H d (.dK [])) (upd (upd H d (.dK [])) p (.lst (cutV (ns.map V.int) none (some 63)))) := same_upd hp
    refine ⟨p, _, rfl, .inl (SqL.at upd_same), fun l hl => ?_⟩
    have s3 := same_upd (o := .lst (cutV (ns.map V.int) none (some 63))) hl
    have hd3 := s3 _ _ (s2 _ _ (upd_same (H := H) (a := d) (o := .dK [])))
    have hl3 : (upd (upd (upd H d (.dK [])) p (.lst (cutV (ns.map V.int) none (some 63)))) l (.lst (cutV (ns.map V.int) none (some 63)))) l = _ := upd_same
    have ndl : l ≠ d := ne_of hl3 hd3 (by intro z; cases z)
    refine ⟨hd3, [((.inr "cells" : Key), V.ref l), ((.inr "at" : Key), V.int 0), ((.inr "left" : Key), V.int 0)], rfl, (by show 3 ≤ 15; decide), ?_⟩
    rw [pen_mk]
    refine q d l _ hd (s1.free (s2.free hl)) ⟨ns.take 63, 0, 0, ⟨upd_same, ?_, ?_, by decide⟩, by decide⟩ ?_
    · rw [upd_ne ndl, hl3, cut63]
    · rw [List.length_take]
      omega
    · intro b o e
      rw [upd_ne (ne_of_none e hd)]
      exact s3 _ _ (s2 _ _ (s1 _ _ e))
/-- a draw: any int from 0 on that is less than the second argument; the pen alone changes -/
def spDraw : Sp := fun vs H Q _ => ∃ (d c : Addr) (n : Nat) (m : Int), vs = [.ref d, .int m] ∧ Pen H d c n ∧ n < 2 ^ 40 ∧ 0 < m ∧ m < 2 ^ 200 ∧
  ∀ v H', 0 ≤ v → v < m → Pen H' d c (n + 1) → But d H H' → Q (.int v) H'
theorem ok__law_draw (T : Tx w K mg a) : FnOk P w K mg base CX0 1 a.f__law_draw a.d__law_draw ["pen", "many"] spDraw := by
  refine T.F__law_draw.ok sc__law_draw (fun vs H Q E h => ?_) (fun cdv A outer s H vs Q E hr h => ?_)
  · obtain ⟨d, c, n, m, rfl, _⟩ := h
    rfl
  · obtain ⟨d, c, n, m, rfl, ⟨ns, t, l, ⟨hd, hc, hlen, t0⟩, htn⟩, hn, m0, mb, q⟩ := h
    have hu := hu_of hr
    have hmne : m ≠ 0 := by omega
    have hdiv : ∀ x : Int, CDivW x m := fun x => wide_div m0 (b := 200) (by omega) (by decide) (by decide)
    have f0 : ∀ x : Int, 0 ≤ Int.fmod x m := fun x => Int.fmod_nonneg_of_pos x m0
    have f1 : ∀ x : Int, Int.fmod x m < m := fun x => Int.fmod_lt_of_pos x m0
    refine ⟨_, 
(pss_cons (ps_if (pt_cmpR op_ge (pe_dget hu (pv 0) pe_str (fun _ _ => rfl)) (pv 1) (nomark _))
  (pss_cons (ps_set (i := 2) sc__law_draw.nd rfl (.inl rfl) (pe_op op_modN (pe_callTy call_int1 (by rfl) T.z_int (by decide +kernel) (pa_cons (pe_dget hu (pv 0) pe_str (fun _ _ => rfl)) pa_nil)) (pv 1)))
  (pss_cons (ps_dput hu (pv 0) pe_str (pe_op op_fdivW (pe_dget hu (pv 0) pe_str (fun _ _ => rfl)) (pv 1)) rfl)
  (pss_one (ps_ret (pv 2)))))
  pss_nil)
  (pss_cons (ps_set (i := 3) sc__law_draw.nd rfl (.inl rfl) (pe_dget hu (pv 0) pe_str (fun _ _ => rfl)))
  (pss_cons (ps_dput hu (pv 0) pe_str (pe_op op_add (pv 3) pe_int) rfl)
  (pss_cons (ps_set (i := 4) sc__law_draw.nd rfl (.inl rfl) (pe_op op_add (pe_op op_mul pe_int (pv 3)) pe_int))
  (C8.pss_cut (ps_if (pt_cmpR (op_neD hr.units) (pe_dget hu (pv 0) pe_str (fun _ _ => rfl)) (pe_lst pa_nil) (nomark _))
  (pss_one (ps_set (i := 4) sc__law_draw.nd rfl (.inl rfl) (pe_ix ix_list (pe_dget hu (pv 0) pe_str (fun _ _ => rfl)) (pe_op op_modN (pe_callTy call_int1 (by rfl) T.z_int (by decide +kernel) (pa_cons (pv 3) pa_nil)) (pe_callB call_len_seq (by rfl) T.z_len PySem.boot_len (pa_cons (pe_dget hu (pv 0) pe_str (fun _ _ => rfl)) pa_nil))) (fun _ _ => rfl))))
  pss_nil)
  (C8.pss_cut (ps_if (PW.pt (pw_and (pt_cmpR op_lt (pv 3) (pe_callB call_len_seq (by rfl) T.z_len PySem.boot_len (pa_cons (pe_dget hu (pv 0) pe_str (fun _ _ => rfl)) pa_nil)) (nomark _)) (pw_and1 (pt_cmpR op_ge (pv 4) (pe_op op_pow pe_int pe_int) (nomark _)))))
  (pss_cons (ps_dput hu (pv 0) pe_str (pe_op op_fdivW (pe_op op_sub (pv 4) (pe_op op_pow pe_int pe_int)) (pv 1)) rfl)
  (pss_one (ps_ret (pe_op op_modN (pe_callTy call_int1 (by rfl) T.z_int (by decide +kernel) (pa_cons (pe_op op_sub (pv 4) (pe_op op_pow pe_int pe_int)) pa_nil)) (pv 1)))))
  pss_nil)
  (pss_cons (ps_set (i := 5) sc__law_draw.nd rfl (.inl rfl) (pe_op op_add (pe_op op_add (pe_op op_add (pe_op op_mul (pe_op op_modN (pe_callTy call_int1 (by rfl) T.z_int (by decide +kernel) (pa_cons (pv 4) pa_nil)) pe_int) pe_int) (pe_op op_mul (pe_op op_mul pe_int (pv 3)) (pv 3))) (pe_op op_mul pe_int (pv 3))) pe_int))
  (pss_cons (ps_set (i := 5) sc__law_draw.nd rfl (.inl rfl) (pe_op op_modN (pe_callTy call_int1 (by rfl) T.z_int (by decide +kernel) (pa_cons (pv 5) pa_nil)) pe_int))
  (pss_cons (ps_set (i := 5) sc__law_draw.nd rfl (.inl rfl) (pe_op op_modN (pe_callTy call_int1 (by rfl) T.z_int (by decide +kernel) (pa_cons (pe_op op_mul (pv 5) (pe_op op_add (pv 5) pe_int)) pa_nil)) pe_int))
  (pss_one (ps_ret (pe_op op_modN (pe_callTy call_int1 (by rfl) T.z_int (by decide +kernel) (pa_cons (pe_op op_fdivN (pe_op op_modN (pe_callTy call_int1 (by rfl) T.z_int (by decide +kernel) (pa_cons (pe_op op_mul (pv 5) (pv 5)) pa_nil)) pe_int) pe_int) pa_nil)) (pv 1))))))))))))), ?_⟩
    -- if pen['left'] >= many
    refine ⟨.ref d, rfl, d, .int l, rfl, pen_L hd, .int m, rfl, l, m, rfl, rfl, _, rfl, ite2 (fun e => ?_) (fun e => ?_)⟩
    · -- digit = int(pen['left']) % many; pen['left'] = pen['left'] // many; return digit
      refine ⟨.ref d, rfl, d, .int l, rfl, pen_L hd, .inl ⟨l, rfl, .int m, rfl, l, m, rfl, rfl, hmne, ?_⟩⟩
      refine ⟨.ref d, rfl, d, .int l, rfl, pen_L hd, .int m, rfl, l, m, rfl, rfl, hdiv l, .ref d, rfl, d, _, rfl, pen_setL hd, ?_⟩
      exact ⟨_, rfl, q _ _ (f0 l) (f1 l) ⟨ns, t, _, ⟨upd_same, by rw [upd_ne (ne_of hc hd (by intro z; cases z))]; exact hc, hlen, t0⟩, by omega⟩ but_upd⟩
    · -- at = pen['at']; pen['at'] = at + 1; cell = 41 * at + 13
      refine ⟨.ref d, rfl, d, .int t, rfl, pen_A hd, ?_⟩
      refine ⟨.int t, rfl, t, 1, rfl, rfl, .ref d, rfl, d, _, rfl, pen_setA hd, ?_⟩
      refine ⟨.int t, rfl, 41, t, rfl, rfl, .inl ⟨by decide, by decide⟩, 41 * t, 13, rfl, rfl, ?_⟩
      have hd1 : (upd H d (penD c (t + 1) l)) d = some (penD c (t + 1) l) := upd_same
      have hc1 : (upd H d (penD c (t + 1) l)) c = some (.lst (ns.map V.int)) := by
        rw [upd_ne (ne_of hc hd (by intro z; cases z))]
        exact hc
      have b1 : But d H (upd H d (penD c (t + 1) l)) := but_upd
      generalize upd H d (penD c (t + 1) l) = H1 at hd1 hc1 b1 ⊢
      -- if pen['cells'] != []: cell = pen['cells'][int(at) % len(pen['cells'])]
      refine ⟨fun σ' H' => ∃ cell : Int, σ' = [some (.ref d), some (.int m), none, some (.int t), some (.int cell), none] ∧ H' d = some (penD c (t + 1) l) ∧ H' c = some (.lst (ns.map V.int)) ∧ But d H H', ?_, fun σ'' H'' hM => ?_⟩
      · refine ⟨.ref d, rfl, d, .ref c, rfl, pen_C hd1, Nat.zero_le _, fun p hp => ?_⟩
        have s2 : Same H1 (upd H1 p (.lst [])) := same_upd hp
        have hp2 : (upd H1 p (.lst [])) p = some (.lst []) := upd_same
        have hd2 := s2 _ _ hd1
        have hc2 := s2 _ _ hc1
        have b2 : But d H (upd H1 p (.lst [])) := b1.trans (but_same s2)
        generalize upd H1 p (.lst []) = H2 at hd2 hc2 hp2 b2 ⊢
        refine ⟨_, _, dp_ints (SqL.at hc2), dp_ints (ns := []) (SqL.at hp2), shaped_ints, shaped_ints, _, rfl, ?_⟩
        rw [eqv_ints]
        refine ite2 (fun e => ?_) (fun e => ?_)
        · have hns : ns ≠ [] := by
            intro z
            subst z
            simp at e
          have hpos : 0 < ns.length := List.length_pos_iff.mpr hns
          have g0 : (0 : Int) ≤ Int.fmod t (ns.length : Int) := Int.fmod_nonneg_of_pos _ (by omega)
          have g1 : Int.fmod t (ns.length : Int) < (ns.length : Int) := Int.fmod_lt_of_pos _ (by omega)
          refine ⟨.ref d, rfl, d, .ref c, rfl, pen_C hd2, .int t, rfl, .inl ⟨t, rfl, .ref d, rfl, d, .ref c, rfl, pen_C hd2, c, _, rfl, .inl (SqL.at hc2), t, _, rfl, rfl, ?_, c, _, _, .int (ns[(Int.fmod t (ns.length : Int)).toNat]'(by omega)), rfl, rfl, SqL.at hc2, ?_, ?_⟩⟩
          · rw [List.length_map]
            omega
          · rw [List.length_map]
            exact atI_ints g0 (by omega)
          · exact ⟨_, rfl, hd2, hc2, b2⟩
        · exact ⟨_, rfl, hd2, hc2, b2⟩
      · obtain ⟨cell, rfl, hd3, hc3, b3⟩ := hM
        have hlen' : (ns.map V.int).length ≤ 63 := by
          rw [List.length_map]
          exact hlen
        -- if at < len(pen['cells']) and cell >= 10 ** 18
        refine ⟨fun σ' H' => σ' = [some (.ref d), some (.int m), none, some (.int t), some (.int cell), none] ∧ H' = H'', ?_, fun σ' H' hM => ?_⟩
        · refine ⟨.int t, rfl, .ref d, rfl, d, .ref c, rfl, pen_C hd3, c, _, rfl, .inl (SqL.at hc3), t, _, rfl, rfl, _, rfl, ite2 (fun e1 => ?_) (fun e1 => iteF ⟨rfl, rfl⟩)⟩
          refine ⟨.int cell, rfl, 10, 18, rfl, rfl, ⟨by decide, by decide, by decide⟩, cell, _, rfl, rfl, _, rfl, ite2 (fun e2 => ?_) (fun e2 => ⟨rfl, rfl⟩)⟩
          refine ⟨.int cell, rfl, 10, 18, rfl, rfl, ⟨by decide, by decide, by decide⟩, cell, _, rfl, rfl, .int m, rfl, _, m, rfl, rfl, hdiv _, .ref d, rfl, d, _, rfl, pen_setL hd3, ?_⟩
          refine ⟨.int cell, rfl, 10, 18, rfl, rfl, ⟨by decide, by decide, by decide⟩, cell, _, rfl, rfl, .inl ⟨_, rfl, .int m, rfl, _, m, rfl, rfl, hmne, ?_⟩⟩
          exact q _ _ (f0 _) (f1 _) ⟨ns, t + 1, _, ⟨upd_same, by rw [upd_ne (ne_of hc3 hd3 (by intro z; cases z))]; exact hc3, hlen, by omega⟩, by omega⟩ (b3.trans but_upd)
        · obtain ⟨rfl, rfl⟩ := hM
          have g : ∀ x y : Int, 0 < y → 0 ≤ Int.fmod x y ∧ Int.fmod x y < y := fun x y hy => ⟨Int.fmod_nonneg_of_pos x hy, Int.fmod_lt_of_pos x hy⟩
          have g1 := g cell 2147483629 (by decide)
          have z1 : (2147483629 : Int) ≠ 0 := by decide
          have z2 : (2147483647 : Int) ≠ 0 := by decide
          have z3 : (2147483587 : Int) ≠ 0 := by decide
          have z4 : (2147483563 : Int) ≠ 0 := by decide
          have y1 : -(2 ^ 64) < Int.fmod cell 2147483629 ∧ Int.fmod cell 2147483629 < 2 ^ 64 := by omega
          have y2 : -(2 ^ 64) < t ∧ t < 2 ^ 64 := by omega
          refine ⟨.int cell, rfl, .inl ⟨cell, rfl, cell, 2147483629, rfl, rfl, z1, _, 48271, rfl, rfl, .inl y1, .int t, rfl, 69621, t, rfl, rfl, .inr y2, .int t, rfl, _, t, rfl, rfl, .inr y2, _, _, rfl, rfl, .int t, rfl, 59, t, rfl, rfl, .inr y2, _, _, rfl, rfl, _, 11, rfl, rfl, ?_⟩⟩
          have g2 := g (Int.fmod cell 2147483629 * 48271 + 69621 * t * t + 59 * t + 11) 2147483647 (by decide)
          refine ⟨_, rfl, .inl ⟨_, rfl, _, 2147483647, rfl, rfl, z2, ?_⟩⟩
          have y3 : -(2 ^ 64) < Int.fmod (Int.fmod cell 2147483629 * 48271 + 69621 * t * t + 59 * t + 11) 2147483647 ∧ Int.fmod (Int.fmod cell 2147483629 * 48271 + 69621 * t * t + 59 * t + 11) 2147483647 < 2 ^ 64 := by omega
          refine ⟨_, rfl, _, rfl, _, 40014, rfl, rfl, _, _, rfl, rfl, .inl y3, .inl ⟨_, rfl, _, 2147483587, rfl, rfl, z3, ?_⟩⟩
          have g3 := fun x => g x 2147483587 (by decide)
          have y4 : ∀ x, -(2 ^ 64) < Int.fmod x 2147483587 ∧ Int.fmod x 2147483587 < 2 ^ 64 := fun x => by
            have := g3 x
            omega
          refine ⟨_, rfl, _, rfl, _, _, rfl, rfl, .inl (y4 _), .inl ⟨_, rfl, _, 2147483563, rfl, rfl, z4, _, 64, rfl, rfl, ⟨by decide, by decide⟩, .inl ⟨_, rfl, .int m, rfl, _, m, rfl, rfl, hmne, ?_⟩⟩⟩
          exact q _ _ (f0 _) (f1 _) ⟨ns, t + 1, l, ⟨hd3, hc3, hlen, by omega⟩, by omega⟩ b3
end

section
variable {P : Program} {w : World} {K : PySem.W.Frag} {mg : Str → Option Value} {base : Heap} {a : Ad}
/-- a pick: some item of the list -/
def spPick (K : PySem.W.Frag) : Sp := fun vs H Q _ => ∃ (d c s : Addr) (n : Nat) (xs : List V), vs = [.ref d, .ref s] ∧ Pen H d c n ∧ n < 2 ^ 40 ∧ SqL K H s xs ∧ 0 < xs.length ∧ xs.length ≤ 100000 ∧
  ∀ v H', v ∈ xs → Pen H' d c (n + 1) → But d H H' → Q v H'
theorem ok__law_pick (T : Tx w K mg a) : FnOk P w K mg base CX0 2 a.f__law_pick a.d__law_pick ["pen", "some"] (spPick K) := by
  refine T.F__law_pick.ok sc__law_pick (fun vs H Q E h => ?_) (fun cdv A outer s H vs Q E hr h => ?_)
  · obtain ⟨d, c, s, n, xs, rfl, _⟩ := h
    rfl
  · obtain ⟨d, c, s, n, xs, rfl, hp, hn, hs, h0, h1, q⟩ := h
    obtain ⟨kvs, hd⟩ := hp.dict
    refine ⟨_, 
(pss_one (ps_ret (pe_ix ix_list (pv 1) (pe_call (ok__law_draw T) hr (by rfl) T.m__law_draw T.F__law_draw.kp T.b__law_draw .nil pass0 (pa_cons (pv 0) (pa_cons (pe_callB call_len_seq (by rfl) T.z_len PySem.boot_len (pa_cons (pv 1) pa_nil)) pa_nil))) (fun _ _ => rfl)))), ?_⟩
    refine ⟨.ref s, rfl, .ref d, rfl, .ref s, rfl, s, _, rfl, .inl hs, d, c, n, _, rfl, hp, hn, by omega, ?_, fun v H' v0 v1 hp' hb => ?_⟩
    · have : ((100000 : Nat) : Int) < 2 ^ 200 := by decide
      omega
    · refine ⟨s, xs, v, xs[v.toNat]'(by omega), rfl, rfl, hb.seq hd hs, ?_, q _ _ (List.getElem_mem _) hp' hb⟩
      have e : (v.toNat : Int) = v := by omega
      have z : atI xs (v.toNat : Int) = some (xs[v.toNat]'(by omega)) := atI_nat (List.getElem?_eq_getElem (by omega))
      rw [e] at z
      exact z
end

/-! ### a list or a tuple: walked, enumerated -/
def SqA (K : PySem.W.Frag) (H : Hp) (p : Addr) (xs : List V) : Prop := SqL K H p xs ∨ SqT K H p xs
theorem SqA.len {K : PySem.W.Frag} {H : Hp} {p : Addr} {xs : List V} (h : SqA K H p xs) : SqL K H p xs ∨ SqT K H p xs := h
theorem Same.seqT {K : PySem.W.Frag} {H H' : Hp} {p : Addr} {xs : List V} (e : Same H H') (h : SqT K H p xs) : SqT K H' p xs := by
  rcases h with (h | ⟨o, h⟩) | h
  · exact .inl (.inl (e _ _ h))
  · exact .inl (.inr ⟨o, e _ _ h⟩)
  · exact .inr h
theorem SqA.same {K : PySem.W.Frag} {H H' : Hp} {p : Addr} {xs : List V} (h : SqA K H p xs) (e : Same H H') : SqA K H' p xs := h.elim (fun q => .inl (e.seq q)) fun q => .inr (Same.seqT e q)
def iSeq (K : PySem.W.Frag) (tl : TE) : TI := fun σ H R => tl σ H fun x H1 => ∃ p xs, x = .ref p ∧ ((SqL K H1 p xs ∧ R (Itl K p) H1) ∨ (SqT K H1 p xs ∧ R (Itt K p) H1))
theorem pi_seq {X : Cx} {tg l : Expr} {tl : TE} (hl : PE X l tl) : PI X tg l (iSeq X.K tl) := by
  constructor
  intro pins s σ H R I h
  apply thn (hl.run pins s σ H _ I h)
  rintro v s1 ⟨x, H1, I1, r1, p, xs, rfl, hq⟩
  cases r1
  rcases hq with ⟨hq, q⟩ | ⟨hq, q⟩
  · obtain ⟨its, _, z, _⟩ := I1.list hq
    exact wpAny_pyIter_list z.isList (pi_one (tk := s1.toks) I1 _ (turn_list p _) ⟨_, Heap.get?_push_size _ rfl, rfl, rfl⟩ q)
  · obtain ⟨its, _, z, _⟩ := I1.tuple hq
    exact wpAny_pyIter_tuple (show s1.heap.IsTuple p its.toArray from z) (pi_one (tk := s1.toks) I1 _ (turn_tuple p _) ⟨_, Heap.get?_push_size _ rfl, rfl, rfl⟩ q)
/-- enumerate over a tuple -/
def IteT (K : PySem.W.Frag) (p : Addr) : It where
  go := fun i H => ∃ (xs : List V) (x : V), SqT K H p xs ∧ xs[i]? = some x
  yld := fun i H v H' => ∃ q x, v = .ref q ∧ H q = none ∧ H' = upd H q (.tup [.int (i : Nat), x]) ∧ ∀ xs, SqT K H p xs → xs[i]? = some x
  stop := fun i H => ∃ xs : List V, SqT K H p xs ∧ xs.length = i
theorem turn_enumT {P : Program} {w : World} {K : PySem.W.Frag} {elts : List Expr} {kk : Nat} {tpos : Pos} (p e it : Addr) :
    Turn P w K (.Tuple elts kk tpos) (IteT K p) [e, it] e (fun i h => (∃ old, IsEnum h e it ((i : Nat) : Int) old) ∧ h.IsTupleIter it p i ∧ e ≠ it) where
  mem := List.mem_cons_self ..
  obj := by
    rintro i h ⟨⟨old, he⟩, ⟨o, ho, hc, hd⟩, _⟩ b hb
    simp only [List.mem_cons, List.not_mem_nil, or_false] at hb
    rcases hb with rfl | rfl
    · exact ⟨_, he, fun v q => nomatch q⟩
    · exact ⟨o, ho, fun v q => by rw [hd] at q; cases q⟩
  keep := by
    rintro i h h' ⟨⟨old, he⟩, hi, hne⟩ k
    exact ⟨⟨old, k e (by simp) _ he⟩, hi.at fun o q => k it (by simp) o q, hne⟩
  item := by
    rintro X rfl rfl rfl hc i pins s σ H E I hf ⟨⟨old, he⟩, hit, hne⟩ ⟨xs, x, hq, hx⟩
    obtain ⟨its, rv, z, hz⟩ := I.tuple hq
    obtain ⟨u, hu, ru⟩ := rv.get hx
    have hel : e < s.heap.objs.size := Heap.lt_size he
    have hil : it < s.heap.objs.size := by
      obtain ⟨_, q, _⟩ := hit
      exact Heap.lt_size q
    have hpe : e ≠ p := fun q => by
      obtain ⟨o, ho, hc1, _⟩ := (show s.heap.IsTuple p its.toArray from z)
      rw [← q] at ho
      rw [Option.some.inj (ho.symm.trans he)] at hc1
      injection hc1 with hc1
      exact absurd hc1 (by decide)
    have hpi : p ≠ it := fun q => by
      obtain ⟨o, ho, hc1, _⟩ := (show s.heap.IsTuple p its.toArray from z)
      obtain ⟨o2, ho2, hc2, _⟩ := hit
      rw [q] at ho
      rw [Option.some.inj (ho.symm.trans ho2), hc2] at hc1
      injection hc1 with hc1
      exact absurd hc1 (by decide)
    have D := Draws.tuple (prog := X.prog) (w := X.w) (A := X.A.in1) (I.ok.hd hc) it p hpi its.toArray
    have hlt : i < its.toArray.size := by
      have := (List.getElem?_eq_some_iff.mp hu).1
      simpa using this
    refine wpAny_pyNext_enum_itemD (i := i) D he ⟨hit, z⟩ hlt hne (by simp [hne, hpe]) ?_
    intro v h' tk hv ho hst' hT hsz hk
    have ev : v = u := by
      have h1 : its[i]? = some v := by simpa using hv
      exact Option.some.inj (h1.symm.trans hu)
    subst ev
    refine ⟨_, rfl, wpAny_letOwnedTupleGo_enum (s := { s with heap := h', toks := tk + 1 }) ho ?_⟩
    intro h'' he' sb
    have hT2 : h''.get? s.heap.objs.size = some { cls := .type "tuple", data := .seq #[.int i tk, v] } := (sb.2 _ (Nat.ne_of_gt hel)).trans hT
    have new : ObjOk X.prog X.w (upd H s.heap.objs.size (.tup [.int (i : Nat), x])) h'' s.heap.objs.size (.tup [.int (i : Nat), x]) :=
      ⟨(by decide : 2 ≤ sizeLine), [.int i tk, v], .cons ⟨_, rfl⟩ (.cons ru .nil), _, hT2, rfl, _, rfl⟩
    have I1 : Inv X pins σ (upd H s.heap.objs.size (.tup [.int (i : Nat), x])) { s with heap := h'', toks := tk + 1 } := by
      refine I.turnedNew (ch := [e, it]) (fun b ob hb q => ?_) hf (Nat.le_refl _) new
      have n1 : b ≠ e := fun y => hb (by simp [y])
      have n2 : b ≠ it := fun y => hb (by simp [y])
      exact (sb.2 b n1).trans (hk b ob n1 n2 q)
    refine ⟨.ref s.heap.objs.size, _, I1, rfl, ⟨_, x, rfl, I.hok.fresh (Nat.le_refl _), rfl, fun ys hy => ?_⟩, ⟨⟨v, ?_⟩, hst'.1.at fun o q => (sb.2 it hne.symm).trans q, hne⟩, fun b hb => ?_⟩
    · rw [I.tuple_inj hy hq]
      exact hx
    · rw [show ((i + 1 : Nat) : Int) = (i : Int) + 1 by omega]
      exact he'
    · have hb' : b < s.heap.objs.size := by
        simp only [List.mem_cons, List.not_mem_nil, or_false] at hb
        rcases hb with rfl | rfl
        · exact hel
        · exact hil
      rw [upd_ne (Nat.ne_of_lt hb')]
      exact (hf b hb).1
  done := by
    rintro X rfl rfl rfl hc i pins s σ H E I hf ⟨⟨old, he⟩, hit, hne⟩ ⟨xs, hq, hx⟩
    obtain ⟨its, rv, z, hz⟩ := I.tuple hq
    obtain ⟨f0, f1, f2, f3, f4, f5⟩ := hf it (by simp)
    have hl := rv.length
    have hpi : p ≠ it := fun q => by
      obtain ⟨o, ho, hc1, _⟩ := (show s.heap.IsTuple p its.toArray from z)
      obtain ⟨o2, ho2, hc2, _⟩ := hit
      rw [q] at ho
      rw [Option.some.inj (ho.symm.trans ho2), hc2] at hc1
      injection hc1 with hc1
      exact absurd hc1 (by decide)
    have D := Draws.tuple (prog := X.prog) (w := X.w) (A := X.A.in1) (I.ok.hd hc) it p hpi its.toArray
    have ei : i = its.toArray.size := by
      simp only [List.size_toArray]
      omega
    subst ei
    exact wpAny_pyNext_enum_endD D he ⟨hit, z⟩ fun h' eb => ⟨rfl, I.turned (t' := s.toks) (fun b o hb e => eb b o hb e) f0 f1 f3 f4 f5⟩
  self := by
    rintro A i s Q E ⟨⟨_, he⟩, _⟩ h
    exact wpAny_pyIter_enum he h
theorem meets_enum0 {v : Value} {o : Obj} {Hh : Heap → Prop} (B : Begins v o Hh) :
    Meets (Builtin.«enumerate.__new__» ⟨[.type "enumerate", v], []⟩) (fun _ R s => Hh s.heap ∧
      R (.ok (.ret (.ref (s.heap.push o).objs.size))) { s with heap := (s.heap.push o).push { cls := .type "enumerate", data := .fields #[.none, .bool false, .ref s.heap.objs.size, rawInt 0, .none, .none] } }) := by
  refine .of_wp ?_
  rintro prog w A R ⟨hp, g, d, tk, os⟩ ⟨h1, h⟩
  have hsb := sub_enumerate
  have q1 : ∀ {A' : Around} {E : Value → Shared → Prop} {Q : Value → Shared → Prop}, Q (.ref hp.objs.size) ⟨hp.push o, g, d, tk, os⟩ → wpAny (model prog w) A' (pyIter v) Q E ⟨hp, g, d, tk, os⟩ := by
    intro A' E Q q
    exact B.iter prog w _ _ ⟨hp, g, d, tk, os⟩ _ h1 q
  wp_walk using q1
  refine wpAny_stack_any fun st => wpAny_pure ?_
  split
  · rename_i c _ _ _ _ _
    cases (c == Value.type "enumerate") <;> (wp_walk using q1; exact ⟨_, rfl, h⟩)
  · wp_walk using q1
    exact ⟨_, rfl, h⟩
theorem call_enum0 {prog : Program} {w : World} {A : Around} {E : Value → Shared → Prop} {s : Shared} {v : Value} {o : Obj} {Hh : Heap → Prop} {Q : Value → Shared → Prop} (B : Begins v o Hh) (h1 : Hh s.heap)
    (h : ∀ h', IsEnum h' (s.heap.objs.size + 1) s.heap.objs.size 0 .none → h'.get? s.heap.objs.size = some o → h'.objs.size = s.heap.objs.size + 2 → (∀ b u, s.heap.get? b = some u → h'.get? b = some u) → Q (.ref (s.heap.objs.size + 1)) { s with heap := h' }) :
    wpAny (model prog w) A (call (.type "enumerate") [v]) Q E s := by
  have hz : (s.heap.push o).objs.size = s.heap.objs.size + 1 := by rw [Heap.size_push]
  refine callType_new F.called_enumerate (by decide) (F.typeCall_enumerate_1 _) (F.newCall_enumerate_1 _) (fun obj => F.args_object_init_2 obj _) F.entry_enumerate_new (meets_enum0 B) ⟨h1, ?_⟩
  have key : IsEnum ((s.heap.push o).push { cls := .type "enumerate", data := .fields #[.none, .bool false, .ref s.heap.objs.size, rawInt 0, .none, .none] }) (s.heap.push o).objs.size s.heap.objs.size 0 .none := Heap.get?_push_size _ rfl
  show _ ∧ _
  rw [hz] at key ⊢
  exact ⟨⟨_, key, rfl⟩, h _ key (Heap.get?_push_of_some _ (Heap.get?_push_size _ B.free)) (by rw [Heap.size_push, hz]) fun b u x => Heap.get?_push_of_some _ (Heap.get?_push_of_some _ x)⟩
def iEnS (K : PySem.W.Frag) (ta : TA) : TI := fun σ H R => ta σ H fun vs H1 => ∃ p xs, vs = [.ref p] ∧ ((SqL K H1 p xs ∧ R (Ite K p) H1) ∨ (SqT K H1 p xs ∧ R (IteT K p) H1))
theorem pi_enumS {X : Cx} {e : Expr} {ta : TA} {p pos tpos : Pos} {elts : List Expr} {kk : Nat} (hg : Gl X "enumerate") (hm : X.mg "enumerate" = none) (ha : PA X [e] ta) (hs : starEach [e] X.env = [(false, eval e X.env)] := by rfl) :
    PI X (.Tuple elts kk tpos) (.Call (.Name "enumerate" p) [e] [] pos) (iEnS X.K ta) := by
  constructor
  intro pins s σ H R I h
  refine Call_ (ld_blt I hg hm boot_enumerate (PyProof.Rows.callWith_type1 (thn (ha.run pos pins s σ H _ I h) ?_) hs rfl))
  rintro us s1 ⟨vs, H1, I1, r1, q0, xs, rfl, hq⟩
  cases r1 with
  | cons r rr =>
    cases rr
    cases r
    have fp : ∀ b ∈ [s1.heap.objs.size + 1, s1.heap.objs.size], FpOk X pins H1 b := by
      intro b hb
      simp only [List.mem_cons, List.not_mem_nil, or_false] at hb
      have hle : s1.heap.objs.size ≤ b := by
        rcases hb with rfl | rfl
        · exact Nat.le_add_right _ _
        · exact Nat.le_refl _
      exact I1.fpOk hle (I1.hok.fresh hle)
    rcases hq with ⟨hq, q⟩ | ⟨hq, q⟩
    · obtain ⟨its, _, z, _⟩ := I1.list hq
      refine call_enumerate_list z.isList ?_
      intro h' he hit hsz hk
      exact wpAny_pyIter_enum he ⟨s1.heap.objs.size + 1, [s1.heap.objs.size + 1, s1.heap.objs.size], _, _, H1, rfl, I1.kept (t' := s1.toks) hk, turn_enum q0 (s1.heap.objs.size + 1) s1.heap.objs.size, ⟨⟨.none, he⟩, hit, Nat.succ_ne_self _⟩, fp, q⟩
    · obtain ⟨its, _, z, _⟩ := I1.tuple hq
      refine call_enum0 (begins_tuple q0 its.toArray) z ?_
      intro h' he hit hsz hk
      exact wpAny_pyIter_enum he ⟨s1.heap.objs.size + 1, [s1.heap.objs.size + 1, s1.heap.objs.size], _, _, H1, rfl, I1.kept (t' := s1.toks) hk, turn_enumT q0 (s1.heap.objs.size + 1) s1.heap.objs.size, ⟨⟨.none, he⟩, ⟨_, hit, rfl, rfl⟩, Nat.succ_ne_self _⟩, fp, q⟩
theorem walk_enumT {K : PySem.W.Frag} {p : Addr} {xs : List V} : Walk (IteT K p) xs.length (fun H => SqT K H p xs) (YPair (fun i => some (.int (i : Nat))) (fun i => xs[i]?)) where
  goes := fun i H hi h => ⟨xs, xs[i], h, List.getElem?_eq_getElem hi⟩
  stops := fun H h => ⟨xs, h, rfl⟩
  yields := by
    rintro i H v H' hi h ⟨q, x, rfl, hn, rfl, hx⟩
    exact ⟨q, _, x, rfl, hn, rfl, rfl, hx xs h⟩

/-! ### questions about values -/
/-- whether a value is an int that is no bool, as isinstance tells it -/
inductive IsI (H : Hp) : V → Bool → Prop where
  | int (i : Int) : IsI H (.int i) true
  | non : IsI H .non false
  | bl (b : Bool) : IsI H (.bl b) false
  | str (z : Str) : IsI H (.str z) false
  | tup {p : Addr} {xs : List V} (e : H p = some (.tup xs)) : IsI H (.ref p) false
  | lst {p : Addr} {xs : List V} (e : H p = some (.lst xs)) : IsI H (.ref p) false
theorem IsI.same {H H' : Hp} {x : V} {b : Bool} (h : IsI H x b) (e : Same H H') : IsI H' x b := by
  cases h with
  | int i => exact .int i
  | non => exact .non
  | bl b => exact .bl b
  | str z => exact .str z
  | tup q => exact .tup (e _ _ q)
  | lst q => exact .lst (e _ _ q)
section
variable {P : Program} {w : World} {K : PySem.W.Frag} {mg : Str → Option Value} {base : Heap} {a : Ad}
def spIsInteger : Sp := fun vs H Q _ => ∃ x b, vs = [x] ∧ IsI H x b ∧ Q (.bl b) H
theorem ok_is_integer (T : Tx w K mg a) : FnOk P w K mg base CX0 1 a.f_is_integer a.d_is_integer ["value"] spIsInteger := by
  refine T.F_is_integer.ok sc_is_integer (fun vs H Q E h => ?_) (fun cdv A outer s H vs Q E hr h => ?_)
  · obtain ⟨x, b, rfl, _⟩ := h
    rfl
  · obtain ⟨x, b, rfl, hb, q⟩ := h
    refine ⟨_, 
(pss_one (ps_ret (pe_and (pe_callB call_isi (by rfl) T.z_isinstance (by decide +kernel) (pa_cons (pv 0) (pa_cons (pe_bltn (v := .ty "int") (by rfl) T.z_int (by decide +kernel) rfl) pa_nil))) (pe_one (pe_not (pe_callB call_isi (by rfl) T.z_isinstance (by decide +kernel) (pa_cons (pv 0) (pa_cons (pe_bltn (v := .ty "bool") (by rfl) T.z_bool (by decide +kernel) rfl) pa_nil)))))))), ?_⟩
    refine ⟨x, rfl, ?_⟩
    cases hb with
    | int i => exact ⟨_, _, _, _, true, rfl, .ty "int", .base (.int i), kit_ty (by decide +kernel), true, rfl, iteT ⟨_, rfl, _, _, _, _, false, rfl, .ty "bool", .base (.int i), kit_ty (by decide +kernel), _, rfl, q⟩⟩
    | non => exact ⟨_, _, _, _, false, rfl, .ty "int", .base .non, kit_ty (by decide +kernel), false, rfl, iteF q⟩
    | str z => exact ⟨_, _, _, _, false, rfl, .ty "int", .base (.str z), kit_ty (by decide +kernel), false, rfl, iteF q⟩
    | tup e => exact ⟨_, _, _, _, false, rfl, .ty "int", .base (.tup e), kit_ty (by decide +kernel), false, rfl, iteF q⟩
    | lst e => exact ⟨_, _, _, _, false, rfl, .ty "int", .base (.lst e), kit_ty (by decide +kernel), false, rfl, iteF q⟩
    | bl b => exact ⟨_, _, _, _, true, rfl, .ty "int", .base (.bl b), kit_ty (by decide +kernel), true, rfl, iteT ⟨_, rfl, _, _, _, _, true, rfl, .ty "bool", .base (.bl b), kit_ty (by decide +kernel), _, rfl, q⟩⟩
def btM (lo hi : Int) : V → Bool
  | .int i => decide (lo ≤ i) && decide (i ≤ hi)
  | _ => false
def spIsBetween : Sp := fun vs H Q _ => ∃ x b lo hi, vs = [x, .int lo, .int hi] ∧ IsI H x b ∧ Q (.bl (btM lo hi x)) H
theorem ok_is_between (T : Tx w K mg a) : FnOk P w K mg base CX0 2 a.f_is_between a.d_is_between ["value", "low", "high"] spIsBetween := by
  refine T.F_is_between.ok sc_is_between (fun vs H Q E h => ?_) (fun cdv A outer s H vs Q E hr h => ?_)
  · obtain ⟨x, b, lo, hi, rfl, _⟩ := h
    rfl
  · obtain ⟨x, b, lo, hi, rfl, hb, q⟩ := h
    refine ⟨_, 
(pss_one (ps_ret (pe_and (pe_call (ok_is_integer T) hr (by rfl) T.m_is_integer T.F_is_integer.kp T.b_is_integer .nil pass0 (pa_cons (pv 0) pa_nil)) (pe_one (pe_chain op_le op_le (pv 1) (pv 0) (pv 2)))))), ?_⟩
    refine ⟨x, rfl, x, b, rfl, hb, b, rfl, ?_⟩
    cases hb with
    | int i =>
      refine iteT ⟨_, rfl, _, rfl, lo, i, rfl, rfl, _, rfl, ?_⟩
      by_cases h1 : lo ≤ i
      · rw [decide_eq_true h1]
        refine iteT ⟨_, rfl, i, hi, rfl, rfl, ?_⟩
        have e : btM lo hi (.int i) = decide (i ≤ hi) := by simp [btM, h1]
        rw [e] at q
        exact q
      · rw [decide_eq_false h1]
        have e : btM lo hi (.int i) = false := by simp [btM, h1]
        rw [e] at q
        exact iteF q
    | non => exact iteF q
    | str z => exact iteF q
    | tup e => exact iteF q
    | lst e => exact iteF q
    | bl b => exact iteF q
/-- the first member that is no place of n or has come before -/
def fwI (n : Nat) : List Int → Nat → List V → Option Nat
  | _, _, [] => none
  | seen, k, .int i :: r => if 0 ≤ i ∧ i < (n : Int) ∧ i ∉ seen then fwI n (i :: seen) (k + 1) r else some k
  | _, k, _ :: _ => some k
def oN : Option Nat → V
  | none => .non
  | some k => .int k
def flags (n : Nat) (seen : List Int) : List V := (List.range n).map fun j : Nat => V.bl (decide ((j : Int) ∈ seen))
theorem flags_len (n : Nat) (seen : List Int) : (flags n seen).length = n := by
  unfold flags
  rw [List.length_map, List.length_range]
theorem flags_nil (n : Nat) : List.replicate n (V.bl false) = flags n [] := by
  refine List.ext_getElem (by rw [flags_len, List.length_replicate]) fun i h1 h2 => ?_
  simp [flags]
theorem flags_get {n : Nat} {seen : List Int} {i : Int} (h0 : 0 ≤ i) (h1 : i < (n : Int)) : atI (flags n seen) i = some (.bl (decide (i ∈ seen))) := by
  have e : (i.toNat : Int) = i := by omega
  have z : atI (flags n seen) (i.toNat : Int) = some (.bl (decide (i ∈ seen))) := by
    refine atI_nat ?_
    unfold flags
    rw [List.getElem?_map, List.getElem?_range (by omega)]
    show some (V.bl (decide ((i.toNat : Int) ∈ seen))) = _
    rw [e]
  rw [e] at z
  exact z
theorem flags_set {n : Nat} {seen : List Int} {i : Int} (h0 : 0 ≤ i) : (flags n seen).set i.toNat (.bl true) = flags n (i :: seen) := by
  refine List.ext_getElem (by rw [List.length_set, flags_len, flags_len]) fun j h1 h2 => ?_
  rw [List.getElem_set]
  by_cases h : i.toNat = j
  · rw [if_pos h]
    have : (j : Int) = i := by omega
    simp [flags, this]
  · rw [if_neg h]
    have : ¬ (j : Int) = i := by omega
    simp [flags, this]
def spFirstWrong (K : PySem.W.Frag) : Sp := fun vs H Q _ => ∃ r xs, vs = [.ref r, .int (xs.length : Int)] ∧ SqA K H r xs ∧ xs.length ≤ 100000 ∧ (∀ x ∈ xs, ∃ b, IsI H x b) ∧ ∀ H', Same H H' → Q (oN (fwI xs.length [] 0 xs)) H'
theorem ok_first_wrong (T : Tx w K mg a) : FnOk P w K mg base CX0 3 a.f_first_wrong a.d_first_wrong ["row", "size"] (spFirstWrong K) := by
  refine T.F_first_wrong.ok sc_first_wrong (fun vs H Q E h => ?_) (fun cdv A outer s H vs Q E hr h => ?_)
  · obtain ⟨r, xs, rfl, _⟩ := h
    rfl
  · obtain ⟨r, xs, rfl, hx, hl, hk, q⟩ := h
    refine ⟨_, 
(pss_cons (ps_set (i := 2) sc_first_wrong.nd rfl (.inl rfl) (pe_op op_rep (pe_lst (pa_cons pe_bl pa_nil)) (pv 1)))
  (pss_cons (ps_for PassesOwn.never rfl (pi_enumS (by rfl) T.z_enumerate (pa_cons (pv 0) pa_nil)) (pg_tup rfl (pgs_cons (pg_name (i := 3) sc_first_wrong.nd rfl (.inl rfl)) (pgs_cons (pg_name (i := 4) sc_first_wrong.nd rfl (.inl rfl)) pgs_nil)))
  (pss_cons (ps_if (PW.pt (pw_or (pt_not (pt_val (pe_call (ok_is_between T) hr (by rfl) T.m_is_between T.F_is_between.kp T.b_is_between .nil pass0 (pa_cons (pv 4) (pa_cons pe_int (pa_cons (pe_op op_sub (pv 1) pe_int) pa_nil)))))) (pw_or1 (pt_val (pe_ix ix_list (pv 2) (pv 4) (fun _ _ => rfl))))))
  (pss_one (ps_ret (pv 3)))
  pss_nil)
  (pss_one (ps_asg pe_bl (pg_sub (pv 2) (pv 4) set_list)))))
  (pss_one (ps_ret pe_non)))), ?_⟩
    -- has_come = [False] * size
    refine ⟨sz (by decide), fun p0 hp0 => ⟨_, rfl, p0, _, _, rfl, rfl, upd_same, by omega, by omega, sz (by simp; omega), fun p hp => ?_⟩⟩
    have s1 : Same H (upd (upd H p0 (.lst [.bl false])) p (.lst (List.replicate (xs.length : Int).toNat [V.bl false]).flatten)) := (same_upd hp0).trans (same_upd hp)
    have e0 : (List.replicate (xs.length : Int).toNat [V.bl false]).flatten = flags xs.length [] := by
      rw [List.flatten_replicate_singleton, Int.toNat_natCast, flags_nil]
    have pn : H p = none := (same_upd hp0).free hp
    have hp1 : (upd (upd H p0 (.lst [.bl false])) p (.lst (List.replicate (xs.length : Int).toNat [V.bl false]).flatten)) p = some (.lst (flags xs.length [])) := by
      rw [e0]
      exact upd_same
    generalize upd (upd H p0 (.lst [.bl false])) p (.lst (List.replicate (xs.length : Int).toNat [V.bl false]).flatten) = H1 at s1 hp1 ⊢
    -- for index, member in enumerate(row)
    refine ⟨.ref r, rfl, r, xs, rfl, ?_⟩
    refine hx.elim (fun hS => .inl ⟨s1.seq hS, ?_⟩) (fun hS => .inr ⟨Same.seqT s1 hS, ?_⟩)
    all_goals
      refine for_it (by first | exact walk_enum (xs := xs) | exact walk_enumT (xs := xs)) (fun i σ H3 => ∃ y3 y4 seen, σ = [some (.ref r), some (.int (xs.length : Int)), some (.ref p), y3, y4] ∧ Same H H3 ∧ H3 p = some (.lst (flags xs.length seen)) ∧ fwI xs.length [] 0 xs = fwI xs.length seen i (xs.drop i)) ?h0 ?hG ?hs ?hd
      case h0 => exact ⟨none, none, [], rfl, s1, hp1, rfl⟩
      case hG =>
        rintro i σ H3 hi ⟨y3, y4, seen, rfl, s3, hp3, ef⟩
        first | exact s3.seq hS | exact Same.seqT s3 hS
      case hd =>
        rintro σ H3 ⟨y3, y4, seen, rfl, s3, hp3, ef⟩
        rw [List.drop_length] at ef
        have q2 := q H3 s3
        rw [ef] at q2
        exact q2
      case hs =>
        rintro i v σ H3 H4 hi ⟨y3, y4, seen, rfl, s3, hp3, ef⟩ ⟨t, x1, x, rfl, nt, rfl, e1, e2⟩
        cases e1
        have s4 : Same H3 (upd H3 t (.tup [.int (i : Nat), x])) := same_upd nt
        have hp4 := s4 _ _ hp3
        have ed : xs.drop i = x :: xs.drop (i + 1) := by
          rw [List.drop_eq_getElem_cons hi]
          have := List.getElem?_eq_some_iff.mp e2
          rw [this.2]
        rw [ed] at ef
        refine ⟨t, [.int (i : Nat), x], rfl, SqT.at upd_same, rfl, _, [x], rfl, x, [], rfl, rfl, ?_⟩
        obtain ⟨b, hb⟩ := hk x (List.mem_of_getElem? e2)
        refine ⟨x, rfl, _, rfl, (xs.length : Int), 1, rfl, rfl, x, b, 0, _, rfl, (hb.same s3).same s4, _, rfl, ?_⟩
        by_cases hbt : btM 0 ((xs.length : Int) - 1) x = true
        · obtain ⟨m, rfl, h0, h1⟩ : ∃ m : Int, x = .int m ∧ 0 ≤ m ∧ m < (xs.length : Int) := by
            cases x with
            | int m =>
              simp only [btM, Bool.and_eq_true, decide_eq_true_eq] at hbt
              exact ⟨m, rfl, hbt.1, by omega⟩
            | _ => exact absurd hbt (by simp [btM])
          rw [hbt]
          refine iteF ⟨_, rfl, _, rfl, p, _, m, _, rfl, rfl, SqL.at hp4, flags_get h0 h1, _, rfl, ?_⟩
          by_cases hm : m ∈ seen
          · rw [decide_eq_true hm]
            have ef2 : fwI xs.length [] 0 xs = some i := by
              rw [ef]
              simp [fwI, hm]
            have q2 := q _ (s3.trans s4)
            rw [ef2] at q2
            exact iteT ⟨_, rfl, q2⟩
          · rw [decide_eq_false hm]
            have ef2 : fwI xs.length [] 0 xs = fwI xs.length (m :: seen) (i + 1) (xs.drop (i + 1)) := by
              rw [ef]
              simp [fwI, hm, h0, h1]
            refine iteF ⟨_, rfl, _, rfl, p, _, m, m.toNat, rfl, rfl, hp4, by rw [flags_len]; exact ixN_nat h0 h1, ?_⟩
            refine ⟨_, _, m :: seen, rfl, ?_, by rw [flags_set h0]; exact upd_same, ef2⟩
            intro c o e
            rw [upd_ne (ne_of_none e pn)]
            exact s4 _ _ (s3 _ _ e)
        · rw [Bool.not_eq_true] at hbt
          rw [hbt]
          have ef2 : fwI xs.length [] 0 xs = some i := by
            rw [ef]
            cases x with
            | int m =>
              simp only [btM, Bool.and_eq_false_iff, decide_eq_false_iff_not] at hbt
              have : ¬ (0 ≤ m ∧ m < (xs.length : Int) ∧ m ∉ seen) := by omega
              simp only [fwI, if_neg this]
            | _ => rfl
          have q2 := q _ (s3.trans s4)
          rw [ef2] at q2
          exact iteT ⟨_, rfl, q2⟩
end

/-! ### place words -/
def figs : List V := [.str "1", .str "2", .str "3", .str "4", .str "5", .str "6", .str "7", .str "8", .str "9"]
def fronts4 : List V := [.str "", .str "-", .str "half-", .str "half+"]
def figM (fr : List V) (z : Str) : Bool := inV (.str (cutS z none (some (-1)))) fr && inV (.str (cutS z (some (-1)) none)) figs
def ipM (z : Str) : Bool := inV (.str z) [.str "0", .str "half"] || figM fronts4 z
/-- the 38 place words, by their numbers -/
def wt : List Str := (["0", "1", "2", "3", "4", "5", "6", "7", "8", "9", "-1", "-2", "-3", "-4", "-5", "-6", "-7", "-8", "-9", "half", "half+1", "half+2", "half+3", "half+4", "half+5", "half+6", "half+7", "half+8", "half+9", "half-1", "half-2", "half-3", "half-4", "half-5", "half-6", "half-7", "half-8", "half-9"] : List String).map Str.ofString
/-- from where a place word counts (0: the front, 1: the end, 2: the middle), and how far -/
def poM (z : Str) : Option (Nat × Int) :=
  if z = "half" then some (2, 0)
  else if Txt.startswith z "half" then (PySem.intText? (Txt.removeprefix z "half")).map fun n => (2, n)
  else if Txt.startswith z "-" then (PySem.intText? z).map fun n => (1, n)
  else (PySem.intText? z).map fun n => (0, n)
def plB (b : Nat) (k : Int) : Int := if b = 2 then k.fdiv 2 else if b = 1 then k else 0
def plV (z : Str) (k : Int) : Int := match poM z with
  | some (b, n) => plB b k + n
  | none => 0
/-- what a law reckons of a place word -/
def loM (z : Str) : Option (Nat × Int) :=
  if cutS z none (some 4) = "half" then (if z = "half" then some (2, 0) else (PySem.intText? (cutS z (some 4) none)).map fun n => (2, n))
  else if cutS z none (some 1) = "-" then (PySem.intText? z).map fun n => (1, n)
  else (PySem.intText? z).map fun n => (0, n)
def chkW (z : Str) : Bool := (poM z).isSome && decide (z.length ≤ 100) && decide ((Txt.removeprefix z "half").length ≤ 100) && ipM z && decide (loM z = poM z) && decide ((cutS z (some 4) none).length ≤ 100) && decide (32 ∉ z.cps.toList) && PyData.strOk z
theorem wt_all : wt.all chkW = true := by decide +kernel
theorem wt_chk {z : Str} (h : z ∈ wt) : (poM z).isSome = true ∧ z.length ≤ 100 ∧ (Txt.removeprefix z "half").length ≤ 100 ∧ ipM z = true ∧ loM z = poM z ∧ (cutS z (some 4) none).length ≤ 100 ∧ 32 ∉ z.cps.toList ∧ PyData.strOk z = true := by
  have e := List.all_eq_true.mp wt_all z h
  simp only [chkW, Bool.and_eq_true, decide_eq_true_eq] at e
  obtain ⟨⟨⟨⟨⟨⟨⟨h1, h2⟩, h3⟩, h4⟩, h5⟩, h6⟩, h7⟩, h8⟩ := e
  exact ⟨h1, h2, h3, h4, h5, h6, h7, h8⟩
section
variable {P : Program} {w : World} {K : PySem.W.Frag} {mg : Str → Option Value} {base : Heap} {a : Ad}
def spFig (K : PySem.W.Frag) : Sp := fun vs H Q _ => ∃ p fr z, vs = [.ref p, .str z] ∧ SqT K H p fr ∧ fr.all flatV = true ∧ z.length ≤ sizeLine ∧ Q (.bl (figM fr z)) H
theorem ok_is_figure_behind (T : Tx w K mg a) : FnOk P w K mg base CX0 1 a.f_is_figure_behind a.d_is_figure_behind ["fronts", "text"] (spFig K) := by
  refine T.F_is_figure_behind.ok sc_is_figure_behind (fun vs H Q E h => ?_) (fun cdv A outer s H vs Q E hr h => ?_)
  · obtain ⟨p, fr, z, rfl, _⟩ := h
    rfl
  · obtain ⟨p, fr, z, rfl, hp, hf, hz, q⟩ := h
    refine ⟨_, 
(pss_one (ps_ret (pe_and (pe_cmpR op_in_seq (pe_slice sl_str (pv 1) po_none (po_some (pe_un un_neg pe_int))) (pv 0) (by rfl)) (pe_one (pe_cmpR op_in_seq (pe_slice sl_str (pv 1) (po_some (pe_un un_neg pe_int)) po_none) (pe_glob (v := .ref a.a_FIGURES) (by rfl) T.m_FIGURES rfl) (by rfl)))))), ?_⟩
    refine ⟨.str z, rfl, 1, rfl, -1, rfl, z, rfl, hz, .ref p, rfl, p, fr, rfl, .inr hp, rfl, hf, _, rfl, ?_⟩
    show if (inV (.str (cutS z none (some (-1)))) fr) = true then _ else _
    unfold figM at q
    by_cases h1 : inV (.str (cutS z none (some (-1)))) fr = true
    · rw [h1] at q ⊢
      exact ⟨.str z, rfl, 1, rfl, -1, rfl, z, rfl, hz, a.a_FIGURES, figs, rfl, .inr (T.q_FIGURES H), rfl, rfl, q⟩
    · rw [Bool.not_eq_true] at h1
      rw [h1] at q ⊢
      exact q
def spIsPlaceWord : Sp := fun vs H Q _ => ∃ z : Str, vs = [.str z] ∧ z.length ≤ sizeLine ∧ ∀ H', Same H H' → Q (.bl (ipM z)) H'
theorem ok_is_place_word (T : Tx w K mg a) : FnOk P w K mg base CX0 2 a.f_is_place_word a.d_is_place_word ["text"] spIsPlaceWord := by
  refine T.F_is_place_word.ok sc_is_place_word (fun vs H Q E h => ?_) (fun cdv A outer s H vs Q E hr h => ?_)
  · obtain ⟨z, rfl, _⟩ := h
    rfl
  · obtain ⟨z, rfl, hz, q⟩ := h
    refine ⟨_, 
(pss_one (ps_ret (pe_or (pe_cmpR op_in_seq (pv 0) (pe_tup (pa_cons pe_str (pa_cons pe_str pa_nil))) (by rfl)) (pe_one (pe_call (ok_is_figure_behind T) hr (by rfl) T.m_is_figure_behind T.F_is_figure_behind.kp T.b_is_figure_behind .nil pass0 (pa_cons (pe_glob (v := .ref a.a_PLACE_FRONTS) (by rfl) T.m_PLACE_FRONTS rfl) (pa_cons (pv 0) pa_nil))))))), ?_⟩
    refine ⟨.str z, rfl, (show 2 ≤ sizeLine by decide), fun p hp => ?_⟩
    have s1 : Same H (upd H p (.tup [.str "0", .str "half"])) := same_upd hp
    refine ⟨p, [.str "0", .str "half"], rfl, .inr (SqT.at upd_same), rfl, rfl, _, rfl, ?_⟩
    show if (inV (.str z) [.str "0", .str "half"]) = true then _ else _
    unfold ipM at q
    by_cases h1 : inV (.str z) [.str "0", .str "half"] = true
    · rw [h1] at q ⊢
      exact q _ s1
    · rw [Bool.not_eq_true] at h1
      rw [h1] at q ⊢
      exact ⟨.str z, rfl, a.a_PLACE_FRONTS, fronts4, z, rfl, T.q_PLACE_FRONTS _, rfl, hz, q _ s1⟩
def spPlaceOf : Sp := fun vs H Q _ => ∃ (z : Str) (k : Int), vs = [.str z, .int k] ∧ z ∈ wt ∧ Q (.int (plV z k)) H
theorem ok_place_of (T : Tx w K mg a) : FnOk P w K mg base CX0 1 a.f_place_of a.d_place_of ["word", "size"] spPlaceOf := by
  refine T.F_place_of.ok sc_place_of (fun vs H Q E h => ?_) (fun cdv A outer s H vs Q E hr h => ?_)
  · obtain ⟨z, k, rfl, _⟩ := h
    rfl
  · obtain ⟨z, k, rfl, hw, q⟩ := h
    obtain ⟨hp, hz, hrp, _⟩ := wt_chk hw
    refine ⟨_, 
(pss_cons (ps_if (pt_cmpR op_eq (pv 0) pe_str (nomark _))
  (pss_one (ps_ret (pe_op op_fdivN (pv 1) pe_int)))
  pss_nil)
  (pss_cons (ps_if (pt_val (pe_bm PySem.F.plainAttrs_str PySem.F.slot_str_startswith PySem.F.type_str_startswith mt_startswith (pv 0) (pa_cons pe_str pa_nil)))
  (pss_one (ps_ret (pe_op op_add (pe_op op_fdivN (pv 1) pe_int) (pe_callTy call_int_str (by rfl) T.z_int (by decide +kernel) (pa_cons (pe_bm PySem.F.plainAttrs_str PySem.F.slot_str_removeprefix PySem.F.type_str_removeprefix mt_removeprefix (pv 0) (pa_cons pe_str pa_nil)) pa_nil)))))
  pss_nil)
  (pss_cons (ps_if (pt_val (pe_bm PySem.F.plainAttrs_str PySem.F.slot_str_startswith PySem.F.type_str_startswith mt_startswith (pv 0) (pa_cons pe_str pa_nil)))
  (pss_one (ps_ret (pe_op op_add (pv 1) (pe_callTy call_int_str (by rfl) T.z_int (by decide +kernel) (pa_cons (pv 0) pa_nil)))))
  pss_nil)
  (pss_one (ps_ret (pe_callTy call_int_str (by rfl) T.z_int (by decide +kernel) (pa_cons (pv 0) pa_nil))))))), ?_⟩
    unfold plV at q
    unfold poM at q hp
    refine ⟨.str z, rfl, rfl, _, rfl, ?_⟩
    by_cases h1 : z = "half"
    · rw [if_pos h1] at q
      rw [decide_eq_true (show V.str z = V.str "half" by rw [h1])]
      refine ⟨.int k, rfl, k, 2, rfl, rfl, ⟨by decide, by decide⟩, ?_⟩
      simpa [plB] using q
    · rw [if_neg h1] at q hp
      rw [decide_eq_false (show ¬ V.str z = V.str "half" from fun e => h1 (V.str.inj e))]
      refine ⟨.str z, rfl, rfl, z, "half", rfl, rfl, _, rfl, ?_⟩
      by_cases h2 : Txt.startswith z "half" = true
      · rw [if_pos h2] at q hp
        rw [h2]
        cases hn : PySem.intText? (Txt.removeprefix z "half") with
        | none =>
          rw [hn] at hp
          cases hp
        | some n =>
          rw [hn] at q
          refine ⟨.int k, rfl, k, 2, rfl, rfl, ⟨by decide, by decide⟩, .str z, rfl, rfl, z, "half", rfl, rfl, sz (by omega), _, n, rfl, hn, by omega, _, n, rfl, rfl, q⟩
      · rw [if_neg h2] at q hp
        rw [Bool.not_eq_true] at h2
        rw [h2]
        refine ⟨.str z, rfl, rfl, z, "-", rfl, rfl, _, rfl, ?_⟩
        cases hn : PySem.intText? z with
        | none =>
          rw [hn] at hp
          simp at hp
        | some n =>
          rw [hn] at q
          by_cases h3 : Txt.startswith z "-" = true
          · rw [if_pos h3] at q
            rw [h3]
            exact ⟨.int k, rfl, .str z, rfl, z, n, rfl, hn, by omega, k, n, rfl, rfl, q⟩
          · rw [if_neg h3] at q
            rw [Bool.not_eq_true] at h3
            rw [h3]
            refine ⟨.str z, rfl, z, n, rfl, hn, by omega, ?_⟩
            simpa [plB] using q
def spLawValue : Sp := fun vs H Q _ => ∃ (z : Str) (k : Int), vs = [.str z, .int k] ∧ z ∈ wt ∧ Q (.int (plV z k)) H
theorem ok__law_value (T : Tx w K mg a) : FnOk P w K mg base CX0 1 a.f__law_value a.d__law_value ["word", "k"] spLawValue := by
  refine T.F__law_value.ok sc__law_value (fun vs H Q E h => ?_) (fun cdv A outer s H vs Q E hr h => ?_)
  · obtain ⟨z, k, rfl, _⟩ := h
    rfl
  · obtain ⟨z, k, rfl, hw, q⟩ := h
    obtain ⟨hp, hz, hrp, _, hlo, hc, _⟩ := wt_chk hw
    refine ⟨_, 
(pss_cons (ps_if (pt_cmpR op_eq (pe_slice sl_str (pv 0) po_none (po_some pe_int)) pe_str (nomark _))
  (pss_one (ps_ret (pe_op op_add (pe_op op_fdivN (pv 1) pe_int) (pe_ifExp (pt_cmpR op_eq (pv 0) pe_str (nomark _)) pe_int (pe_callTy call_int_str (by rfl) T.z_int (by decide +kernel) (pa_cons (pe_slice sl_str (pv 0) (po_some pe_int) po_none) pa_nil))))))
  pss_nil)
  (pss_one (ps_ret (pe_ifExp (pt_cmpR op_ne (pe_slice sl_str (pv 0) po_none (po_some pe_int)) pe_str (nomark _)) (pe_callTy call_int_str (by rfl) T.z_int (by decide +kernel) (pa_cons (pv 0) pa_nil)) (pe_op op_add (pv 1) (pe_callTy call_int_str (by rfl) T.z_int (by decide +kernel) (pa_cons (pv 0) pa_nil))))))), ?_⟩
    unfold plV at q
    rw [← hlo] at q hp
    unfold loM at q hp
    have hz' : z.length ≤ sizeLine := sz (by omega)
    refine ⟨.str z, rfl, 4, rfl, z, rfl, hz', rfl, _, rfl, ?_⟩
    by_cases h1 : cutS z none (some 4) = "half"
    · rw [if_pos h1] at q hp
      rw [decide_eq_true (show V.str (cutS z none (some 4)) = V.str "half" by rw [h1])]
      refine ⟨.int k, rfl, k, 2, rfl, rfl, ⟨by decide, by decide⟩, .str z, rfl, rfl, _, rfl, ?_⟩
      by_cases h2 : z = "half"
      · rw [if_pos h2] at q
        rw [decide_eq_true (show V.str z = V.str "half" by rw [h2])]
        exact ⟨_, 0, rfl, rfl, by simpa [plB] using q⟩
      · rw [if_neg h2] at q hp
        rw [decide_eq_false (show ¬ V.str z = V.str "half" from fun e => h2 (V.str.inj e))]
        cases hn : PySem.intText? (cutS z (some 4) none) with
        | none =>
          rw [hn] at hp
          cases hp
        | some n =>
          rw [hn] at q
          exact ⟨.str z, rfl, 4, rfl, z, rfl, hz', _, n, rfl, hn, by omega, _, n, rfl, rfl, q⟩
    · rw [if_neg h1] at q hp
      rw [decide_eq_false (show ¬ V.str (cutS z none (some 4)) = V.str "half" from fun e => h1 (V.str.inj e))]
      cases hn : PySem.intText? z with
      | none =>
        rw [hn] at hp
        simp at hp
      | some n =>
        rw [hn] at q
        refine ⟨.str z, rfl, 1, rfl, z, rfl, hz', rfl, _, rfl, ?_⟩
        by_cases h2 : cutS z none (some 1) = "-"
        · rw [if_pos h2] at q
          rw [decide_eq_true (show V.str (cutS z none (some 1)) = V.str "-" by rw [h2])]
          exact ⟨.int k, rfl, .str z, rfl, z, n, rfl, hn, by omega, k, n, rfl, rfl, q⟩
        · rw [if_neg h2] at q
          rw [decide_eq_false (show ¬ V.str (cutS z none (some 1)) = V.str "-" from fun e => h2 (V.str.inj e))]
          refine ⟨.str z, rfl, z, n, rfl, hn, by omega, ?_⟩
          simpa [plB] using q
def spLawPlaceWord : Sp := fun vs H Q _ => ∃ (d c : Addr) (n : Nat), vs = [.ref d] ∧ Pen H d c n ∧ n < 2 ^ 40 ∧ ∀ z H', z ∈ wt → Pen H' d c (n + 1) → But d H H' → Q (.str z) H'
def lwM (k : Int) : Str := if k < 10 then toString k else if k < 19 then Str.append "-" (toString (k - 9)) else if k = 19 then "half" else if k < 29 then Str.append "half+" (toString (k - 19)) else Str.append "half-" (toString (k - 28))
theorem lw_wt : ∀ k : Fin 38, lwM ((k.val : Nat) : Int) ∈ wt := by decide +kernel
theorem num_len : ∀ i : Fin 40, (Str.ofString (toString ((i.val : Nat) : Int))).length ≤ 20 := by decide +kernel
theorem lg (i : Int) (h0 : 0 ≤ i) (h1 : i < 40) : i.natAbs.log2 < 1920 := by
  have : i.natAbs < 2 ^ 6 := by omega
  exact Nat.lt_of_lt_of_le (PySem.Flt.log2_lt_of (by decide) this) (by decide)
theorem ln (x : Str) (i : Int) (hx : x.length ≤ 20) (h0 : 0 ≤ i) (h1 : i < 40) : x.length + (Str.ofString (toString i)).length ≤ 100000 := by
  have e := num_len ⟨i.toNat, by omega⟩
  have e2 : ((i.toNat : Nat) : Int) = i := by omega
  rw [show (((⟨i.toNat, by omega⟩ : Fin 40).val : Nat) : Int) = i from e2] at e
  omega
theorem ok__law_place_word (T : Tx w K mg a) : FnOk P w K mg base CX0 2 a.f__law_place_word a.d__law_place_word ["pen"] spLawPlaceWord := by
  refine T.F__law_place_word.ok sc__law_place_word (fun vs H Q E h => ?_) (fun cdv A outer s H vs Q E hr h => ?_)
  · obtain ⟨d, c, n, rfl, _⟩ := h
    rfl
  · obtain ⟨d, c, n, rfl, hp, hn, q⟩ := h
    refine ⟨_, 
(pss_cons (ps_set (i := 1) sc__law_place_word.nd rfl (.inl rfl) (pe_call (ok__law_draw T) hr (by rfl) T.m__law_draw T.F__law_draw.kp T.b__law_draw .nil pass0 (pa_cons (pv 0) (pa_cons pe_int pa_nil))))
  (pss_cons (ps_if (pt_cmpR op_lt (pv 1) pe_int (nomark _))
  (pss_one (ps_ret (pe_callTy call_str_int (by rfl) T.z_str (by decide +kernel) (pa_cons (pv 1) pa_nil))))
  pss_nil)
  (pss_cons (ps_if (pt_cmpR op_lt (pv 1) pe_int (nomark _))
  (pss_one (ps_ret (pe_op op_add_str pe_str (pe_callTy call_str_int (by rfl) T.z_str (by decide +kernel) (pa_cons (pe_op op_sub (pv 1) pe_int) pa_nil)))))
  pss_nil)
  (pss_cons (ps_if (pt_cmpR op_eq (pv 1) pe_int (nomark _))
  (pss_one (ps_ret pe_str))
  pss_nil)
  (pss_one (ps_ret (pe_ifExp (pt_cmpR op_lt (pv 1) pe_int (nomark _)) (pe_op op_add_str pe_str (pe_callTy call_str_int (by rfl) T.z_str (by decide +kernel) (pa_cons (pe_op op_sub (pv 1) pe_int) pa_nil))) (pe_op op_add_str pe_str (pe_callTy call_str_int (by rfl) T.z_str (by decide +kernel) (pa_cons (pe_op op_sub (pv 1) pe_int) pa_nil)))))))))), ?_⟩
    refine ⟨.ref d, rfl, d, c, n, 38, rfl, hp, hn, by decide, by decide, fun k H1 k0 k1 hp1 hb => ?_⟩
    have q1 := fun z hz => q z H1 hz hp1 hb
    have hw : lwM k ∈ wt := by
      have e := lw_wt ⟨k.toNat, by omega⟩
      have e2 : ((k.toNat : Nat) : Int) = k := by omega
      rw [show (((⟨k.toNat, by omega⟩ : Fin 38).val : Nat) : Int) = k from e2] at e
      exact e
    have hq := q1 _ hw
    unfold lwM at hq
    refine ⟨.int k, rfl, k, 10, rfl, rfl, _, rfl, ite2 (fun e1 => ?_) (fun e1 => ?_)⟩
    · rw [if_pos (of_decide_eq_true e1)] at hq
      exact ⟨.int k, rfl, k, rfl, lg k k0 (by omega), hq⟩
    have e1' : ¬ k < 10 := fun z => e1 (decide_eq_true z)
    rw [if_neg e1'] at hq
    refine ⟨.int k, rfl, k, 19, rfl, rfl, _, rfl, ite2 (fun e2 => ?_) (fun e2 => ?_)⟩
    · rw [if_pos (of_decide_eq_true e2)] at hq
      have := of_decide_eq_true e2
      exact ⟨.int k, rfl, k, 9, rfl, rfl, k - 9, rfl, lg _ (by omega) (by omega), _, _, rfl, rfl, sz (ln _ _ (by decide) (by omega) (by omega)), hq⟩
    have e2' : ¬ k < 19 := fun z => e2 (decide_eq_true z)
    rw [if_neg e2'] at hq
    refine ⟨.int k, rfl, rfl, _, rfl, ite2 (fun e3 => ?_) (fun e3 => ?_)⟩
    · rw [if_pos (V.int.inj (of_decide_eq_true e3))] at hq
      exact hq
    have e3' : ¬ k = 19 := fun z => e3 (decide_eq_true (by rw [z]))
    rw [if_neg e3'] at hq
    refine ⟨.int k, rfl, k, 29, rfl, rfl, _, rfl, ite2 (fun e4 => ?_) (fun e4 => ?_)⟩
    · rw [if_pos (of_decide_eq_true e4)] at hq
      have := of_decide_eq_true e4
      exact ⟨.int k, rfl, k, 19, rfl, rfl, k - 19, rfl, lg _ (by omega) (by omega), _, _, rfl, rfl, sz (ln _ _ (by decide) (by omega) (by omega)), hq⟩
    have e4' : ¬ k < 29 := fun z => e4 (decide_eq_true z)
    rw [if_neg e4'] at hq
    exact ⟨.int k, rfl, k, 28, rfl, rfl, k - 28, rfl, lg _ (by omega) (by omega), _, _, rfl, rfl, sz (ln _ _ (by decide) (by omega) (by omega)), hq⟩
end

/-! ### enumerate(tuple, start=k) -/
theorem callWith_typeKw {M : Model} {A : Around} {E : Value → Shared → Prop} {s : Shared} {env : Env} {pos : Pos} {T : String} {e : Expr} {rest : List Expr} {kws : List Keyword} {Q : Value → Shared → Prop}
    (h : wpAny M A (spliced (backTo pos (starEach (e :: rest) env))) (fun vs s₁ => wpAny M A (evalAll ((backToKw pos (keywordEach kws env)).map (·.2))) (fun us s₂ => wpAny M A (call (.type T) vs (((backToKw pos (keywordEach kws env)).filterMap (·.1)).zip us)) Q E s₂) E s₁) E s)
    (he : backTo pos (starEach (e :: rest) env) = (false, eval e env) :: backTo pos (starEach rest env) := by rfl)
    (hpl : (backTo pos (starEach (e :: rest) env)).any (·.1) = false := by rfl) (hall : (backToKw pos (keywordEach kws env)).all (·.1.isSome) = true := by rfl) (hkw : (backToKw pos (keywordEach kws env)).any (·.1.isNone) = false := by rfl) :
    wpAny M A (callWith pos (.type T) [] (backTo pos (starEach (e :: rest) env)) (backToKw pos (keywordEach kws env))) Q E s := by
  have key : wpAny M A (evalArgs (.type T) true (backTo pos (starEach (e :: rest) env)) (backToKw pos (keywordEach kws env))) (fun x s₁ => wpAny M A (call (.type T) ([] ++ x.pos) x.kw) Q E s₁) E s := by
    rw [he] at h ⊢
    exact evalArgs_kwB hall h
  unfold callWith
  refine wpAny_bind (wpAny_holding (thn key fun x s₁ h₁ => wpAny_bind (wpAny_standAt ?_)))
  simp only [hpl, hkw, Bool.or_false]
  exact wpAny_bind (wpAny_pure (wpAny_bind (thn h₁ fun r s₂ hr => wpAny_bind (wpAny_holding (wpAny_point (wpAny_pure hr))))))
def IteF (K : PySem.W.Frag) (p : Addr) (k : Int) : It where
  go := fun i H => ∃ (xs : List V) (x : V), SqT K H p xs ∧ xs[i]? = some x
  yld := fun i H v H' => ∃ q x, v = .ref q ∧ H q = none ∧ H' = upd H q (.tup [.int (k + (i : Nat)), x]) ∧ ∀ xs, SqT K H p xs → xs[i]? = some x
  stop := fun i H => ∃ xs : List V, SqT K H p xs ∧ xs.length = i
theorem turn_enumF {P : Program} {w : World} {K : PySem.W.Frag} {elts : List Expr} {kk : Nat} {tpos : Pos} (p e it : Addr) (k : Int) :
    Turn P w K (.Tuple elts kk tpos) (IteF K p k) [e, it] e (fun i h => (∃ old, IsEnum h e it (k + ((i : Nat) : Int)) old) ∧ h.IsTupleIter it p i ∧ e ≠ it) where
  mem := List.mem_cons_self ..
  obj := by
    rintro i h ⟨⟨old, he⟩, ⟨o, ho, hc, hd⟩, _⟩ b hb
    simp only [List.mem_cons, List.not_mem_nil, or_false] at hb
    rcases hb with rfl | rfl
    · exact ⟨_, he, fun v q => nomatch q⟩
    · exact ⟨o, ho, fun v q => by rw [hd] at q; cases q⟩
  keep := by
    rintro i h h' ⟨⟨old, he⟩, hi, hne⟩ kp
    exact ⟨⟨old, kp e (by simp) _ he⟩, hi.at fun o q => kp it (by simp) o q, hne⟩
  item := by
    rintro X rfl rfl rfl hc i pins s σ H E I hf ⟨⟨old, he⟩, hit, hne⟩ ⟨xs, x, hq, hx⟩
    obtain ⟨its, rv, z, hz⟩ := I.tuple hq
    obtain ⟨u, hu, ru⟩ := rv.get hx
    have hel : e < s.heap.objs.size := Heap.lt_size he
    have hil : it < s.heap.objs.size := by
      obtain ⟨_, q, _⟩ := hit
      exact Heap.lt_size q
    have hpe : e ≠ p := fun q => by
      obtain ⟨o, ho, hc1, _⟩ := (show s.heap.IsTuple p its.toArray from z)
      rw [← q] at ho
      rw [Option.some.inj (ho.symm.trans he)] at hc1
      injection hc1 with hc1
      exact absurd hc1 (by decide)
    have hpi : p ≠ it := fun q => by
      obtain ⟨o, ho, hc1, _⟩ := (show s.heap.IsTuple p its.toArray from z)
      obtain ⟨o2, ho2, hc2, _⟩ := hit
      rw [q] at ho
      rw [Option.some.inj (ho.symm.trans ho2), hc2] at hc1
      injection hc1 with hc1
      exact absurd hc1 (by decide)
    have D := Draws.tuple (prog := X.prog) (w := X.w) (A := X.A.in1) (I.ok.hd hc) it p hpi its.toArray
    have hlt : i < its.toArray.size := by
      have := (List.getElem?_eq_some_iff.mp hu).1
      simpa using this
    refine wpAny_pyNext_enum_itemC (i := i) (c := k + (i : Int)) D he ⟨hit, z⟩ hlt hne (by simp [hne, hpe]) ?_
    intro v h' tk hv ho hst' hT hsz hk
    have ev : v = u := by
      have h1 : its[i]? = some v := by simpa using hv
      exact Option.some.inj (h1.symm.trans hu)
    subst ev
    refine ⟨_, rfl, wpAny_letOwnedTupleGo_enum (s := { s with heap := h', toks := tk + 1 }) ho ?_⟩
    intro h'' he' sb
    have hT2 : h''.get? s.heap.objs.size = some { cls := .type "tuple", data := .seq #[.int (k + (i : Int)) tk, v] } := (sb.2 _ (Nat.ne_of_gt hel)).trans hT
    have new : ObjOk X.prog X.w (upd H s.heap.objs.size (.tup [.int (k + (i : Nat)), x])) h'' s.heap.objs.size (.tup [.int (k + (i : Nat)), x]) :=
      ⟨(by decide : 2 ≤ sizeLine), [.int (k + (i : Int)) tk, v], .cons ⟨_, rfl⟩ (.cons ru .nil), _, hT2, rfl, _, rfl⟩
    have I1 : Inv X pins σ (upd H s.heap.objs.size (.tup [.int (k + (i : Nat)), x])) { s with heap := h'', toks := tk + 1 } := by
      refine I.turnedNew (ch := [e, it]) (fun b ob hb q => ?_) hf (Nat.le_refl _) new
      have n1 : b ≠ e := fun y => hb (by simp [y])
      have n2 : b ≠ it := fun y => hb (by simp [y])
      exact (sb.2 b n1).trans (hk b ob n1 n2 q)
    refine ⟨.ref s.heap.objs.size, _, I1, rfl, ⟨_, x, rfl, I.hok.fresh (Nat.le_refl _), rfl, fun ys hy => ?_⟩, ⟨⟨v, ?_⟩, hst'.1.at fun o q => (sb.2 it hne.symm).trans q, hne⟩, fun b hb => ?_⟩
    · rw [I.tuple_inj hy hq]
      exact hx
    · rw [show k + ((i + 1 : Nat) : Int) = k + (i : Int) + 1 by omega]
      exact he'
    · have hb' : b < s.heap.objs.size := by
        simp only [List.mem_cons, List.not_mem_nil, or_false] at hb
        rcases hb with rfl | rfl
        · exact hel
        · exact hil
      rw [upd_ne (Nat.ne_of_lt hb')]
      exact (hf b hb).1
  done := by
    rintro X rfl rfl rfl hc i pins s σ H E I hf ⟨⟨old, he⟩, hit, hne⟩ ⟨xs, hq, hx⟩
    obtain ⟨its, rv, z, hz⟩ := I.tuple hq
    obtain ⟨f0, f1, f2, f3, f4, f5⟩ := hf it (by simp)
    have hl := rv.length
    have hpi : p ≠ it := fun q => by
      obtain ⟨o, ho, hc1, _⟩ := (show s.heap.IsTuple p its.toArray from z)
      obtain ⟨o2, ho2, hc2, _⟩ := hit
      rw [q] at ho
      rw [Option.some.inj (ho.symm.trans ho2), hc2] at hc1
      injection hc1 with hc1
      exact absurd hc1 (by decide)
    have D := Draws.tuple (prog := X.prog) (w := X.w) (A := X.A.in1) (I.ok.hd hc) it p hpi its.toArray
    have ei : i = its.toArray.size := by
      simp only [List.size_toArray]
      omega
    subst ei
    exact wpAny_pyNext_enum_endD D he ⟨hit, z⟩ fun h' eb => ⟨rfl, I.turned (t' := s.toks) (fun b o hb e => eb b o hb e) f0 f1 f3 f4 f5⟩
  self := by
    rintro A i s Q E ⟨⟨_, he⟩, _⟩ h
    exact wpAny_pyIter_enum he h
def iEnF (K : PySem.W.Frag) (ta : TA) (tk : TE) : TI := fun σ H R => ta σ H fun vs H1 => tk σ H1 fun y H2 => ∃ p xs k, vs = [.ref p] ∧ y = .int k ∧ -(2 ^ 63) ≤ k ∧ k < 2 ^ 63 ∧ SqT K H2 p xs ∧ R (IteF K p k) H2
theorem pi_enumF {X : Cx} {e e2 : Expr} {ta : TA} {tk : TE} {p pos tpos kp : Pos} {elts : List Expr} {kk : Nat} (hg : Gl X "enumerate") (hm : X.mg "enumerate" = none) (ha : PA X [e] ta) (hk : PE X e2 tk) (hs : starEach [e] X.env = [(false, eval e X.env)] := by rfl) :
    PI X (.Tuple elts kk tpos) (.Call (.Name "enumerate" p) [e] [⟨some "start", e2, kp⟩] pos) (iEnF X.K ta tk) := by
  constructor
  intro pins s σ H R I h
  refine wpAny_Call_Name_kw (ld_blt I hg hm boot_enumerate (callWith_typeKw (thn (ha.run pos pins s σ H _ I h) ?_) (by rw [hs]; rfl) (by rw [hs]; rfl)))
  rintro us s1 ⟨vs, H1, I1, r1, q1⟩
  refine kws_cons (thn (hk.run pins s1 σ H1 _ I1 q1) ?_)
  rintro u2 s2 ⟨y, H2, I2, r2, q0, xs, k, rfl, rfl, hk0, hk1, hq, q⟩
  refine kws_nil ?_
  obtain ⟨t2, rfl⟩ := r2
  cases r1 with
  | cons r rr =>
    cases rr
    cases r
    obtain ⟨its, _, z, _⟩ := I2.tuple hq
    refine enum_begins_start (begins_tuple q0 its.toArray) z hk0 hk1 ?_
    intro h' he hit hsz hkp
    have fp : ∀ b ∈ [s2.heap.objs.size + 1, s2.heap.objs.size], FpOk X pins H2 b := by
      intro b hb
      simp only [List.mem_cons, List.not_mem_nil, or_false] at hb
      have hle : s2.heap.objs.size ≤ b := by
        rcases hb with rfl | rfl
        · exact Nat.le_add_right _ _
        · exact Nat.le_refl _
      exact I2.fpOk hle (I2.hok.fresh hle)
    have he' : IsEnum h' (s2.heap.objs.size + 1) s2.heap.objs.size (k + ((0 : Nat) : Int)) .none := by
      rw [show k + ((0 : Nat) : Int) = k by omega]
      exact he
    exact wpAny_pyIter_enum he ⟨s2.heap.objs.size + 1, [s2.heap.objs.size + 1, s2.heap.objs.size], _, _, H2, rfl, I2.kept (t' := s2.toks) hkp, turn_enumF q0 (s2.heap.objs.size + 1) s2.heap.objs.size k, ⟨⟨.none, he'⟩, ⟨_, hit, rfl, rfl⟩, Nat.succ_ne_self _⟩, fp, q⟩
theorem walk_enumF {K : PySem.W.Frag} {p : Addr} {xs : List V} {k : Int} : Walk (IteF K p k) xs.length (fun H => SqT K H p xs) (YPair (fun i => some (.int (k + (i : Nat)))) (fun i => xs[i]?)) where
  goes := fun i H hi h => ⟨xs, xs[i], h, List.getElem?_eq_getElem hi⟩
  stops := fun H h => ⟨xs, h, rfl⟩
  yields := by
    rintro i H v H' hi h ⟨q, x, rfl, hn, rfl, hx⟩
    exact ⟨q, _, x, rfl, hn, rfl, rfl, hx xs h⟩

/-! ### rearrangements as lists of ints -/
def ri (n : Nat) : List Int := (List.range n).map fun i : Nat => (i : Int)
theorem ri_len (n : Nat) : (ri n).length = n := by
  unfold ri
  rw [List.length_map, List.length_range]
theorem ri_mem {n : Nat} {x : Int} : x ∈ ri n ↔ 0 ≤ x ∧ x < (n : Int) := by
  unfold ri
  simp only [List.mem_map, List.mem_range]
  constructor
  · rintro ⟨k, hk, rfl⟩
    omega
  · rintro ⟨h0, h1⟩
    exact ⟨x.toNat, by omega, by omega⟩
theorem ri_get {n i : Nat} (h : i < n) : (ri n)[i]? = some (i : Int) := by
  unfold ri
  rw [List.getElem?_map, List.getElem?_range h]
  rfl
theorem ri_nodup (n : Nat) : (ri n).Nodup := by
  unfold ri
  refine List.Pairwise.map _ (fun i j (h : i ≠ j) => ?_) List.nodup_range
  omega
theorem rgV_ri (n : Nat) : rgV 0 (n : Int) = (ri n).map V.int := by
  unfold rgV ri
  rw [List.map_map]
  have e : ((n : Int) - 0).toNat = n := by omega
  rw [e]
  refine List.map_congr_left fun i _ => ?_
  show V.int (0 + (i : Nat)) = V.int (i : Int)
  rw [Int.zero_add]
/-- a rearrangement: the ints from 0 on, each once -/
def IsRow (xs : List Int) : Prop := xs.Perm (ri xs.length)
theorem IsRow.mem {xs : List Int} (h : IsRow xs) {x : Int} : x ∈ xs ↔ 0 ≤ x ∧ x < (xs.length : Int) := by
  rw [h.mem_iff, ri_mem]
theorem IsRow.nodup {xs : List Int} (h : IsRow xs) : xs.Nodup := h.nodup_iff.mpr (ri_nodup _)
theorem IsRow.at {xs : List Int} (h : IsRow xs) {i : Nat} (hi : i < xs.length) : 0 ≤ xs[i] ∧ xs[i].toNat < xs.length := by
  have := h.mem.mp (List.getElem_mem hi)
  omega
theorem isRow_ri (n : Nat) : IsRow (ri n) := by
  unfold IsRow
  rw [ri_len]
theorem isRow_of {xs : List Int} (n : Nat) (h : xs.Perm (ri n)) : IsRow xs := by
  unfold IsRow
  have := h.length_eq
  rw [ri_len] at this
  rw [this]
  exact h
/-- without doubles and within bounds: a rearrangement -/
theorem nodup_sub_len : ∀ {xs ys : List Int}, xs.Nodup → (∀ x ∈ xs, x ∈ ys) → xs.length ≤ ys.length
  | [], _, _, _ => Nat.zero_le _
  | x :: r, ys, hn, hs => by
    have hx := hs x (List.mem_cons_self ..)
    have hn' := List.nodup_cons.mp hn
    have h2 := nodup_sub_len (xs := r) (ys := ys.erase x) hn'.2 fun y hy => by
      have hne : y ≠ x := fun e => hn'.1 (e ▸ hy)
      exact (List.mem_erase_of_ne hne).mpr (hs y (List.mem_cons_of_mem _ hy))
    rw [List.length_erase_of_mem hx] at h2
    have : 0 < ys.length := List.length_pos_of_mem hx
    simp only [List.length_cons]
    omega
theorem perm_of_nodup : ∀ {xs ys : List Int}, xs.Nodup → ys.Nodup → (∀ x ∈ xs, x ∈ ys) → xs.length = ys.length → xs.Perm ys
  | [], ys, _, _, _, e => by
    have : ys = [] := List.eq_nil_of_length_eq_zero e.symm
    subst this
    exact List.Perm.refl _
  | x :: r, ys, hn, hy, hs, e => by
    have hx := hs x (List.mem_cons_self ..)
    have hn' := List.nodup_cons.mp hn
    have hl : r.length = (ys.erase x).length := by
      rw [List.length_erase_of_mem hx]
      simp only [List.length_cons] at e
      omega
    have p := perm_of_nodup (xs := r) (ys := ys.erase x) hn'.2 (hy.erase x) (fun y h => by
      have hne : y ≠ x := fun e => hn'.1 (e ▸ h)
      exact (List.mem_erase_of_ne hne).mpr (hs y (List.mem_cons_of_mem _ h))) hl
    exact (p.cons x).trans (List.perm_cons_erase hx).symm
theorem isRow_mk {xs : List Int} (hn : xs.Nodup) (hb : ∀ x ∈ xs, 0 ≤ x ∧ x < (xs.length : Int)) : IsRow xs :=
  perm_of_nodup hn (ri_nodup _) (fun x hx => ri_mem.mpr (hb x hx)) (ri_len _).symm
/-- all places are there -/
theorem IsRow.all {xs : List Int} (h : IsRow xs) {v : Nat} (hv : v < xs.length) : (v : Int) ∈ xs := h.mem.mpr (by omega)
/-! ### picking members -/
def pickI (ts rs : List Int) : List Int := rs.map fun r => ts.getD r.toNat 0
theorem pick_len (ts rs : List Int) : (pickI ts rs).length = rs.length := by
  unfold pickI
  rw [List.length_map]
theorem pick_get {ts rs : List Int} {i : Nat} (h : i < rs.length) : (pickI ts rs)[i]'(by rw [pick_len]; exact h) = ts.getD rs[i].toNat 0 := by
  simp [pickI]
/-- done one behind the other -/
theorem pick_pick {ts xs ys : List Int} (hx : ∀ y ∈ ys, 0 ≤ y ∧ y.toNat < xs.length) : pickI (pickI ts xs) ys = pickI ts (pickI xs ys) := by
  unfold pickI
  rw [List.map_map]
  refine List.map_congr_left fun y hy => ?_
  have h := (hx y hy).2
  show (List.map (fun r : Int => ts.getD r.toNat 0) xs).getD y.toNat 0 = ts.getD (xs.getD y.toNat 0).toNat 0
  rw [List.getD_eq_getElem?_getD, List.getElem?_map, List.getElem?_eq_getElem h, List.getD_eq_getElem?_getD (l := xs), List.getElem?_eq_getElem h]
  rfl
theorem pick_ri (xs : List Int) : pickI xs (ri xs.length) = xs := by
  refine List.ext_getElem (by rw [pick_len, ri_len]) fun i h1 h2 => ?_
  rw [pick_get (by rw [ri_len]; exact h2)]
  have e : (ri xs.length)[i]'(by rw [ri_len]; exact h2) = (i : Int) := by
    have := ri_get h2
    rw [List.getElem?_eq_getElem (by rw [ri_len]; exact h2)] at this
    exact Option.some.inj this
  rw [e, Int.toNat_natCast, getD_get h2]
theorem ri_pick {xs : List Int} {n : Nat} (h : ∀ x ∈ xs, 0 ≤ x ∧ x < (n : Int)) : pickI (ri n) xs = xs := by
  unfold pickI
  conv => rhs; rw [← List.map_id xs]
  refine List.map_congr_left fun x hx => ?_
  have := h x hx
  show (ri n).getD x.toNat 0 = x
  rw [List.getD_eq_getElem?_getD, ri_get (by omega)]
  show ((x.toNat : Nat) : Int) = x
  omega
/-- a rearrangement of a rearrangement's members -/
theorem pick_perm {ts rs : List Int} (hr : IsRow rs) (hl : rs.length = ts.length) : (pickI ts rs).Perm ts := by
  have p : (pickI ts rs).Perm (pickI ts (ri rs.length)) := List.Perm.map _ hr
  rw [hl, pick_ri] at p
  exact p
theorem isRow_pick {xs ys : List Int} (hx : IsRow xs) (hy : IsRow ys) (hl : ys.length = xs.length) : IsRow (pickI xs ys) := by
  refine isRow_of xs.length ((pick_perm hy hl).trans hx)
/-! ### taking back -/
/-- bs takes xs back -/
def InvOf (xs bs : List Int) : Prop := bs.length = xs.length ∧ ∀ (j : Nat) (h : j < xs.length), bs[xs[j].toNat]? = some (j : Int)
theorem InvOf.pick {xs bs : List Int} (h : InvOf xs bs) (hx : IsRow xs) : pickI bs xs = ri xs.length := by
  refine List.ext_getElem (by rw [pick_len, ri_len]) fun i h1 h2 => ?_
  rw [pick_len] at h1
  rw [pick_get h1, List.getD_eq_getElem?_getD, h.2 i h1]
  have := ri_get h1
  rw [List.getElem?_eq_getElem h2] at this
  exact (Option.some.inj this).symm
theorem InvOf.mem {xs bs : List Int} (h : InvOf xs bs) (hx : IsRow xs) {v : Nat} (hv : v < xs.length) : ∃ (j : Nat) (hj : j < xs.length), xs[j] = (v : Int) ∧ bs[v]? = some (j : Int) := by
  obtain ⟨j, hj, e⟩ := List.getElem_of_mem (hx.all hv)
  have := h.2 j hj
  rw [e, Int.toNat_natCast] at this
  exact ⟨j, hj, e, this⟩
theorem InvOf.pick2 {xs bs : List Int} (h : InvOf xs bs) (hx : IsRow xs) : pickI xs bs = ri xs.length := by
  refine List.ext_getElem (by rw [pick_len, ri_len, h.1]) fun i h1 h2 => ?_
  rw [pick_len, h.1] at h1
  obtain ⟨j, hj, e, eb⟩ := h.mem hx h1
  have hb : i < bs.length := by rw [h.1]; exact h1
  rw [pick_get hb]
  have e2 : bs[i] = (j : Int) := by
    rw [List.getElem?_eq_getElem hb] at eb
    exact Option.some.inj eb
  rw [e2, Int.toNat_natCast, getD_get hj, e]
  have := ri_get h1
  rw [List.getElem?_eq_getElem h2] at this
  exact (Option.some.inj this).symm
theorem InvOf.bound {xs bs : List Int} (h : InvOf xs bs) (hx : IsRow xs) : ∀ y ∈ bs, 0 ≤ y ∧ y.toNat < xs.length := by
  intro y hy
  obtain ⟨i, hi, e⟩ := List.getElem_of_mem hy
  obtain ⟨j, hj, _, eb⟩ := h.mem hx (v := i) (by rw [← h.1]; exact hi)
  rw [List.getElem?_eq_getElem hi] at eb
  have := Option.some.inj eb
  omega
theorem InvOf.row {xs bs : List Int} (h : InvOf xs bs) (hx : IsRow xs) : IsRow bs := by
  refine isRow_mk ?_ fun y hy => ?_
  · rw [List.nodup_iff_pairwise_ne, List.pairwise_iff_getElem]
    intro i j hi hj hij e
    obtain ⟨u, hu, e1, b1⟩ := h.mem hx (v := i) (by rw [← h.1]; exact hi)
    obtain ⟨v, hv, e2, b2⟩ := h.mem hx (v := j) (by rw [← h.1]; exact hj)
    rw [List.getElem?_eq_getElem hi] at b1
    rw [List.getElem?_eq_getElem hj] at b2
    have q1 := Option.some.inj b1
    have q2 := Option.some.inj b2
    have : u = v := by omega
    subst this
    rw [e1] at e2
    omega
  · have := h.bound hx y hy
    rw [h.1]
    omega
theorem InvOf.uniq {xs b1 b2 : List Int} (h1 : InvOf xs b1) (h2 : InvOf xs b2) (hx : IsRow xs) : b1 = b2 := by
  refine List.ext_getElem (by rw [h1.1, h2.1]) fun i q1 q2 => ?_
  obtain ⟨u, hu, e1, y1⟩ := h1.mem hx (v := i) (by rw [← h1.1]; exact q1)
  have y2 := h2.2 u hu
  rw [e1, Int.toNat_natCast] at y2
  rw [List.getElem?_eq_getElem q1] at y1
  rw [List.getElem?_eq_getElem q2] at y2
  exact (Option.some.inj y1).trans (Option.some.inj y2).symm
theorem fwI_none : ∀ (n : Nat) (xs : List Int) (seen : List Int) (k : Nat), xs.Nodup → (∀ x ∈ xs, 0 ≤ x ∧ x < (n : Int) ∧ x ∉ seen) → fwI n seen k (xs.map V.int) = none
  | _, [], _, _, _, _ => rfl
  | n, x :: r, seen, k, hn, hb => by
    have hn' := List.nodup_cons.mp hn
    have hx := hb x (List.mem_cons_self ..)
    simp only [List.map_cons, fwI, if_pos hx]
    refine fwI_none n r (x :: seen) (k + 1) hn'.2 fun y hy => ?_
    have := hb y (List.mem_cons_of_mem _ hy)
    refine ⟨this.1, this.2.1, ?_⟩
    intro q
    rcases List.mem_cons.mp q with e | q
    · exact hn'.1 (e ▸ hy)
    · exact this.2.2 q
theorem fwI_row {xs : List Int} (h : IsRow xs) : fwI xs.length [] 0 (xs.map V.int) = none :=
  fwI_none _ _ _ _ h.nodup fun x hx => ⟨(h.mem.mp hx).1, (h.mem.mp hx).2, List.not_mem_nil⟩

section
variable {P : Program} {w : World} {K : PySem.W.Frag} {mg : Str → Option Value} {base : Heap} {a : Ad}
theorem isI_ints {H : Hp} {ns : List Int} : ∀ x ∈ ns.map V.int, ∃ b, IsI H x b := by
  intro x hx
  obtain ⟨i, _, rfl⟩ := List.mem_map.mp hx
  exact ⟨true, .int i⟩
/-- the row at p, as a list or a tuple -/
def RowAt (K : PySem.W.Frag) (H : Hp) (p : Addr) (xs : List Int) : Prop := SqA K H p (xs.map V.int) ∧ IsRow xs ∧ xs.length ≤ 100000
theorem RowAt.same {H H' : Hp} {p : Addr} {xs : List Int} (h : RowAt K H p xs) (e : Same H H') : RowAt K H' p xs := ⟨h.1.same e, h.2⟩
theorem SqA.at_get {K : PySem.W.Frag} {H : Hp} {p : Addr} {ts : List Int} {i : Int} {Q : VK} (h : SqA K H p (ts.map V.int)) (h0 : 0 ≤ i) (h1 : i.toNat < ts.length) (q : Q (.int (ts.getD i.toNat 0)) H) : rIx K (.ref p) (.int i) H Q := by
  rw [getD_get h1] at q
  have hi := atI_ints h0 h1
  rcases h with h | h
  · exact .inl ⟨p, _, i, _, rfl, rfl, h, hi, q⟩
  · exact .inr (.inl ⟨p, _, i, _, rfl, rfl, h, hi, q⟩)
def spCheckRow (K : PySem.W.Frag) : Sp := fun vs H Q _ => ∃ p xs, vs = [.ref p] ∧ RowAt K H p xs ∧ ∀ H', Same H H' → Q .non H'
theorem ok_check_row (T : Tx w K mg a) : FnOk P w K mg base CX0 4 a.f_check_row a.d_check_row ["row"] (spCheckRow K) := by
  refine T.F_check_row.ok sc_check_row (fun vs H Q E h => ?_) (fun cdv A outer s H vs Q E hr h => ?_)
  · obtain ⟨p, xs, rfl, _⟩ := h
    rfl
  · obtain ⟨p, xs, rfl, ⟨hS, hR, hL⟩, q⟩ := h
    refine ⟨_, 
(pss_cons (ps_set (i := 1) sc_check_row.nd rfl (.inl rfl) (pe_call (ok_first_wrong T) hr (by rfl) T.m_first_wrong T.F_first_wrong.kp T.b_first_wrong .nil pass0 (pa_cons (pv 0) (pa_cons (pe_callB call_len_seq (by rfl) T.z_len PySem.boot_len (pa_cons (pv 0) pa_nil)) pa_nil))))
  (pss_one (ps_if (pt_cmpR op_notN (pv 1) pe_non (nomark _))
  (pss_one ps_never)
  pss_nil))), ?_⟩
    refine ⟨.ref p, rfl, .ref p, rfl, p, _, rfl, hS, p, xs.map V.int, rfl, hS, by rw [List.length_map]; exact hL, isI_ints, fun H' s' => ?_⟩
    rw [List.length_map, fwI_row hR]
    exact ⟨_, rfl, rfl, _, rfl, iteF (q H' s')⟩
def spNothing : Sp := fun vs H Q _ => ∃ n : Nat, vs = [.int (n : Int)] ∧ n ≤ 1000 ∧ ∀ p H', H p = none → H' p = some (.lst ((ri n).map V.int)) → Same H H' → Q (.ref p) H'
theorem ok_nothing (T : Tx w K mg a) : FnOk P w K mg base CX0 3 a.f_nothing a.d_nothing ["size"] spNothing := by
  refine T.F_nothing.ok sc_nothing (fun vs H Q E h => ?_) (fun cdv A outer s H vs Q E hr h => ?_)
  · obtain ⟨n, rfl, _⟩ := h
    rfl
  · obtain ⟨n, rfl, hn, q⟩ := h
    refine ⟨_, 
(pss_cons (ps_if (pt_not (pt_val (pe_call (ok_is_between T) hr (by rfl) T.m_is_between T.F_is_between.kp T.b_is_between .nil pass0 (pa_cons (pv 0) (pa_cons pe_int (pa_cons (pe_glob (v := .int 1000) (by rfl) T.m_MOST_PLACES.choose_spec ⟨_, rfl⟩) pa_nil))))))
  (pss_one ps_never)
  pss_nil)
  (pss_one (ps_ret (pe_listRg rfl (by rfl) T.z_list (prg_1 (by rfl) T.z_range (pv 0)))))), ?_⟩
    refine ⟨_, rfl, .int n, true, 0, 1000, rfl, .int _, _, rfl, ?_⟩
    have e : btM 0 1000 (.int (n : Int)) = true := by
      simp only [btM, Bool.and_eq_true, decide_eq_true_eq]
      omega
    rw [e]
    refine iteF ⟨_, rfl, _, rfl, RgOk.of_le (by decide) (by omega) (by decide) (by omega), fun p hp => ?_⟩
    rw [rgV_ri]
    exact q p _ hp upd_same (same_upd hp)
def spInTurn (K : PySem.W.Frag) : Sp := fun vs H Q _ => ∃ p r xs ys, vs = [.ref p, .ref r] ∧ SqA K H p (xs.map V.int) ∧ SqA K H r (ys.map V.int) ∧ (∀ y ∈ ys, 0 ≤ y ∧ y.toNat < xs.length) ∧ ys.length ≤ 100000 ∧ ∀ o H', H o = none → H' o = some (.lst ((pickI xs ys).map V.int)) → Same H H' → Q (.ref o) H'
theorem ok_in_turn (T : Tx w K mg a) : FnOk P w K mg base CX0 1 a.f_in_turn a.d_in_turn ["first", "second"] (spInTurn K) := by
  refine T.F_in_turn.ok sc_in_turn (fun vs H Q E h => ?_) (fun cdv A outer s H vs Q E hr h => ?_)
  · obtain ⟨p, r, xs, ys, rfl, _⟩ := h
    rfl
  · obtain ⟨p, r, xs, ys, rfl, hX, hY, hb, hl, q⟩ := h
    refine ⟨_, 
(pss_one (ps_ret (pe_lc (own := [("place", 2)]) (g := gName 2) rfl sc_in_turn.nd (pi_seq (pv 1)) (blkOk_by (own := [("place", 2)]) (N := ["first", "second", "place"]) (sc := defScope s_in_turn) (by decide +kernel)) (fun _ _ _ _ _ => pg_name (i := 2) sc_in_turn.nd rfl (Or.inl rfl)) (fun _ _ _ _ _ => pts_nil) (fun _ _ _ _ _ => (pe_ix (show IxR _ (rIx K) from ix_seq) (pv 0) (pv 2) (fun _ _ => rfl)))))), ?_⟩
    refine ⟨.ref r, rfl, r, ys.map V.int, rfl, ?_⟩
    refine hY.elim (fun hS => .inl ⟨hS, fun o ho => ?_⟩) (fun hS => .inr ⟨hS, fun o ho => ?_⟩)
    all_goals
      refine lc_it (by first | exact walk_list (xs := ys.map V.int) | exact walk_tup (xs := ys.map V.int)) (fun i H' => Same H H' ∧ H' o = some (.lst (((pickI xs ys).take i).map V.int))) ?h0 ?hG ?hs ?hd
      case h0 => exact ⟨same_upd ho, upd_same⟩
      case hG =>
        rintro i H' _ ⟨sm, _⟩
        first | exact sm.seq hS | exact Same.seqT sm hS
      case hd =>
        rintro H' ⟨sm, e⟩
        rw [List.length_map, List.take_of_length_le (by rw [pick_len]; exact Nat.le_refl _)] at e
        exact q o H' ho e sm
      case hs =>
        rintro i x H3 H4 hi ⟨sm, e⟩ ⟨rfl, ex⟩
        rw [List.length_map] at hi
        rw [List.getElem?_map, List.getElem?_eq_getElem hi] at ex
        cases ex
        have hb := hb _ (List.getElem_mem hi)
        refine ⟨rfl, _, rfl, _, rfl, SqA.at_get (hX.same sm) hb.1 hb.2 ?_⟩
        refine ⟨_, e, ?_, ?_, ?_⟩
        · rw [List.length_map, List.length_take]
          exact szlt (Nat.le_trans (Nat.min_le_right _ _) (by rw [pick_len]; exact hl))
        · intro b u hb'
          rw [upd_ne (ne_of_none hb' ho)]
          exact sm b u hb'
        · rw [upd_same, List.take_add_one, List.getElem?_eq_getElem (by rw [pick_len]; exact hi), pick_get hi, List.map_append]
          rfl
def spJoined (K : PySem.W.Frag) : Sp := fun vs H Q _ => ∃ p r xs ys, vs = [.ref p, .ref r] ∧ RowAt K H p xs ∧ RowAt K H r ys ∧ ys.length = xs.length ∧ ∀ o H', H o = none → H' o = some (.lst ((pickI xs ys).map V.int)) → Same H H' → Q (.ref o) H'
theorem ok_joined (T : Tx w K mg a) : FnOk P w K mg base CX0 5 a.f_joined a.d_joined ["first", "second"] (spJoined K) := by
  refine T.F_joined.ok sc_joined (fun vs H Q E h => ?_) (fun cdv A outer s H vs Q E hr h => ?_)
  · obtain ⟨p, r, xs, ys, rfl, _⟩ := h
    rfl
  · obtain ⟨p, r, xs, ys, rfl, hX, hY, hl, q⟩ := h
    refine ⟨_, 
(pss_cons (ps_expr (pe_call (ok_check_row T) hr (by rfl) T.m_check_row T.F_check_row.kp T.b_check_row .nil pass0 (pa_cons (pv 0) pa_nil)))
  (pss_cons (ps_expr (pe_call (ok_check_row T) hr (by rfl) T.m_check_row T.F_check_row.kp T.b_check_row .nil pass0 (pa_cons (pv 1) pa_nil)))
  (pss_cons (ps_if (pt_cmpR op_ne (pe_callB call_len_seq (by rfl) T.z_len PySem.boot_len (pa_cons (pv 0) pa_nil)) (pe_callB call_len_seq (by rfl) T.z_len PySem.boot_len (pa_cons (pv 1) pa_nil)) (nomark _))
  (pss_one ps_never)
  pss_nil)
  (pss_one (ps_ret (pe_call (ok_in_turn T) (hr.mono (by decide)) (by rfl) T.m_in_turn T.F_in_turn.kp T.b_in_turn .nil pass0 (pa_cons (pv 0) (pa_cons (pv 1) pa_nil)))))))), ?_⟩
    refine ⟨.ref p, rfl, p, xs, rfl, hX, fun H1 s1 => ⟨.ref r, rfl, r, ys, rfl, hY.same s1, fun H2 s2 => ?_⟩⟩
    have s12 := s1.trans s2
    have hX2 := hX.same s12
    have hY2 := hY.same s12
    refine ⟨.ref p, rfl, p, _, rfl, hX2.1, .ref r, rfl, r, _, rfl, hY2.1, rfl, _, rfl, ?_⟩
    rw [List.length_map, List.length_map, hl]
    refine iteNS rfl ?_
    refine ⟨.ref p, rfl, .ref r, rfl, p, r, xs, ys, rfl, hX2.1, hY2.1, fun y hy => ?_, hY.2.2, fun o H' no eo s3 => q o H' (s12.free no) eo (s12.trans s3)⟩
    have := hY.2.1.mem.mp hy
    omega
end

/-! ### amounts, moves -/
def am : List Str := ([ "1", "2", "3", "4", "5", "6", "7", "8", "9", "-1", "-2", "-3", "-4", "-5", "-6", "-7", "-8", "-9", "half"] : List String).map Str.ofString
def fronts2 : List V := [.str "", .str "-"]
def iaM (z : Str) : Bool := decide (z = "half") || figM fronts2 z
def amV (z : Str) (m : Int) : Int := if z = "half" then m.fdiv 2 else (PySem.intText? z).getD 0
def chkA (z : Str) : Bool := (decide (z = "half") || (PySem.intText? z).isSome) && decide (z.length ≤ 100) && iaM z && decide (32 ∉ z.cps.toList) && PyData.strOk z
theorem am_all : am.all chkA = true := by decide +kernel
theorem am_chk {z : Str} (h : z ∈ am) : (z = "half" ∨ (PySem.intText? z).isSome = true) ∧ z.length ≤ 100 ∧ iaM z = true ∧ 32 ∉ z.cps.toList ∧ PyData.strOk z = true := by
  have e := List.all_eq_true.mp am_all z h
  simp only [chkA, Bool.and_eq_true, Bool.or_eq_true, decide_eq_true_eq] at e
  obtain ⟨⟨⟨⟨h1, h2⟩, h3⟩, h4⟩, h5⟩ := e
  exact ⟨h1, h2, h3, h4, h5⟩
inductive Mv where
  | exch (x y : Str) | roll (x y c : Str) | turn
  deriving DecidableEq
def Mv.parts : Mv → List Str
  | .exch x y => ["exchange", x, y]
  | .roll x y c => ["roll", x, y, c]
  | .turn => ["turn"]
def Mv.ok : Mv → Prop
  | .exch x y => x ∈ wt ∧ y ∈ wt
  | .roll x y c => x ∈ wt ∧ y ∈ wt ∧ c ∈ am
  | .turn => True
def strsV (zs : List Str) : List V := zs.map V.str
theorem strs_flat (zs : List Str) : (strsV zs).all flatV = true := by
  unfold strsV
  rw [List.all_map]
  exact List.all_eq_true.mpr fun z _ => rfl
theorem strs_get {zs : List Str} {i : Nat} {z : Str} (h : zs[i]? = some z) : atI (strsV zs) (i : Int) = some (.str z) := by
  refine atI_nat ?_
  unfold strsV
  rw [List.getElem?_map, h]
  rfl
section
variable {P : Program} {w : World} {K : PySem.W.Frag} {mg : Str → Option Value} {base : Heap} {a : Ad}
def spIsAmount : Sp := fun vs H Q _ => ∃ z : Str, vs = [.str z] ∧ z.length ≤ sizeLine ∧ Q (.bl (iaM z)) H
theorem ok_is_amount (T : Tx w K mg a) : FnOk P w K mg base CX0 2 a.f_is_amount a.d_is_amount ["text"] spIsAmount := by
  refine T.F_is_amount.ok sc_is_amount (fun vs H Q E h => ?_) (fun cdv A outer s H vs Q E hr h => ?_)
  · obtain ⟨z, rfl, _⟩ := h
    rfl
  · obtain ⟨z, rfl, hz, q⟩ := h
    refine ⟨_, 
(pss_one (ps_ret (pe_or (pe_cmpR op_eq (pv 0) pe_str (nomark _)) (pe_one (pe_call (ok_is_figure_behind T) hr (by rfl) T.m_is_figure_behind T.F_is_figure_behind.kp T.b_is_figure_behind .nil pass0 (pa_cons (pe_glob (v := .ref a.a_AMOUNT_FRONTS) (by rfl) T.m_AMOUNT_FRONTS rfl) (pa_cons (pv 0) pa_nil))))))), ?_⟩
    refine ⟨.str z, rfl, rfl, _, rfl, ?_⟩
    unfold iaM at q
    by_cases h1 : z = "half"
    · rw [decide_eq_true h1] at q
      rw [decide_eq_true (show V.str z = V.str "half" by rw [h1])]
      exact q
    · rw [decide_eq_false h1] at q
      rw [decide_eq_false (show ¬ V.str z = V.str "half" from fun e => h1 (V.str.inj e))]
      exact ⟨.str z, rfl, a.a_AMOUNT_FRONTS, fronts2, z, rfl, T.q_AMOUNT_FRONTS _, rfl, hz, q⟩
def spAmountOf : Sp := fun vs H Q _ => ∃ (z : Str) (m : Int), vs = [.str z, .int m] ∧ z ∈ am ∧ Q (.int (amV z m)) H
theorem ok_amount_of (T : Tx w K mg a) : FnOk P w K mg base CX0 1 a.f_amount_of a.d_amount_of ["text", "length"] spAmountOf := by
  refine T.F_amount_of.ok sc_amount_of (fun vs H Q E h => ?_) (fun cdv A outer s H vs Q E hr h => ?_)
  · obtain ⟨z, m, rfl, _⟩ := h
    rfl
  · obtain ⟨z, m, rfl, hz, q⟩ := h
    obtain ⟨hi, hl, _⟩ := am_chk hz
    refine ⟨_, 
(pss_cons (ps_if (pt_cmpR op_eq (pv 0) pe_str (nomark _))
  (pss_one (ps_ret (pe_op op_fdivN (pv 1) pe_int)))
  pss_nil)
  (pss_one (ps_ret (pe_callTy call_int_str (by rfl) T.z_int (by decide +kernel) (pa_cons (pv 0) pa_nil))))), ?_⟩
    refine ⟨.str z, rfl, rfl, _, rfl, ?_⟩
    unfold amV at q
    by_cases h1 : z = "half"
    · rw [if_pos h1] at q
      rw [decide_eq_true (show V.str z = V.str "half" by rw [h1])]
      exact ⟨.int m, rfl, m, 2, rfl, rfl, ⟨by decide, by decide⟩, q⟩
    · rw [if_neg h1] at q
      rw [decide_eq_false (show ¬ V.str z = V.str "half" from fun e => h1 (V.str.inj e))]
      obtain ⟨n, hn⟩ := Option.isSome_iff_exists.mp (hi.resolve_left h1)
      rw [hn] at q
      exact ⟨.str z, rfl, z, n, rfl, hn, by omega, q⟩
def ptM (z : Str) (k : Str) : Bool := if k = "place" then ipM z else iaM z
def spIsPart : Sp := fun vs H Q _ => ∃ z k : Str, vs = [.str z, .str k] ∧ z.length ≤ sizeLine ∧ ∀ H', Same H H' → Q (.bl (ptM z k)) H'
theorem ok_is_part (T : Tx w K mg a) : FnOk P w K mg base CX0 3 a.f_is_part a.d_is_part ["text", "kind"] spIsPart := by
  refine T.F_is_part.ok sc_is_part (fun vs H Q E h => ?_) (fun cdv A outer s H vs Q E hr h => ?_)
  · obtain ⟨z, k, rfl, _⟩ := h
    rfl
  · obtain ⟨z, k, rfl, hz, q⟩ := h
    refine ⟨_, 
(pss_cons (ps_if (pt_cmpR op_eq (pv 1) pe_str (nomark _))
  (pss_one (ps_ret (pe_call (ok_is_place_word T) hr (by rfl) T.m_is_place_word T.F_is_place_word.kp T.b_is_place_word .nil pass0 (pa_cons (pv 0) pa_nil))))
  pss_nil)
  (pss_one (ps_ret (pe_call (ok_is_amount T) hr (by rfl) T.m_is_amount T.F_is_amount.kp T.b_is_amount .nil pass0 (pa_cons (pv 0) pa_nil))))), ?_⟩
    refine ⟨.str k, rfl, rfl, _, rfl, ?_⟩
    unfold ptM at q
    by_cases h1 : k = "place"
    · simp only [if_pos h1] at q
      rw [decide_eq_true (show V.str k = V.str "place" by rw [h1])]
      exact ⟨.str z, rfl, z, rfl, hz, q⟩
    · simp only [if_neg h1] at q
      rw [decide_eq_false (show ¬ V.str k = V.str "place" from fun e => h1 (V.str.inj e))]
      exact ⟨.str z, rfl, z, rfl, hz, q H (Same.refl H)⟩
/-- the kinds of the parts behind the first one -/
def Mv.kinds : Mv → List Str
  | .exch _ _ => ["place", "place"]
  | .roll _ _ _ => ["place", "place", "amount"]
  | .turn => []
def Mv.head : Mv → Str
  | .exch _ _ => "exchange"
  | .roll _ _ _ => "roll"
  | .turn => "turn"
def Mv.args : Mv → List Str
  | .exch x y => [x, y]
  | .roll x y c => [x, y, c]
  | .turn => []
theorem Mv.parts_eq (m : Mv) : m.parts = m.head :: m.args := by cases m <;> rfl
theorem Mv.len (m : Mv) : m.kinds.length = m.args.length := by cases m <;> rfl
theorem Mv.arg_ok {m : Mv} (h : m.ok) {j : Nat} {z k : Str} (hz : m.args[j]? = some z) (hk : m.kinds[j]? = some k) : ptM z k = true ∧ z.length ≤ 100 := by
  have pw : ∀ {z : Str}, z ∈ wt → ptM z "place" = true ∧ z.length ≤ 100 := fun hz => ⟨(wt_chk hz).2.2.2.1, (wt_chk hz).2.1⟩
  have aw : ∀ {z : Str}, z ∈ am → ptM z "amount" = true ∧ z.length ≤ 100 := fun hz => ⟨(am_chk hz).2.2.1, (am_chk hz).2.1⟩
  cases m with
  | turn => simp [Mv.args] at hz
  | exch x y =>
    match j, hz, hk with
    | 0, hz, hk => cases hz; cases hk; exact pw h.1
    | 1, hz, hk => cases hz; cases hk; exact pw h.2
    | j + 2, hz, hk => simp [Mv.args] at hz
  | roll x y c =>
    match j, hz, hk with
    | 0, hz, hk => cases hz; cases hk; exact pw h.1
    | 1, hz, hk => cases hz; cases hk; exact pw h.2.1
    | 2, hz, hk => cases hz; cases hk; exact aw h.2.2
    | j + 3, hz, hk => simp [Mv.args] at hz
def spReadMove : Sp := fun vs H Q _ => ∃ (p : Addr) (ps : List Str) (i : Nat) (may : Bool) (m : Mv) (rest : List Str), vs = [.ref p, .int (i : Int), .bl may] ∧ H p = some (.lst (strsV ps)) ∧ ps.drop i = m.parts ++ rest ∧ ps.length ≤ 100000 ∧ m.ok ∧ (m = .turn → may = true) ∧
  ∀ t H', H t = none → H' t = some (.tup (strsV m.parts)) → Same H H' → Q (.ref t) H'
theorem kd_of {m : Mv} (T : Tx w K mg a) : ∃ p, PySem.W.nsIn K a.a_SHAPES m.head = some (some (.ref p)) ∧ ∀ H : Hp, SqT K H p (strsV m.kinds) := by
  cases m with
  | exch x y => exact T.v_SHAPES_0
  | roll x y c => exact T.v_SHAPES_1
  | turn => exact T.v_SHAPES_2
theorem ok_read_move (T : Tx w K mg a) : FnOk P w K mg base CX0 4 a.f_read_move a.d_read_move ["parts", "start", "may_turn"] spReadMove := by
  refine T.F_read_move.ok sc_read_move (fun vs H Q E h => ?_) (fun cdv A outer s H vs Q E hr h => ?_)
  · obtain ⟨p, ps, i, may, m, rest, rfl, _⟩ := h
    rfl
  · obtain ⟨p, ps, i, may, m, rest, rfl, hp, hd, hl, hm, hmay, q⟩ := h
    obtain ⟨es, n, D⟩ := T.D_SHAPES
    obtain ⟨kp, hk1, hk2⟩ := kd_of (m := m) T
    have g : ∀ j, ps[i + j]? = (m.parts ++ rest)[j]? := fun j => by rw [← hd, List.getElem?_drop]
    have g0 : ps[i]? = some m.head := by
      have := g 0
      rw [Nat.add_zero, Mv.parts_eq] at this
      exact this
    have hil : i + (m.args.length + 1) ≤ ps.length := by
      have := congrArg List.length hd
      rw [List.length_drop, List.length_append, Mv.parts_eq, List.length_cons] at this
      omega
    have gj : ∀ j, j < m.args.length → ps[i + 1 + j]? = m.args[j]? := fun j hj => by
      have := g (1 + j)
      rw [Mv.parts_eq, Nat.add_comm 1 j, List.cons_append, List.getElem?_cons_succ, List.getElem?_append_left hj] at this
      rw [show i + 1 + j = i + (j + 1) by omega]
      exact this
    refine ⟨_, 
(pss_cons (ps_set (i := 3) sc_read_move.nd rfl (.inl rfl) (pe_ix ix_list (pv 0) (pv 1) (fun _ _ => rfl)))
  (C8.pss_cut (ps_if (PW.pt (pw_or (pt_cmpR (op_notIn_kd D) (pv 3) (pe_glob (v := .ref a.a_SHAPES) (by rfl) T.m_SHAPES rfl) (by rfl)) (pw_or1 (PW.pt (pw_and (pt_cmpR op_eq (pv 3) pe_str (nomark _)) (pw_and1 (pt_not (pt_val (pv 2)))))))))
  (pss_one ps_never)
  pss_nil)
  (pss_cons (ps_set (i := 4) sc_read_move.nd rfl (.inl rfl) (pe_ix ix_kdict (pe_glob (v := .ref a.a_SHAPES) (by rfl) T.m_SHAPES rfl) (pv 3) (fun _ _ => rfl)))
  (pss_cons (ps_for PassesOwn.never rfl (pi_enumF (by rfl) T.z_enumerate (pa_cons (pv 4) pa_nil) (pe_op op_add (pv 1) pe_int)) (pg_tup rfl (pgs_cons (pg_name (i := 5) sc_read_move.nd rfl (.inl rfl)) (pgs_cons (pg_name (i := 6) sc_read_move.nd rfl (.inl rfl)) pgs_nil)))
  (pss_one (ps_if (pt_not (pt_val (pe_call (ok_is_part T) hr (by rfl) T.m_is_part T.F_is_part.kp T.b_is_part .nil pass0 (pa_cons (pe_ix ix_list (pv 0) (pv 5) (fun _ _ => rfl)) (pa_cons (pv 6) pa_nil)))))
  (pss_one ps_never)
  pss_nil)))
  (pss_one (ps_ret (pe_callTy call_tuple_of (by rfl) T.z_tuple (by decide +kernel) (pa_cons (pe_slice sl_list (pv 0) (po_some (pv 1)) (po_some (pe_op op_add (pe_op op_add (pv 1) pe_int) (pe_callB call_len_seq (by rfl) T.z_len PySem.boot_len (pa_cons (pv 4) pa_nil))))) pa_nil)))))))), ?_⟩
    -- head = parts[start]
    refine ⟨.ref p, rfl, .int i, rfl, p, _, i, _, rfl, rfl, SqL.at hp, strs_get g0, ?_⟩
    -- head not in SHAPES or ..
    refine ⟨fun σ' H' => σ' = [some (.ref p), some (.int i), some (.bl may), some (.str m.head), none, none, none] ∧ H' = H, ?_, ?_⟩
    · refine ⟨.str m.head, rfl, m.head, some (.ref kp), rfl, rfl, hk1, _, rfl, .str m.head, rfl, rfl, _, rfl, ?_⟩
      by_cases hm' : m = .turn
      · rw [decide_eq_true (show V.str m.head = V.str "turn" by rw [hm']; rfl)]
        refine ⟨.bl may, rfl, _, rfl, ?_⟩
        rw [hmay hm']
        exact ⟨rfl, rfl⟩
      · have e : decide (V.str m.head = V.str "turn") = false := by
          cases m with
          | turn => exact absurd rfl hm'
          | exch x y => rfl
          | roll x y c => rfl
        rw [e]
        exact ⟨rfl, rfl⟩
    rintro σ' H' ⟨rfl, rfl⟩
    -- shape = SHAPES[head]
    refine ⟨.str m.head, rfl, a.a_SHAPES, m.head, .ref kp, rfl, rfl, ⟨es, n, _, D.at_, D.lit, hk1, rfl⟩, ?_⟩
    -- for index, kind in enumerate(shape, start=start + 1)
    refine ⟨.ref kp, rfl, .int i, rfl, i, 1, rfl, rfl, kp, strsV m.kinds, (i : Int) + 1, rfl, rfl, by omega, by omega, hk2 _, ?_⟩
    refine for_it (walk_enumF (xs := strsV m.kinds)) (fun j σ H3 => ∃ y5 y6, σ = [some (.ref p), some (.int i), some (.bl may), some (.str m.head), some (.ref kp), y5, y6] ∧ Same H' H3) ?h0 ?hG ?hs ?hd
    case h0 => exact ⟨none, none, rfl, Same.refl _⟩
    case hG =>
      rintro j σ H3 hj _
      exact hk2 _
    case hs =>
      rintro j v σ H3 H4 hj ⟨y5, y6, rfl, s3⟩ ⟨t, x1, x, rfl, nt, rfl, e1, e2⟩
      cases e1
      have hjk : j < m.kinds.length := by
        have : (strsV m.kinds).length = m.kinds.length := List.length_map ..
        omega
      have hja : j < m.args.length := by
        rw [← Mv.len]
        exact hjk
      have e2 : (strsV m.kinds)[j]? = some x := e2
      unfold strsV at e2
      rw [List.getElem?_map, List.getElem?_eq_getElem hjk] at e2
      cases e2
      have s4 := s3.trans (same_upd (o := .tup [.int ((i : Int) + 1 + (j : Nat)), .str m.kinds[j]]) nt)
      have hat : atI (strsV ps) ((i : Int) + 1 + (j : Nat)) = some (.str m.args[j]) := by
        have := strs_get (i := i + 1 + j) ((gj j hja).trans (List.getElem?_eq_getElem hja))
        rw [show ((i + 1 + j : Nat) : Int) = (i : Int) + 1 + (j : Nat) by omega] at this
        exact this
      obtain ⟨ok1, ok2⟩ := Mv.arg_ok hm (List.getElem?_eq_getElem hja) (List.getElem?_eq_getElem hjk)
      refine ⟨t, [.int ((i : Int) + 1 + (j : Nat)), .str m.kinds[j]], rfl, SqT.at upd_same, rfl, _, [.str m.kinds[j]], rfl, .str m.kinds[j], [], rfl, rfl, ?_⟩
      refine ⟨.ref p, rfl, _, rfl, p, _, _, _, rfl, rfl, SqL.at (s4 _ _ hp), hat, .str m.kinds[j], rfl, m.args[j], m.kinds[j], rfl, sz (by omega), fun H5 s5 => ?_⟩
      rw [ok1]
      exact ⟨_, rfl, _, _, rfl, s4.trans s5⟩
    case hd =>
      rintro σ H3 ⟨y5, y6, rfl, s3⟩
      have hkl : (strsV m.kinds).length = m.args.length := by
        unfold strsV
        rw [List.length_map, Mv.len]
      have cut : cutV (strsV ps) (some (i : Int)) (some ((i : Int) + 1 + ((strsV m.kinds).length : Int))) = strsV m.parts := by
        have hsl : (strsV ps).length = ps.length := List.length_map ..
        unfold cutV
        rw [hkl, show (i : Int) + 1 + (m.args.length : Int) = ((i + 1 + m.args.length : Nat) : Int) by omega, HT.sIx_nat, HT.sIx_nat, hsl, Nat.min_eq_left (by omega), Nat.min_eq_left (by omega)]
        unfold strsV
        rw [← List.map_drop, hd, ← List.map_take, show i + 1 + m.args.length - i = m.parts.length by rw [Mv.parts_eq, List.length_cons]; omega, List.take_left]
      refine ⟨.ref p, rfl, .int i, rfl, _, rfl, .int i, rfl, i, 1, rfl, rfl, .ref kp, rfl, kp, _, rfl, .inr (hk2 _), _, _, rfl, rfl, _, rfl, p, _, rfl, SqL.at (s3 _ _ hp), fun o no => ?_⟩
      rw [cut]
      have s4 := same_upd (o := .lst (strsV m.parts)) no
      refine ⟨o, _, rfl, .inl ⟨SqL.at upd_same, fun t nt => ?_⟩⟩
      exact q t _ (s3.free (s4.free nt)) upd_same (s3.trans (s4.trans (same_upd nt)))
/-- tuples of the parts stand at these places -/
def Held (H : Hp) : List Addr → List Mv → Prop
  | [], [] => True
  | r :: rs, m :: ms => H r = some (.tup (strsV m.parts)) ∧ Held H rs ms
  | _, _ => False
theorem Held.same {H H' : Hp} (e : Same H H') : ∀ {rs : List Addr} {ms : List Mv}, Held H rs ms → Held H' rs ms
  | [], [], _ => trivial
  | _ :: _, _ :: _, h => ⟨e _ _ h.1, Held.same e h.2⟩
theorem Held.snoc {H : Hp} {t : Addr} {m : Mv} (ht : H t = some (.tup (strsV m.parts))) : ∀ {rs : List Addr} {ms : List Mv}, Held H rs ms → Held H (rs ++ [t]) (ms ++ [m])
  | [], [], _ => ⟨ht, trivial⟩
  | _ :: _, _ :: _, h => ⟨h.1, Held.snoc ht h.2⟩
theorem Held.but {H : Hp} {l : Addr} {xs : List V} {o : HO} (hl : H l = some (.lst xs)) : ∀ {rs : List Addr} {ms : List Mv}, Held H rs ms → Held (upd H l o) rs ms
  | [], [], _ => trivial
  | _ :: _, _ :: _, h => ⟨by rw [upd_ne (ne_of h.1 hl (by intro z; cases z))]; exact h.1, Held.but hl h.2⟩
theorem Held.off {H : Hp} {p C dx : Addr} {fs : List (Str × V)} {o : HO} (hp : H p = some (.ins C dx fs)) : ∀ {rs : List Addr} {ms : List Mv}, Held H rs ms → Held (upd H p o) rs ms
  | [], [], _ => trivial
  | _ :: _, _ :: _, h => ⟨by rw [upd_ne (ne_of h.1 hp (by intro z; cases z))]; exact h.1, Held.off hp h.2⟩
theorem Held.butd {d : Addr} {H H' : Hp} {kvs : List (Key × V)} (x : But d H H') (hd : H d = some (.dK kvs)) : ∀ {rs : List Addr} {ms : List Mv}, Held H rs ms → Held H' rs ms
  | [], [], _ => trivial
  | _ :: _, _ :: _, h => ⟨x.tup hd h.1, Held.butd x hd h.2⟩
theorem Held.len {H : Hp} : ∀ {rs : List Addr} {ms : List Mv}, Held H rs ms → rs.length = ms.length
  | [], [], _ => rfl
  | _ :: rs, _ :: ms, h => by
    rw [List.length_cons, List.length_cons, Held.len h.2]
def mvD (m : Mv) : PyData := .tuple (m.parts.map PyData.str)
theorem dp_strs {K : PySem.W.Frag} {H : Hp} : ∀ zs : List Str, DpAll K H (strsV zs) (zs.map PyData.str)
  | [] => .nil
  | _ :: r => .cons (.str _) (dp_strs r)
theorem dp_mvs {K : PySem.W.Frag} {H : Hp} : ∀ {rs : List Addr} {ms : List Mv}, Held H rs ms → DpAll K H (rs.map V.ref) (ms.map mvD)
  | [], [], _ => .nil
  | _ :: _, _ :: _, h => .cons (.tup (SqT.at h.1) (dp_strs _)) (dp_mvs h.2)
theorem op_inDT {X : Cx} (hu : X.A.units + 65 < cLine) : OpR X (compareOp .In) (fun x y H Q => ∃ d ds, Dp X.K H x d ∧ Dp X.K H y (.tuple ds) ∧ SeqAt.shaped d = true ∧ SeqAt.shaped (.tuple ds) = true ∧ Q (.bl (ds.any fun z => PyData.eqv z d)) H) := by
  rintro pins s σ H x y v u Q I rx ry ⟨d, ds, hd, he, sd, se, q⟩
  obtain ⟨as, r1⟩ := Dp.reads I d x v hd rx
  obtain ⟨bs, r2⟩ := Dp.reads I (.tuple ds) y u he ry
  exact SeqAt.in_tuple_reads r2 r1 (SeqAt.canLay_of_shaped se) (SeqAt.canLay_of_shaped sd) (room_in_shaped sd hu) ⟨.bl _, H, I, rfl, q⟩
theorem room65 {k : Nat} {A : Around} (hr : Room k A) : A.units + 65 < cLine := by
  have := hr.un
  omega
theorem Mv.str_ok {m : Mv} (h : m.ok) : ∀ z ∈ m.parts, PyData.strOk z = true ∧ z.length ≤ 100 ∧ 32 ∉ z.cps.toList := by
  have pw : ∀ {z : Str}, z ∈ wt → PyData.strOk z = true ∧ z.length ≤ 100 ∧ 32 ∉ z.cps.toList := fun hz => ⟨(wt_chk hz).2.2.2.2.2.2.2, (wt_chk hz).2.1, (wt_chk hz).2.2.2.2.2.2.1⟩
  have aw : ∀ {z : Str}, z ∈ am → PyData.strOk z = true ∧ z.length ≤ 100 ∧ 32 ∉ z.cps.toList := fun hz => ⟨(am_chk hz).2.2.2.2, (am_chk hz).2.1, (am_chk hz).2.2.2.1⟩
  have lit : ∀ z ∈ (["exchange", "roll", "turn"] : List Str), PyData.strOk z = true ∧ z.length ≤ 100 ∧ 32 ∉ z.cps.toList := by decide +kernel
  intro z hz
  cases m with
  | turn =>
    rw [List.mem_singleton.mp hz]
    exact lit _ (by decide +kernel)
  | exch x y =>
    simp only [Mv.parts, List.mem_cons, List.not_mem_nil, or_false] at hz
    rcases hz with rfl | rfl | rfl
    · exact lit _ (by decide +kernel)
    · exact pw h.1
    · exact pw h.2
  | roll x y c =>
    simp only [Mv.parts, List.mem_cons, List.not_mem_nil, or_false] at hz
    rcases hz with rfl | rfl | rfl | rfl
    · exact lit _ (by decide +kernel)
    · exact pw h.1
    · exact pw h.2.1
    · exact aw h.2.2
theorem lay_strs : ∀ {zs : List Str}, (∀ z ∈ zs, PyData.strOk z = true) → PyData.canLayAll0 (zs.map PyData.str) = true
  | [], _ => by simp [PyData.canLayAll0]
  | z :: r, h => by
    simp only [List.map_cons, PyData.canLayAll0, PyData.canLay0, Bool.and_eq_true]
    exact ⟨h z (List.mem_cons_self ..), lay_strs fun y hy => h y (List.mem_cons_of_mem _ hy)⟩
theorem deep_strs : ∀ zs : List Str, PyData.depthAll (zs.map PyData.str) ≤ 1
  | [] => by simp [PyData.depthAll]
  | _ :: r => by
    have := deep_strs r
    simp only [List.map_cons, PyData.depthAll, PyData.depth]
    omega
theorem shaped_strs {zs : List Str} (h : ∀ z ∈ zs, PyData.strOk z = true) : SeqAt.shaped (.tuple (zs.map PyData.str)) = true := by
  unfold SeqAt.shaped
  rw [Bool.and_eq_true, decide_eq_true_eq]
  refine ⟨by rw [PyData.canLay0]; exact lay_strs h, ?_⟩
  have := deep_strs zs
  rw [PyData.depth]
  omega
theorem shaped_mvs {ms : List Mv} (h : ∀ m ∈ ms, m.ok) : SeqAt.shaped (.tuple (ms.map mvD)) = true ∧ SeqAt.shaped (.list (ms.map mvD)) = true := by
  have hl : PyData.canLayAll0 (ms.map mvD) = true := by
    induction ms with
    | nil => simp [PyData.canLayAll0]
    | cons m r ih =>
      simp only [List.map_cons, PyData.canLayAll0, Bool.and_eq_true]
      exact ⟨by unfold mvD; rw [PyData.canLay0]; exact lay_strs fun z hz => (Mv.str_ok (h m (List.mem_cons_self ..)) z hz).1, ih fun y hy => h y (List.mem_cons_of_mem _ hy)⟩
  have hd : PyData.depthAll (ms.map mvD) ≤ 2 := by
    clear h hl
    induction ms with
    | nil => simp [PyData.depthAll]
    | cons m r ih =>
      have := deep_strs m.parts
      simp only [List.map_cons, PyData.depthAll, mvD, PyData.depth]
      omega
  unfold SeqAt.shaped
  simp only [Bool.and_eq_true, decide_eq_true_eq]
  refine ⟨⟨by rw [PyData.canLay0]; exact hl, ?_⟩, by rw [PyData.canLay0]; exact hl, ?_⟩
  · rw [PyData.depth]
    omega
  · rw [PyData.depth]
    omega
theorem eqv_all_strs : ∀ xs ys : List Str, PyData.eqvAll (xs.map PyData.str) (ys.map PyData.str) = decide (xs = ys)
  | [], [] => by simp [PyData.eqvAll]
  | [], _ :: _ => by simp [PyData.eqvAll]
  | _ :: _, [] => by simp [PyData.eqvAll]
  | x :: r, y :: u => by
    simp only [List.map_cons, PyData.eqvAll, PyData.eqv, eqv_all_strs r u, List.cons.injEq]
    by_cases h1 : x = y <;> by_cases h2 : r = u <;> simp [h1, h2]
theorem Mv.inj {m n : Mv} : m.parts = n.parts ↔ m = n := by
  constructor
  · intro h
    cases m <;> cases n <;> simp [Mv.parts] at h ⊢ <;> first | exact h | exact absurd h.1 (by decide +kernel) | skip
  · intro h
    rw [h]
theorem eqv_mv (m n : Mv) : PyData.eqv (mvD m) (mvD n) = decide (m = n) := by
  unfold mvD
  rw [PyData.eqv, eqv_all_strs]
  by_cases h : m = n
  · simp [h]
  · have : ¬ m.parts = n.parts := fun e => h (Mv.inj.mp e)
    simp [h, this]
theorem any_mv (ms : List Mv) (n : Mv) : (ms.map mvD).any (fun z => PyData.eqv z (mvD n)) = decide (n ∈ ms) := by
  induction ms with
  | nil => simp
  | cons m r ih =>
    rw [List.map_cons, List.any_cons, ih, eqv_mv]
    by_cases h : m = n
    · simp [h]
    · have : ¬ n = m := fun e => h e.symm
      simp [h, this]
abbrev sThen : Str := "then"
abbrev sNo : Str := ""
/-- the parts of a word -/
def wp : List Mv → List Str
  | [] => []
  | [m] => m.parts
  | m :: n :: r => m.parts ++ sThen :: wp (n :: r)
def oneTurn (ms : List Mv) : Prop := ∀ pre m post, ms = pre ++ m :: post → m = .turn → Mv.turn ∉ pre
theorem wp_len : ∀ ms : List Mv, (wp ms).length ≤ 5 * ms.length
  | [] => by simp [wp]
  | [m] => by cases m <;> simp [wp, Mv.parts]
  | m :: n :: r => by
    have := wp_len (n :: r)
    simp only [wp, List.length_append, List.length_cons] at this ⊢
    have hm : m.parts.length ≤ 4 := by cases m <;> simp [Mv.parts]
    omega
def spReadMoves : Sp := fun vs H Q _ => ∃ (p : Addr) (ms : List Mv), vs = [.ref p, .int 0] ∧ H p = some (.lst (strsV (wp ms ++ [sNo]))) ∧ ms ≠ [] ∧ ms.length ≤ 4 ∧ (∀ m ∈ ms, m.ok) ∧ oneTurn ms ∧
  ∀ o t rs H', H o = none → H t = none → H' o = some (.tup [.ref t, .int ((wp ms).length : Int)]) → H' t = some (.tup (rs.map V.ref)) → Held H' rs ms → Same H H' → Q (.ref o) H'
theorem ok_read_moves (T : Tx w K mg a) : FnOk P w K mg base CX0 5 a.f_read_moves a.d_read_moves ["parts", "start"] spReadMoves := by
  refine T.F_read_moves.ok sc_read_moves (fun vs H Q E h => ?_) (fun cdv A outer s H vs Q E hr h => ?_)
  · obtain ⟨p, ms, rfl, _⟩ := h
    rfl
  · obtain ⟨p, ms, rfl, hp, hne, h4, hok, hone, q⟩ := h
    refine ⟨_, 
(pss_cons (ps_set (i := 2) sc_read_moves.nd rfl (.inl rfl) (pe_lst pa_nil))
  (pss_cons (ps_set (i := 3) sc_read_moves.nd rfl (.inl rfl) (pv 1))
  (pss_one (ps_while PassesOwn.never (pt_val pe_bl)
  (pss_cons (ps_set (i := 4) sc_read_moves.nd rfl (.inl rfl) (pe_call (ok_read_move T) hr (by rfl) T.m_read_move T.F_read_move.kp T.b_read_move .nil pass0 (pa_cons (pv 0) (pa_cons (pv 3) (pa_cons (pe_cmpR (op_notInD (room65 hr)) (pe_tup (pa_cons pe_str pa_nil)) (pv 2) (by rfl)) pa_nil)))))
  (pss_cons (ps_expr (pe_bm PySem.F.plainAttrs_list PySem.F.slot_list_append PySem.F.type_list_append mt_append (pv 2) (pa_cons (pv 4) pa_nil)))
  (pss_cons (ps_set (i := 3) sc_read_moves.nd rfl (.inl rfl) (pe_op op_add (pv 3) (pe_callB call_len_seq (by rfl) T.z_len PySem.boot_len (pa_cons (pv 4) pa_nil))))
  (pss_cons (ps_if (PW.pt (pw_or (pt_cmpR op_eq (pe_callB call_len_seq (by rfl) T.z_len PySem.boot_len (pa_cons (pv 2) pa_nil)) (pe_glob (v := .int 4) (by rfl) T.m_MOST_MOVES.choose_spec ⟨_, rfl⟩) (nomark _)) (pw_or1 (pt_cmpR op_ne (pe_ix ix_list (pv 0) (pv 3) (fun _ _ => rfl)) pe_str (nomark _)))))
  (pss_one (ps_ret (pe_tup (pa_cons (pe_callTy call_tuple_of (by rfl) T.z_tuple (by decide +kernel) (pa_cons (pv 2) pa_nil)) (pa_cons (pv 3) pa_nil)))))
  pss_nil)
  (pss_one (ps_set (i := 3) sc_read_moves.nd rfl (.inl rfl) (pe_op op_add (pv 3) pe_int))))))))))), ?_⟩
    refine ⟨Nat.zero_le _, fun l nl => ?_⟩
    refine ⟨.int 0, rfl, ?_⟩
    have s1 : Same H (upd H l (.lst [])) := same_upd nl
    have nlp : p ≠ l := ne_of_none hp nl
    refine ⟨fun k σ H3 => ∃ (done todo : List Mv) (rs : List Addr) (pre : List Str) (y4 : Option V), ms = done ++ todo ∧ todo.length = k ∧ todo ≠ [] ∧ wp ms ++ [sNo] = pre ++ (wp todo ++ [sNo]) ∧ σ = [some (.ref p), some (.int 0), some (.ref l), some (.int (pre.length : Int)), y4] ∧ H3 l = some (.lst (rs.map V.ref)) ∧ Held H3 rs done ∧ Same H H3,
      ⟨ms.length, [], ms, [], [], none, rfl, rfl, hne, rfl, rfl, upd_same, trivial, s1⟩, ?_⟩
    rintro k σ H3 ⟨done, todo, rs, pre, y4, e1, rfl, hne2, e2, rfl, hl3, held, s3⟩
    obtain ⟨m, todo', rfl⟩ : ∃ m r, todo = m :: r := by
      cases todo with
      | nil => exact absurd rfl hne2
      | cons m r => exact ⟨m, r, rfl⟩
    have hp3 := s3 _ _ hp
    have hpl : (wp ms ++ [sNo]).length ≤ 100 := by
      have := wp_len ms
      rw [List.length_append]
      simp
      omega
    obtain ⟨rest, er⟩ : ∃ rest, wp (m :: todo') ++ [sNo] = m.parts ++ rest := by
      cases todo' with
      | nil => exact ⟨[sNo], rfl⟩
      | cons n r => exact ⟨sThen :: wp (n :: r) ++ [sNo], by simp [wp]⟩
    have hdrop : (wp ms ++ [sNo]).drop pre.length = m.parts ++ rest := by
      rw [e2, List.drop_left, er]
    have hmok : m.ok := hok m (by rw [e1]; simp)
    have hdok : ∀ x ∈ done, x.ok := fun x hx => hok x (by rw [e1]; simp [hx])
    refine ⟨true, rfl, fun σ' H' => ∃ k', k' < (m :: todo').length ∧ ∃ (done todo : List Mv) (rs : List Addr) (pre : List Str) (y4 : Option V), ms = done ++ todo ∧ todo.length = k' ∧ todo ≠ [] ∧ wp ms ++ [sNo] = pre ++ (wp todo ++ [sNo]) ∧ σ' = [some (.ref p), some (.int 0), some (.ref l), some (.int (pre.length : Int)), y4] ∧ H' l = some (.lst (rs.map V.ref)) ∧ Held H' rs done ∧ Same H H', fun σ' H' h => h, ?_⟩
    -- move = read_move(parts, end, ('turn',) not in moves)
    refine ⟨.ref p, rfl, _, rfl, sz (show 1 ≤ 100000 by decide), fun t0 nt0 => ?_⟩
    have s4 := same_upd (o := .tup [V.str "turn"]) nt0
    refine ⟨.ref l, rfl, mvD .turn, done.map mvD, .tup (SqT.at upd_same) (dp_strs ["turn"]), .lst (SqL.at (s4 _ _ hl3)) (dp_mvs (held.same s4)), shaped_strs (by decide +kernel), (shaped_mvs hdok).2, ?_⟩
    rw [any_mv]
    have s5 := s3.trans s4
    refine ⟨p, wp ms ++ [sNo], pre.length, !decide (Mv.turn ∈ done), m, rest, rfl, s5 _ _ hp, hdrop, by omega, hmok, fun hmt => ?_, fun t H4 nt ht s6 => ?_⟩
    · have := hone done m todo' e1 hmt
      simp [this]
    have s7 := s5.trans s6
    have hl4 := s6 _ _ (s4 _ _ hl3)
    have hp4 := s7 _ _ hp
    have held4 := held.same (s4.trans s6)
    -- moves.append(move)
    refine ⟨.ref l, rfl, .inl ⟨rfl, _, SqL.at hl4⟩, .ref t, rfl, l, rs.map V.ref, .ref t, rfl, rfl, hl4, ?_, ?_⟩
    · rw [List.length_map, held.len]
      have := congrArg List.length e1
      simp at this
      exact szlt (by omega)
    have s8 := keep_upd (o := .lst (rs.map V.ref ++ [.ref t])) s7 nl
    have ntl : t ≠ l := ne_of ht hl4 (by intro z; cases z)
    have hl5 : (upd H4 l (.lst (rs.map V.ref ++ [.ref t]))) l = some (.lst ((rs ++ [t]).map V.ref)) := by
      rw [upd_same, List.map_append]
      rfl
    have ht5 : (upd H4 l (.lst (rs.map V.ref ++ [.ref t]))) t = some (.tup (strsV m.parts)) := by
      rw [upd_ne ntl]
      exact ht
    have held5 : Held (upd H4 l (.lst (rs.map V.ref ++ [.ref t]))) (rs ++ [t]) (done ++ [m]) := Held.snoc ht5 (Held.but hl4 held4)
    have hp5 := s8 _ _ hp
    generalize upd H4 l (.lst (rs.map V.ref ++ [.ref t])) = H5 at s8 hl5 ht5 held5 hp5
    -- end = end + len(move)
    refine ⟨_, rfl, .ref t, rfl, t, _, rfl, .inr (SqT.at ht5), _, _, rfl, rfl, ?_⟩
    have ep : (pre.length : Int) + ((strsV m.parts).length : Int) = ((pre ++ m.parts).length : Int) := by
      unfold strsV
      rw [List.length_map, List.length_append]
      omega
    -- if len(moves) == MOST_MOVES or parts[end] != 'then'
    refine ⟨.ref l, rfl, l, _, rfl, .inl (SqL.at hl5), rfl, _, rfl, ?_⟩
    have ehl : ((rs ++ [t]).map V.ref).length = done.length + 1 := by
      rw [List.length_map, List.length_append, held.len]
      rfl
    rw [ehl]
    cases todo' with
    | nil =>
      have e3 : pre ++ m.parts = wp ms := by
        have := e2
        simp only [wp] at this
        rw [← List.append_assoc] at this
        exact (List.append_cancel_right this).symm
      have edone : done ++ [m] = ms := e1.symm
      rw [edone] at held5
      have hat : atI (strsV (wp ms ++ [sNo])) ((pre.length : Int) + ((strsV m.parts).length : Int)) = some (.str sNo) := by
        rw [ep, e3]
        exact strs_get (by rw [List.getElem?_append_right (Nat.le_refl _), Nat.sub_self]; rfl)
      by_cases h : done.length + 1 = 4
      · rw [decide_eq_true (show V.int ((done.length + 1 : Nat) : Int) = V.int 4 by rw [h]; rfl)]
        refine ⟨.ref l, rfl, l, _, rfl, .inl ⟨SqL.at hl5, fun o1 no1 => ⟨_, rfl, sz (show 2 ≤ 100000 by decide), fun o2 no2 => ?_⟩⟩⟩
        have u1 := same_upd (o := .tup ((rs ++ [t]).map V.ref)) no1
        have u2 := same_upd (o := .tup [V.ref o1, .int ((pre.length : Int) + ((strsV m.parts).length : Int))]) no2
        have u12 := s8.trans (u1.trans u2)
        exact q o2 o1 (rs ++ [t]) _ (s8.free (u1.free no2)) (s8.free no1) (by rw [upd_same, ← e3, ← ep]) (u2 _ _ upd_same) (held5.same (u1.trans u2)) u12
      · rw [decide_eq_false (show ¬ V.int ((done.length + 1 : Nat) : Int) = V.int 4 from fun e => h (by have := V.int.inj e; omega))]
        refine ⟨.ref p, rfl, _, rfl, p, _, _, _, rfl, rfl, SqL.at hp5, hat, rfl, _, rfl, ?_⟩
        rw [show decide (V.str sNo = V.str "then") = false from by decide +kernel]
        refine ⟨.ref l, rfl, l, _, rfl, .inl ⟨SqL.at hl5, fun o1 no1 => ⟨_, rfl, sz (show 2 ≤ 100000 by decide), fun o2 no2 => ?_⟩⟩⟩
        have u1 := same_upd (o := .tup ((rs ++ [t]).map V.ref)) no1
        have u2 := same_upd (o := .tup [V.ref o1, .int ((pre.length : Int) + ((strsV m.parts).length : Int))]) no2
        have u12 := s8.trans (u1.trans u2)
        exact q o2 o1 (rs ++ [t]) _ (s8.free (u1.free no2)) (s8.free no1) (by rw [upd_same, ← e3, ← ep]) (u2 _ _ upd_same) (held5.same (u1.trans u2)) u12
    | cons n r =>
      have e3 : wp ms ++ [sNo] = (pre ++ m.parts ++ [sThen]) ++ (wp (n :: r) ++ [sNo]) := by
        rw [e2, show wp (m :: n :: r) = m.parts ++ sThen :: wp (n :: r) from rfl]
        simp only [List.append_assoc, List.cons_append, List.nil_append]
      have hat : atI (strsV (wp ms ++ [sNo])) ((pre.length : Int) + ((strsV m.parts).length : Int)) = some (.str sThen) := by
        rw [ep, e3]
        refine strs_get ?_
        rw [List.append_assoc (pre ++ m.parts), List.getElem?_append_right (Nat.le_refl _), Nat.sub_self]
        rfl
      have h : ¬ done.length + 1 = 4 := by
        have := congrArg List.length e1
        simp at this
        omega
      rw [decide_eq_false (show ¬ V.int ((done.length + 1 : Nat) : Int) = V.int 4 from fun e => h (by have := V.int.inj e; omega))]
      refine ⟨.ref p, rfl, _, rfl, p, _, _, _, rfl, rfl, SqL.at hp5, hat, rfl, _, rfl, ?_⟩
      rw [show decide (V.str sThen = V.str "then") = true from by decide +kernel]
      refine ⟨_, rfl, _, _, rfl, rfl, ?_⟩
      refine ⟨(n :: r).length, Nat.lt_succ_self _, done ++ [m], n :: r, rs ++ [t], pre ++ m.parts ++ [sThen], some (.ref t), by rw [e1]; simp, rfl, by simp, e3, ?_, hl5, held5, s8⟩
      rw [show ((pre ++ m.parts ++ [sThen]).length : Int) = (pre.length : Int) + ((strsV m.parts).length : Int) + 1 by
        rw [ep, List.length_append (bs := [sThen]), List.length_singleton]
        omega]
      rfl
/-! ### what a move makes of a row -/
def exF (xs : List Int) (x y : Nat) : List Int := (xs.set x (xs.getD y 0)).set y (xs.getD x 0)
def roF (xs : List Int) (x y : Nat) (c : Int) : List Int :=
  let b := (xs.drop x).take (y + 1 - x)
  let k := (b.length - Int.fmod c b.length).toNat
  xs.take x ++ b.drop k ++ b.take k ++ xs.drop (y + 1)
def inB (v : Int) (n : Nat) : Bool := decide (0 ≤ v) && decide (v < (n : Int))
def mvF (m : Mv) (xs : List Int) : List Int := match m with
  | .turn => xs.reverse
  | .exch x y => if inB (plV x xs.length) xs.length && inB (plV y xs.length) xs.length then exF xs (plV x xs.length).toNat (plV y xs.length).toNat else xs
  | .roll x y c => if inB (plV x xs.length) xs.length && inB (plV y xs.length) xs.length && decide (plV x xs.length ≤ plV y xs.length) then roF xs (plV x xs.length).toNat (plV y xs.length).toNat (amV c ((plV y xs.length).toNat + 1 - (plV x xs.length).toNat : Nat)) else xs
theorem ex_len (xs : List Int) (x y : Nat) : (exF xs x y).length = xs.length := by
  unfold exF
  rw [List.length_set, List.length_set]
theorem ro_len (xs : List Int) (x y : Nat) (c : Int) (hxy : x ≤ y) (hy : y < xs.length) : (roF xs x y c).length = xs.length := by
  unfold roF
  simp only [List.length_append, List.length_take, List.length_drop]
  omega
theorem mv_len (m : Mv) (xs : List Int) : (mvF m xs).length = xs.length := by
  cases m with
  | turn => exact List.length_reverse
  | exch x y =>
    simp only [mvF]
    split
    · exact ex_len _ _ _
    · rfl
  | roll x y c =>
    simp only [mvF]
    split
    · rename_i h
      simp only [inB, Bool.and_eq_true, decide_eq_true_eq] at h
      exact ro_len _ _ _ _ (by omega) (by omega)
    · rfl
def spExchanged (K : PySem.W.Frag) : Sp := fun vs H Q _ => ∃ (p : Addr) (xs : List Int) (x y : Nat), vs = [.ref p, .int (x : Int), .int (y : Int)] ∧ SqL K H p (xs.map V.int) ∧ xs.length ≤ 100000 ∧ x < xs.length ∧ y < xs.length ∧
  ∀ o H', H o = none → H' o = some (.lst ((exF xs x y).map V.int)) → Same H H' → Q (.ref o) H'
theorem ok_exchanged (T : Tx w K mg a) : FnOk P w K mg base CX0 1 a.f_exchanged a.d_exchanged ["old", "x", "y"] (spExchanged K) := by
  refine T.F_exchanged.ok sc_exchanged (fun vs H Q E h => ?_) (fun cdv A outer s H vs Q E hr h => ?_)
  · obtain ⟨p, xs, x, y, rfl, _⟩ := h
    rfl
  · obtain ⟨p, xs, x, y, rfl, hp, hl, hx, hy, q⟩ := h
    have at_ : ∀ {i : Nat}, i < xs.length → atI (xs.map V.int) (i : Int) = some (.int (xs.getD i 0)) := fun {i} hi => by
      refine atI_nat ?_
      rw [List.getElem?_map, List.getElem?_eq_getElem hi, getD_get hi]
      rfl
    refine ⟨_, 
(pss_cons (ps_set (i := 3) sc_exchanged.nd rfl (.inl rfl) (pe_callTy call_list_of (by rfl) T.z_list (by decide +kernel) (pa_cons (pv 0) pa_nil)))
  (pss_cons (ps_asg (pe_ix ix_list (pv 0) (pv 2) (fun _ _ => rfl)) (pg_sub (pv 3) (pv 1) set_list))
  (pss_cons (ps_asg (pe_ix ix_list (pv 0) (pv 1) (fun _ _ => rfl)) (pg_sub (pv 3) (pv 2) set_list))
  (pss_one (ps_ret (pv 3)))))), ?_⟩
    refine ⟨.ref p, rfl, p, _, rfl, .inl hp, fun o no => ?_⟩
    have s1 := same_upd (o := .lst (xs.map V.int)) no
    refine ⟨.ref p, rfl, _, rfl, p, _, _, _, rfl, rfl, s1.seq hp, at_ hy, .ref o, rfl, _, rfl, o, _, _, x, rfl, rfl, upd_same, by rw [List.length_map]; exact ixN_nat (by omega) (by omega), ?_⟩
    have s2 := keep_upd (o := .lst ((xs.map V.int).set x (.int (xs.getD y 0)))) s1 no
    refine ⟨.ref p, rfl, _, rfl, p, _, _, _, rfl, rfl, s2.seq hp, at_ hx, .ref o, rfl, _, rfl, o, _, _, y, rfl, rfl, upd_same, by rw [List.length_set, List.length_map]; exact ixN_nat (by omega) (by omega), ?_⟩
    refine ⟨_, rfl, q o _ no ?_ (keep_upd s2 no)⟩
    rw [upd_same]
    unfold exF
    rw [List.map_set, List.map_set]
/-- slices of lists of ints -/
theorem cut_to (xs : List Int) (n : Nat) : cutV (xs.map V.int) none (some (n : Int)) = (xs.take n).map V.int := by
  unfold cutV
  rw [HT.sIx_none, HT.sIx_nat, List.drop_zero, Nat.sub_zero, List.map_take, List.take_eq_take_iff, List.length_map]
  omega
theorem cut_from (xs : List Int) (n : Nat) (h : n ≤ xs.length) : cutV (xs.map V.int) (some (n : Int)) none = (xs.drop n).map V.int := by
  unfold cutV
  rw [HT.sIx_nat, HT.sIx_none, List.length_map, Nat.min_eq_left h, ← List.map_drop, List.take_of_length_le (by rw [List.length_map, List.length_drop]; exact Nat.le_refl _)]
theorem cut_mid (xs : List Int) (n m : Nat) (h : n ≤ xs.length) (hm : m ≤ xs.length) : cutV (xs.map V.int) (some (n : Int)) (some (m : Int)) = ((xs.drop n).take (m - n)).map V.int := by
  unfold cutV
  rw [HT.sIx_nat, HT.sIx_nat, List.length_map, Nat.min_eq_left h, Nat.min_eq_left hm, ← List.map_drop, ← List.map_take]
theorem blk_len (xs : List Int) (x y : Nat) (hxy : x ≤ y) (hy : y < xs.length) : ((xs.drop x).take (y + 1 - x)).length = y + 1 - x := by
  rw [List.length_take, List.length_drop]
  omega
def spRolled (K : PySem.W.Frag) : Sp := fun vs H Q _ => ∃ (p : Addr) (xs : List Int) (x y : Nat) (c : Str), vs = [.ref p, .int (x : Int), .int (y : Int), .str c] ∧ SqL K H p (xs.map V.int) ∧ xs.length ≤ 100000 ∧ x < xs.length ∧ y < xs.length ∧ c ∈ am ∧
  ∀ o H', H o = none → H' o = some (.lst ((if x ≤ y then roF xs x y (amV c (y + 1 - x : Nat)) else xs).map V.int)) → Same H H' → Q (.ref o) H'
theorem ok_rolled (T : Tx w K mg a) : FnOk P w K mg base CX0 2 a.f_rolled a.d_rolled ["old", "x", "y", "amount"] (spRolled K) := by
  refine T.F_rolled.ok sc_rolled (fun vs H Q E h => ?_) (fun cdv A outer s H vs Q E hr h => ?_)
  · obtain ⟨p, xs, x, y, c, rfl, _⟩ := h
    rfl
  · obtain ⟨p, xs, x, y, c, rfl, hp, hl, hx, hy, hc, q⟩ := h
    refine ⟨_, 
(pss_cons (ps_if (pt_cmpR op_gt (pv 1) (pv 2) (nomark _))
  (pss_one (ps_ret (pe_callTy call_list_of (by rfl) T.z_list (by decide +kernel) (pa_cons (pv 0) pa_nil))))
  pss_nil)
  (pss_cons (ps_set (i := 4) sc_rolled.nd rfl (.inl rfl) (pe_slice sl_list (pv 0) (po_some (pv 1)) (po_some (pe_op op_add (pv 2) pe_int))))
  (pss_cons (ps_set (i := 5) sc_rolled.nd rfl (.inl rfl) (pe_op op_sub (pe_callB call_len_seq (by rfl) T.z_len PySem.boot_len (pa_cons (pv 4) pa_nil)) (pe_op op_modN (pe_call (ok_amount_of T) hr (by rfl) T.m_amount_of T.F_amount_of.kp T.b_amount_of .nil pass0 (pa_cons (pv 3) (pa_cons (pe_callB call_len_seq (by rfl) T.z_len PySem.boot_len (pa_cons (pv 4) pa_nil)) pa_nil))) (pe_callB call_len_seq (by rfl) T.z_len PySem.boot_len (pa_cons (pv 4) pa_nil)))))
  (pss_one (ps_ret (pe_op op_cat (pe_op op_cat (pe_op op_cat (pe_slice sl_list (pv 0) po_none (po_some (pv 1))) (pe_slice sl_list (pv 4) (po_some (pv 5)) po_none)) (pe_slice sl_list (pv 4) po_none (po_some (pv 5)))) (pe_slice sl_list (pv 0) (po_some (pe_op op_add (pv 2) pe_int)) po_none))))))), ?_⟩
    refine ⟨_, rfl, _, rfl, x, y, rfl, rfl, _, rfl, ite2 (fun e => ?_) (fun e => ?_)⟩
    · have hxy : ¬ x ≤ y := by
        have := of_decide_eq_true e
        omega
      refine ⟨.ref p, rfl, p, _, rfl, .inl hp, fun o no => q o _ no ?_ (same_upd no)⟩
      rw [upd_same, if_neg hxy]
    have hxy : x ≤ y := by
      have : ¬ (y : Int) < x := fun z => e (decide_eq_true z)
      omega
    rw [if_pos hxy] at q
    have bl := blk_len xs x y hxy hy
    have em := cut_mid xs x (y + 1) (by omega) (by omega)
    have et := cut_to xs x
    have ef := cut_from xs (y + 1) (by omega)
    -- block = old[x:y + 1]
    refine ⟨.ref p, rfl, _, rfl, _, rfl, _, rfl, y, 1, rfl, rfl, _, rfl, p, _, rfl, hp, fun b nb => ?_⟩
    rw [show (y : Int) + 1 = ((y + 1 : Nat) : Int) by omega, em]
    generalize eb : (xs.drop x).take (y + 1 - x) = B at bl em
    have s1 := same_upd (o := .lst (B.map V.int)) nb
    have hb : (upd H b (.lst (B.map V.int))) b = some (.lst (B.map V.int)) := upd_same
    generalize upd H b (.lst (B.map V.int)) = H1 at s1 hb ⊢
    have bp : 0 < B.length := by omega
    -- cut = len(block) - amount_of(amount, len(block)) % len(block)
    refine ⟨.ref b, rfl, b, _, rfl, .inl (SqL.at hb), .str c, rfl, .ref b, rfl, b, _, rfl, .inl (SqL.at hb), c, _, rfl, hc, .ref b, rfl, b, _, rfl, .inl (SqL.at hb), _, _, rfl, rfl, ?_, _, _, rfl, rfl, ?_⟩
    · rw [List.length_map]
      show ((B.length : Nat) : Int) ≠ 0
      omega
    rw [List.length_map]
    have f0 := Int.fmod_nonneg_of_pos (amV c (B.length : Int)) (b := (B.length : Int)) (by omega)
    have f1 := Int.fmod_lt_of_pos (amV c (B.length : Int)) (b := (B.length : Int)) (by omega)
    obtain ⟨k, ek, hk⟩ : ∃ k : Nat, (B.length : Int) - Int.fmod (amV c (B.length : Int)) (B.length : Int) = (k : Int) ∧ k ≤ B.length := ⟨((B.length : Int) - Int.fmod (amV c (B.length : Int)) (B.length : Int)).toNat, by omega, by omega⟩
    have e2 := cut_from B k hk
    have e3 := cut_to B k
    -- old[:x] + block[cut:] + block[:cut] + old[y + 1:]
    refine ⟨.ref p, rfl, _, rfl, _, rfl, p, _, rfl, s1.seq hp, fun o1 no1 => ?_⟩
    rw [et]
    have u1 := same_upd (o := .lst ((xs.take x).map V.int)) no1
    have b1 := u1 _ _ hb
    have h1 : (upd H1 o1 (.lst ((xs.take x).map V.int))) o1 = _ := upd_same
    generalize upd H1 o1 (.lst ((xs.take x).map V.int)) = H2 at u1 b1 h1 ⊢
    refine ⟨.ref b, rfl, _, rfl, _, rfl, b, _, rfl, SqL.at b1, fun o2 no2 => ?_⟩
    rw [ek, e2]
    have u2 := same_upd (o := .lst ((B.drop k).map V.int)) no2
    have b2 := u2 _ _ b1
    have h12 := u2 _ _ h1
    have h2 : (upd H2 o2 (.lst ((B.drop k).map V.int))) o2 = _ := upd_same
    generalize upd H2 o2 (.lst ((B.drop k).map V.int)) = H3 at u2 b2 h12 h2 ⊢
    refine ⟨o1, o2, _, _, rfl, rfl, h12, h2, sz (by simp; omega), fun o3 no3 => ?_⟩
    rw [← List.map_append]
    have u3 := same_upd (o := .lst ((xs.take x ++ B.drop k).map V.int)) no3
    have b3 := u3 _ _ b2
    have h3 : (upd H3 o3 (.lst ((xs.take x ++ B.drop k).map V.int))) o3 = _ := upd_same
    generalize upd H3 o3 (.lst ((xs.take x ++ B.drop k).map V.int)) = H4 at u3 b3 h3 ⊢
    refine ⟨.ref b, rfl, _, rfl, _, rfl, b, _, rfl, SqL.at b3, fun o4 no4 => ?_⟩
    rw [ek, e3]
    have u4 := same_upd (o := .lst ((B.take k).map V.int)) no4
    have h34 := u4 _ _ h3
    have h4 : (upd H4 o4 (.lst ((B.take k).map V.int))) o4 = _ := upd_same
    generalize upd H4 o4 (.lst ((B.take k).map V.int)) = H5 at u4 h34 h4 ⊢
    refine ⟨o3, o4, _, _, rfl, rfl, h34, h4, sz (by simp; omega), fun o5 no5 => ?_⟩
    rw [← List.map_append]
    have u5 := same_upd (o := .lst ((xs.take x ++ B.drop k ++ B.take k).map V.int)) no5
    have h5 : (upd H5 o5 (.lst ((xs.take x ++ B.drop k ++ B.take k).map V.int))) o5 = _ := upd_same
    generalize upd H5 o5 (.lst ((xs.take x ++ B.drop k ++ B.take k).map V.int)) = H6 at u5 h5 ⊢
    have u06 := s1.trans (u1.trans (u2.trans (u3.trans (u4.trans u5))))
    refine ⟨.ref p, rfl, _, rfl, y, 1, rfl, rfl, _, rfl, p, _, rfl, u06.seq hp, fun o6 no6 => ?_⟩
    rw [show (y : Int) + 1 = ((y + 1 : Nat) : Int) by omega, ef]
    have u6 := same_upd (o := .lst ((xs.drop (y + 1)).map V.int)) no6
    have h56 := u6 _ _ h5
    have h6 : (upd H6 o6 (.lst ((xs.drop (y + 1)).map V.int))) o6 = _ := upd_same
    generalize upd H6 o6 (.lst ((xs.drop (y + 1)).map V.int)) = H7 at u6 h56 h6 ⊢
    refine ⟨o5, o6, _, _, rfl, rfl, h56, h6, sz (by simp; omega), fun o7 no7 => ?_⟩
    rw [← List.map_append]
    have u07 := u06.trans (u6.trans (same_upd (o := .lst ((xs.take x ++ B.drop k ++ B.take k ++ xs.drop (y + 1)).map V.int)) no7))
    refine q o7 _ (u06.free (u6.free no7)) ?_ u07
    rw [upd_same]
    unfold roF
    simp only [eb]
    rw [← bl, ek, Int.toNat_natCast]
end

section
variable {P : Program} {w : World} {K : PySem.W.Frag} {mg : Str → Option Value} {base : Heap} {a : Ad}
theorem btM_in {v : Int} {n : Nat} : btM 0 ((n : Int) - 1) (.int v) = inB v n := by
  simp only [btM, inB]
  congr 1
  exact decide_eq_decide.mpr (by omega)
theorem in_nat {v : Int} {n : Nat} (h : inB v n = true) : ∃ x : Nat, v = (x : Int) ∧ x < n := by
  simp only [inB, Bool.and_eq_true, decide_eq_true_eq] at h
  exact ⟨v.toNat, by omega, by omega⟩
def spMoved (K : PySem.W.Frag) : Sp := fun vs H Q _ => ∃ (p t : Addr) (xs : List Int) (m : Mv), vs = [.ref p, .ref t] ∧ SqL K H p (xs.map V.int) ∧ SqT K H t (strsV m.parts) ∧ m.ok ∧ xs.length ≤ 100000 ∧
  ∀ o H', H o = none → H' o = some (.lst ((mvF m xs).map V.int)) → Same H H' → Q (.ref o) H'
theorem head_at {m : Mv} : atI (strsV m.parts) 0 = some (.str m.head) := strs_get (i := 0) (by rw [Mv.parts_eq]; rfl)
theorem ok_moved (T : Tx w K mg a) : FnOk P w K mg base CX0 3 a.f_moved a.d_moved ["old", "move"] (spMoved K) := by
  refine T.F_moved.ok sc_moved (fun vs H Q E h => ?_) (fun cdv A outer s H vs Q E hr h => ?_)
  · obtain ⟨p, t, xs, m, rfl, _⟩ := h
    rfl
  · obtain ⟨p, t, xs, m, rfl, hp, ht, hm, hl, q⟩ := h
    refine ⟨_, 
(pss_cons (ps_if (pt_cmpR op_eq (pe_ix ix_tup (pv 1) pe_int (fun _ _ => rfl)) pe_str (nomark _))
  (pss_one (ps_ret (pe_revL (pv 0))))
  pss_nil)
  (pss_cons (ps_set (i := 2) sc_moved.nd rfl (.inl rfl) (pe_call (ok_place_of T) (hr.mono (by decide)) (by rfl) T.m_place_of T.F_place_of.kp T.b_place_of .nil pass0 (pa_cons (pe_ix ix_tup (pv 1) pe_int (fun _ _ => rfl)) (pa_cons (pe_callB call_len_seq (by rfl) T.z_len PySem.boot_len (pa_cons (pv 0) pa_nil)) pa_nil))))
  (pss_cons (ps_set (i := 3) sc_moved.nd rfl (.inl rfl) (pe_call (ok_place_of T) (hr.mono (by decide)) (by rfl) T.m_place_of T.F_place_of.kp T.b_place_of .nil pass0 (pa_cons (pe_ix ix_tup (pv 1) pe_int (fun _ _ => rfl)) (pa_cons (pe_callB call_len_seq (by rfl) T.z_len PySem.boot_len (pa_cons (pv 0) pa_nil)) pa_nil))))
  (pss_cons (ps_if (PW.pt (pw_or (pt_not (pt_val (pe_call (ok_is_between T) hr (by rfl) T.m_is_between T.F_is_between.kp T.b_is_between .nil pass0 (pa_cons (pv 2) (pa_cons pe_int (pa_cons (pe_op op_sub (pe_callB call_len_seq (by rfl) T.z_len PySem.boot_len (pa_cons (pv 0) pa_nil)) pe_int) pa_nil)))))) (pw_or1 (pt_not (pt_val (pe_call (ok_is_between T) hr (by rfl) T.m_is_between T.F_is_between.kp T.b_is_between .nil pass0 (pa_cons (pv 3) (pa_cons pe_int (pa_cons (pe_op op_sub (pe_callB call_len_seq (by rfl) T.z_len PySem.boot_len (pa_cons (pv 0) pa_nil)) pe_int) pa_nil)))))))))
  (pss_one (ps_ret (pe_callTy call_list_of (by rfl) T.z_list (by decide +kernel) (pa_cons (pv 0) pa_nil))))
  pss_nil)
  (pss_cons (ps_if (pt_cmpR op_eq (pe_ix ix_tup (pv 1) pe_int (fun _ _ => rfl)) pe_str (nomark _))
  (pss_one (ps_ret (pe_call (ok_exchanged T) (hr.mono (by decide)) (by rfl) T.m_exchanged T.F_exchanged.kp T.b_exchanged .nil pass0 (pa_cons (pv 0) (pa_cons (pv 2) (pa_cons (pv 3) pa_nil))))))
  pss_nil)
  (pss_one (ps_ret (pe_call (ok_rolled T) hr (by rfl) T.m_rolled T.F_rolled.kp T.b_rolled .nil pass0 (pa_cons (pv 0) (pa_cons (pv 2) (pa_cons (pv 3) (pa_cons (pe_ix ix_tup (pv 1) pe_int (fun _ _ => rfl)) pa_nil)))))))))))), ?_⟩
    refine ⟨.ref t, rfl, t, _, 0, _, rfl, rfl, ht, head_at, rfl, _, rfl, ?_⟩
    by_cases htu : m = .turn
    · subst htu
      rw [show decide (V.str (Mv.head .turn) = V.str "turn") = true from by decide +kernel]
      refine ⟨.ref p, rfl, p, _, rfl, hp, fun o no => q o _ no ?_ (same_upd no)⟩
      rw [upd_same, ← List.map_reverse]
      rfl
    have hh : decide (V.str m.head = V.str "turn") = false := by
      cases m with
      | turn => exact absurd rfl htu
      | exch x y => exact (by decide +kernel : decide (V.str "exchange" = V.str "turn") = false)
      | roll x y c => exact (by decide +kernel : decide (V.str "roll" = V.str "turn") = false)
    rw [hh]
    obtain ⟨X, Y, hX, hY, wX, wY, hmv⟩ : ∃ X Y, m.parts[1]? = some X ∧ m.parts[2]? = some Y ∧ X ∈ wt ∧ Y ∈ wt ∧ (∀ xs, (inB (plV X (xs.length : Int)) xs.length && inB (plV Y (xs.length : Int)) xs.length) = false → mvF m xs = xs) := by
      cases m with
      | turn => exact absurd rfl htu
      | exch x y =>
        refine ⟨x, y, rfl, rfl, hm.1, hm.2, fun xs h => ?_⟩
        simp only [mvF, h]
        rfl
      | roll x y c =>
        refine ⟨x, y, rfl, rfl, hm.1, hm.2.1, fun xs h => ?_⟩
        simp only [mvF, h, Bool.false_and]
        rfl
    have el : (xs.map V.int).length = xs.length := List.length_map ..
    -- x = place_of(move[1], len(old)); y = ..
    refine ⟨.ref t, rfl, t, _, 1, _, rfl, rfl, ht, strs_get (i := 1) hX, .ref p, rfl, p, _, rfl, .inl hp, X, _, rfl, wX, ?_⟩
    refine ⟨.ref t, rfl, t, _, 2, _, rfl, rfl, ht, strs_get (i := 2) hY, .ref p, rfl, p, _, rfl, .inl hp, Y, _, rfl, wY, ?_⟩
    rw [el]
    -- if not is_between(x, 0, len(old) - 1) or not is_between(y, 0, len(old) - 1)
    refine ⟨_, rfl, .ref p, rfl, p, _, rfl, .inl hp, _, 1, rfl, rfl, .int (plV X (xs.length : Int)), true, 0, _, rfl, .int _, _, rfl, ?_⟩
    rw [el, btM_in]
    cases hx : inB (plV X (xs.length : Int)) xs.length with
    | false =>
      have hq := hmv xs (by rw [hx]; rfl)
      refine ⟨.ref p, rfl, p, _, rfl, .inl hp, fun o no => q o _ no ?_ (same_upd no)⟩
      rw [upd_same, hq]
    | true =>
      refine ⟨_, rfl, .ref p, rfl, p, _, rfl, .inl hp, _, 1, rfl, rfl, .int (plV Y (xs.length : Int)), true, 0, _, rfl, .int _, _, rfl, ?_⟩
      rw [el, btM_in]
      cases hy : inB (plV Y (xs.length : Int)) xs.length with
      | false =>
        have hq := hmv xs (by rw [hx, hy]; rfl)
        refine ⟨.ref p, rfl, p, _, rfl, .inl hp, fun o no => q o _ no ?_ (same_upd no)⟩
        rw [upd_same, hq]
      | true =>
        obtain ⟨x, ex, hxl⟩ := in_nat hx
        obtain ⟨y, ey, hyl⟩ := in_nat hy
        refine ⟨.ref t, rfl, t, _, 0, _, rfl, rfl, ht, head_at, rfl, _, rfl, ?_⟩
        cases m with
        | turn => exact absurd rfl htu
        | exch X' Y' =>
          cases hX
          cases hY
          rw [show decide (V.str (Mv.head (.exch X Y)) = V.str "exchange") = true from by rfl]
          refine ⟨.ref p, rfl, _, rfl, _, rfl, p, xs, x, y, by rw [ex, ey]; rfl, hp, hl, hxl, hyl, fun o H' no eo so => q o H' no ?_ so⟩
          rw [eo]
          have h2 : (inB (plV X (xs.length : Int)) xs.length && inB (plV Y (xs.length : Int)) xs.length) = true := by
            rw [hx, hy]
            rfl
          simp only [mvF]
          rw [if_pos h2, ex, ey]
          rfl
        | roll X' Y' c =>
          cases hX
          cases hY
          rw [show decide (V.str (Mv.head (.roll X Y c)) = V.str "exchange") = false from by rfl]
          refine ⟨.ref p, rfl, _, rfl, _, rfl, .ref t, rfl, t, _, 3, _, rfl, rfl, ht, strs_get (i := 3) rfl, p, xs, x, y, c, by rw [ex, ey]; rfl, hp, hl, hxl, hyl, hm.2.2, fun o H' no eo so => q o H' no ?_ so⟩
          rw [eo]
          simp only [mvF]
          by_cases hxy : x ≤ y
          · have h2 : (inB (plV X (xs.length : Int)) xs.length && inB (plV Y (xs.length : Int)) xs.length && decide (plV X (xs.length : Int) ≤ plV Y (xs.length : Int))) = true := by
              rw [hx, hy, ex, ey, decide_eq_true (show (x : Int) ≤ y by omega)]
              rfl
            rw [if_pos h2, if_pos hxy, ex, ey]
            rfl
          · have h2 : ¬ (inB (plV X (xs.length : Int)) xs.length && inB (plV Y (xs.length : Int)) xs.length && decide (plV X (xs.length : Int) ≤ plV Y (xs.length : Int))) = true := by
              rw [hx, hy, ex, ey, decide_eq_false (show ¬ (x : Int) ≤ y by omega)]
              decide
            rw [if_neg h2, if_neg hxy]
/-! ### words -/
def wtext (ms : List Mv) : Str := Txt.join " " (wp ms)
structure WordOk (ms : List Mv) : Prop where
  ne : ms ≠ []
  l4 : ms.length ≤ 4
  ok : ∀ m ∈ ms, m.ok
  one : oneTurn ms
theorem wp_ok : ∀ {ms : List Mv}, (∀ m ∈ ms, m.ok) → ∀ z ∈ wp ms, PyData.strOk z = true ∧ z.length ≤ 100 ∧ 32 ∉ z.cps.toList
  | [], _, z, hz => by cases hz
  | [m], h, z, hz => Mv.str_ok (h m (List.mem_cons_self ..)) z hz
  | m :: n :: r, h, z, hz => by
    rcases List.mem_append.mp hz with hz | hz
    · exact Mv.str_ok (h m (List.mem_cons_self ..)) z hz
    · rcases List.mem_cons.mp hz with rfl | hz
      · exact ⟨by decide +kernel, by decide +kernel, by decide +kernel⟩
      · exact wp_ok (fun x hx => h x (List.mem_cons_of_mem _ hx)) z hz
theorem wp_ne {ms : List Mv} (h : ms ≠ []) : wp ms ≠ [] := by
  cases ms with
  | nil => exact absurd rfl h
  | cons m r =>
    cases r with
    | nil => cases m <;> simp [wp, Mv.parts]
    | cons n r => simp [wp]
theorem split_wtext {ms : List Mv} (h : WordOk ms) : Txt.split (wtext ms) " " = wp ms := by
  refine TL.split_join (s := 32) (S := []) (by decide +kernel) (by decide +kernel) (wp_ne h.ne) fun z hz => ?_
  exact (wp_ok h.ok z hz).2.2
def flW (ms : List Mv) (t : Addr) : List (Str × V) := putF "has_turn" (.bl (decide (Mv.turn ∈ ms))) (putF "moves" (.ref t) (putF "text" (.str (wtext ms)) []))
/-- a Word stands at p -/
def WordAt (C : Addr) (H : Hp) (p : Addr) (ms : List Mv) : Prop := ∃ dx t rs, H p = some (.ins C dx (flW ms t)) ∧ H t = some (.tup (rs.map V.ref)) ∧ Held H rs ms
theorem WordAt.same {C : Addr} {H H' : Hp} {p : Addr} {ms : List Mv} (h : WordAt C H p ms) (e : Same H H') : WordAt C H' p ms := by
  obtain ⟨dx, t, rs, h1, h2, h3⟩ := h
  exact ⟨dx, t, rs, e _ _ h1, e _ _ h2, h3.same e⟩
theorem kw1 : ¬ (("text" : Str) = "moves") := by decide +kernel
theorem kw2 : ¬ (("text" : Str) = "has_turn") := by decide +kernel
theorem kw3 : ¬ (("moves" : Str) = "has_turn") := by decide +kernel
theorem fl2 (v : V) (t : Addr) : putF "moves" (.ref t) (putF "text" v []) = [(("text" : Str), v), (("moves" : Str), V.ref t)] := by
  show (if ("text" : Str) = "moves" then _ else (("text" : Str), v) :: putF "moves" (.ref t) []) = _
  rw [if_neg kw1]
  rfl
theorem flW_text (ms : List Mv) (t : Addr) : (flW ms t).lookup ("text" : Str) = some (.str (wtext ms)) := by
  unfold flW
  rw [lookup_putF, if_neg kw2, lookup_putF, if_neg kw1, lookup_putF, if_pos rfl]
theorem flW_moves (ms : List Mv) (t : Addr) : (flW ms t).lookup ("moves" : Str) = some (.ref t) := by
  unfold flW
  rw [lookup_putF, if_neg kw3, lookup_putF, if_pos rfl]
theorem flW_turn (ms : List Mv) (t : Addr) : (flW ms t).lookup ("has_turn" : Str) = some (.bl (decide (Mv.turn ∈ ms))) := by
  unfold flW
  rw [lookup_putF, if_pos rfl]
def spWordInit (C : Addr) : Sp := fun vs H Q _ => ∃ (p dx : Addr) (ms : List Mv), vs = [.ref p, .str (wtext ms)] ∧ H p = some (.ins C dx []) ∧ WordOk ms ∧ (wtext ms).length ≤ 90000 ∧
  ∀ H', WordAt C H' p ms → (∀ b o, H b = some o → b ≠ p → H' b = some o) → Q .non H'
theorem ok_Word_init (T : Tx w K mg a) : FnOk P w K mg base CX0 6 a.f_Word_init a.d_Word_init ["self", "text"] (spWordInit a.C_Word) := by
  refine T.F_Word_init.ok sc_Word_init (fun vs H Q E h => ?_) (fun cdv A outer s H vs Q E hr h => ?_)
  · obtain ⟨p, dx, ms, rfl, _⟩ := h
    rfl
  · obtain ⟨p, dx, ms, rfl, hp, hok, htl, q⟩ := h
    refine ⟨_, 
(pss_cons (ps_set (i := 2) sc_Word_init.nd rfl (.inl rfl) (pe_split (pv 1) pe_str))
  (pss_cons (ps_asg (pe_call (ok_read_moves T) hr (by rfl) T.m_read_moves T.F_read_moves.kp T.b_read_moves .nil pass0 (pa_cons (pe_lst (StX.pa_star (pv 2) (pa_cons (pe_glob (v := .str "") (by rfl) T.m_NO_PART.choose_spec ⟨_, rfl⟩) pa_nil))) (pa_cons pe_int pa_nil))) (pg_tup rfl (pgs_cons (pg_name (i := 3) sc_Word_init.nd rfl (.inl rfl)) (pgs_cons (pg_name (i := 4) sc_Word_init.nd rfl (.inl rfl)) pgs_nil))))
  (pss_cons (ps_if (pt_cmpR op_lt (pv 4) (pe_callB call_len_seq (by rfl) T.z_len PySem.boot_len (pa_cons (pv 2) pa_nil)) (nomark _))
  (pss_one ps_never)
  pss_nil)
  (pss_cons (ps_fld (pv 0) (pv 1) rfl)
  (pss_cons (ps_fld (pv 0) (pv 3) rfl)
  (pss_one (ps_fld (pv 0) (pe_cmpR (op_inDT (room65 hr)) (pe_tup (pa_cons pe_str pa_nil)) (pv 3) (by rfl)) rfl))))))), ?_⟩
    -- parts = text.split(' ')
    refine ⟨.str (wtext ms), rfl, ⟨_, rfl⟩, wtext ms, " ", rfl, rfl, (by decide +kernel), sz (by omega), fun l nl => ?_⟩
    rw [split_wtext hok]
    have s1 := same_upd (o := .lst ((wp ms).map V.str)) nl
    have hl1 : (upd H l (.lst ((wp ms).map V.str))) l = some (.lst ((wp ms).map V.str)) := upd_same
    have hp1 := s1 _ _ hp
    generalize upd H l (.lst ((wp ms).map V.str)) = H1 at s1 hl1 hp1 ⊢
    have hwl := wp_len ms
    have h4 := hok.l4
    -- moves, end = read_moves([*parts, NO_PART], 0)
    refine ⟨.ref l, rfl, l, _, rfl, .inr (SqL.at hl1), sz (by simp; omega), fun l2 nl2 => ?_⟩
    have s2 := same_upd (o := .lst ((wp ms).map V.str ++ [.str ""])) nl2
    have hl2 : (upd H1 l2 (.lst ((wp ms).map V.str ++ [.str ""]))) l2 = some (.lst (strsV (wp ms ++ [sNo]))) := by
      rw [upd_same]
      unfold strsV
      rw [List.map_append]
      rfl
    generalize upd H1 l2 (.lst ((wp ms).map V.str ++ [.str ""])) = H2 at s2 hl2 ⊢
    refine ⟨l2, ms, rfl, hl2, hok.ne, hok.l4, hok.ok, hok.one, fun o t rs H3 no nt ho ht held s3 => ?_⟩
    refine ⟨o, [.ref t, .int ((wp ms).length : Int)], rfl, SqT.at ho, rfl, _, [.int ((wp ms).length : Int)], rfl, _, [], rfl, rfl, ?_⟩
    have s13 := s2.trans s3
    have hl3 := s13 _ _ hl1
    have hp3 := s13 _ _ hp1
    -- if end < len(parts)
    refine ⟨_, rfl, .ref l, rfl, l, _, rfl, .inl (SqL.at hl3), _, _, rfl, rfl, _, rfl, ?_⟩
    rw [List.length_map, decide_eq_false (show ¬ ((wp ms).length : Int) < ((wp ms).length : Int) by omega)]
    have npt : t ≠ p := ne_of ht hp3 (by intro z; cases z)
    -- self.text = text; self.moves = moves
    refine ⟨.str (wtext ms), rfl, .ref p, rfl, p, a.C_Word, dx, [], rfl, hp3, T.cl_Word, T.n_Word_text, (show 0 < 1000 by decide), ?_⟩
    refine ⟨.ref t, rfl, .ref p, rfl, p, a.C_Word, dx, _, rfl, upd_same, T.cl_Word, T.n_Word_moves, (show 1 < 1000 by decide), ?_⟩
    rw [upd_upd]
    -- self.has_turn = ('turn',) in moves
    have ht4 : (upd H3 p (.ins a.C_Word dx (putF "moves" (.ref t) (putF "text" (.str (wtext ms)) [])))) t = some (.tup (rs.map V.ref)) := by
      rw [upd_ne npt]
      exact ht
    have held4 : ∀ {o : HO}, Held (upd H3 p o) rs ms := fun {o} => Held.off hp3 held
    have hp4 : (upd H3 p (.ins a.C_Word dx (putF "moves" (.ref t) (putF "text" (.str (wtext ms)) [])))) p = _ := upd_same
    have h4s := held4 (o := .ins a.C_Word dx (putF "moves" (.ref t) (putF "text" (.str (wtext ms)) [])))
    refine ⟨sz (show 1 ≤ 100000 by decide), fun t0 nt0 => ?_⟩
    have s5 := same_upd (o := .tup [V.str "turn"]) nt0
    refine ⟨.ref t, rfl, mvD .turn, ms.map mvD, .tup (SqT.at upd_same) (dp_strs ["turn"]), .tup (SqT.at (s5 _ _ ht4)) (dp_mvs (h4s.same s5)), shaped_strs (by decide +kernel), (shaped_mvs hok.ok).1, ?_⟩
    rw [any_mv]
    refine ⟨.ref p, rfl, p, a.C_Word, dx, _, rfl, s5 _ _ hp4, T.cl_Word, T.n_Word_has_turn, by rw [fl2]; show 2 < 1000; decide, ?_⟩
    have nt0p : t0 ≠ p := (ne_of_none hp4 nt0).symm
    have s03 := s1.trans s13
    refine q _ ⟨dx, t, rs, upd_same, ?_, ?_⟩ fun b u hb nb => ?_
    · rw [upd_ne npt]
      exact s5 _ _ ht4
    · exact Held.off (s5 _ _ hp4) (h4s.same s5)
    · rw [upd_ne nb]
      refine s5 _ _ ?_
      rw [upd_ne nb]
      exact s03 _ _ hb
def allF (ms : List Mv) (xs : List Int) : List Int := ms.foldl (fun ys m => mvF m ys) xs
theorem allF_len : ∀ (ms : List Mv) (xs : List Int), (allF ms xs).length = xs.length
  | [], _ => rfl
  | m :: r, xs => by
    show (allF r (mvF m xs)).length = _
    rw [allF_len r, mv_len]
def spWordAt (C : Addr) : Sp := fun vs H Q _ => ∃ (p : Addr) (ms : List Mv) (n : Nat), vs = [.ref p, .int (n : Int)] ∧ WordAt C H p ms ∧ (∀ m ∈ ms, m.ok) ∧ 1 ≤ n ∧ n ≤ 1000 ∧
  ∀ o H', H o = none → H' o = some (.lst ((allF ms (ri n)).map V.int)) → Same H H' → Q (.ref o) H'
theorem Held.get {H : Hp} : ∀ {rs : List Addr} {ms : List Mv}, Held H rs ms → ∀ {i : Nat} {m : Mv}, ms[i]? = some m → ∃ r, rs[i]? = some r ∧ H r = some (.tup (strsV m.parts))
  | [], [], _, i, m, h => by simp at h
  | r :: rs, n :: ms, hh, 0, m, h => by
    cases h
    exact ⟨r, rfl, hh.1⟩
  | r :: rs, n :: ms, hh, i + 1, m, h => by
    obtain ⟨x, hx, hy⟩ := Held.get hh.2 (i := i) (m := m) (by simpa using h)
    exact ⟨x, by simpa using hx, hy⟩
theorem ok_Word_at (T : Tx w K mg a) : FnOk P w K mg base CX0 4 a.f_Word_at a.d_Word_at ["self", "k"] (spWordAt a.C_Word) := by
  refine T.F_Word_at.ok sc_Word_at (fun vs H Q E h => ?_) (fun cdv A outer s H vs Q E hr h => ?_)
  · obtain ⟨p, ms, n, rfl, _⟩ := h
    rfl
  · obtain ⟨p, ms, n, rfl, ⟨dx, t, rs, hp, ht, held⟩, hok, h1, h2, q⟩ := h
    refine ⟨_, 
(pss_cons (ps_if (pt_not (pt_val (pe_call (ok_is_between T) (hr.mono (by decide)) (by rfl) T.m_is_between T.F_is_between.kp T.b_is_between .nil pass0 (pa_cons (pv 1) (pa_cons pe_int (pa_cons (pe_glob (v := .int 1000) (by rfl) T.m_MOST_PLACES.choose_spec ⟨_, rfl⟩) pa_nil))))))
  (pss_one ps_never)
  pss_nil)
  (pss_cons (ps_set (i := 2) sc_Word_at.nd rfl (.inl rfl) (pe_listRg rfl (by rfl) T.z_list (prg_1 (by rfl) T.z_range (pv 1))))
  (pss_cons (ps_for PassesOwn.never rfl (pi_tup (pe_fld (pv 0) rfl)) (pg_name (i := 3) sc_Word_at.nd rfl (.inl rfl))
  (pss_one (ps_set (i := 2) sc_Word_at.nd rfl (.inl rfl) (pe_call (ok_moved T) hr (by rfl) T.m_moved T.F_moved.kp T.b_moved .nil pass0 (pa_cons (pv 2) (pa_cons (pv 3) pa_nil))))))
  (pss_one (ps_ret (pv 2)))))), ?_⟩
    -- if not is_between(k, 1, MOST_PLACES)
    refine ⟨_, rfl, .int n, true, 1, 1000, rfl, .int _, _, rfl, ?_⟩
    have e : btM 1 1000 (.int (n : Int)) = true := by
      simp only [btM, Bool.and_eq_true, decide_eq_true_eq]
      omega
    rw [e]
    -- row = list(range(k))
    refine ⟨_, rfl, _, rfl, RgOk.of_le (by decide) (by omega) (by decide) (by omega), fun o no => ?_⟩
    rw [rgV_ri]
    have s1 := same_upd (o := .lst ((ri n).map V.int)) no
    have ho1 : (upd H o (.lst ((ri n).map V.int))) o = some (.lst ((ri n).map V.int)) := upd_same
    generalize upd H o (.lst ((ri n).map V.int)) = H1 at s1 ho1 ⊢
    -- for move in self.moves
    refine ⟨.ref p, rfl, p, a.C_Word, dx, _, _, rfl, s1 _ _ hp, T.cl_Word, T.n_Word_moves, flW_moves ms t, t, rfl, ⟨_, SqT.at (s1 _ _ ht)⟩, ?_⟩
    have hrl : (rs.map V.ref).length = ms.length := by rw [List.length_map, held.len]
    refine for_it (walk_tup (xs := rs.map V.ref)) (fun i σ H3 => ∃ r y3, σ = [some (.ref p), some (.int n), some (.ref r), y3] ∧ Same H H3 ∧ H r = none ∧ H3 r = some (.lst ((allF (ms.take i) (ri n)).map V.int))) ?h0 ?hG ?hs ?hd
    case h0 => exact ⟨o, none, rfl, s1, no, ho1⟩
    case hG =>
      rintro i σ H3 hi ⟨r, y3, rfl, s3, _, _⟩
      exact SqT.at (s3 _ _ ht)
    case hd =>
      rintro σ H3 ⟨r, y3, rfl, s3, nr, hr3⟩
      rw [hrl, List.take_length] at hr3
      exact ⟨_, rfl, q r H3 nr hr3 s3⟩
    case hs =>
      rintro i v σ H3 H4 hi ⟨r, y3, rfl, s3, nr, hr3⟩ ⟨rfl, ev⟩
      rw [hrl] at hi
      obtain ⟨x, hx, hxt⟩ := held.get (List.getElem?_eq_getElem hi)
      rw [List.getElem?_map, hx] at ev
      cases ev
      refine ⟨.ref r, rfl, .ref x, rfl, r, x, _, ms[i], rfl, SqL.at hr3, SqT.at (s3 _ _ hxt), hok _ (List.getElem_mem hi), by rw [allF_len, ri_len]; omega, fun o2 H5 no2 eo2 s5 => ?_⟩
      refine ⟨o2, _, rfl, s3.trans s5, s3.free no2, ?_⟩
      rw [eo2, List.take_add_one, List.getElem?_eq_getElem hi]
      show some (HO.lst ((mvF ms[i] (allF (ms.take i) (ri n))).map V.int)) = some (HO.lst ((allF (ms.take i ++ [ms[i]]) (ri n)).map V.int))
      unfold allF
      rw [List.foldl_append]
      rfl
end

theorem roF_same (xs : List Int) (x : Nat) (c : Int) (h : x < xs.length) : roF xs x x c = xs := by
  have bl := blk_len xs x x (Nat.le_refl x) h
  unfold roF
  have e1 : x + 1 - x = 1 := by omega
  rw [e1] at bl
  simp only [e1, bl]
  have e2 : Int.fmod c ((1 : Nat) : Int) = 0 := Int.fmod_one c
  rw [e2]
  have e3 : (((1 : Nat) : Int) - 0).toNat = 1 := by decide
  rw [e3]
  have e5 : ((xs.drop x).take 1).drop 1 = [] := List.drop_of_length_le (by rw [bl]; exact Nat.le_refl _)
  have e6 : ((xs.drop x).take 1).take 1 = (xs.drop x).take 1 := List.take_of_length_le (by rw [bl]; exact Nat.le_refl _)
  rw [e5, e6, List.append_nil, List.append_assoc]
  have e4 : (xs.drop x).take 1 ++ xs.drop (x + 1) = xs.drop x := by
    rw [← List.drop_drop]
    exact List.take_append_drop 1 (xs.drop x)
  rw [e4]
  exact List.take_append_drop x xs
section
variable {P : Program} {w : World} {K : PySem.W.Frag} {mg : Str → Option Value} {base : Heap} {a : Ad}
def laM (k : Int) : Str := if 17 < k then "half" else if k < 9 then toString (k + 1) else Str.append "-" (toString (k - 8))
theorem la_am : ∀ k : Fin 20, laM ((k.val : Nat) : Int) ∈ am := by decide +kernel
def spLawAmount : Sp := fun vs H Q _ => ∃ (d c : Addr) (n : Nat), vs = [.ref d] ∧ Pen H d c n ∧ n < 2 ^ 40 ∧ ∀ z H', z ∈ am → Pen H' d c (n + 1) → But d H H' → Q (.str z) H'
theorem ok__law_amount (T : Tx w K mg a) : FnOk P w K mg base CX0 2 a.f__law_amount a.d__law_amount ["pen"] spLawAmount := by
  refine T.F__law_amount.ok sc__law_amount (fun vs H Q E h => ?_) (fun cdv A outer s H vs Q E hr h => ?_)
  · obtain ⟨d, c, n, rfl, _⟩ := h
    rfl
  · obtain ⟨d, c, n, rfl, hp, hn, q⟩ := h
    refine ⟨_, 
(pss_cons (ps_set (i := 1) sc__law_amount.nd rfl (.inl rfl) (pe_call (ok__law_draw T) hr (by rfl) T.m__law_draw T.F__law_draw.kp T.b__law_draw .nil pass0 (pa_cons (pv 0) (pa_cons pe_int pa_nil))))
  (pss_one (ps_ret (pe_ifExp (pt_cmpR op_gt (pv 1) pe_int (nomark _)) pe_str (pe_ifExp (pt_cmpR op_lt (pv 1) pe_int (nomark _)) (pe_callTy call_str_int (by rfl) T.z_str (by decide +kernel) (pa_cons (pe_op op_add (pv 1) pe_int) pa_nil)) (pe_op op_add_str pe_str (pe_callTy call_str_int (by rfl) T.z_str (by decide +kernel) (pa_cons (pe_op op_sub (pv 1) pe_int) pa_nil)))))))), ?_⟩
    refine ⟨.ref d, rfl, d, c, n, 20, rfl, hp, hn, by decide, by decide, fun k H1 k0 k1 hp1 hb => ?_⟩
    have hw : laM k ∈ am := by
      have e := la_am ⟨k.toNat, by omega⟩
      have e2 : ((k.toNat : Nat) : Int) = k := by omega
      rw [show (((⟨k.toNat, by omega⟩ : Fin 20).val : Nat) : Int) = k from e2] at e
      exact e
    have hq := q _ H1 hw hp1 hb
    unfold laM at hq
    refine ⟨.int k, rfl, k, 17, rfl, rfl, _, rfl, ite2 (fun e1 => ?_) (fun e1 => ?_)⟩
    · rw [if_pos (of_decide_eq_true e1)] at hq
      exact hq
    have e1' : ¬ 17 < k := fun z => e1 (decide_eq_true z)
    rw [if_neg e1'] at hq
    refine ⟨.int k, rfl, k, 9, rfl, rfl, _, rfl, ite2 (fun e2 => ?_) (fun e2 => ?_)⟩
    · rw [if_pos (of_decide_eq_true e2)] at hq
      exact ⟨.int k, rfl, k, 1, rfl, rfl, k + 1, rfl, lg _ (by omega) (by omega), hq⟩
    have e2' : ¬ k < 9 := fun z => e2 (decide_eq_true z)
    rw [if_neg e2'] at hq
    exact ⟨.int k, rfl, k, 8, rfl, rfl, k - 8, rfl, lg _ (by omega) (by omega), _, _, rfl, rfl, sz (ln _ _ (by decide) (by omega) (by omega)), hq⟩
def spLawMove : Sp := fun vs H Q _ => ∃ (d c : Addr) (n : Nat) (b : Bool), vs = [.ref d, .bl b] ∧ Pen H d c n ∧ n + 20 < 2 ^ 40 ∧
  ∀ o m H', m.ok → (b = true → m ≠ Mv.turn) → H o = none → H' o = some (.lst (strsV m.parts)) → Pen H' d c (n + 20) → But d H H' → Q (.ref o) H'
theorem pick3 {z : V} {x y u : Str} (h : z ∈ [V.str x, V.str y, V.str u]) (hx : x ∈ wt) (hy : y ∈ wt) (hu : u ∈ wt) : ∃ s, z = .str s ∧ s ∈ wt := by
  simp only [List.mem_cons, List.not_mem_nil, or_false] at h
  rcases h with rfl | rfl | rfl
  · exact ⟨_, rfl, hx⟩
  · exact ⟨_, rfl, hy⟩
  · exact ⟨_, rfl, hu⟩
theorem ok__law_move (T : Tx w K mg a) : FnOk P w K mg base CX0 3 a.f__law_move a.d__law_move ["pen", "has_turn"] spLawMove := by
  refine T.F__law_move.ok sc__law_move (fun vs H Q E h => ?_) (fun cdv A outer s H vs Q E hr h => ?_)
  · obtain ⟨d, c, n, b, rfl, _⟩ := h
    rfl
  · obtain ⟨d, c, n, b, rfl, hp, hn, q⟩ := h
    refine ⟨_, 
(C8.pss_cut (ps_set (i := 2) sc__law_move.nd rfl (.inl rfl) (pe_call (ok__law_draw T) (hr.mono (by decide)) (by rfl) T.m__law_draw T.F__law_draw.kp T.b__law_draw .nil pass0 (pa_cons (pv 0) (pa_cons (pe_ifExp (pt_val (pv 1)) pe_int pe_int) pa_nil))))
  (pss_cons (ps_if (pt_cmpR op_eq (pv 2) pe_int (nomark _))
  (pss_one (ps_ret (pe_lst (pa_cons pe_str pa_nil))))
  pss_nil)
  (pss_cons (ps_par (i := 3) (j := 4) (by rfl) sc__law_move.nd rfl rfl (by decide) rfl rfl (pa_cons (pe_call (ok__law_place_word T) hr (by rfl) T.m__law_place_word T.F__law_place_word.kp T.b__law_place_word .nil pass0 (pa_cons (pv 0) pa_nil)) (pa_cons (pe_call (ok__law_place_word T) hr (by rfl) T.m__law_place_word T.F__law_place_word.kp T.b__law_place_word .nil pass0 (pa_cons (pv 0) pa_nil)) pa_nil)) (by rfl))
  (C8.pss_cut (ps_if (pt_cmpR op_eq (pe_call (ok__law_draw T) (hr.mono (by decide)) (by rfl) T.m__law_draw T.F__law_draw.kp T.b__law_draw .nil pass0 (pa_cons (pv 0) (pa_cons pe_int pa_nil))) pe_int (nomark _))
  (pss_one (ps_par (i := 3) (j := 4) (by rfl) sc__law_move.nd rfl rfl (by decide) rfl rfl (pa_cons (pe_call (ok__law_pick T) hr (by rfl) T.m__law_pick T.F__law_pick.kp T.b__law_pick .nil pass0 (pa_cons (pv 0) (pa_cons (pe_lst (pa_cons pe_str (pa_cons pe_str (pa_cons pe_str pa_nil)))) pa_nil))) (pa_cons (pe_call (ok__law_pick T) hr (by rfl) T.m__law_pick T.F__law_pick.kp T.b__law_pick .nil pass0 (pa_cons (pv 0) (pa_cons (pe_lst (pa_cons pe_str (pa_cons pe_str (pa_cons pe_str pa_nil)))) pa_nil))) pa_nil)) (by rfl)))
  pss_nil)
  (pss_one (ps_ret (pe_ifExp (pt_cmpR op_lt (pv 2) pe_int (nomark _)) (pe_lst (pa_cons pe_str (pa_cons (pv 3) (pa_cons (pv 4) pa_nil)))) (pe_lst (pa_cons pe_str (pa_cons (pv 3) (pa_cons (pv 4) (pa_cons (pe_call (ok__law_amount T) hr (by rfl) T.m__law_amount T.F__law_amount.kp T.b__law_amount .nil pass0 (pa_cons (pv 0) pa_nil)) pa_nil)))))))))))), ?_⟩
    -- way = _law_draw(pen, 7 if has_turn else 8)
    refine ⟨fun σ' H' => ∃ way : Int, 0 ≤ way ∧ way ≤ 7 ∧ (b = true → way < 7) ∧ σ' = [some (.ref d), some (.bl b), some (.int way), none, none] ∧ Pen H' d c (n + 1) ∧ But d H H', ⟨.ref d, rfl, .bl b, rfl, _, rfl, ?_⟩, ?_⟩
    · cases b with
      | true => exact ⟨d, c, n, 7, rfl, hp, by omega, by decide, by decide, fun v H1 v0 v1 hp1 hb1 => ⟨v, v0, by omega, fun _ => v1, rfl, hp1, hb1⟩⟩
      | false => exact ⟨d, c, n, 8, rfl, hp, by omega, by decide, by decide, fun v H1 v0 v1 hp1 hb1 => ⟨v, v0, by omega, (fun e => by cases e), rfl, hp1, hb1⟩⟩
    rintro σ' H1 ⟨way, w0, w7, wb, rfl, hp1, hb1⟩
    -- if way == 7: return ['turn']
    refine ⟨.int way, rfl, rfl, _, rfl, ite2 (fun e => ?_) (fun e => ?_)⟩
    · have ew : way = 7 := V.int.inj (of_decide_eq_true e)
      refine ⟨Nat.succ_le_of_lt (by decide), fun o no => ?_⟩
      obtain ⟨kvs, hd1⟩ := hp1.dict
      refine q o .turn _ trivial (fun hb => by have := wb hb; omega) ?_ upd_same ((hp1.same (same_upd no)).up (by omega)) (hb1.trans (but_same (same_upd no)))
      cases hH : H o with
      | none => rfl
      | some u =>
        by_cases hod : o = d
        · subst hod
          rw [hd1] at no
          cases no
        · rw [hb1 o u hH hod] at no
          cases no
    -- x, y = two place words
    refine ⟨.ref d, rfl, d, c, _, rfl, hp1, by omega, fun x H2 wx hp2 hb2 => ⟨.ref d, rfl, d, c, _, rfl, hp2, by omega, fun y H3 wy hp3 hb3 => ⟨.str x, .str y, rfl, ?_⟩⟩⟩
    have hb13 := hb1.trans (hb2.trans hb3)
    -- if _law_draw(pen, 3) == 0: others
    refine ⟨fun σ' H' => ∃ x y : Str, x ∈ wt ∧ y ∈ wt ∧ σ' = [some (.ref d), some (.bl b), some (.int way), some (.str x), some (.str y)] ∧ Pen H' d c (n + 10) ∧ But d H H', ?_, ?_⟩
    · refine ⟨.ref d, rfl, d, c, _, 3, rfl, hp3, by omega, by decide, by decide, fun v H4 v0 v1 hp4 hb4 => ⟨rfl, _, rfl, ite2 (fun _ => ?_) (fun _ => ⟨x, y, wx, wy, rfl, hp4.up (by omega), hb13.trans hb4⟩)⟩⟩
      refine ⟨.ref d, rfl, sz (show 3 ≤ 100000 by decide), fun p1 np1 => ?_⟩
      refine ⟨d, c, p1, _, [.str "0", .str "1", .str "2"], rfl, hp4.same (same_upd np1), by omega, SqL.at upd_same, (show 0 < 3 by decide), (show 3 ≤ 100000 by decide), fun z1 H5 hz1 hp5 hb5 => ?_⟩
      obtain ⟨x', rfl, wx'⟩ := pick3 hz1 (by decide +kernel) (by decide +kernel) (by decide +kernel)
      refine ⟨.ref d, rfl, sz (show 3 ≤ 100000 by decide), fun p2 np2 => ?_⟩
      refine ⟨d, c, p2, _, [.str "-1", .str "-2", .str "half"], rfl, hp5.same (same_upd np2), by omega, SqL.at upd_same, (show 0 < 3 by decide), (show 3 ≤ 100000 by decide), fun z2 H6 hz2 hp6 hb6 => ?_⟩
      obtain ⟨y', rfl, wy'⟩ := pick3 hz2 (by decide +kernel) (by decide +kernel) (by decide +kernel)
      exact ⟨.str x', .str y', rfl, x', y', wx', wy', rfl, hp6.up (by omega), hb13.trans (hb4.trans ((but_same (same_upd np1)).trans (hb5.trans ((but_same (same_upd np2)).trans hb6))))⟩
    rintro σ' H4 ⟨x, y, wx, wy, rfl, hp4, hb4⟩
    have new : ∀ {H' : Hp} {o : Addr}, Pen H' d c (n + 11) ∨ Pen H' d c (n + 10) → But d H H' → H' o = none → H o = none := by
      intro H' o hpen hb' no
      have hd' : ∃ kvs, H' d = some (.dK kvs) := hpen.elim (fun h => h.dict) (fun h => h.dict)
      obtain ⟨kvs, hd'⟩ := hd'
      cases hH : H o with
      | none => rfl
      | some u =>
        by_cases hod : o = d
        · subst hod
          rw [hd'] at no
          cases no
        · rw [hb' o u hH hod] at no
          cases no
    refine ⟨.int way, rfl, way, 3, rfl, rfl, _, rfl, ite2 (fun _ => ?_) (fun _ => ?_)⟩
    · refine ⟨.str x, rfl, .str y, rfl, sz (show 3 ≤ 100000 by decide), fun o no => ?_⟩
      exact q o (.exch x y) _ ⟨wx, wy⟩ (fun _ e => by cases e) (new (.inr hp4) hb4 no) upd_same ((hp4.same (same_upd no)).up (by omega)) (hb4.trans (but_same (same_upd no)))
    · refine ⟨.str x, rfl, .str y, rfl, .ref d, rfl, d, c, _, rfl, hp4, by omega, fun z H5 hz hp5 hb5 => ⟨sz (show 4 ≤ 100000 by decide), fun o no => ?_⟩⟩
      exact q o (.roll x y z) _ ⟨wx, wy, hz⟩ (fun _ e => by cases e) (new (.inl hp5) (hb4.trans hb5) no) upd_same ((hp5.same (same_upd no)).up (by omega)) ((hb4.trans hb5).trans (but_same (same_upd no)))
def spLawMoved (K : PySem.W.Frag) : Sp := fun vs H Q _ => ∃ (p t : Addr) (xs : List Int) (m : Mv), vs = [.ref p, .ref t] ∧ SqL K H p (xs.map V.int) ∧ SqL K H t (strsV m.parts) ∧ m.ok ∧ xs.length ≤ 100000 ∧
  ∀ o H', H o = none → H' o = some (.lst ((mvF m xs).map V.int)) → Same H H' → Q (.ref o) H'
theorem ok__law_moved (T : Tx w K mg a) : FnOk P w K mg base CX0 2 a.f__law_moved a.d__law_moved ["row", "move"] (spLawMoved K) := by
  refine T.F__law_moved.ok sc__law_moved (fun vs H Q E h => ?_) (fun cdv A outer s H vs Q E hr h => ?_)
  · obtain ⟨p, t, xs, m, rfl, _⟩ := h
    rfl
  · obtain ⟨p, t, xs, m, rfl, hp, ht, hm, hl, q⟩ := h
    refine ⟨_, 
(pss_cons (ps_set (i := 2) sc__law_moved.nd rfl (.inl rfl) (pe_callB call_len_seq (by rfl) T.z_len PySem.boot_len (pa_cons (pv 0) pa_nil)))
  (pss_cons (ps_if (pt_cmpR op_eq (pe_ix ix_list (pv 1) pe_int (fun _ _ => rfl)) pe_str (nomark _))
  (pss_one (ps_ret (pe_revL (pv 0))))
  pss_nil)
  (pss_cons (ps_par (i := 3) (j := 4) (by rfl) sc__law_moved.nd rfl rfl (by decide) rfl rfl (pa_cons (pe_call (ok__law_value T) hr (by rfl) T.m__law_value T.F__law_value.kp T.b__law_value .nil pass0 (pa_cons (pe_ix ix_list (pv 1) pe_int (fun _ _ => rfl)) (pa_cons (pv 2) pa_nil))) (pa_cons (pe_call (ok__law_value T) hr (by rfl) T.m__law_value T.F__law_value.kp T.b__law_value .nil pass0 (pa_cons (pe_ix ix_list (pv 1) pe_int (fun _ _ => rfl)) (pa_cons (pv 2) pa_nil))) pa_nil)) (by rfl))
  (pss_cons (ps_if (PW.pt (pw_or (pt_cmpR op_lt (pv 3) pe_int (nomark _)) (pw_or (pt_cmpR op_lt (pv 4) pe_int (nomark _)) (pw_or (pt_cmpR op_ge (pv 3) (pv 2) (nomark _)) (pw_or1 (pt_cmpR op_ge (pv 4) (pv 2) (nomark _)))))))
  (pss_one (ps_ret (pe_callTy call_list_of (by rfl) T.z_list (by decide +kernel) (pa_cons (pv 0) pa_nil))))
  pss_nil)
  (pss_cons (ps_if (pt_cmpR op_eq (pe_ix ix_list (pv 1) pe_int (fun _ _ => rfl)) pe_str (nomark _))
  (pss_cons (ps_set (i := 5) sc__law_moved.nd rfl (.inl rfl) (pe_callTy call_list_of (by rfl) T.z_list (by decide +kernel) (pa_cons (pv 0) pa_nil)))
  (pss_cons (ps_asg (pe_tup (pa_cons (pe_ix ix_list (pv 0) (pv 4) (fun _ _ => rfl)) (pa_cons (pe_ix ix_list (pv 0) (pv 3) (fun _ _ => rfl)) pa_nil))) (pg_tup rfl (pgs_cons (pg_sub (pv 5) (pv 3) set_list) (pgs_cons (pg_sub (pv 5) (pv 4) set_list) pgs_nil))))
  (pss_one (ps_ret (pv 5)))))
  pss_nil)
  (pss_cons (ps_if (pt_cmpR op_ge (pv 3) (pv 4) (nomark _))
  (pss_one (ps_ret (pe_callTy call_list_of (by rfl) T.z_list (by decide +kernel) (pa_cons (pv 0) pa_nil))))
  pss_nil)
  (pss_cons (ps_set (i := 6) sc__law_moved.nd rfl (.inl rfl) (pe_slice sl_list (pv 0) (po_some (pv 3)) (po_some (pe_op op_add (pv 4) pe_int))))
  (C8.pss_cut (ps_set (i := 7) sc__law_moved.nd rfl (.inl rfl) (pe_ifExp (pt_cmpR op_eq (pe_ix ix_list (pv 1) pe_int (fun _ _ => rfl)) pe_str (nomark _)) (pe_op op_fdivN (pe_callB call_len_seq (by rfl) T.z_len PySem.boot_len (pa_cons (pv 6) pa_nil)) pe_int) (pe_callTy call_int_str (by rfl) T.z_int (by decide +kernel) (pa_cons (pe_ix ix_list (pv 1) pe_int (fun _ _ => rfl)) pa_nil))))
  (pss_cons (ps_set (i := 8) sc__law_moved.nd rfl (.inl rfl) (pe_op op_sub (pe_callB call_len_seq (by rfl) T.z_len PySem.boot_len (pa_cons (pv 6) pa_nil)) (pe_op op_modN (pe_callTy call_int1 (by rfl) T.z_int (by decide +kernel) (pa_cons (pv 7) pa_nil)) (pe_callB call_len_seq (by rfl) T.z_len PySem.boot_len (pa_cons (pv 6) pa_nil)))))
  (pss_one (ps_ret (pe_op op_cat (pe_op op_cat (pe_op op_cat (pe_slice sl_list (pv 0) po_none (po_some (pv 3))) (pe_slice sl_list (pv 6) (po_some (pv 8)) po_none)) (pe_slice sl_list (pv 6) po_none (po_some (pv 8)))) (pe_slice sl_list (pv 0) (po_some (pe_op op_add (pv 4) pe_int)) po_none))))))))))))), ?_⟩
    have el : (xs.map V.int).length = xs.length := List.length_map ..
    -- k = len(row)
    refine ⟨.ref p, rfl, p, _, rfl, .inl hp, ?_⟩
    rw [el]
    refine ⟨.ref t, rfl, t, _, 0, _, rfl, rfl, ht, head_at, rfl, _, rfl, ?_⟩
    by_cases htu : m = .turn
    · subst htu
      rw [show decide (V.str (Mv.head .turn) = V.str "turn") = true from by decide +kernel]
      refine ⟨.ref p, rfl, p, _, rfl, hp, fun o no => q o _ no ?_ (same_upd no)⟩
      rw [upd_same, ← List.map_reverse]
      rfl
    have hh : decide (V.str m.head = V.str "turn") = false := by
      cases m with
      | turn => exact absurd rfl htu
      | exch x y => exact (by decide +kernel : decide (V.str "exchange" = V.str "turn") = false)
      | roll x y c => exact (by decide +kernel : decide (V.str "roll" = V.str "turn") = false)
    rw [hh]
    obtain ⟨X, Y, hX, hY, wX, wY, hmv⟩ : ∃ X Y, m.parts[1]? = some X ∧ m.parts[2]? = some Y ∧ X ∈ wt ∧ Y ∈ wt ∧ (∀ xs, (inB (plV X (xs.length : Int)) xs.length && inB (plV Y (xs.length : Int)) xs.length) = false → mvF m xs = xs) := by
      cases m with
      | turn => exact absurd rfl htu
      | exch x y =>
        refine ⟨x, y, rfl, rfl, hm.1, hm.2, fun xs h => ?_⟩
        simp only [mvF, h]
        rfl
      | roll x y c =>
        refine ⟨x, y, rfl, rfl, hm.1, hm.2.1, fun xs h => ?_⟩
        simp only [mvF, h, Bool.false_and]
        rfl
    -- x, y = (_law_value(move[1], k), _law_value(move[2], k))
    refine ⟨.ref t, rfl, t, _, 1, _, rfl, rfl, ht, strs_get (i := 1) hX, _, rfl, X, _, rfl, wX, .ref t, rfl, t, _, 2, _, rfl, rfl, ht, strs_get (i := 2) hY, _, rfl, Y, _, rfl, wY, _, _, rfl, ?_⟩
    -- if x < 0 or y < 0 or x >= k or (y >= k)
    have out : ∀ D : Prop, (∀ o, H o = none → Q (.ref o) (upd H o (.lst (xs.map V.int)))) → D → D := fun _ _ h => h
    have copy : (inB (plV X (xs.length : Int)) xs.length && inB (plV Y (xs.length : Int)) xs.length) = false → ∀ o, H o = none → Q (.ref o) (upd H o (.lst (xs.map V.int))) := fun h o no => by
      refine q o _ no ?_ (same_upd no)
      rw [upd_same, hmv xs h]
    have ib : ∀ {u v : Int}, ¬ (0 ≤ u ∧ u < (xs.length : Int) ∧ 0 ≤ v ∧ v < (xs.length : Int)) → (inB u xs.length && inB v xs.length) = false := by
      intro u v h
      cases e : (inB u xs.length && inB v xs.length) with
      | false => rfl
      | true =>
        simp only [inB, Bool.and_eq_true, decide_eq_true_eq] at e
        exact absurd ⟨e.1.1, e.1.2, e.2.1, e.2.2⟩ h
    refine ⟨_, rfl, _, 0, rfl, rfl, _, rfl, ite2 (fun e1 => ?_) (fun e1 => ?_)⟩
    · have z1 := of_decide_eq_true e1
      exact ⟨.ref p, rfl, p, _, rfl, .inl hp, copy (ib (by omega))⟩
    have z1 : 0 ≤ plV X (xs.length : Int) := by
      have : ¬ plV X (xs.length : Int) < 0 := fun z => e1 (decide_eq_true z)
      omega
    refine ⟨_, rfl, _, 0, rfl, rfl, _, rfl, ite2 (fun e2 => ?_) (fun e2 => ?_)⟩
    · have z2 := of_decide_eq_true e2
      exact ⟨.ref p, rfl, p, _, rfl, .inl hp, copy (ib (by omega))⟩
    have z2 : 0 ≤ plV Y (xs.length : Int) := by
      have : ¬ plV Y (xs.length : Int) < 0 := fun z => e2 (decide_eq_true z)
      omega
    refine ⟨_, rfl, _, rfl, _, _, rfl, rfl, _, rfl, ite2 (fun e3 => ?_) (fun e3 => ?_)⟩
    · have z3 := of_decide_eq_true e3
      exact ⟨.ref p, rfl, p, _, rfl, .inl hp, copy (ib (by omega))⟩
    have z3 : plV X (xs.length : Int) < (xs.length : Int) := by
      have : ¬ (xs.length : Int) ≤ plV X (xs.length : Int) := fun z => e3 (decide_eq_true z)
      omega
    refine ⟨_, rfl, _, rfl, _, _, rfl, rfl, _, rfl, ite2 (fun e4 => ?_) (fun e4 => ?_)⟩
    · have z4 := of_decide_eq_true e4
      exact ⟨.ref p, rfl, p, _, rfl, .inl hp, copy (ib (by omega))⟩
    have z4 : plV Y (xs.length : Int) < (xs.length : Int) := by
      have : ¬ (xs.length : Int) ≤ plV Y (xs.length : Int) := fun z => e4 (decide_eq_true z)
      omega
    obtain ⟨x, ex⟩ : ∃ x : Nat, plV X (xs.length : Int) = (x : Int) := ⟨(plV X (xs.length : Int)).toNat, by omega⟩
    obtain ⟨y, ey⟩ : ∃ y : Nat, plV Y (xs.length : Int) = (y : Int) := ⟨(plV Y (xs.length : Int)).toNat, by omega⟩
    have hx : inB (plV X (xs.length : Int)) xs.length = true := by
      simp only [inB, Bool.and_eq_true, decide_eq_true_eq]
      exact ⟨z1, z3⟩
    have hy : inB (plV Y (xs.length : Int)) xs.length = true := by
      simp only [inB, Bool.and_eq_true, decide_eq_true_eq]
      exact ⟨z2, z4⟩
    have hxl : x < xs.length := by omega
    have hyl : y < xs.length := by omega
    have at_ : ∀ {i : Nat}, i < xs.length → atI (xs.map V.int) (i : Int) = some (.int (xs.getD i 0)) := fun {i} hi => by
      refine atI_nat ?_
      rw [List.getElem?_map, List.getElem?_eq_getElem hi, getD_get hi]
      rfl
    rw [ex, ey]
    refine ⟨.ref t, rfl, t, _, 0, _, rfl, rfl, ht, head_at, rfl, _, rfl, ?_⟩
    cases m with
    | turn => exact absurd rfl htu
    | exch X' Y' =>
      cases hX
      cases hY
      rw [show decide (V.str (Mv.head (.exch X Y)) = V.str "exchange") = true from by rfl]
      have emv : mvF (.exch X Y) xs = exF xs x y := by
        have h2 : (inB (plV X (xs.length : Int)) xs.length && inB (plV Y (xs.length : Int)) xs.length) = true := by
          rw [hx, hy]
          rfl
        simp only [mvF]
        rw [if_pos h2, ex, ey]
        rfl
      rw [emv] at q
      refine ⟨.ref p, rfl, p, _, rfl, .inl hp, fun o no => ?_⟩
      have s1 := same_upd (o := .lst (xs.map V.int)) no
      refine ⟨.ref p, rfl, _, rfl, p, _, _, _, rfl, rfl, s1.seq hp, at_ hyl, .ref p, rfl, _, rfl, p, _, _, _, rfl, rfl, s1.seq hp, at_ hxl, sz (show 2 ≤ 100000 by decide), fun tt ntt => ?_⟩
      have s2 := s1.trans (same_upd (o := .tup [.int (xs.getD y 0), .int (xs.getD x 0)]) ntt)
      have ho2 : (upd (upd H o (.lst (xs.map V.int))) tt (.tup [.int (xs.getD y 0), .int (xs.getD x 0)])) o = some (.lst (xs.map V.int)) := same_upd ntt _ _ upd_same
      have ht2 : (upd (upd H o (.lst (xs.map V.int))) tt (.tup [.int (xs.getD y 0), .int (xs.getD x 0)])) tt = some (.tup [.int (xs.getD y 0), .int (xs.getD x 0)]) := upd_same
      generalize upd (upd H o (.lst (xs.map V.int))) tt (.tup [.int (xs.getD y 0), .int (xs.getD x 0)]) = H2 at s2 ho2 ht2 ⊢
      refine ⟨tt, [.int (xs.getD y 0), .int (xs.getD x 0)], rfl, SqT.at ht2, rfl, .int (xs.getD y 0), [.int (xs.getD x 0)], rfl, .ref o, rfl, _, rfl, o, _, _, x, rfl, rfl, ho2, by rw [el]; exact ixN_nat (by omega) (by omega), ?_⟩
      refine ⟨.int (xs.getD x 0), [], rfl, .ref o, rfl, _, rfl, o, _, _, y, rfl, rfl, upd_same, by rw [List.length_set, el]; exact ixN_nat (by omega) (by omega), rfl, ?_⟩
      refine ⟨_, rfl, q o _ no ?_ (keep_upd (keep_upd s2 no) no)⟩
      rw [upd_same]
      unfold exF
      rw [List.map_set, List.map_set]
    | roll X' Y' c =>
      cases hX
      cases hY
      rw [show decide (V.str (Mv.head (.roll X Y c)) = V.str "exchange") = false from by rfl]
      obtain ⟨hi, hcl, _⟩ := am_chk hm.2.2
      refine ⟨_, rfl, _, rfl, (x : Int), (y : Int), rfl, rfl, _, rfl, ite2 (fun e5 => ?_) (fun e5 => ?_)⟩
      · have z5 := of_decide_eq_true e5
        have emv : mvF (.roll X Y c) xs = xs := by
          simp only [mvF]
          by_cases hxy : x ≤ y
          · have exy : x = y := by omega
            subst exy
            have h2 : (inB (plV X (xs.length : Int)) xs.length && inB (plV Y (xs.length : Int)) xs.length && decide (plV X (xs.length : Int) ≤ plV Y (xs.length : Int))) = true := by
              rw [hx, hy, ex, ey, decide_eq_true (Int.le_refl _)]
              rfl
            rw [if_pos h2, ex, ey]
            exact roF_same xs x _ hxl
          · have h2 : ¬ (inB (plV X (xs.length : Int)) xs.length && inB (plV Y (xs.length : Int)) xs.length && decide (plV X (xs.length : Int) ≤ plV Y (xs.length : Int))) = true := by
              rw [hx, hy, ex, ey, decide_eq_false (show ¬ (x : Int) ≤ y by omega)]
              decide
            rw [if_neg h2]
        rw [emv] at q
        exact ⟨.ref p, rfl, p, _, rfl, .inl hp, fun o no => q o _ no upd_same (same_upd no)⟩
      have hxy : x ≤ y := by
        have : ¬ (y : Int) ≤ x := fun z => e5 (decide_eq_true z)
        omega
      have emv : mvF (.roll X Y c) xs = roF xs x y (amV c (y + 1 - x : Nat)) := by
        have h2 : (inB (plV X (xs.length : Int)) xs.length && inB (plV Y (xs.length : Int)) xs.length && decide (plV X (xs.length : Int) ≤ plV Y (xs.length : Int))) = true := by
          rw [hx, hy, ex, ey, decide_eq_true (show (x : Int) ≤ y by omega)]
          rfl
        simp only [mvF]
        rw [if_pos h2, ex, ey]
        rfl
      rw [emv] at q
      have bl := blk_len xs x y hxy hyl
      have em := cut_mid xs x (y + 1) (by omega) (by omega)
      have et := cut_to xs x
      have ef := cut_from xs (y + 1) (by omega)
      refine ⟨.ref p, rfl, _, rfl, _, rfl, _, rfl, y, 1, rfl, rfl, _, rfl, p, _, rfl, hp, fun b nb => ?_⟩
      rw [show (y : Int) + 1 = ((y + 1 : Nat) : Int) by omega, em]
      generalize eb : (xs.drop x).take (y + 1 - x) = B at bl em
      have s1 := same_upd (o := .lst (B.map V.int)) nb
      have hb : (upd H b (.lst (B.map V.int))) b = some (.lst (B.map V.int)) := upd_same
      generalize upd H b (.lst (B.map V.int)) = H1 at s1 hb ⊢
      have bp : 0 < B.length := by omega
      have eBl : (B.map V.int).length = B.length := List.length_map ..
      -- c = len(block) // 2 if move[3] == 'half' else int(move[3])
      refine ⟨fun σ' H' => σ' = [some (.ref p), some (.ref t), some (.int (xs.length : Int)), some (.int (x : Int)), some (.int (y : Int)), none, some (.ref b), some (.int (amV c (B.length : Int))), none] ∧ H' = H1, ?_, ?_⟩
      · refine ⟨.ref t, rfl, t, _, 3, _, rfl, rfl, s1.seq ht, strs_get (i := 3) rfl, rfl, _, rfl, ?_⟩
        by_cases hcz : c = "half"
        · rw [decide_eq_true (show V.str c = V.str "half" by rw [hcz])]
          refine ⟨.ref b, rfl, b, _, rfl, .inl (SqL.at hb), _, 2, rfl, rfl, ⟨by decide, by decide⟩, ?_, rfl⟩
          rw [eBl]
          simp only [amV, if_pos hcz]
          rfl
        · rw [decide_eq_false (show ¬ V.str c = V.str "half" from fun e => hcz (V.str.inj e))]
          obtain ⟨n, hn⟩ := Option.isSome_iff_exists.mp (hi.resolve_left hcz)
          refine ⟨.ref t, rfl, t, _, 3, _, rfl, rfl, s1.seq ht, strs_get (i := 3) rfl, c, n, rfl, hn, by omega, ?_, rfl⟩
          simp only [amV, if_neg hcz, hn]
          rfl
      rintro σ' H1' ⟨rfl, rfl⟩
      -- cut = len(block) - int(c) % len(block)
      refine ⟨.ref b, rfl, b, _, rfl, .inl (SqL.at hb), _, rfl, .inl ⟨_, rfl, .ref b, rfl, b, _, rfl, .inl (SqL.at hb), _, _, rfl, rfl, ?_, _, _, rfl, rfl, ?_⟩⟩
      · rw [eBl]
        show ((B.length : Nat) : Int) ≠ 0
        omega
      rw [eBl]
      have f0 := Int.fmod_nonneg_of_pos (amV c (B.length : Int)) (b := (B.length : Int)) (by omega)
      have f1 := Int.fmod_lt_of_pos (amV c (B.length : Int)) (b := (B.length : Int)) (by omega)
      obtain ⟨k, ek, hk⟩ : ∃ k : Nat, (B.length : Int) - Int.fmod (amV c (B.length : Int)) (B.length : Int) = (k : Int) ∧ k ≤ B.length := ⟨((B.length : Int) - Int.fmod (amV c (B.length : Int)) (B.length : Int)).toNat, by omega, by omega⟩
      have e2 := cut_from B k hk
      have e3 := cut_to B k
      -- row[:x] + block[cut:] + block[:cut] + row[y + 1:]
      refine ⟨.ref p, rfl, _, rfl, _, rfl, p, _, rfl, s1.seq hp, fun o1 no1 => ?_⟩
      rw [et]
      have u1 := same_upd (o := .lst ((xs.take x).map V.int)) no1
      have b1 := u1 _ _ hb
      have h1 : (upd H1' o1 (.lst ((xs.take x).map V.int))) o1 = _ := upd_same
      generalize upd H1' o1 (.lst ((xs.take x).map V.int)) = H2 at u1 b1 h1 ⊢
      refine ⟨.ref b, rfl, _, rfl, _, rfl, b, _, rfl, SqL.at b1, fun o2 no2 => ?_⟩
      rw [ek, e2]
      have u2 := same_upd (o := .lst ((B.drop k).map V.int)) no2
      have b2 := u2 _ _ b1
      have h12 := u2 _ _ h1
      have h2 : (upd H2 o2 (.lst ((B.drop k).map V.int))) o2 = _ := upd_same
      generalize upd H2 o2 (.lst ((B.drop k).map V.int)) = H3 at u2 b2 h12 h2 ⊢
      refine ⟨o1, o2, _, _, rfl, rfl, h12, h2, sz (by simp; omega), fun o3 no3 => ?_⟩
      rw [← List.map_append]
      have u3 := same_upd (o := .lst ((xs.take x ++ B.drop k).map V.int)) no3
      have b3 := u3 _ _ b2
      have h3 : (upd H3 o3 (.lst ((xs.take x ++ B.drop k).map V.int))) o3 = _ := upd_same
      generalize upd H3 o3 (.lst ((xs.take x ++ B.drop k).map V.int)) = H4 at u3 b3 h3 ⊢
      refine ⟨.ref b, rfl, _, rfl, _, rfl, b, _, rfl, SqL.at b3, fun o4 no4 => ?_⟩
      rw [ek, e3]
      have u4 := same_upd (o := .lst ((B.take k).map V.int)) no4
      have h34 := u4 _ _ h3
      have h4 : (upd H4 o4 (.lst ((B.take k).map V.int))) o4 = _ := upd_same
      generalize upd H4 o4 (.lst ((B.take k).map V.int)) = H5 at u4 h34 h4 ⊢
      refine ⟨o3, o4, _, _, rfl, rfl, h34, h4, sz (by simp; omega), fun o5 no5 => ?_⟩
      rw [← List.map_append]
      have u5 := same_upd (o := .lst ((xs.take x ++ B.drop k ++ B.take k).map V.int)) no5
      have h5 : (upd H5 o5 (.lst ((xs.take x ++ B.drop k ++ B.take k).map V.int))) o5 = _ := upd_same
      generalize upd H5 o5 (.lst ((xs.take x ++ B.drop k ++ B.take k).map V.int)) = H6 at u5 h5 ⊢
      have u06 := s1.trans (u1.trans (u2.trans (u3.trans (u4.trans u5))))
      refine ⟨.ref p, rfl, _, rfl, y, 1, rfl, rfl, _, rfl, p, _, rfl, u06.seq hp, fun o6 no6 => ?_⟩
      rw [show (y : Int) + 1 = ((y + 1 : Nat) : Int) by omega, ef]
      have u6 := same_upd (o := .lst ((xs.drop (y + 1)).map V.int)) no6
      have h56 := u6 _ _ h5
      have h6 : (upd H6 o6 (.lst ((xs.drop (y + 1)).map V.int))) o6 = _ := upd_same
      generalize upd H6 o6 (.lst ((xs.drop (y + 1)).map V.int)) = H7 at u6 h56 h6 ⊢
      refine ⟨o5, o6, _, _, rfl, rfl, h56, h6, sz (by simp; omega), fun o7 no7 => ?_⟩
      rw [← List.map_append]
      have u07 := u06.trans (u6.trans (same_upd (o := .lst ((xs.take x ++ B.drop k ++ B.take k ++ xs.drop (y + 1)).map V.int)) no7))
      refine q o7 _ (u06.free (u6.free no7)) ?_ u07
      rw [upd_same]
      unfold roF
      simp only [eb]
      rw [← bl, ek, Int.toNat_natCast]
end

/-! ### lengths of joined texts; moves keep the things -/
theorem joinL_len (S : List Nat) : ∀ ps : List (List Nat), (TL.joinL S ps).length ≤ (ps.map List.length).sum + ps.length * S.length
  | [] => by simp [TL.joinL]
  | [p] => by simp [TL.joinL]
  | p :: q :: r => by
    have := joinL_len S (q :: r)
    show (p ++ (S ++ TL.joinL S (q :: r))).length ≤ _
    rw [List.length_append, List.length_append, List.map_cons, List.sum_cons, List.length_cons (as := q :: r), Nat.add_mul]
    omega
theorem sum_le : ∀ {zs : List Str}, (∀ z ∈ zs, z.length ≤ 100) → (zs.map (·.length)).sum ≤ zs.length * 100
  | [], _ => by simp
  | z :: r, h => by
    have h1 := h z (List.mem_cons_self ..)
    have h2 := sum_le (zs := r) fun y hy => h y (List.mem_cons_of_mem _ hy)
    rw [List.map_cons, List.sum_cons, List.length_cons, Nat.add_mul]
    omega
theorem join_len {zs : List Str} (h : ∀ z ∈ zs, z.length ≤ 100) : (Txt.join " " zs).length ≤ zs.length * 101 := by
  rw [TL.len_tl, TL.join_eq, TL.tl_join]
  have h1 := joinL_len (TL.tl " ") (zs.map TL.tl)
  have h2 := sum_le h
  have e1 : ((zs.map TL.tl).map List.length).sum = (zs.map (·.length)).sum := by
    rw [List.map_map]
    exact congrArg List.sum (List.map_congr_left fun z _ => (TL.len_tl z).symm)
  have e2 : (TL.tl " ").length = 1 := by decide +kernel
  rw [e1, e2, List.length_map] at h1
  omega
theorem wtext_len {ms : List Mv} (h : WordOk ms) : (wtext ms).length ≤ 90000 := by
  have h1 := join_len (zs := wp ms) fun z hz => (wp_ok h.ok z hz).2.1
  have h2 := wp_len ms
  have h3 := h.l4
  unfold wtext
  omega
theorem ex_perm {xs : List Int} {x y : Nat} (hx : x < xs.length) (hy : y < xs.length) : (exF xs x y).Perm xs := by
  unfold exF
  rw [getD_get hx, getD_get hy]
  exact List.set_set_perm hx hy
theorem ro_perm {xs : List Int} {x y : Nat} {c : Int} (hxy : x ≤ y) (hy : y < xs.length) : (roF xs x y c).Perm xs := by
  unfold roF
  simp only []
  generalize eb : (xs.drop x).take (y + 1 - x) = B
  generalize ((B.length : Int) - Int.fmod c (B.length : Int)).toNat = k
  have e1 : xs.take x ++ B ++ xs.drop (y + 1) = xs := by
    rw [← eb, List.append_assoc]
    have e2 : (xs.drop x).take (y + 1 - x) ++ xs.drop (y + 1) = xs.drop x := by
      conv => rhs; rw [← List.take_append_drop (y + 1 - x) (xs.drop x)]
      rw [List.drop_drop, show x + (y + 1 - x) = y + 1 by omega]
    rw [e2]
    exact List.take_append_drop x xs
  have p1 : (B.drop k ++ B.take k).Perm B := by
    have := List.perm_append_comm (l₁ := B.drop k) (l₂ := B.take k)
    rw [List.take_append_drop] at this
    exact this
  have p2 : (xs.take x ++ B.drop k ++ B.take k ++ xs.drop (y + 1)).Perm (xs.take x ++ B ++ xs.drop (y + 1)) := by
    rw [List.append_assoc (xs.take x)]
    exact (p1.append_left (xs.take x)).append_right (xs.drop (y + 1))
  rw [e1] at p2
  exact p2
theorem mv_perm (m : Mv) (xs : List Int) : (mvF m xs).Perm xs := by
  cases m with
  | turn => exact List.reverse_perm xs
  | exch x y =>
    simp only [mvF]
    split
    · rename_i h
      simp only [inB, Bool.and_eq_true, decide_eq_true_eq] at h
      exact ex_perm (by omega) (by omega)
    · exact List.Perm.refl _
  | roll x y c =>
    simp only [mvF]
    split
    · rename_i h
      simp only [inB, Bool.and_eq_true, decide_eq_true_eq] at h
      exact ro_perm (by omega) (by omega)
    · exact List.Perm.refl _
theorem ri_sorted (n : Nat) : (ri n).Pairwise (· ≤ ·) := by
  unfold ri
  rw [List.pairwise_map]
  exact List.Pairwise.imp (fun h => by omega) (List.pairwise_lt_range (n := n))
theorem ne_false {xs ys : List Int} {A B : Prop} (h : xs = ys) (q : B) : if (!PyData.eqv (iD xs) (iD ys)) = true then A else B := by
  subst h
  rw [eqv_ints, decide_eq_true rfl]
  exact q
theorem eqv_all_mvs : ∀ ms ns : List Mv, PyData.eqvAll (ms.map mvD) (ns.map mvD) = decide (ms = ns)
  | [], [] => by simp [PyData.eqvAll]
  | [], _ :: _ => by simp [PyData.eqvAll]
  | _ :: _, [] => by simp [PyData.eqvAll]
  | x :: r, y :: u => by
    simp only [List.map_cons, PyData.eqvAll, eqv_mv, eqv_all_mvs r u, List.cons.injEq]
    by_cases h1 : x = y <;> by_cases h2 : r = u <;> simp [h1, h2]
theorem ne_mvs {ms ns : List Mv} {A B : Prop} (h : ms = ns) (q : B) : if (!PyData.eqv (.tuple (ms.map mvD)) (.tuple (ns.map mvD))) = true then A else B := by
  subst h
  rw [PyData.eqv, eqv_all_mvs, decide_eq_true rfl]
  exact q
theorem shaped_strsL {zs : List Str} (h : ∀ z ∈ zs, PyData.strOk z = true) : SeqAt.shaped (.list (zs.map PyData.str)) = true := by
  unfold SeqAt.shaped
  rw [Bool.and_eq_true, decide_eq_true_eq]
  refine ⟨by rw [PyData.canLay0]; exact lay_strs h, ?_⟩
  have := deep_strs zs
  rw [PyData.depth]
  omega
theorem eqv_turn (m : Mv) : PyData.eqv (.list (m.parts.map PyData.str)) (.list ((["turn"] : List Str).map PyData.str)) = decide (m = .turn) := by
  rw [PyData.eqv, eqv_all_strs]
  by_cases h : m = .turn
  · subst h
    rfl
  · have : ¬ m.parts = ([("turn" : Str)] : List Str) := fun e => h (Mv.inj.mp (e.trans rfl))
    simp [h, this]
theorem flW_at (ms : List Mv) (t : Addr) : (flW ms t).lookup ("at" : Str) = none := by
  unfold flW
  rw [lookup_putF, if_neg (by decide +kernel), lookup_putF, if_neg (by decide +kernel), lookup_putF, if_neg (by decide +kernel)]
  rfl

/-! ### == by an own __eq__, with both answers; the other value a text or an instance -/
inductive EqTy (H : Hp) : V → Value → Prop where
  | str (y : Str) : EqTy H (.str y) (.type "str")
  | ins {p C : Addr} {dx : Addr} {fs : List (Str × V)} (e : H p = some (.ins C dx fs)) : EqTy H (.ref p) (.ref C)
def rEqOwn (K : PySem.W.Frag) (C : Addr) (sp : Sp) (E : XK) : R2 := fun x y H Q => ∃ (p dx : Addr) (fs : List (Str × V)) (tb : Value), x = .ref p ∧ H p = some (.ins C dx fs) ∧ EqTy H y tb ∧ PySem.W.notFirst K C tb = true ∧ sp [x, y] H (fun v H' => (∃ b, v = .bl b) ∧ Q v H') E
theorem op_eq_own {X : Cx} {n : Nat} {CX : CXT} {C f : Addr} {fd : FuncData} {ps : List Str} {sp : Sp} {E : XK} (F : FnOk X.prog X.w X.K X.mg X.base CX n f fd ps sp) (hr : Room n X.A)
    (hs : PySem.W.findIn X.K (.ref C) "__eq__" = some (some (.ref f))) (hf : PySem.W.isFn X.K (.ref f) = true) (hb : Binds X.K fd ps []) (hx : Passes CX X E) : OpR X (compareOp .Eq) (rEqOwn X.K C sp E) := by
  rintro pins s σ H x y v u Q I rx ry ⟨p, dx, fs, tb, rfl, hp, ty, hn, hsp⟩
  cases rx
  obtain ⟨mA, J, _⟩ := ins_get I.hok hp
  obtain ⟨od, J, _⟩ := J.look
  obtain ⟨m, hF⟩ := I.fr
  have hT : PySem.W.Looks (model X.prog X.w) s.heap (typeOf u) tb := by
    cases ty with
    | str z =>
      obtain ⟨t, q⟩ := (show ∃ t, u = Value.str z t from ry)
      cases q
      exact .now
    | @ins b C' dy gs e =>
      cases (show u = Value.ref b from ry)
      obtain ⟨mB, J', _⟩ := ins_get I.hok e
      obtain ⟨od', J', _⟩ := J'.look
      exact J'.type
  show wpAny (model X.prog X.w) X.A (richCompare .Eq (.ref p) u) (EP X pins σ Q) X.xe s
  refine PySem.W.cmp_K (op := .Eq) (tb := tb) hr.units0 hF I.ok.mod.kin J hT hn hs hf ?_
  refine wpAny_mono (run_fn F hr hb .nil hx I (show Vals [V.ref p, y] [Value.ref p, u] from .cons rfl (.cons ry .nil)) hsp) (fun w s' z => ?_) fun _ _ h => h
  obtain ⟨z, H', I', rz, ⟨b, ez⟩, q⟩ := z
  subst ez
  cases (show w = Value.bool b from rz)
  exact ⟨.bl b, H', I', rfl, q⟩

/-! ### moves as lists of lists, joined texts, naturality of moves -/
def HeldL (H : Hp) : List Addr → List Mv → Prop
  | [], [] => True
  | p :: ps, m :: ms => H p = some (.lst (strsV m.parts)) ∧ HeldL H ps ms
  | _, _ => False
theorem HeldL.len {H : Hp} : ∀ {ps : List Addr} {ms : List Mv}, HeldL H ps ms → ps.length = ms.length
  | [], [], _ => rfl
  | _ :: _, _ :: _, h => congrArg (· + 1) h.2.len
theorem HeldL.mono {H H' : Hp} : ∀ {ps : List Addr} {ms : List Mv}, (∀ p ∈ ps, ∀ m ∈ ms, H p = some (.lst (strsV m.parts)) → H' p = some (.lst (strsV m.parts))) → HeldL H ps ms → HeldL H' ps ms
  | [], [], _, _ => trivial
  | p :: ps, m :: ms, h, x => ⟨h p (List.mem_cons_self ..) m (List.mem_cons_self ..) x.1, HeldL.mono (fun q hq n hn => h q (List.mem_cons_of_mem _ hq) n (List.mem_cons_of_mem _ hn)) x.2⟩
theorem HeldL.same {H H' : Hp} {ps : List Addr} {ms : List Mv} (x : HeldL H ps ms) (h : Same H H') : HeldL H' ps ms := x.mono fun _ _ _ _ e => h _ _ e
theorem HeldL.butd {d : Addr} {H H' : Hp} {kvs : List (Key × V)} (x : But d H H') (hd : H d = some (.dK kvs)) {ps : List Addr} {ms : List Mv} (h : HeldL H ps ms) : HeldL H' ps ms :=
  h.mono fun _ _ _ _ e => x.list hd e
theorem HeldL.snoc {H : Hp} {p : Addr} {m : Mv} (e : H p = some (.lst (strsV m.parts))) : ∀ {ps : List Addr} {ms : List Mv}, HeldL H ps ms → HeldL H (ps ++ [p]) (ms ++ [m])
  | [], [], _ => ⟨e, trivial⟩
  | _ :: _, _ :: _, h => ⟨h.1, HeldL.snoc e h.2⟩
theorem HeldL.drop {H : Hp} : ∀ {ps : List Addr} {ms : List Mv} (k : Nat), HeldL H ps ms → HeldL H (ps.drop k) (ms.drop k)
  | [], [], k, _ => by simp [HeldL]
  | _ :: _, _ :: _, 0, h => h
  | _ :: _, _ :: _, k + 1, h => h.2.drop k
theorem HeldL.get {H : Hp} : ∀ {ps : List Addr} {ms : List Mv}, HeldL H ps ms → ∀ {i : Nat} {m : Mv}, ms[i]? = some m → ∃ p, ps[i]? = some p ∧ H p = some (.lst (strsV m.parts))
  | [], [], _, i, m, h => by simp at h
  | r :: rs, n :: ms, hh, 0, m, h => by
    cases h
    exact ⟨r, rfl, hh.1⟩
  | r :: rs, n :: ms, hh, i + 1, m, h => by
    obtain ⟨x, hx, hy⟩ := HeldL.get hh.2 (i := i) (m := m) (by simpa using h)
    exact ⟨x, by simpa using hx, hy⟩
def mvL (m : Mv) : PyData := .list (m.parts.map PyData.str)
theorem dp_mvl {K : PySem.W.Frag} {H : Hp} : ∀ {ps : List Addr} {ms : List Mv}, HeldL H ps ms → DpAll K H (ps.map V.ref) (ms.map mvL)
  | [], [], _ => .nil
  | _ :: _, _ :: _, h => .cons (.lst (SqL.at h.1) (dp_strs _)) (dp_mvl h.2)
theorem WordAt.butd {C d : Addr} {H H' : Hp} {kvs : List (Key × V)} (x : But d H H') (hd : H d = some (.dK kvs)) {p : Addr} {ms : List Mv} (h : WordAt C H p ms) : WordAt C H' p ms := by
  obtain ⟨dx, t, rs, z1, z2, z3⟩ := h
  exact ⟨dx, t, rs, x _ _ z1 (ne_of z1 hd (by intro z; cases z)), x.tup hd z2, Held.butd x hd z3⟩
theorem joinL_append {S : List Nat} : ∀ {P R : List (List Nat)}, P ≠ [] → R ≠ [] → TL.joinL S (P ++ R) = TL.joinL S P ++ (S ++ TL.joinL S R)
  | [], _, h, _ => absurd rfl h
  | [p], [], _, h => absurd rfl h
  | [p], q :: r, _, _ => rfl
  | p :: q :: r, R, _, hR => by
    show p ++ (S ++ TL.joinL S (q :: r ++ R)) = (p ++ (S ++ TL.joinL S (q :: r))) ++ _
    rw [joinL_append (by simp) hR]
    simp only [List.append_assoc]
theorem parts_ne (m : Mv) : m.parts ≠ [] := by cases m <;> simp [Mv.parts]
theorem joinL_wp (S t : List Nat) (et : TL.tl sThen = t) : ∀ ms : List Mv, TL.joinL (S ++ (t ++ S)) (ms.map fun m => TL.joinL S (m.parts.map TL.tl)) = TL.joinL S ((wp ms).map TL.tl)
  | [] => rfl
  | [m] => rfl
  | m :: n :: r => by
    have ih := joinL_wp S t et (n :: r)
    show TL.joinL S (m.parts.map TL.tl) ++ ((S ++ (t ++ S)) ++ TL.joinL (S ++ (t ++ S)) ((n :: r).map fun m => TL.joinL S (m.parts.map TL.tl))) = TL.joinL S ((m.parts ++ sThen :: wp (n :: r)).map TL.tl)
    rw [ih, List.map_append, List.map_cons, et]
    have hm : m.parts.map TL.tl ≠ [] := by
      intro z
      exact parts_ne m (List.map_eq_nil_iff.mp z)
    have hw : (wp (n :: r)).map TL.tl ≠ [] := by
      intro z
      exact wp_ne (ms := n :: r) (by simp) (List.map_eq_nil_iff.mp z)
    rw [joinL_append hm (by simp), show t :: (wp (n :: r)).map TL.tl = [t] ++ (wp (n :: r)).map TL.tl from rfl, joinL_append (by simp) hw]
    show _ ++ (S ++ (t ++ S) ++ _) = _ ++ (S ++ (t ++ (S ++ _)))
    simp only [List.append_assoc]
theorem join_wtext (ms : List Mv) : Txt.join " then " (ms.map fun m => Txt.join " " m.parts) = wtext ms := by
  refine TL.ext_tl ?_
  unfold wtext
  rw [TL.join_eq, TL.tl_join, TL.join_eq, TL.tl_join, List.map_map]
  have e := joinL_wp (TL.tl " ") (TL.tl sThen) rfl ms
  rw [← e]
  have e2 : TL.tl " then " = TL.tl " " ++ (TL.tl sThen ++ TL.tl " ") := by decide +kernel
  rw [e2]
  refine congrArg _ (List.map_congr_left fun m _ => ?_)
  show TL.tl (Txt.join " " m.parts) = _
  rw [TL.join_eq, TL.tl_join]
theorem wtext_one (m : Mv) : Txt.join " " m.parts = wtext [m] := rfl
theorem joinL_suff {S : List Nat} : ∀ {P : List (List Nat)} {q : List Nat} {r : List (List Nat)}, (TL.joinL S (q :: r)).length ≤ (TL.joinL S (P ++ q :: r)).length
  | [], q, r => Nat.le_refl _
  | p :: P, q, r => by
    have h := @joinL_suff S P q r
    have e : TL.joinL S (p :: P ++ q :: r) = TL.joinL S ([p] ++ (P ++ q :: r)) := rfl
    rw [e, joinL_append (by simp) (by simp), List.length_append, List.length_append]
    omega
theorem wtext_tail {m : Mv} {ms : List Mv} (h : ms ≠ []) : wtext (m :: ms) ≠ wtext ms := by
  cases ms with
  | nil => exact absurd rfl h
  | cons n r =>
    intro e
    have e1 := congrArg Str.length e
    unfold wtext at e1
    rw [TL.len_tl, TL.len_tl, TL.join_eq, TL.join_eq, TL.tl_join, TL.tl_join] at e1
    have hm : m.parts.map TL.tl ≠ [] := fun z => parts_ne m (List.map_eq_nil_iff.mp z)
    have hw : (wp (n :: r)).map TL.tl ≠ [] := fun z => wp_ne (ms := n :: r) (by simp) (List.map_eq_nil_iff.mp z)
    have e2 : (wp (m :: n :: r)).map TL.tl = m.parts.map TL.tl ++ (TL.tl sThen :: (wp (n :: r)).map TL.tl) := by
      show (m.parts ++ sThen :: wp (n :: r)).map TL.tl = _
      rw [List.map_append, List.map_cons]
    rw [e2, joinL_append hm (by simp), show TL.tl sThen :: (wp (n :: r)).map TL.tl = [TL.tl sThen] ++ (wp (n :: r)).map TL.tl from rfl, joinL_append (by simp) hw] at e1
    have e3 : (TL.tl " ").length = 1 := by decide +kernel
    simp only [List.length_append, e3] at e1
    omega
theorem ex_map (f : Int → Int) {xs : List Int} {x y : Nat} (hx : x < xs.length) (hy : y < xs.length) : exF (xs.map f) x y = (exF xs x y).map f := by
  have g : ∀ {i : Nat} (h : i < xs.length), (xs.map f).getD i 0 = f (xs.getD i 0) := fun {i} h => by
    rw [List.getD_eq_getElem?_getD, List.getD_eq_getElem?_getD, List.getElem?_map, List.getElem?_eq_getElem h]
    rfl
  unfold exF
  rw [g hx, g hy, List.map_set, List.map_set]
theorem ro_map (f : Int → Int) (xs : List Int) (x y : Nat) (c : Int) : roF (xs.map f) x y c = (roF xs x y c).map f := by
  unfold roF
  simp only [← List.map_drop, ← List.map_take, List.length_map, List.map_append]
theorem mv_map (f : Int → Int) (m : Mv) (xs : List Int) : mvF m (xs.map f) = (mvF m xs).map f := by
  cases m with
  | turn => exact List.map_reverse.symm
  | exch x y =>
    simp only [mvF, List.length_map]
    split
    · rename_i h
      simp only [inB, Bool.and_eq_true, decide_eq_true_eq] at h
      exact ex_map f (by omega) (by omega)
    · rfl
  | roll x y c =>
    simp only [mvF, List.length_map]
    split
    · exact ro_map f _ _ _ _
    · rfl
/-- the moves of a row are those of the plain row, picked -/
theorem mv_pick (m : Mv) (xs : List Int) : pickI xs (mvF m (ri xs.length)) = mvF m xs := by
  conv => rhs; rw [← pick_ri xs]
  unfold pickI
  rw [mv_map]
theorem all_perm : ∀ (ms : List Mv) (xs : List Int), (allF ms xs).Perm xs
  | [], xs => List.Perm.refl _
  | m :: r, xs => (all_perm r (mvF m xs)).trans (mv_perm m xs)
theorem all_snoc (ms : List Mv) (m : Mv) (xs : List Int) : allF (ms ++ [m]) xs = mvF m (allF ms xs) := by
  unfold allF
  rw [List.foldl_append]
  rfl
theorem all_row (ms : List Mv) (n : Nat) : IsRow (allF ms (ri n)) := isRow_of n (all_perm ms (ri n))
section
variable {P : Program} {w : World} {K : PySem.W.Frag} {mg : Str → Option Value} {base : Heap} {a : Ad}
theorem eq_texts {x y : Str} {H : Hp} {Q : VK} (k : Q (.bl (decide (x = y))) H) : rEq (.str x) (.str y) H Q := by
  refine ⟨rfl, ?_⟩
  have e : decide (V.str x = V.str y) = decide (x = y) := decide_eq_decide.mpr ⟨fun h => V.str.inj h, fun h => congrArg _ h⟩
  rw [e]
  exact k
def spWordEq (C : Addr) : Sp := fun vs H Q _ => ∃ (p : Addr) (ms : List Mv), WordAt C H p ms ∧ ((∃ (q : Addr) (ns : List Mv), vs = [.ref p, .ref q] ∧ WordAt C H q ns ∧ Q (.bl (decide (wtext ms = wtext ns))) H) ∨ (∃ s : Str, vs = [.ref p, .str s] ∧ Q (.bl false) H))
theorem ok_Word_eq (T : Tx w K mg a) : FnOk P w K mg base CX0 1 a.f_Word_eq a.d_Word_eq ["self", "other"] (spWordEq a.C_Word) := by
  refine T.F_Word_eq.ok sc_Word_eq (fun vs H Q E h => ?_) (fun cdv A outer s H vs Q E hr h => ?_)
  · obtain ⟨p, ms, _, h | h⟩ := h
    · obtain ⟨q, ns, rfl, _⟩ := h
      rfl
    · obtain ⟨s, rfl, _⟩ := h
      rfl
  · obtain ⟨p, ms, hp, h⟩ := h
    refine ⟨_, 
(pss_one (ps_ret (pe_and (pe_callB call_isi (by rfl) T.z_isinstance (by decide +kernel) (pa_cons (pv 1) (pa_cons (pe_glob (v := .ref a.C_Word) (by rfl) T.c_Word rfl) pa_nil))) (pe_one (pe_cmpR op_eq (pe_fld (pv 0) rfl) (pe_fld (pv 1) rfl) (nomark _)))))), ?_⟩
    obtain ⟨dx, t, rs, p1, p2, p3⟩ := hp
    rcases h with ⟨q, ns, rfl, hq, k⟩ | ⟨s, rfl, k⟩
    · obtain ⟨dy, u, rq, q1, q2, q3⟩ := hq
      refine ⟨.ref q, rfl, ?_⟩
      refine ⟨.ref q, .ref a.C_Word, .ref a.C_Word, .ref a.C_Word, true, rfl, .own _, .base (.ins q1 T.cl_Word T.ow_Word.cls T.ow_Word.get T.ow_Word.tak T.ow_Word.mro), ?_, ?_⟩
      · unfold PySem.W.kitOne
        rw [if_pos (by simp)]
      exact ⟨true, rfl, .ref p, rfl, p, a.C_Word, dx, _, _, rfl, p1, T.cl_Word, T.n_Word_text, flW_text _ _, .ref q, rfl, q, a.C_Word, dy, _, _, rfl, q1, T.cl_Word, T.n_Word_text, flW_text _ _, eq_texts k⟩
    · refine ⟨.str s, rfl, ?_⟩
      refine ⟨.str s, .ref a.C_Word, .type "str", .ref a.C_Word, false, rfl, .own _, .base (.str _), T.ow_Word.kit, ?_⟩
      exact ⟨false, rfl, k⟩
end

/-- join, its reading with K by name (in a comprehension) -/
def rJoinK (K : PySem.W.Frag) : V → List V → Hp → VK → Prop := fun x xs H Q => ∃ a p, ∃ ys : List Str, x = .str a ∧ xs = [.ref p] ∧ (SqL K H p (ys.map V.str) ∨ SqT K H p (ys.map V.str)) ∧ (ys.map (·.length)).sum + ys.length * a.length ≤ 16777216 ∧ Q (.str (Txt.join a ys)) H
theorem pe_joinK {X : Cx} {K : PySem.W.Frag} {o e : Expr} {to te : TE} {apos pos : Pos} (hK : X.K = K) (ho : PE X o to) (he : PE X e te) (hs : starEach [e] X.env = [(false, eval e X.env)] := by rfl) (hbase : attributeBase o "join" X.env (eval o X.env) = eval o X.env := by rfl) (hline : (apos.endLine == pos.line) = true := by rfl) :
    PE X (.Call (.Attribute o "join" apos) [e] [] pos) (tM1 (rJoinK K) to te) := by
  subst hK
  exact pe_join ho he hs hbase hline
/-- tuple(x), its reading with K by name -/
def rTupOf (K : PySem.W.Frag) : List V → Hp → VK → Prop := fun xs H Q => ∃ p ys, xs = [V.ref p] ∧ ((SqL K H p ys ∧ ∀ (l : Addr), H l = none → Q (V.ref l) (upd H l (HO.tup ys))) ∨ SqT K H p ys ∧ Q (V.ref p) H)
theorem call_tuple_ofK {X : Cx} {K : PySem.W.Frag} (hK : X.K = K) : CallR X (.type "tuple") (rTupOf K) := by
  subst hK
  exact call_tuple_of
section
variable {P : Program} {w : World} {K : PySem.W.Frag} {mg : Str → Option Value} {base : Heap} {a : Ad}
theorem But.free {d c o : Addr} {n : Nat} {H H' : Hp} (b : But d H H') (hp : Pen H' d c n) (no : H' o = none) : H o = none := by
  obtain ⟨kvs, hd⟩ := hp.dict
  cases hH : H o with
  | none => rfl
  | some u =>
    by_cases hod : o = d
    · subst hod
      rw [hd] at no
      cases no
    · rw [b o u hH hod] at no
      cases no
theorem shaped_mvl {m : Mv} (h : m.ok) : SeqAt.shaped (mvL m) = true := by
  unfold SeqAt.shaped
  rw [Bool.and_eq_true, decide_eq_true_eq]
  refine ⟨by unfold mvL; rw [PyData.canLay0]; exact lay_strs fun z hz => (Mv.str_ok h z hz).1, ?_⟩
  have := deep_strs m.parts
  unfold mvL
  rw [PyData.depth]
  omega
theorem shaped_mvls {ms : List Mv} (h : ∀ m ∈ ms, m.ok) : SeqAt.shaped (.list (ms.map mvL)) = true ∧ SeqAt.shaped (.tuple (ms.map mvL)) = true := by
  have hl : PyData.canLayAll0 (ms.map mvL) = true := by
    induction ms with
    | nil => simp [PyData.canLayAll0]
    | cons m r ih =>
      simp only [List.map_cons, PyData.canLayAll0, Bool.and_eq_true]
      exact ⟨by unfold mvL; rw [PyData.canLay0]; exact lay_strs fun z hz => (Mv.str_ok (h m (List.mem_cons_self ..)) z hz).1, ih fun y hy => h y (List.mem_cons_of_mem _ hy)⟩
  have hd : PyData.depthAll (ms.map mvL) ≤ 2 := by
    clear h hl
    induction ms with
    | nil => simp [PyData.depthAll]
    | cons m r ih =>
      have := deep_strs m.parts
      simp only [List.map_cons, PyData.depthAll, mvL, PyData.depth]
      omega
  unfold SeqAt.shaped
  simp only [Bool.and_eq_true, decide_eq_true_eq]
  refine ⟨⟨by rw [PyData.canLay0]; exact hl, ?_⟩, by rw [PyData.canLay0]; exact hl, ?_⟩
  · rw [PyData.depth]
    omega
  · rw [PyData.depth]
    omega
theorem oneTurn_snoc {ms : List Mv} {m : Mv} (h : oneTurn ms) (hm : Mv.turn ∈ ms → m ≠ .turn) : oneTurn (ms ++ [m]) := by
  intro pre x post e ex
  rcases List.eq_nil_or_concat post with rfl | ⟨L, y, rfl⟩
  · have e2 := List.append_inj' e rfl
    obtain ⟨rfl, e3⟩ := e2
    cases e3
    exact fun z => hm z ex
  · have e1 : ms ++ [m] = (pre ++ x :: L) ++ [y] := by rw [e]; simp
    have e2 := List.append_inj' e1 rfl
    exact h pre x L e2.1 ex
theorem any_mvl (m : Mv) (ms : List Mv) : ((ms.map mvL).any fun z => PyData.eqv z (mvL m)) = decide (m ∈ ms) := by
  induction ms with
  | nil => simp
  | cons n r ih =>
    rw [List.map_cons, List.any_cons, ih]
    have e : PyData.eqv (mvL n) (mvL m) = decide (n = m) := by
      unfold mvL
      rw [PyData.eqv, eqv_all_strs]
      exact decide_eq_decide.mpr Mv.inj
    rw [e]
    by_cases h1 : n = m <;> by_cases h2 : m ∈ r <;> simp [h1, h2, eq_comm]
    exact fun z => absurd z.symm h1
def spLawMoves : Sp := fun vs H Q _ => ∃ (d c : Addr) (n : Nat), vs = [.ref d] ∧ Pen H d c n ∧ n + 200 < 2 ^ 40 ∧
  ∀ o ps ms H', WordOk ms → H o = none → H' o = some (.lst (ps.map V.ref)) → HeldL H' ps ms → (∀ p ∈ ps, H p = none) → Pen H' d c (n + 100) → But d H H' → Q (.ref o) H'
theorem ok__law_moves (T : Tx w K mg a) : FnOk P w K mg base CX0 4 a.f__law_moves a.d__law_moves ["pen"] spLawMoves := by
  refine T.F__law_moves.ok sc__law_moves (fun vs H Q E h => ?_) (fun cdv A outer s H vs Q E hr h => ?_)
  · obtain ⟨d, c, n, rfl, _⟩ := h
    rfl
  · obtain ⟨d, c, n, rfl, hp, hn, q⟩ := h
    refine ⟨_, 
(pss_cons (ps_set (i := 1) sc__law_moves.nd rfl (.inl rfl) (pe_lst pa_nil))
  (pss_cons (ps_for PassesOwn.never rfl (pi_range1 (by rfl) T.z_range (pa_cons (pe_op op_add pe_int (pe_call (ok__law_draw T) (hr.mono (by decide)) (by rfl) T.m__law_draw T.F__law_draw.kp T.b__law_draw .nil pass0 (pa_cons (pv 0) (pa_cons pe_int pa_nil)))) pa_nil)) (pg_name (i := 2) sc__law_moves.nd rfl (.inl rfl))
  (pss_one (ps_expr (pe_bm PySem.F.plainAttrs_list PySem.F.slot_list_append PySem.F.type_list_append mt_append (pv 1) (pa_cons (pe_call (ok__law_move T) hr (by rfl) T.m__law_move T.F__law_move.kp T.b__law_move .nil pass0 (pa_cons (pv 0) (pa_cons (pe_cmpR (op_inD (room65 hr)) (pe_lst (pa_cons pe_str pa_nil)) (pv 1) (by rfl)) pa_nil))) pa_nil)))))
  (pss_one (ps_ret (pv 1))))), ?_⟩
    refine ⟨sz (show 0 ≤ 100000 by decide), fun o no => ?_⟩
    have s1 := same_upd (o := .lst []) no
    refine ⟨.ref d, rfl, d, c, n, 4, rfl, hp.same s1, by omega, by decide, by decide, fun v H2 v0 v1 hp2 b2 => ?_⟩
    have do' : d ≠ o := by
      obtain ⟨kvs, hd⟩ := hp.dict
      exact ne_of_none hd no
    have co : c ≠ o := by
      obtain ⟨u, hc⟩ := hp.cells
      exact ne_of_none hc no
    have b02 : But d H H2 := (but_same s1).trans b2
    have ho2 : H2 o = some (.lst (([] : List Addr).map V.ref)) := by
      obtain ⟨kvs, hd⟩ := (hp.same s1).dict
      exact b2.list hd upd_same
    refine ⟨1, v, rfl, rfl, _, rfl, by omega, by omega, ?_⟩
    refine for_range (lo := 0) (n := (1 + v).toNat) (fun i σ H3 => ∃ (ps : List Addr) (ms : List Mv) (y : Option V), σ = [some (.ref d), some (.ref o), y] ∧ ms.length = i ∧ (∀ m ∈ ms, m.ok) ∧ oneTurn ms ∧ H3 o = some (.lst (ps.map V.ref)) ∧ HeldL H3 ps ms ∧ (∀ p ∈ ps, H p = none ∧ p ≠ o) ∧ Pen H3 d c (n + 1 + 20 * i) ∧ But d H H3) ?_ ?_ ?_
    · exact ⟨[], [], none, rfl, rfl, fun m h => (by cases h), fun pre m post e => by simp at e, ho2, trivial, fun p h => (by cases h), hp2, b02⟩
    rotate_left
    · rintro σ H3 ⟨ps, ms, y, rfl, hl, hok, h1, ho3, hh, hps, hp3, b3⟩
      have hl2 : 1 ≤ ms.length ∧ ms.length ≤ 4 := by omega
      refine ⟨.ref o, rfl, ?_⟩
      exact q o ps ms H3 ⟨fun e => (by rw [e] at hl2; simp at hl2), hl2.2, hok, h1⟩ no ho3 hh (fun p hp => (hps p hp).1) (hp3.up (by omega)) b3
    rintro i σ H3 hi ⟨ps, ms, y, rfl, hl, hok, h1, ho3, hh, hps, hp3, b3⟩
    have hi4 : i < 4 := by omega
    have hpl := hh.len
    -- found.append(_law_move(pen, ['turn'] in found))
    refine ⟨.ref o, rfl, ?_⟩
    refine ⟨.inl ⟨rfl, _, SqL.at ho3⟩, .ref d, rfl, sz (show 1 ≤ 100000 by decide), fun l nl => ?_⟩
    have s4 := same_upd (o := .lst [V.str "turn"]) nl
    have ho4 := s4 _ _ ho3
    have hh4 := hh.same s4
    have hp4 := hp3.same s4
    have hl4 : (upd H3 l (.lst [V.str "turn"])) l = some (.lst [V.str "turn"]) := upd_same
    generalize upd H3 l (.lst [V.str "turn"]) = H4 at s4 ho4 hh4 hp4 hl4 ⊢
    refine ⟨.ref o, rfl, mvL .turn, ms.map mvL, .lst (SqL.at hl4) (dp_strs ["turn"]), .lst (SqL.at ho4) (dp_mvl hh4), shaped_mvl trivial, (shaped_mvls hok).1, ?_⟩
    rw [any_mvl]
    refine ⟨d, c, n + 1 + 20 * i, decide (Mv.turn ∈ ms), rfl, hp4, by omega, fun p m H5 hm ht np hp5' hp5 b5 => ?_⟩
    obtain ⟨kvs, hd4⟩ := hp4.dict
    have b35 : But d H3 H5 := (but_same s4).trans b5
    have np3 : H3 p = none := s4.free np
    have nH : H p = none := b3.free hp3 np3
    have npo : p ≠ o := (ne_of_none ho3 np3).symm
    have ho5 := b5.list hd4 ho4
    have hh5 := HeldL.butd b5 hd4 hh4
    refine ⟨o, _, _, rfl, rfl, ho5, szlt (by rw [List.length_map]; omega), ?_⟩
    refine ⟨ps ++ [p], ms ++ [m], _, rfl, by rw [List.length_append, hl]; rfl, ?_, oneTurn_snoc h1 fun hz => ht (decide_eq_true hz), ?_, ?_, ?_, (hp5.mut do' co).up (by omega), (b3.trans b35).mut no⟩
    · intro x hx
      rcases List.mem_append.mp hx with h | h
      · exact hok x h
      · rw [List.mem_singleton.mp h]
        exact hm
    · rw [upd_same, List.map_append]
      rfl
    · refine HeldL.snoc ?_ (HeldL.mono (fun q hq x hx e => ?_) hh5)
      · rw [upd_ne npo]
        exact hp5'
      · rw [upd_ne (hps q hq).2]
        exact e
    · intro x hx
      rcases List.mem_append.mp hx with h | h
      · exact hps x h
      · rw [List.mem_singleton.mp h]
        exact ⟨nH, npo⟩
theorem tparts_len {m : Mv} (h : m.ok) : ((m.parts).map (·.length)).sum + m.parts.length * (Str.ofString " ").length ≤ 16777216 := by
  have h1 := sum_le (zs := m.parts) fun z hz => (Mv.str_ok h z hz).2.1
  have h2 : m.parts.length ≤ 4 := by cases m <;> simp [Mv.parts]
  have h3 : (Str.ofString " ").length = 1 := by decide +kernel
  rw [h3]
  omega
theorem sum_leB {B : Nat} : ∀ {zs : List Str}, (∀ z ∈ zs, z.length ≤ B) → (zs.map (·.length)).sum ≤ zs.length * B
  | [], _ => by simp
  | z :: r, h => by
    have h1 := h z (List.mem_cons_self ..)
    have h2 := sum_leB (zs := r) fun y hy => h y (List.mem_cons_of_mem _ hy)
    rw [List.map_cons, List.sum_cons, List.length_cons, Nat.add_mul]
    omega
def spWordText (K : PySem.W.Frag) : Sp := fun vs H Q _ => ∃ (o : Addr) (ps : List Addr) (ms : List Mv), vs = [.ref o] ∧ SqL K H o (ps.map V.ref) ∧ HeldL H ps ms ∧ ms.length ≤ 4 ∧ (∀ m ∈ ms, m.ok) ∧ ∀ H', Same H H' → Q (.str (wtext ms)) H'
theorem ok__law_word_text (T : Tx w K mg a) : FnOk P w K mg base CX0 1 a.f__law_word_text a.d__law_word_text ["moves"] (spWordText K) := by
  refine T.F__law_word_text.ok sc__law_word_text (fun vs H Q E h => ?_) (fun cdv A outer s H vs Q E hr h => ?_)
  · obtain ⟨o, ps, ms, rfl, _⟩ := h
    rfl
  · obtain ⟨o, ps, ms, rfl, hO, hh, hl, hok, q⟩ := h
    refine ⟨_, 
(pss_one (ps_ret (pe_join pe_str (pe_lc (own := [("move", 1)]) (g := gName 1) rfl sc__law_word_text.nd (pi_list (pv 0)) (blkOk_by (own := [("move", 1)]) (N := ["moves", "move"]) (sc := defScope s__law_word_text) (by decide +kernel)) (fun _ _ _ _ _ => pg_name (i := 1) sc__law_word_text.nd rfl (Or.inl rfl)) (fun _ _ _ _ _ => pts_nil) (fun _ _ _ _ _ => (pe_joinK (K := K) rfl pe_str (pv 1))))))), ?_⟩
    refine ⟨⟨_, rfl⟩, .ref o, rfl, o, rfl, ⟨_, hO⟩, fun o5 no5 => ?_⟩
    have hpl := hh.len
    refine lc_it (walk_list (xs := ps.map V.ref)) (fun l H' => Same H H' ∧ H' o5 = some (.lst (((ms.take l).map fun m => Txt.join " " m.parts).map V.str))) ?c0 ?cG ?cs ?cd
    case c0 => exact ⟨same_upd no5, upd_same⟩
    case cG =>
      rintro l H' _ ⟨sm, _⟩
      exact sm.seq hO
    case cs =>
      rintro l y H3' H4'' hlt ⟨sm, e⟩ ⟨rfl, ex⟩
      rw [List.length_map, hpl] at hlt
      obtain ⟨p, hp, ep⟩ := hh.get (List.getElem?_eq_getElem hlt)
      rw [List.getElem?_map, hp] at ex
      cases ex
      refine ⟨rfl, ⟨_, rfl⟩, .ref p, rfl, " ", p, ms[l].parts, rfl, rfl, .inl (SqL.at (sm _ _ ep)), tparts_len (hok _ (List.getElem_mem hlt)), ?_⟩
      refine ⟨_, e, ?_, keep_upd sm no5, ?_⟩
      · rw [List.length_map, List.length_map, List.length_take]
        exact szlt (by omega)
      · rw [upd_same, List.take_add_one, List.getElem?_eq_getElem hlt, List.map_append, List.map_append]
        rfl
    rintro H19 ⟨s19, e19⟩
    rw [List.length_map, hpl, List.take_length] at e19
    refine ⟨" then ", o5, ms.map fun m => Txt.join " " m.parts, rfl, rfl, .inl (SqL.at e19), ?_, ?_⟩
    · have hb : ∀ z ∈ ms.map fun m => Txt.join " " m.parts, z.length ≤ 404 := by
        intro z hz
        obtain ⟨m, hm, rfl⟩ := List.mem_map.mp hz
        have h1 := join_len (zs := m.parts) fun z hz => (Mv.str_ok (hok m hm) z hz).2.1
        have h2 : m.parts.length ≤ 4 := by cases m <;> simp [Mv.parts]
        omega
      have h1 := sum_leB hb
      have h2 : (Str.ofString " then ").length = 6 := by decide +kernel
      rw [h2]
      rw [List.length_map] at h1 ⊢
      omega
    · rw [join_wtext]
      exact q _ s19
def spAllMoved (K : PySem.W.Frag) : Sp := fun vs H Q _ => ∃ (p o : Addr) (ps : List Addr) (ms : List Mv) (xs : List Int), vs = [.ref p, .ref o] ∧ SqL K H p (xs.map V.int) ∧ SqL K H o (ps.map V.ref) ∧ HeldL H ps ms ∧ (∀ m ∈ ms, m.ok) ∧ xs.length ≤ 100000 ∧
  ∀ r H', H r = none → H' r = some (.lst ((allF ms xs).map V.int)) → Same H H' → Q (.ref r) H'
theorem ok__law_all_moved (T : Tx w K mg a) : FnOk P w K mg base CX0 3 a.f__law_all_moved a.d__law_all_moved ["row", "moves"] (spAllMoved K) := by
  refine T.F__law_all_moved.ok sc__law_all_moved (fun vs H Q E h => ?_) (fun cdv A outer s H vs Q E hr h => ?_)
  · obtain ⟨p, o, ps, ms, xs, rfl, _⟩ := h
    rfl
  · obtain ⟨p, o, ps, ms, xs, rfl, hP, hO, hh, hok, hl, q⟩ := h
    refine ⟨_, 
(pss_cons (ps_set (i := 2) sc__law_all_moved.nd rfl (.inl rfl) (pe_callTy call_list_of (by rfl) T.z_list (by decide +kernel) (pa_cons (pv 0) pa_nil)))
  (pss_cons (ps_for PassesOwn.never rfl (pi_list (pv 1)) (pg_name (i := 3) sc__law_all_moved.nd rfl (.inl rfl))
  (pss_one (ps_set (i := 2) sc__law_all_moved.nd rfl (.inl rfl) (pe_call (ok__law_moved T) hr (by rfl) T.m__law_moved T.F__law_moved.kp T.b__law_moved .nil pass0 (pa_cons (pv 2) (pa_cons (pv 3) pa_nil))))))
  (pss_one (ps_ret (pv 2))))), ?_⟩
    have hpl := hh.len
    refine ⟨.ref p, rfl, ?_⟩
    refine ⟨p, _, rfl, .inl hP, fun r nr => ?_⟩
    have s1 := same_upd (o := .lst (xs.map V.int)) nr
    refine ⟨.ref o, rfl, o, rfl, ⟨_, s1.seq hO⟩, ?_⟩
    refine for_it (walk_list (xs := ps.map V.ref)) (fun i σ H3 => ∃ r y3, σ = [some (.ref p), some (.ref o), some (.ref r), y3] ∧ Same H H3 ∧ H r = none ∧ H3 r = some (.lst ((allF (ms.take i) xs).map V.int))) ?h0 ?hG ?hs ?hd
    case h0 => exact ⟨r, none, rfl, s1, nr, upd_same⟩
    case hG =>
      rintro i σ H3 hi ⟨r, y3, rfl, s3, _, _⟩
      exact s3.seq hO
    case hd =>
      rintro σ H3 ⟨r, y3, rfl, s3, nr, hr3⟩
      rw [List.length_map, hpl, List.take_length] at hr3
      exact ⟨_, rfl, q r H3 nr hr3 s3⟩
    case hs =>
      rintro i v σ H3 H4 hi ⟨r, y3, rfl, s3, nr, hr3⟩ ⟨rfl, ev⟩
      rw [List.length_map, hpl] at hi
      obtain ⟨x, hx, hxt⟩ := hh.get (List.getElem?_eq_getElem hi)
      rw [List.getElem?_map, hx] at ev
      cases ev
      refine ⟨.ref r, rfl, .ref x, rfl, r, x, _, ms[i], rfl, SqL.at hr3, SqL.at (s3 _ _ hxt), hok _ (List.getElem_mem hi), by rw [allF_len]; omega, fun o2 H5 no2 eo2 s5 => ?_⟩
      refine ⟨o2, _, rfl, s3.trans s5, s3.free no2, ?_⟩
      rw [eo2, List.take_add_one, List.getElem?_eq_getElem hi]
      show some (HO.lst ((mvF ms[i] (allF (ms.take i) xs)).map V.int)) = some (HO.lst ((allF (ms.take i ++ [ms[i]]) xs).map V.int))
      rw [all_snoc]
end

section
variable {P : Program} {w : World} {K : PySem.W.Frag} {mg : Str → Option Value} {base : Heap} {a : Ad}
def spLaw (K : PySem.W.Frag) : Sp := fun vs H Q _ => ∃ (s : Addr) (ns : List Int), vs = [.ref s] ∧ SqL K H s (ns.map V.int) ∧ ns.length ≤ 63 ∧ ∀ H', Q (.bl true) H'
theorem Held.offL {H : Hp} {p : Addr} {ys : List V} {o : HO} (hp : H p = some (.lst ys)) : ∀ {rs : List Addr} {ms : List Mv}, Held H rs ms → Held (upd H p o) rs ms
  | [], [], _ => trivial
  | _ :: _, _ :: _, h => ⟨by rw [upd_ne (ne_of h.1 hp (by intro z; cases z))]; exact h.1, Held.offL hp h.2⟩
def zs0 : List Int := (List.range 24).map fun i => (1 + (i : Nat) : Int)
theorem sizes0 : rgV 1 25 = zs0.map V.int := by
  unfold rgV zs0
  rw [List.map_map]
  rfl
theorem zs0_le : ∀ z ∈ zs0, 1 ≤ z ∧ z ≤ (1000 : Int) := by
  intro z hz
  obtain ⟨i, hi, rfl⟩ := List.mem_map.mp hz
  have := List.mem_range.mp hi
  omega
theorem cut_one (xs : List V) (h : 1 ≤ xs.length) : cutV xs (some 1) none = xs.drop 1 := by
  unfold cutV
  have e := HT.sIx_nat xs.length 0 1
  rw [show (((1 : Nat) : Int)) = 1 from rfl] at e
  rw [e, HT.sIx_none, Nat.min_eq_left h, List.take_of_length_le (by rw [List.length_drop]; exact Nat.le_refl _)]
theorem nf_own {K : PySem.W.Frag} {C : Addr} : PySem.W.notFirst K C (.ref C) = true := by simp [PySem.W.notFirst]
theorem ok_law (T : Tx w K mg a) : FnOk P w K mg base CX0 8 a.f_law a.d_law ["script"] (spLaw K) := by
  refine T.F_law.ok sc_law (fun vs H Q E h => ?_) (fun cdv A outer s H vs Q E hr h => ?_)
  · obtain ⟨x, ns, rfl, _⟩ := h
    rfl
  · obtain ⟨x, ns, rfl, hS, hlen, q⟩ := h
    refine ⟨_, 
(pss_cons (ps_set (i := 1) sc_law.nd rfl (.inl rfl) (pe_call (ok__law_pen T) (hr.mono (by decide)) (by rfl) T.m__law_pen T.F__law_pen.kp T.b__law_pen .nil pass0 (pa_cons (pv 0) pa_nil)))
  (pss_cons (ps_for PassesOwn.never rfl (pi_range1 (by rfl) T.z_range (pa_cons pe_int pa_nil)) (pg_name (i := 2) sc_law.nd rfl (.inl rfl))
  (pss_cons (ps_set (i := 3) sc_law.nd rfl (.inl rfl) (pe_call (ok__law_moves T) (hr.mono (by decide)) (by rfl) T.m__law_moves T.F__law_moves.kp T.b__law_moves .nil pass0 (pa_cons (pv 1) pa_nil)))
  (pss_cons (ps_set (i := 4) sc_law.nd rfl (.inl rfl) (pe_call (ok__law_word_text T) (hr.mono (by decide)) (by rfl) T.m__law_word_text T.F__law_word_text.kp T.b__law_word_text .nil pass0 (pa_cons (pv 3) pa_nil)))
  (pss_cons (ps_set (i := 5) sc_law.nd rfl (.inl rfl) (pe_make T.mk_Word (ok_Word_init T) hr (by rfl) T.c_Word T.b_Word_init .nil pass0 (pa_cons (pv 4) pa_nil)))
  (pss_cons (ps_if (PW.pt (pw_or (pt_cmpR (op_neD hr.units) (pe_fld (pv 5) rfl) (pe_callTy call_tuple_of (by rfl) T.z_tuple (by decide +kernel) (pa_cons (pe_lc (own := [("move", 6)]) (g := gName 6) rfl sc_law.nd (pi_list (pv 3)) (blkOk_by (own := [("move", 6)]) (N := ["script", "pen", "lap", "moves", "text", "made", "move", "sizes", "size", "step"]) (sc := defScope s_law) (by decide +kernel)) (fun _ _ _ _ _ => pg_name (i := 6) sc_law.nd rfl (Or.inl rfl)) (fun _ _ _ _ _ => pts_nil) (fun _ _ _ _ _ => (pe_callTy (call_tuple_ofK (K := K) rfl) (by rfl) T.z_tuple (by decide +kernel) (pa_cons (pv 6) pa_nil)))) pa_nil)) (nomark _)) (pw_or1 (pt_cmpR op_ne (pe_fld (pv 5) rfl) (pv 4) (nomark _)))))
  (pss_one (ps_ret pe_bl))
  pss_nil)
  (pss_cons (ps_if (PW.pt (pw_or (pt_cmpR op_ne (pe_fld (pv 5) rfl) (pe_cmpR (op_inD (room65 hr)) (pe_lst (pa_cons pe_str pa_nil)) (pv 3) (by rfl)) (nomark _)) (pw_or (pt_not (pt_cmpR (op_eq_own (E := E0) (ok_Word_eq T) (hr.mono (by decide)) T.ow_Word.eq T.ow_Word.fn T.b_Word_eq pass0) (pv 5) (pe_make T.mk_Word (ok_Word_init T) hr (by rfl) T.c_Word T.b_Word_init .nil pass0 (pa_cons (pv 4) pa_nil)) (nomark _))) (pw_or1 (pt_cmpR (op_eq_own (E := E0) (ok_Word_eq T) (hr.mono (by decide)) T.ow_Word.eq T.ow_Word.fn T.b_Word_eq pass0) (pv 5) (pv 4) (nomark _))))))
  (pss_one (ps_ret pe_bl))
  pss_nil)
  (pss_cons (ps_set (i := 7) sc_law.nd rfl (.inl rfl) (pe_listRg rfl (by rfl) T.z_list (prg_2 (by rfl) T.z_range pe_int pe_int)))
  (C8.pss_cut (ps_if (pt_cmpR op_eq (pv 2) pe_int (nomark _))
  (pss_one (ps_expr (pe_bm PySem.F.plainAttrs_list PySem.F.slot_list_append PySem.F.type_list_append mt_append (pv 7) (pa_cons (pe_op op_add pe_int (pe_call (ok__law_draw T) (hr.mono (by decide)) (by rfl) T.m__law_draw T.F__law_draw.kp T.b__law_draw .nil pass0 (pa_cons (pv 1) (pa_cons pe_int pa_nil)))) pa_nil))))
  pss_nil)
  (pss_cons (ps_for PassesOwn.never rfl (pi_list (pv 7)) (pg_name (i := 8) sc_law.nd rfl (.inl rfl))
  (pss_one (ps_if (pt_cmpR (op_neD hr.units) (pe_meth (pv 5) T.cl_Word T.me_Word_at (ok_Word_at T) (hr.mono (by decide)) T.b_Word_at .nil pass0 (pa_cons (pv 8) pa_nil)) (pe_call (ok__law_all_moved T) (hr.mono (by decide)) (by rfl) T.m__law_all_moved T.F__law_all_moved.kp T.b__law_all_moved .nil pass0 (pa_cons (pe_listRg rfl (by rfl) T.z_list (prg_1 (by rfl) T.z_range (pv 8))) (pa_cons (pv 3) pa_nil))) (nomark _))
  (pss_one (ps_ret pe_bl))
  pss_nil)))
  (pss_cons (ps_set (i := 8) sc_law.nd rfl (.inl rfl) (pe_op op_add pe_int (pe_call (ok__law_draw T) (hr.mono (by decide)) (by rfl) T.m__law_draw T.F__law_draw.kp T.b__law_draw .nil pass0 (pa_cons (pv 1) (pa_cons pe_int pa_nil)))))
  (pss_cons (ps_set (i := 9) sc_law.nd rfl (.inl rfl) (pe_call (ok_nothing T) (hr.mono (by decide)) (by rfl) T.m_nothing T.F_nothing.kp T.b_nothing .nil pass0 (pa_cons (pv 8) pa_nil)))
  (pss_cons (ps_for PassesOwn.never rfl (pi_tup (pe_fld (pv 5) rfl)) (pg_name (i := 6) sc_law.nd rfl (.inl rfl))
  (pss_one (ps_set (i := 9) sc_law.nd rfl (.inl rfl) (pe_call (ok_joined T) (hr.mono (by decide)) (by rfl) T.m_joined T.F_joined.kp T.b_joined .nil pass0 (pa_cons (pv 9) (pa_cons (pe_meth (pe_make T.mk_Word (ok_Word_init T) hr (by rfl) T.c_Word T.b_Word_init .nil pass0 (pa_cons (pe_join pe_str (pe_callTy call_list_of (by rfl) T.z_list (by decide +kernel) (pa_cons (pv 6) pa_nil))) pa_nil)) T.cl_Word T.me_Word_at (ok_Word_at T) (hr.mono (by decide)) T.b_Word_at .nil pass0 (pa_cons (pv 8) pa_nil)) pa_nil))))))
  (pss_one (ps_if (PW.pt (pw_or (pt_cmpR (op_neD hr.units) (pv 9) (pe_meth (pv 5) T.cl_Word T.me_Word_at (ok_Word_at T) (hr.mono (by decide)) T.b_Word_at .nil pass0 (pa_cons (pv 8) pa_nil)) (nomark _)) (pw_or1 (PW.pt (pw_and (pt_cmpR op_gt (pe_callB call_len_seq (by rfl) T.z_len PySem.boot_len (pa_cons (pv 3) pa_nil)) pe_int (nomark _)) (pw_and1 (pt_cmpR (op_eq_own (E := E0) (ok_Word_eq T) (hr.mono (by decide)) T.ow_Word.eq T.ow_Word.fn T.b_Word_eq pass0) (pv 5) (pe_make T.mk_Word (ok_Word_init T) hr (by rfl) T.c_Word T.b_Word_init .nil pass0 (pa_cons (pe_call (ok__law_word_text T) (hr.mono (by decide)) (by rfl) T.m__law_word_text T.F__law_word_text.kp T.b__law_word_text .nil pass0 (pa_cons (pe_slice sl_list (pv 3) (po_some pe_int) po_none) pa_nil)) pa_nil)) (nomark _))))))))
  (pss_one (ps_ret pe_bl))
  pss_nil))))))))))))))
  (pss_one (ps_ret pe_bl)))), ?_⟩
    refine ⟨.ref x, rfl, x, ns, rfl, hS, hlen, fun d c H1 hd hc hp s1 => ?_⟩
    refine ⟨6, rfl, by decide, by decide, ?_⟩
    refine for_range (lo := 0) (n := 6) (fun i σ H2 => (∃ y2 y3 y4 y5 y6 y7 y8 y9 : Option V, σ = [some (.ref x), some (.ref d), y2, y3, y4, y5, y6, y7, y8, y9]) ∧ Pen H2 d c (i * 300)) ?_ ?_ ?_
    · exact ⟨⟨none, none, none, none, none, none, none, none, rfl⟩, hp⟩
    rotate_left
    · rintro σ H2 _
      exact q _
    rintro i σ H2 hi ⟨⟨y2, y3, y4, y5, y6, y7, y8, y9, rfl⟩, hp2⟩
    -- moves = _law_moves(pen)
    refine ⟨.ref d, rfl, d, c, i * 300, rfl, hp2, by omega, fun o ps ms H3 hw no eo hh hps hp3 b3 => ?_⟩
    -- text = _law_word_text(moves)
    refine ⟨.ref o, rfl, o, ps, ms, rfl, SqL.at eo, hh, hw.l4, hw.ok, fun H4 s4 => ?_⟩
    have eo4 := s4 _ _ eo
    have hh4 := hh.same s4
    have hp4 := hp3.same s4
    have hpl := hh4.len
    -- made = Word(text)
    refine ⟨.str (wtext ms), rfl, fun pw dx npw ndx nwx => ?_⟩
    refine ⟨pw, dx, ms, rfl, upd_same, hw, wtext_len hw, fun H5 hW5 k5 => ⟨rfl, ?_⟩⟩
    have s45 : Same H4 H5 := fun b u e => k5 b u (by
      rw [upd_ne (ne_of_none e npw), upd_ne (ne_of_none e ndx)]
      exact e) (ne_of_none e npw)
    have eo5 := s45 _ _ eo4
    have hh5 := hh4.same s45
    have hp5 := hp4.same s45
    obtain ⟨dx5, t5, rs5, w1, w2, w3⟩ := id hW5
    -- if made.moves != tuple([tuple(move) for move in moves])
    refine ⟨.ref pw, rfl, pw, a.C_Word, dx5, _, _, rfl, w1, T.cl_Word, T.n_Word_moves, flW_moves _ _, ?_⟩
    refine ⟨.ref o, rfl, o, rfl, ⟨_, SqL.at eo5⟩, fun o6 no6 => ?_⟩
    refine lc_it (walk_list (xs := ps.map V.ref)) (fun l H' => ∃ ts : List Addr, Same H5 H' ∧ H' o6 = some (.lst (ts.map V.ref)) ∧ Held H' ts (ms.take l)) ?c0 ?cG ?cs ?cd
    case c0 => exact ⟨[], same_upd no6, upd_same, trivial⟩
    case cG =>
      rintro l H' _ ⟨ts, sm, _⟩
      exact sm.seq (SqL.at eo5)
    case cs =>
      rintro l y H3' H4'' hlt ⟨ts, sm, e, held⟩ ⟨rfl, ex⟩
      rw [List.length_map, hpl] at hlt
      obtain ⟨p, hpp, ep⟩ := hh5.get (List.getElem?_eq_getElem hlt)
      rw [List.getElem?_map, hpp] at ex
      cases ex
      have htl := held.len
      rw [List.length_take] at htl
      refine ⟨rfl, .ref p, rfl, p, strsV ms[l].parts, rfl, .inl ⟨SqL.at (sm _ _ ep), fun tt ntt => ?_⟩⟩
      have u1 := same_upd (o := .tup (strsV ms[l].parts)) ntt
      have e1 := u1 _ _ e
      have held1 := held.same u1
      have ett : (upd H4'' tt (.tup (strsV ms[l].parts))) tt = some (.tup (strsV ms[l].parts)) := upd_same
      generalize upd H4'' tt (.tup (strsV ms[l].parts)) = H6' at u1 e1 held1 ett ⊢
      have ntt6 : tt ≠ o6 := ne_of ett e1 (by intro z; cases z)
      refine ⟨_, e1, ?_, ts ++ [tt], keep_upd (sm.trans u1) no6, ?_, ?_⟩
      · rw [List.length_map]
        exact szlt (by have := hw.l4; omega)
      · rw [upd_same, List.map_append]
        rfl
      · rw [List.take_add_one, List.getElem?_eq_getElem hlt]
        refine Held.snoc ?_ (Held.offL e1 held1)
        rw [upd_ne ntt6]
        exact ett
    rintro H6 ⟨ts, s56, e6, held6⟩
    rw [List.length_map, hpl, List.take_length] at held6
    refine ⟨o6, _, rfl, .inl ⟨SqL.at e6, fun t7 nt7 => ?_⟩⟩
    have s67 := same_upd (o := .tup (ts.map V.ref)) nt7
    have s57 := s56.trans s67
    have et7 : (upd H6 t7 (.tup (ts.map V.ref))) t7 = some (.tup (ts.map V.ref)) := upd_same
    generalize upd H6 t7 (.tup (ts.map V.ref)) = H7 at s67 s57 et7 ⊢
    refine ⟨ms.map mvD |> .tuple, .tuple (ms.map mvD), .tup (SqT.at (s57 _ _ w2)) (dp_mvs (w3.same s57)), .tup (SqT.at et7) (dp_mvs (held6.same s67)), (shaped_mvs hw.ok).1, (shaped_mvs hw.ok).1, _, rfl, ?_⟩
    refine ne_mvs rfl ?_
    -- made.text != text
    refine ⟨.ref pw, rfl, pw, a.C_Word, dx5, _, _, rfl, s57 _ _ w1, T.cl_Word, T.n_Word_text, flW_text _ _, .str (wtext ms), rfl, rfl, _, rfl, ?_⟩
    refine iteNS rfl ?_
    have eo7 := s57 _ _ eo5
    have hh7 := hh5.same s57
    have hp7 := hp5.same s57
    have hW7 := hW5.same s57
    -- made.has_turn != (['turn'] in moves)
    refine ⟨.ref pw, rfl, pw, a.C_Word, dx5, _, _, rfl, s57 _ _ w1, T.cl_Word, T.n_Word_has_turn, flW_turn _ _, sz (show 1 ≤ 100000 by decide), fun l8 nl8 => ?_⟩
    have s78 := same_upd (o := .lst [V.str "turn"]) nl8
    refine ⟨.ref o, rfl, mvL .turn, ms.map mvL, .lst (SqL.at upd_same) (dp_strs ["turn"]), .lst (SqL.at (s78 _ _ eo7)) (dp_mvl (hh7.same s78)), shaped_mvl trivial, (shaped_mvls hw.ok).1, ?_⟩
    rw [any_mvl]
    refine ⟨rfl, _, rfl, ?_⟩
    refine iteNS rfl ?_
    generalize upd H7 l8 (.lst [V.str "turn"]) = H8 at s78 ⊢
    have eo8 := s78 _ _ eo7
    have hh8 := hh7.same s78
    have hp8 := hp7.same s78
    have hW8 := hW7.same s78
    -- not made == Word(text)
    refine ⟨.ref pw, rfl, .str (wtext ms), rfl, fun pv dv npv ndv nvx => ?_⟩
    refine ⟨pv, dv, ms, rfl, upd_same, hw, wtext_len hw, fun H9 hV9 k9 => ⟨rfl, ?_⟩⟩
    have s89 : Same H8 H9 := fun b u e => k9 b u (by
      rw [upd_ne (ne_of_none e npv), upd_ne (ne_of_none e ndv)]
      exact e) (ne_of_none e npv)
    have hW9 := hW8.same s89
    have eo9 := s89 _ _ eo8
    have hh9 := hh8.same s89
    have hp9 := hp8.same s89
    obtain ⟨dx9, t9, rs9, v1, v2, v3⟩ := id hW9
    obtain ⟨dy9, u9, rt9, z1, z2, z3⟩ := id hV9
    refine ⟨pw, dx9, _, .ref a.C_Word, rfl, v1, .ins z1, nf_own, pw, ms, hW9, .inl ⟨pv, ms, rfl, hV9, ⟨_, rfl⟩, ?_⟩⟩
    refine ⟨_, rfl, ?_⟩
    rw [decide_eq_true (rfl : wtext ms = wtext ms)]
    -- made == text
    refine ⟨.ref pw, rfl, .str (wtext ms), rfl, pw, dx9, _, .type "str", rfl, v1, .str _, T.ow_Word.fst, pw, ms, hW9, .inr ⟨_, rfl, ⟨_, rfl⟩, ?_⟩⟩
    refine ⟨_, rfl, ?_⟩
    -- sizes = list(range(1, 25))
    refine ⟨1, 25, rfl, rfl, RgOk.of_le (by decide) (by decide) (by decide) (by decide), fun p7 np7 => ?_⟩
    rw [sizes0]
    have u1 := same_upd (o := .lst (zs0.map V.int)) np7
    have e7 : (upd H9 p7 (.lst (zs0.map V.int))) p7 = some (.lst (zs0.map V.int)) := upd_same
    have po7 : p7 ≠ o := (ne_of_none eo9 np7).symm
    have hps7 : ∀ p ∈ ps, p ≠ p7 := by
      intro p hp z
      subst z
      obtain ⟨j, hj, e⟩ := List.getElem_of_mem hp
      obtain ⟨p', hp', ep'⟩ := hh9.get (List.getElem?_eq_getElem (show j < ms.length by rw [← hpl]; exact hj))
      rw [List.getElem?_eq_getElem hj, e] at hp'
      cases hp'
      rw [np7] at ep'
      cases ep'
    generalize upd H9 p7 (.lst (zs0.map V.int)) = Ha at u1 e7 ⊢
    have eoa := u1 _ _ eo9
    have hha := hh9.same u1
    have hpa := hp9.same u1
    have hWa := hW9.same u1
    refine ⟨fun σ' H' => ∃ zs : List Int, (∀ z ∈ zs, 1 ≤ z ∧ z ≤ 1000) ∧ σ' = [some (.ref x), some (.ref d), some (.int (0 + (i : Int))), some (.ref o), some (.str (wtext ms)), some (.ref pw), y6, some (.ref p7), y8, y9] ∧ H' p7 = some (.lst (zs.map V.int)) ∧ H' o = some (.lst (ps.map V.ref)) ∧ HeldL H' ps ms ∧ WordAt a.C_Word H' pw ms ∧ Pen H' d c (i * 300 + 101), ?_, ?_⟩
    · refine ⟨_, rfl, rfl, _, rfl, ite2 (fun _ => ?_) (fun _ => ?_)⟩
      · obtain ⟨kvs, hda⟩ := hpa.dict
        refine ⟨.ref p7, rfl, .inl ⟨rfl, _, SqL.at e7⟩, .ref d, rfl, d, c, _, 976, rfl, hpa, by omega, by decide, by decide, fun v Hb v0 v1 hpb bb => ⟨25, v, rfl, rfl, p7, _, _, rfl, rfl, bb.list hda e7, szlt (show 24 ≤ 100000 by decide), ?_⟩⟩
        have e7b := bb.list hda e7
        have d7 : d ≠ p7 := ne_of hda e7 (by intro z; cases z)
        have c7 : c ≠ p7 := by
          obtain ⟨u, hc9⟩ := hp9.cells
          exact ne_of_none hc9 np7
        refine ⟨zs0 ++ [25 + v], ?_, rfl, ?_, ?_, ?_, ?_, (hpb.mut d7 c7).up (by omega)⟩
        · intro z hz
          rcases List.mem_append.mp hz with h | h
          · exact zs0_le z h
          · rw [List.mem_singleton.mp h]
            omega
        · rw [upd_same, List.map_append]
          rfl
        · rw [upd_ne po7.symm]
          exact bb.list hda eoa
        · exact HeldL.mono (fun q hq m hm e => by rw [upd_ne (hps7 q hq)]; exact e) (HeldL.butd bb hda hha)
        · obtain ⟨dx, t, rs, z1, z2, z3⟩ := WordAt.butd bb hda hWa
          refine ⟨dx, t, rs, ?_, ?_, Held.offL e7b z3⟩
          · rw [upd_ne (ne_of z1 e7b (by intro z; cases z))]
            exact z1
          · rw [upd_ne (ne_of z2 e7b (by intro z; cases z))]
            exact z2
      · exact ⟨zs0, zs0_le, rfl, e7, eoa, hha, hWa, hpa.up (by omega)⟩
    rintro σ' Hb ⟨zs, hz, rfl, e7b, eob, hhb, hWb, hpb⟩
    clear e7 eoa hha hpa hWa
    -- for size in sizes
    refine ⟨.ref p7, rfl, p7, rfl, ⟨_, SqL.at e7b⟩, ?_⟩
    refine for_it (walk_list (xs := zs.map V.int)) (fun j σ H3 => ∃ y8, σ = [some (.ref x), some (.ref d), some (.int (0 + (i : Int))), some (.ref o), some (.str (wtext ms)), some (.ref pw), y6, some (.ref p7), y8, y9] ∧ Same Hb H3) ?h0 ?hG ?hs ?hd
    case h0 => exact ⟨_, rfl, Same.refl _⟩
    case hG =>
      rintro j σ H3 hj ⟨_, rfl, s3⟩
      exact s3.seq (SqL.at e7b)
    case hs =>
      rintro j v σ Hc Hc' hj ⟨z8, rfl, s3⟩ ⟨rfl, ev⟩
      rw [List.length_map] at hj
      rw [List.getElem?_map, List.getElem?_eq_getElem hj] at ev
      cases ev
      have hzj := hz _ (List.getElem_mem hj)
      obtain ⟨n, en⟩ : ∃ n : Nat, zs[j] = (n : Int) := ⟨zs[j].toNat, by omega⟩
      rw [en] at hzj ⊢
      have hn : n ≤ 1000 := by omega
      have hWc := hWb.same s3
      have eoc := s3 _ _ eob
      have hhc := hhb.same s3
      obtain ⟨dxa, ta, rsa, wa1, wa2, wa3⟩ := id hWc
      refine ⟨.ref pw, rfl, pw, dxa, _, rfl, wa1, flW_at _ _, _, rfl, pw, ms, n, rfl, hWc, hw.ok, by omega, hn, fun pt Hd npt ept sd => ?_⟩
      refine ⟨_, rfl, _, rfl, RgOk.of_le (by decide) (by omega) (by decide) (by omega), fun pr npr => ?_⟩
      rw [rgV_ri]
      have r1 := same_upd (o := .lst ((ri n).map V.int)) npr
      have er : (upd Hd pr (.lst ((ri n).map V.int))) pr = some (.lst ((ri n).map V.int)) := upd_same
      generalize upd Hd pr (.lst ((ri n).map V.int)) = He at r1 er ⊢
      have sde := sd.trans r1
      refine ⟨.ref o, rfl, pr, o, ps, ms, ri n, rfl, SqL.at er, SqL.at (sde _ _ eoc), hhc.same sde, hw.ok, by rw [ri_len]; omega, fun o1 Hf no1 eo1 sf => ?_⟩
      refine ⟨_, _, dp_ints (SqL.at ((r1.trans sf) _ _ ept)), dp_ints (SqL.at eo1), shaped_ints, shaped_ints, _, rfl, ?_⟩
      refine ne_false rfl ?_
      exact ⟨_, rfl, s3.trans (sde.trans sf)⟩
    case hd =>
      rintro σ Hc ⟨y8', rfl, s3⟩
      have hpc := hpb.same s3
      have eoc := s3 _ _ eob
      have hhc := hhb.same s3
      have hWc := hWb.same s3
      -- size = 1 + _law_draw(pen, 24)
      refine ⟨.ref d, rfl, d, c, _, 24, rfl, hpc, by omega, by decide, by decide, fun v Hd v0 v1 hpd bd => ⟨1, v, rfl, rfl, ?_⟩⟩
      obtain ⟨kvs, hdc⟩ := hpc.dict
      have eod := bd.list hdc eoc
      have hhd := HeldL.butd bd hdc hhc
      have hWd := WordAt.butd bd hdc hWc
      clear s3 eoc hhc hWc
      obtain ⟨n, en⟩ : ∃ n : Nat, 1 + v = (n : Int) := ⟨(1 + v).toNat, by omega⟩
      show gName 8 (V.int (1 + v)) _ _ _
      rw [en]
      have hn1 : 1 ≤ n := by omega
      have hn : n ≤ 24 := by omega
      -- step = nothing(size)
      refine ⟨_, rfl, n, rfl, by omega, fun p9 He np9 ep9 sde => ?_⟩
      have eoe := sde _ _ eod
      have hhe := hhd.same sde
      have hpe := hpd.same sde
      have hWe := hWd.same sde
      obtain ⟨dxe, te, rse, we1, we2, we3⟩ := id hWe
      -- for move in made.moves
      refine ⟨.ref pw, rfl, pw, a.C_Word, dxe, _, _, rfl, we1, T.cl_Word, T.n_Word_moves, flW_moves ms te, te, rfl, ⟨_, SqT.at we2⟩, ?_⟩
      have hrl : (rse.map V.ref).length = ms.length := by rw [List.length_map, we3.len]
      refine for_it (walk_tup (xs := rse.map V.ref)) (fun j σ H3 => ∃ r y6, σ = [some (.ref x), some (.ref d), some (.int (0 + (i : Int))), some (.ref o), some (.str (wtext ms)), some (.ref pw), y6, some (.ref p7), some (.int n), some (.ref r)] ∧ Same He H3 ∧ H3 r = some (.lst ((allF (ms.take j) (ri n)).map V.int))) ?h0 ?hG ?hs ?hd
      case h0 => exact ⟨p9, _, rfl, Same.refl _, ep9⟩
      case hG =>
        rintro j σ H3 hj ⟨_, _, rfl, s3, _⟩
        exact SqT.at (s3 _ _ we2)
      case hs =>
        rintro j v' σ Hf Hf' hj ⟨r, z6, rfl, sf, er⟩ ⟨rfl, ev⟩
        rw [hrl] at hj
        obtain ⟨xt, hx, hxt⟩ := we3.get (List.getElem?_eq_getElem hj)
        rw [List.getElem?_map, hx] at ev
        cases ev
        have hmo := hw.ok _ (List.getElem_mem hj)
        generalize em : ms[j] = m at hmo hxt
        have hw1 : WordOk [m] := ⟨by simp, by simp, fun z hz => by rw [List.mem_singleton.mp hz]; exact hmo, fun pre z post e hz => by
          cases pre with
          | nil => exact List.not_mem_nil
          | cons u r =>
            have := congrArg List.length e
            simp at this⟩
        -- step = joined(step, Word(' '.join(list(move))).at(size))
        refine ⟨.ref r, rfl, ⟨_, rfl⟩, .ref xt, rfl, xt, _, rfl, .inr (SqT.at (sf _ _ hxt)), fun l1 nl1 => ?_⟩
        have u1 := same_upd (o := .lst (strsV m.parts)) nl1
        refine ⟨" ", l1, m.parts, rfl, rfl, .inl (SqL.at upd_same), tparts_len hmo, fun pv dv npv ndv nvx => ?_⟩
        generalize upd Hf' l1 (.lst (strsV m.parts)) = Hg at u1 npv ndv ⊢
        refine ⟨pv, dv, [m], rfl, upd_same, hw1, wtext_len hw1, fun Hh hVh kh => ⟨rfl, ?_⟩⟩
        have sgh : Same Hg Hh := fun b u e => kh b u (by
          rw [upd_ne (ne_of_none e npv), upd_ne (ne_of_none e ndv)]
          exact e) (ne_of_none e npv)
        obtain ⟨dyh, uh, rth, z1, z2, z3⟩ := id hVh
        refine ⟨pv, dyh, _, rfl, z1, flW_at _ _, _, rfl, pv, [m], n, rfl, hVh, hw1.ok, hn1, by omega, fun o2 Hi no2 eo2 si => ?_⟩
        have sfi := u1.trans (sgh.trans si)
        refine ⟨r, o2, allF (ms.take j) (ri n), allF [m] (ri n), rfl, ⟨.inl (SqL.at (sfi _ _ er)), all_row _ _, by rw [allF_len, ri_len]; omega⟩, ⟨.inl (SqL.at eo2), all_row _ _, by rw [allF_len, ri_len]; omega⟩, by rw [allF_len, allF_len], fun r2 Hj nr2 er2 sj => ?_⟩
        refine ⟨r2, _, rfl, sf.trans (sfi.trans sj), ?_⟩
        rw [er2, List.take_add_one, List.getElem?_eq_getElem hj, em]
        show some (HO.lst ((pickI (allF (ms.take j) (ri n)) (mvF m (ri n))).map V.int)) = some (HO.lst ((allF (ms.take j ++ [m]) (ri n)).map V.int))
        have e1 := mv_pick m (allF (ms.take j) (ri n))
        rw [allF_len, ri_len] at e1
        rw [all_snoc, e1]
      case hd =>
        rintro σ Hf ⟨r, z6, rfl, sf, er⟩
        rw [hrl, List.take_length] at er
        have eof := sf _ _ eoe
        have hhf := hhe.same sf
        have hpf := hpe.same sf
        have hWf := hWe.same sf
        obtain ⟨dxf, tf, rsf, wf1, wf2, wf3⟩ := id hWf
        -- step != made.at(size)
        refine ⟨.ref r, rfl, .ref pw, rfl, pw, dxf, _, rfl, wf1, flW_at _ _, _, rfl, pw, ms, n, rfl, hWf, hw.ok, hn1, by omega, fun o2 Hg no2 eo2 sg => ?_⟩
        refine ⟨_, _, dp_ints (SqL.at (sg _ _ er)), dp_ints (SqL.at eo2), shaped_ints, shaped_ints, _, rfl, ?_⟩
        refine ne_false rfl ?_
        have eog := sg _ _ eof
        have hhg := hhf.same sg
        have hpg := hpf.same sg
        have hWg := hWf.same sg
        -- len(moves) > 1 and made == Word(_law_word_text(moves[1:]))
        refine ⟨.ref o, rfl, o, _, rfl, .inl (SqL.at eog), _, 1, rfl, rfl, _, rfl, ite2 (fun h1 => ?_) (fun _ => ?_)⟩
        · rw [List.length_map, hpl] at h1
          have h1' : 1 < ms.length := by
            have := of_decide_eq_true h1
            omega
          obtain ⟨m, ns', ems⟩ : ∃ m ns', ms = m :: ns' := by
            cases ms with
            | nil => simp at h1'
            | cons m r => exact ⟨m, r, rfl⟩
          subst ems
          have hns : ns' ≠ [] := by
            intro z
            rw [z] at h1'
            simp at h1'
          have hw2 : WordOk ns' := ⟨hns, by have := hw.l4; simp at this; omega, fun z hz => hw.ok z (List.mem_cons_of_mem _ hz), fun pre z post e ez hp' => hw.one (m :: pre) z post (by rw [e]; rfl) ez (List.mem_cons_of_mem _ hp')⟩
          refine ⟨.ref pw, rfl, .ref o, rfl, 1, rfl, o, _, rfl, SqL.at eog, fun l1 nl1 => ?_⟩
          rw [cut_one _ (by rw [List.length_map, hpl]; simp), ← List.map_drop]
          have u1 := same_upd (o := .lst ((ps.drop 1).map V.ref)) nl1
          refine ⟨l1, ps.drop 1, ns', rfl, SqL.at upd_same, (hhg.same u1).drop 1, hw2.l4, hw2.ok, fun Hh sh => ?_⟩
          generalize upd Hg l1 (.lst ((ps.drop 1).map V.ref)) = Hg' at u1 sh
          have sgh := u1.trans sh
          refine fun pv dv npv ndv nvx => ?_
          refine ⟨pv, dv, ns', rfl, upd_same, hw2, wtext_len hw2, fun Hi hVi ki => ⟨rfl, ?_⟩⟩
          have shi : Same Hh Hi := fun b u e => ki b u (by
            rw [upd_ne (ne_of_none e npv), upd_ne (ne_of_none e ndv)]
            exact e) (ne_of_none e npv)
          have hWi := (hWg.same sgh).same shi
          have hpi := (hpg.same sgh).same shi
          obtain ⟨dxi, ti, rsi, v1', v2', v3'⟩ := id hWi
          obtain ⟨dyi, ui, rti, z1, z2, z3⟩ := id hVi
          refine ⟨pw, dxi, _, .ref a.C_Word, rfl, v1', .ins z1, nf_own, pw, m :: ns', hWi, .inl ⟨pv, ns', rfl, hVi, ⟨_, rfl⟩, ?_⟩⟩
          refine ⟨_, rfl, ?_⟩
          rw [decide_eq_false (wtext_tail hns)]
          exact ⟨⟨_, _, _, _, _, _, _, _, rfl⟩, hpi.up (by omega)⟩
        · exact ⟨⟨_, _, _, _, _, _, _, _, rfl⟩, hpg.up (by omega)⟩
end


theorem all_mk {l : PySem.W.OpenLaw} {w : World} {K : PySem.W.Frag} {h : Heap} {mg : Str → Option Value} {fa : Addr} (X : K.In h) (G : h.Ns mainGlobals mg) (hfa : mg "law" = some (.ref fa))
    {f0 : Addr} {od0 an0 : Option Addr} {sl0 : Array (Option Value)} {oc0 kV0 dc0 pm0 cd0 ct0 : Value}
    {f1 : Addr} {od1 an1 : Option Addr} {sl1 : Array (Option Value)} {oc1 kV1 dc1 pm1 cd1 ct1 : Value}
    {f2 : Addr} {od2 an2 : Option Addr} {sl2 : Array (Option Value)} {oc2 kV2 dc2 pm2 cd2 ct2 : Value}
    {f3 : Addr} {od3 an3 : Option Addr} {sl3 : Array (Option Value)} {oc3 kV3 dc3 pm3 cd3 ct3 : Value}
    {f4 : Addr} {od4 an4 : Option Addr} {sl4 : Array (Option Value)} {oc4 kV4 dc4 pm4 cd4 ct4 : Value}
    {f5 : Addr} {od5 an5 : Option Addr} {sl5 : Array (Option Value)} {oc5 kV5 dc5 pm5 cd5 ct5 : Value}
    {f6 : Addr} {od6 an6 : Option Addr} {sl6 : Array (Option Value)} {oc6 kV6 dc6 pm6 cd6 ct6 : Value}
    {f7 : Addr} {od7 an7 : Option Addr} {sl7 : Array (Option Value)} {oc7 kV7 dc7 pm7 cd7 ct7 : Value}
    {f8 : Addr} {od8 an8 : Option Addr} {sl8 : Array (Option Value)} {oc8 kV8 dc8 pm8 cd8 ct8 : Value}
    {f9 : Addr} {od9 an9 : Option Addr} {sl9 : Array (Option Value)} {oc9 kV9 dc9 pm9 cd9 ct9 : Value}
    {f10 : Addr} {od10 an10 : Option Addr} {sl10 : Array (Option Value)} {oc10 kV10 dc10 pm10 cd10 ct10 : Value}
    {f11 : Addr} {od11 an11 : Option Addr} {sl11 : Array (Option Value)} {oc11 kV11 dc11 pm11 cd11 ct11 : Value}
    {f12 : Addr} {od12 an12 : Option Addr} {sl12 : Array (Option Value)} {oc12 kV12 dc12 pm12 cd12 ct12 : Value}
    {f13 : Addr} {od13 an13 : Option Addr} {sl13 : Array (Option Value)} {oc13 kV13 dc13 pm13 cd13 ct13 : Value}
    {f14 : Addr} {od14 an14 : Option Addr} {sl14 : Array (Option Value)} {oc14 kV14 dc14 pm14 cd14 ct14 : Value}
    {f15 : Addr} {od15 an15 : Option Addr} {sl15 : Array (Option Value)} {oc15 kV15 dc15 pm15 cd15 ct15 : Value}
    {f16 : Addr} {od16 an16 : Option Addr} {sl16 : Array (Option Value)} {oc16 kV16 dc16 pm16 cd16 ct16 : Value}
    {f17 : Addr} {od17 an17 : Option Addr} {sl17 : Array (Option Value)} {oc17 kV17 dc17 pm17 cd17 ct17 : Value}
    {f18 : Addr} {od18 an18 : Option Addr} {sl18 : Array (Option Value)} {oc18 kV18 dc18 pm18 cd18 ct18 : Value}
    {f19 : Addr} {od19 an19 : Option Addr} {sl19 : Array (Option Value)} {oc19 kV19 dc19 pm19 cd19 ct19 : Value}
    {f20 : Addr} {od20 an20 : Option Addr} {sl20 : Array (Option Value)} {oc20 kV20 dc20 pm20 cd20 ct20 : Value}
    {f21 : Addr} {od21 an21 : Option Addr} {sl21 : Array (Option Value)} {oc21 kV21 dc21 pm21 cd21 ct21 : Value}
    {f22 : Addr} {od22 an22 : Option Addr} {sl22 : Array (Option Value)} {oc22 kV22 dc22 pm22 cd22 ct22 : Value}
    {f23 : Addr} {od23 an23 : Option Addr} {sl23 : Array (Option Value)} {oc23 kV23 dc23 pm23 cd23 ct23 : Value}
    {f24 : Addr} {od24 an24 : Option Addr} {sl24 : Array (Option Value)} {oc24 kV24 dc24 pm24 cd24 ct24 : Value}
    {f25 : Addr} {od25 an25 : Option Addr} {sl25 : Array (Option Value)} {oc25 kV25 dc25 pm25 cd25 ct25 : Value}
    {f26 : Addr} {od26 an26 : Option Addr} {sl26 : Array (Option Value)} {oc26 kV26 dc26 pm26 cd26 ct26 : Value}
    {f27 : Addr} {od27 an27 : Option Addr} {sl27 : Array (Option Value)} {oc27 kV27 dc27 pm27 cd27 ct27 : Value}
    {f28 : Addr} {od28 an28 : Option Addr} {sl28 : Array (Option Value)} {oc28 kV28 dc28 pm28 cd28 ct28 : Value}
    {f29 : Addr} {od29 an29 : Option Addr} {sl29 : Array (Option Value)} {oc29 kV29 dc29 pm29 cd29 ct29 : Value}
    {f30 : Addr} {od30 an30 : Option Addr} {sl30 : Array (Option Value)} {oc30 kV30 dc30 pm30 cd30 ct30 : Value}
    {f31 : Addr} {od31 an31 : Option Addr} {sl31 : Array (Option Value)} {oc31 kV31 dc31 pm31 cd31 ct31 : Value}
    {f32 : Addr} {od32 an32 : Option Addr} {sl32 : Array (Option Value)} {oc32 kV32 dc32 pm32 cd32 ct32 : Value}
    {f33 : Addr} {od33 an33 : Option Addr} {sl33 : Array (Option Value)} {oc33 kV33 dc33 pm33 cd33 ct33 : Value}
    {f34 : Addr} {od34 an34 : Option Addr} {sl34 : Array (Option Value)} {oc34 kV34 dc34 pm34 cd34 ct34 : Value}
    {f35 : Addr} {od35 an35 : Option Addr} {sl35 : Array (Option Value)} {oc35 kV35 dc35 pm35 cd35 ct35 : Value}
    {C_EveryError : Addr}
    {C_BadWord : Addr}
    {C_BadSize : Addr}
    {C_BadRow : Addr}
    {C_Word : Addr}
    {t_MOST_PLACES : Tok}
    {t_MOST_MOVES : Tok}
    {a_FIGURES : Addr} {o_FIGURES : Obj}
    {a_PLACE_FRONTS : Addr} {o_PLACE_FRONTS : Obj}
    {a_AMOUNT_FRONTS : Addr} {o_AMOUNT_FRONTS : Obj}
    {a_SHAPES : Addr} {es_SHAPES : Array DictEntry} {n_SHAPES : Nat} {p_SHAPES_0 : Addr} {o_SHAPES_0 : Obj} {p_SHAPES_1 : Addr} {o_SHAPES_1 : Obj} {p_SHAPES_2 : Addr} {o_SHAPES_2 : Obj}
    {t_NO_PART : Tok}
    (c_EveryError : PySem.W.nsIn K mainGlobals "EveryError" = some (some (.ref C_EveryError)))
    (c_BadWord : PySem.W.nsIn K mainGlobals "BadWord" = some (some (.ref C_BadWord)))
    (c_BadSize : PySem.W.nsIn K mainGlobals "BadSize" = some (some (.ref C_BadSize)))
    (c_BadRow : PySem.W.nsIn K mainGlobals "BadRow" = some (some (.ref C_BadRow)))
    (c_Word : PySem.W.nsIn K mainGlobals "Word" = some (some (.ref C_Word)))
    (a0 : PySem.W.nsIn K mainGlobals "is_integer" = some (some (.ref f0)))
    (l0 : K.lookup f0 = some ⟨oc0, od0, .func (PySem.W.fnOf "is_integer" "is_integer" (defArgs s_is_integer) (defBody s_is_integer) (defScope s_is_integer) .none kV0 dc0 pm0 an0 cd0 ct0), sl0⟩)
    (e0 : PySem.W.codeIn K cd0 "is_integer" = true)
    (k0 : PySem.W.keepIn K (.ref f0) = true)
    (a1 : PySem.W.nsIn K mainGlobals "is_between" = some (some (.ref f1)))
    (l1 : K.lookup f1 = some ⟨oc1, od1, .func (PySem.W.fnOf "is_between" "is_between" (defArgs s_is_between) (defBody s_is_between) (defScope s_is_between) .none kV1 dc1 pm1 an1 cd1 ct1), sl1⟩)
    (e1 : PySem.W.codeIn K cd1 "is_between" = true)
    (k1 : PySem.W.keepIn K (.ref f1) = true)
    (a2 : PySem.W.nsIn K mainGlobals "first_wrong" = some (some (.ref f2)))
    (l2 : K.lookup f2 = some ⟨oc2, od2, .func (PySem.W.fnOf "first_wrong" "first_wrong" (defArgs s_first_wrong) (defBody s_first_wrong) (defScope s_first_wrong) .none kV2 dc2 pm2 an2 cd2 ct2), sl2⟩)
    (e2 : PySem.W.codeIn K cd2 "first_wrong" = true)
    (k2 : PySem.W.keepIn K (.ref f2) = true)
    (a3 : PySem.W.findIn K (.ref C_BadWord) "__init__" = some (some (.ref f3)))
    (l3 : K.lookup f3 = some ⟨oc3, od3, .func (PySem.W.fnOf "__init__" "BadWord.__init__" (defArgs s_BadWord_init) (defBody s_BadWord_init) (defScope s_BadWord_init) .none kV3 dc3 pm3 an3 cd3 ct3), sl3⟩)
    (e3 : PySem.W.codeIn K cd3 "BadWord.__init__" = true)
    (k3 : PySem.W.keepIn K (.ref f3) = true)
    (a4 : PySem.W.findIn K (.ref C_BadSize) "__init__" = some (some (.ref f4)))
    (l4 : K.lookup f4 = some ⟨oc4, od4, .func (PySem.W.fnOf "__init__" "BadSize.__init__" (defArgs s_BadSize_init) (defBody s_BadSize_init) (defScope s_BadSize_init) .none kV4 dc4 pm4 an4 cd4 ct4), sl4⟩)
    (e4 : PySem.W.codeIn K cd4 "BadSize.__init__" = true)
    (k4 : PySem.W.keepIn K (.ref f4) = true)
    (a5 : PySem.W.findIn K (.ref C_BadRow) "__init__" = some (some (.ref f5)))
    (l5 : K.lookup f5 = some ⟨oc5, od5, .func (PySem.W.fnOf "__init__" "BadRow.__init__" (defArgs s_BadRow_init) (defBody s_BadRow_init) (defScope s_BadRow_init) .none kV5 dc5 pm5 an5 cd5 ct5), sl5⟩)
    (e5 : PySem.W.codeIn K cd5 "BadRow.__init__" = true)
    (k5 : PySem.W.keepIn K (.ref f5) = true)
    (a6 : PySem.W.nsIn K mainGlobals "check_row" = some (some (.ref f6)))
    (l6 : K.lookup f6 = some ⟨oc6, od6, .func (PySem.W.fnOf "check_row" "check_row" (defArgs s_check_row) (defBody s_check_row) (defScope s_check_row) .none kV6 dc6 pm6 an6 cd6 ct6), sl6⟩)
    (e6 : PySem.W.codeIn K cd6 "check_row" = true)
    (k6 : PySem.W.keepIn K (.ref f6) = true)
    (a7 : PySem.W.nsIn K mainGlobals "nothing" = some (some (.ref f7)))
    (l7 : K.lookup f7 = some ⟨oc7, od7, .func (PySem.W.fnOf "nothing" "nothing" (defArgs s_nothing) (defBody s_nothing) (defScope s_nothing) .none kV7 dc7 pm7 an7 cd7 ct7), sl7⟩)
    (e7 : PySem.W.codeIn K cd7 "nothing" = true)
    (k7 : PySem.W.keepIn K (.ref f7) = true)
    (a8 : PySem.W.nsIn K mainGlobals "joined" = some (some (.ref f8)))
    (l8 : K.lookup f8 = some ⟨oc8, od8, .func (PySem.W.fnOf "joined" "joined" (defArgs s_joined) (defBody s_joined) (defScope s_joined) .none kV8 dc8 pm8 an8 cd8 ct8), sl8⟩)
    (e8 : PySem.W.codeIn K cd8 "joined" = true)
    (k8 : PySem.W.keepIn K (.ref f8) = true)
    (a9 : PySem.W.nsIn K mainGlobals "in_turn" = some (some (.ref f9)))
    (l9 : K.lookup f9 = some ⟨oc9, od9, .func (PySem.W.fnOf "in_turn" "in_turn" (defArgs s_in_turn) (defBody s_in_turn) (defScope s_in_turn) .none kV9 dc9 pm9 an9 cd9 ct9), sl9⟩)
    (e9 : PySem.W.codeIn K cd9 "in_turn" = true)
    (k9 : PySem.W.keepIn K (.ref f9) = true)
    (a10 : PySem.W.nsIn K mainGlobals "is_figure_behind" = some (some (.ref f10)))
    (l10 : K.lookup f10 = some ⟨oc10, od10, .func (PySem.W.fnOf "is_figure_behind" "is_figure_behind" (defArgs s_is_figure_behind) (defBody s_is_figure_behind) (defScope s_is_figure_behind) .none kV10 dc10 pm10 an10 cd10 ct10), sl10⟩)
    (e10 : PySem.W.codeIn K cd10 "is_figure_behind" = true)
    (k10 : PySem.W.keepIn K (.ref f10) = true)
    (a11 : PySem.W.nsIn K mainGlobals "is_place_word" = some (some (.ref f11)))
    (l11 : K.lookup f11 = some ⟨oc11, od11, .func (PySem.W.fnOf "is_place_word" "is_place_word" (defArgs s_is_place_word) (defBody s_is_place_word) (defScope s_is_place_word) .none kV11 dc11 pm11 an11 cd11 ct11), sl11⟩)
    (e11 : PySem.W.codeIn K cd11 "is_place_word" = true)
    (k11 : PySem.W.keepIn K (.ref f11) = true)
    (a12 : PySem.W.nsIn K mainGlobals "is_amount" = some (some (.ref f12)))
    (l12 : K.lookup f12 = some ⟨oc12, od12, .func (PySem.W.fnOf "is_amount" "is_amount" (defArgs s_is_amount) (defBody s_is_amount) (defScope s_is_amount) .none kV12 dc12 pm12 an12 cd12 ct12), sl12⟩)
    (e12 : PySem.W.codeIn K cd12 "is_amount" = true)
    (k12 : PySem.W.keepIn K (.ref f12) = true)
    (a13 : PySem.W.nsIn K mainGlobals "place_of" = some (some (.ref f13)))
    (l13 : K.lookup f13 = some ⟨oc13, od13, .func (PySem.W.fnOf "place_of" "place_of" (defArgs s_place_of) (defBody s_place_of) (defScope s_place_of) .none kV13 dc13 pm13 an13 cd13 ct13), sl13⟩)
    (e13 : PySem.W.codeIn K cd13 "place_of" = true)
    (k13 : PySem.W.keepIn K (.ref f13) = true)
    (a14 : PySem.W.nsIn K mainGlobals "amount_of" = some (some (.ref f14)))
    (l14 : K.lookup f14 = some ⟨oc14, od14, .func (PySem.W.fnOf "amount_of" "amount_of" (defArgs s_amount_of) (defBody s_amount_of) (defScope s_amount_of) .none kV14 dc14 pm14 an14 cd14 ct14), sl14⟩)
    (e14 : PySem.W.codeIn K cd14 "amount_of" = true)
    (k14 : PySem.W.keepIn K (.ref f14) = true)
    (a15 : PySem.W.nsIn K mainGlobals "is_part" = some (some (.ref f15)))
    (l15 : K.lookup f15 = some ⟨oc15, od15, .func (PySem.W.fnOf "is_part" "is_part" (defArgs s_is_part) (defBody s_is_part) (defScope s_is_part) .none kV15 dc15 pm15 an15 cd15 ct15), sl15⟩)
    (e15 : PySem.W.codeIn K cd15 "is_part" = true)
    (k15 : PySem.W.keepIn K (.ref f15) = true)
    (a16 : PySem.W.nsIn K mainGlobals "read_move" = some (some (.ref f16)))
    (l16 : K.lookup f16 = some ⟨oc16, od16, .func (PySem.W.fnOf "read_move" "read_move" (defArgs s_read_move) (defBody s_read_move) (defScope s_read_move) .none kV16 dc16 pm16 an16 cd16 ct16), sl16⟩)
    (e16 : PySem.W.codeIn K cd16 "read_move" = true)
    (k16 : PySem.W.keepIn K (.ref f16) = true)
    (a17 : PySem.W.nsIn K mainGlobals "read_moves" = some (some (.ref f17)))
    (l17 : K.lookup f17 = some ⟨oc17, od17, .func (PySem.W.fnOf "read_moves" "read_moves" (defArgs s_read_moves) (defBody s_read_moves) (defScope s_read_moves) .none kV17 dc17 pm17 an17 cd17 ct17), sl17⟩)
    (e17 : PySem.W.codeIn K cd17 "read_moves" = true)
    (k17 : PySem.W.keepIn K (.ref f17) = true)
    (a18 : PySem.W.nsIn K mainGlobals "exchanged" = some (some (.ref f18)))
    (l18 : K.lookup f18 = some ⟨oc18, od18, .func (PySem.W.fnOf "exchanged" "exchanged" (defArgs s_exchanged) (defBody s_exchanged) (defScope s_exchanged) .none kV18 dc18 pm18 an18 cd18 ct18), sl18⟩)
    (e18 : PySem.W.codeIn K cd18 "exchanged" = true)
    (k18 : PySem.W.keepIn K (.ref f18) = true)
    (a19 : PySem.W.nsIn K mainGlobals "rolled" = some (some (.ref f19)))
    (l19 : K.lookup f19 = some ⟨oc19, od19, .func (PySem.W.fnOf "rolled" "rolled" (defArgs s_rolled) (defBody s_rolled) (defScope s_rolled) .none kV19 dc19 pm19 an19 cd19 ct19), sl19⟩)
    (e19 : PySem.W.codeIn K cd19 "rolled" = true)
    (k19 : PySem.W.keepIn K (.ref f19) = true)
    (a20 : PySem.W.nsIn K mainGlobals "moved" = some (some (.ref f20)))
    (l20 : K.lookup f20 = some ⟨oc20, od20, .func (PySem.W.fnOf "moved" "moved" (defArgs s_moved) (defBody s_moved) (defScope s_moved) .none kV20 dc20 pm20 an20 cd20 ct20), sl20⟩)
    (e20 : PySem.W.codeIn K cd20 "moved" = true)
    (k20 : PySem.W.keepIn K (.ref f20) = true)
    (a21 : PySem.W.findIn K (.ref C_Word) "__init__" = some (some (.ref f21)))
    (l21 : K.lookup f21 = some ⟨oc21, od21, .func (PySem.W.fnOf "__init__" "Word.__init__" (defArgs s_Word_init) (defBody s_Word_init) (defScope s_Word_init) .none kV21 dc21 pm21 an21 cd21 ct21), sl21⟩)
    (e21 : PySem.W.codeIn K cd21 "Word.__init__" = true)
    (k21 : PySem.W.keepIn K (.ref f21) = true)
    (a22 : PySem.W.findIn K (.ref C_Word) "__eq__" = some (some (.ref f22)))
    (l22 : K.lookup f22 = some ⟨oc22, od22, .func (PySem.W.fnOf "__eq__" "Word.__eq__" (defArgs s_Word_eq) (defBody s_Word_eq) (defScope s_Word_eq) .none kV22 dc22 pm22 an22 cd22 ct22), sl22⟩)
    (e22 : PySem.W.codeIn K cd22 "Word.__eq__" = true)
    (k22 : PySem.W.keepIn K (.ref f22) = true)
    (a23 : PySem.W.findIn K (.ref C_Word) "at" = some (some (.ref f23)))
    (l23 : K.lookup f23 = some ⟨oc23, od23, .func (PySem.W.fnOf "at" "Word.at" (defArgs s_Word_at) (defBody s_Word_at) (defScope s_Word_at) .none kV23 dc23 pm23 an23 cd23 ct23), sl23⟩)
    (e23 : PySem.W.codeIn K cd23 "Word.at" = true)
    (k23 : PySem.W.keepIn K (.ref f23) = true)
    (a24 : PySem.W.nsIn K mainGlobals "_law_pen" = some (some (.ref f24)))
    (l24 : K.lookup f24 = some ⟨oc24, od24, .func (PySem.W.fnOf "_law_pen" "_law_pen" (defArgs s__law_pen) (defBody s__law_pen) (defScope s__law_pen) .none kV24 dc24 pm24 an24 cd24 ct24), sl24⟩)
    (e24 : PySem.W.codeIn K cd24 "_law_pen" = true)
    (k24 : PySem.W.keepIn K (.ref f24) = true)
    (a25 : PySem.W.nsIn K mainGlobals "_law_draw" = some (some (.ref f25)))
    (l25 : K.lookup f25 = some ⟨oc25, od25, .func (PySem.W.fnOf "_law_draw" "_law_draw" (defArgs s__law_draw) (defBody s__law_draw) (defScope s__law_draw) .none kV25 dc25 pm25 an25 cd25 ct25), sl25⟩)
    (e25 : PySem.W.codeIn K cd25 "_law_draw" = true)
    (k25 : PySem.W.keepIn K (.ref f25) = true)
    (a26 : PySem.W.nsIn K mainGlobals "_law_pick" = some (some (.ref f26)))
    (l26 : K.lookup f26 = some ⟨oc26, od26, .func (PySem.W.fnOf "_law_pick" "_law_pick" (defArgs s__law_pick) (defBody s__law_pick) (defScope s__law_pick) .none kV26 dc26 pm26 an26 cd26 ct26), sl26⟩)
    (e26 : PySem.W.codeIn K cd26 "_law_pick" = true)
    (k26 : PySem.W.keepIn K (.ref f26) = true)
    (a27 : PySem.W.nsIn K mainGlobals "_law_place_word" = some (some (.ref f27)))
    (l27 : K.lookup f27 = some ⟨oc27, od27, .func (PySem.W.fnOf "_law_place_word" "_law_place_word" (defArgs s__law_place_word) (defBody s__law_place_word) (defScope s__law_place_word) .none kV27 dc27 pm27 an27 cd27 ct27), sl27⟩)
    (e27 : PySem.W.codeIn K cd27 "_law_place_word" = true)
    (k27 : PySem.W.keepIn K (.ref f27) = true)
    (a28 : PySem.W.nsIn K mainGlobals "_law_value" = some (some (.ref f28)))
    (l28 : K.lookup f28 = some ⟨oc28, od28, .func (PySem.W.fnOf "_law_value" "_law_value" (defArgs s__law_value) (defBody s__law_value) (defScope s__law_value) .none kV28 dc28 pm28 an28 cd28 ct28), sl28⟩)
    (e28 : PySem.W.codeIn K cd28 "_law_value" = true)
    (k28 : PySem.W.keepIn K (.ref f28) = true)
    (a29 : PySem.W.nsIn K mainGlobals "_law_amount" = some (some (.ref f29)))
    (l29 : K.lookup f29 = some ⟨oc29, od29, .func (PySem.W.fnOf "_law_amount" "_law_amount" (defArgs s__law_amount) (defBody s__law_amount) (defScope s__law_amount) .none kV29 dc29 pm29 an29 cd29 ct29), sl29⟩)
    (e29 : PySem.W.codeIn K cd29 "_law_amount" = true)
    (k29 : PySem.W.keepIn K (.ref f29) = true)
    (a30 : PySem.W.nsIn K mainGlobals "_law_move" = some (some (.ref f30)))
    (l30 : K.lookup f30 = some ⟨oc30, od30, .func (PySem.W.fnOf "_law_move" "_law_move" (defArgs s__law_move) (defBody s__law_move) (defScope s__law_move) .none kV30 dc30 pm30 an30 cd30 ct30), sl30⟩)
    (e30 : PySem.W.codeIn K cd30 "_law_move" = true)
    (k30 : PySem.W.keepIn K (.ref f30) = true)
    (a31 : PySem.W.nsIn K mainGlobals "_law_moves" = some (some (.ref f31)))
    (l31 : K.lookup f31 = some ⟨oc31, od31, .func (PySem.W.fnOf "_law_moves" "_law_moves" (defArgs s__law_moves) (defBody s__law_moves) (defScope s__law_moves) .none kV31 dc31 pm31 an31 cd31 ct31), sl31⟩)
    (e31 : PySem.W.codeIn K cd31 "_law_moves" = true)
    (k31 : PySem.W.keepIn K (.ref f31) = true)
    (a32 : PySem.W.nsIn K mainGlobals "_law_word_text" = some (some (.ref f32)))
    (l32 : K.lookup f32 = some ⟨oc32, od32, .func (PySem.W.fnOf "_law_word_text" "_law_word_text" (defArgs s__law_word_text) (defBody s__law_word_text) (defScope s__law_word_text) .none kV32 dc32 pm32 an32 cd32 ct32), sl32⟩)
    (e32 : PySem.W.codeIn K cd32 "_law_word_text" = true)
    (k32 : PySem.W.keepIn K (.ref f32) = true)
    (a33 : PySem.W.nsIn K mainGlobals "_law_moved" = some (some (.ref f33)))
    (l33 : K.lookup f33 = some ⟨oc33, od33, .func (PySem.W.fnOf "_law_moved" "_law_moved" (defArgs s__law_moved) (defBody s__law_moved) (defScope s__law_moved) .none kV33 dc33 pm33 an33 cd33 ct33), sl33⟩)
    (e33 : PySem.W.codeIn K cd33 "_law_moved" = true)
    (k33 : PySem.W.keepIn K (.ref f33) = true)
    (a34 : PySem.W.nsIn K mainGlobals "_law_all_moved" = some (some (.ref f34)))
    (l34 : K.lookup f34 = some ⟨oc34, od34, .func (PySem.W.fnOf "_law_all_moved" "_law_all_moved" (defArgs s__law_all_moved) (defBody s__law_all_moved) (defScope s__law_all_moved) .none kV34 dc34 pm34 an34 cd34 ct34), sl34⟩)
    (e34 : PySem.W.codeIn K cd34 "_law_all_moved" = true)
    (k34 : PySem.W.keepIn K (.ref f34) = true)
    (a35 : PySem.W.nsIn K mainGlobals "law" = some (some (.ref f35)))
    (l35 : K.lookup f35 = some ⟨oc35, od35, .func (PySem.W.fnOf "law" "law" (defArgs s_law) (defBody s_law) (defScope s_law) .none kV35 dc35 pm35 an35 cd35 ct35), sl35⟩)
    (e35 : PySem.W.codeIn K cd35 "law" = true)
    (k35 : PySem.W.keepIn K (.ref f35) = true)
    (pg_Word : PySem.W.plainGet K C_Word Str.empty = true)
    (hd_Word : PySem.W.hasDictIn K C_Word = true)
    (po_Word : PySem.W.plainOver K C_Word = true)
    (sa_Word : PySem.W.findIn K (.ref C_Word) "__setattr__" = some (some (.builtin "object.__setattr__")))
    (mk_Word : PySem.W.makesIn K C_Word = true)
    (kc_Word : PySem.W.keepIn K (.ref C_Word) = true)
    (n_Word_text : PySem.W.findIn K (.ref C_Word) "text" = some none)
    (n_Word_moves : PySem.W.findIn K (.ref C_Word) "moves" = some none)
    (n_Word_has_turn : PySem.W.findIn K (.ref C_Word) "has_turn" = some none)
    (i_Word_init : PySem.W.isFn K (.ref f21) = true)
    (i_Word_eq : PySem.W.isFn K (.ref f22) = true)
    (i_Word_at : PySem.W.isFn K (.ref f23) = true)
    (og_Word : PySem.W.findIn K (.ref C_Word) "__class__" = some (some (.builtin "object.__class__")))
    (on_Word : PySem.W.specialIn K (.builtin "object.__class__") "__get__" = some (some (.builtin "getset_descriptor.__get__")))
    (ot_Word : PySem.W.takesIn K (.builtin "object.__class__") = some true)
    (om_Word : PySem.W.mroIn K C_Word (.type "object") = some true)
    (of_Word : PySem.W.notFirst K C_Word (.type "str") = true)
    (ok_Word : PySem.W.kitOne K (.type "str") (.ref C_Word) = some false)
    (z_bool : PySem.W.nsIn K mainGlobals "bool" = some none)
    (z_enumerate : PySem.W.nsIn K mainGlobals "enumerate" = some none)
    (z_int : PySem.W.nsIn K mainGlobals "int" = some none)
    (z_isinstance : PySem.W.nsIn K mainGlobals "isinstance" = some none)
    (z_len : PySem.W.nsIn K mainGlobals "len" = some none)
    (z_list : PySem.W.nsIn K mainGlobals "list" = some none)
    (z_range : PySem.W.nsIn K mainGlobals "range" = some none)
    (z_str : PySem.W.nsIn K mainGlobals "str" = some none)
    (z_tuple : PySem.W.nsIn K mainGlobals "tuple" = some none)
    (m_MOST_PLACES : PySem.W.nsIn K mainGlobals "MOST_PLACES" = some (some (.int 1000 t_MOST_PLACES)))
    (m_MOST_MOVES : PySem.W.nsIn K mainGlobals "MOST_MOVES" = some (some (.int 4 t_MOST_MOVES)))
    (m_FIGURES : PySem.W.nsIn K mainGlobals "FIGURES" = some (some (.ref a_FIGURES)))
    (l_FIGURES : K.lookup a_FIGURES = some o_FIGURES)
    (h_FIGURES : tupB o_FIGURES [.str "1", .str "2", .str "3", .str "4", .str "5", .str "6", .str "7", .str "8", .str "9"] = true)
    (m_PLACE_FRONTS : PySem.W.nsIn K mainGlobals "PLACE_FRONTS" = some (some (.ref a_PLACE_FRONTS)))
    (l_PLACE_FRONTS : K.lookup a_PLACE_FRONTS = some o_PLACE_FRONTS)
    (h_PLACE_FRONTS : tupB o_PLACE_FRONTS [.str "", .str "-", .str "half-", .str "half+"] = true)
    (m_AMOUNT_FRONTS : PySem.W.nsIn K mainGlobals "AMOUNT_FRONTS" = some (some (.ref a_AMOUNT_FRONTS)))
    (l_AMOUNT_FRONTS : K.lookup a_AMOUNT_FRONTS = some o_AMOUNT_FRONTS)
    (h_AMOUNT_FRONTS : tupB o_AMOUNT_FRONTS [.str "", .str "-"] = true)
    (m_SHAPES : PySem.W.nsIn K mainGlobals "SHAPES" = some (some (.ref a_SHAPES)))
    (l_SHAPES : K.lookup a_SHAPES = some ⟨.type "dict", none, .dict es_SHAPES n_SHAPES, #[]⟩)
    (y_SHAPES : PySem.W.KeysLit w.params es_SHAPES.toList)
    (h_SHAPES : (a_SHAPES == sysModules) = false)
    (e_SHAPES : PySem.W.nsIn K a_SHAPES "" = some none)
    (v_SHAPES_0 : PySem.W.nsIn K a_SHAPES "exchange" = some (some (.ref p_SHAPES_0)))
    (l_SHAPES_0 : K.lookup p_SHAPES_0 = some o_SHAPES_0)
    (h_SHAPES_0 : tupB o_SHAPES_0 [.str "place", .str "place"] = true)
    (v_SHAPES_1 : PySem.W.nsIn K a_SHAPES "roll" = some (some (.ref p_SHAPES_1)))
    (l_SHAPES_1 : K.lookup p_SHAPES_1 = some o_SHAPES_1)
    (h_SHAPES_1 : tupB o_SHAPES_1 [.str "place", .str "place", .str "amount"] = true)
    (v_SHAPES_2 : PySem.W.nsIn K a_SHAPES "turn" = some (some (.ref p_SHAPES_2)))
    (l_SHAPES_2 : K.lookup p_SHAPES_2 = some o_SHAPES_2)
    (h_SHAPES_2 : tupB o_SHAPES_2 [] = true)
    (m_NO_PART : PySem.W.nsIn K mainGlobals "NO_PART" = some (some (.str "" t_NO_PART)))
    : ∃ fd : FuncData, (∀ (s : Shared) (v : Value), BindsTo s fd ⟨[v], []⟩ [("script", v)]) ∧ ∀ base : Heap, K.In base → base.Ns mainGlobals mg → FnOk l.prog w K mg base CX0 8 fa fd ["script"] (spLaw K) := by
  have e := hfa.symm.trans (PySem.W.mg_of X G a35)
  cases e
  let a : Ad := ⟨f0, PySem.W.fnOf "is_integer" "is_integer" (defArgs s_is_integer) (defBody s_is_integer) (defScope s_is_integer) .none kV0 dc0 pm0 an0 cd0 ct0, f1, PySem.W.fnOf "is_between" "is_between" (defArgs s_is_between) (defBody s_is_between) (defScope s_is_between) .none kV1 dc1 pm1 an1 cd1 ct1, f2, PySem.W.fnOf "first_wrong" "first_wrong" (defArgs s_first_wrong) (defBody s_first_wrong) (defScope s_first_wrong) .none kV2 dc2 pm2 an2 cd2 ct2, f3, PySem.W.fnOf "__init__" "BadWord.__init__" (defArgs s_BadWord_init) (defBody s_BadWord_init) (defScope s_BadWord_init) .none kV3 dc3 pm3 an3 cd3 ct3, f4, PySem.W.fnOf "__init__" "BadSize.__init__" (defArgs s_BadSize_init) (defBody s_BadSize_init) (defScope s_BadSize_init) .none kV4 dc4 pm4 an4 cd4 ct4, f5, PySem.W.fnOf "__init__" "BadRow.__init__" (defArgs s_BadRow_init) (defBody s_BadRow_init) (defScope s_BadRow_init) .none kV5 dc5 pm5 an5 cd5 ct5, f6, PySem.W.fnOf "check_row" "check_row" (defArgs s_check_row) (defBody s_check_row) (defScope s_check_row) .none kV6 dc6 pm6 an6 cd6 ct6, f7, PySem.W.fnOf "nothing" "nothing" (defArgs s_nothing) (defBody s_nothing) (defScope s_nothing) .none kV7 dc7 pm7 an7 cd7 ct7, f8, PySem.W.fnOf "joined" "joined" (defArgs s_joined) (defBody s_joined) (defScope s_joined) .none kV8 dc8 pm8 an8 cd8 ct8, f9, PySem.W.fnOf "in_turn" "in_turn" (defArgs s_in_turn) (defBody s_in_turn) (defScope s_in_turn) .none kV9 dc9 pm9 an9 cd9 ct9, f10, PySem.W.fnOf "is_figure_behind" "is_figure_behind" (defArgs s_is_figure_behind) (defBody s_is_figure_behind) (defScope s_is_figure_behind) .none kV10 dc10 pm10 an10 cd10 ct10, f11, PySem.W.fnOf "is_place_word" "is_place_word" (defArgs s_is_place_word) (defBody s_is_place_word) (defScope s_is_place_word) .none kV11 dc11 pm11 an11 cd11 ct11, f12, PySem.W.fnOf "is_amount" "is_amount" (defArgs s_is_amount) (defBody s_is_amount) (defScope s_is_amount) .none kV12 dc12 pm12 an12 cd12 ct12, f13, PySem.W.fnOf "place_of" "place_of" (defArgs s_place_of) (defBody s_place_of) (defScope s_place_of) .none kV13 dc13 pm13 an13 cd13 ct13, f14, PySem.W.fnOf "amount_of" "amount_of" (defArgs s_amount_of) (defBody s_amount_of) (defScope s_amount_of) .none kV14 dc14 pm14 an14 cd14 ct14, f15, PySem.W.fnOf "is_part" "is_part" (defArgs s_is_part) (defBody s_is_part) (defScope s_is_part) .none kV15 dc15 pm15 an15 cd15 ct15, f16, PySem.W.fnOf "read_move" "read_move" (defArgs s_read_move) (defBody s_read_move) (defScope s_read_move) .none kV16 dc16 pm16 an16 cd16 ct16, f17, PySem.W.fnOf "read_moves" "read_moves" (defArgs s_read_moves) (defBody s_read_moves) (defScope s_read_moves) .none kV17 dc17 pm17 an17 cd17 ct17, f18, PySem.W.fnOf "exchanged" "exchanged" (defArgs s_exchanged) (defBody s_exchanged) (defScope s_exchanged) .none kV18 dc18 pm18 an18 cd18 ct18, f19, PySem.W.fnOf "rolled" "rolled" (defArgs s_rolled) (defBody s_rolled) (defScope s_rolled) .none kV19 dc19 pm19 an19 cd19 ct19, f20, PySem.W.fnOf "moved" "moved" (defArgs s_moved) (defBody s_moved) (defScope s_moved) .none kV20 dc20 pm20 an20 cd20 ct20, f21, PySem.W.fnOf "__init__" "Word.__init__" (defArgs s_Word_init) (defBody s_Word_init) (defScope s_Word_init) .none kV21 dc21 pm21 an21 cd21 ct21, f22, PySem.W.fnOf "__eq__" "Word.__eq__" (defArgs s_Word_eq) (defBody s_Word_eq) (defScope s_Word_eq) .none kV22 dc22 pm22 an22 cd22 ct22, f23, PySem.W.fnOf "at" "Word.at" (defArgs s_Word_at) (defBody s_Word_at) (defScope s_Word_at) .none kV23 dc23 pm23 an23 cd23 ct23, f24, PySem.W.fnOf "_law_pen" "_law_pen" (defArgs s__law_pen) (defBody s__law_pen) (defScope s__law_pen) .none kV24 dc24 pm24 an24 cd24 ct24, f25, PySem.W.fnOf "_law_draw" "_law_draw" (defArgs s__law_draw) (defBody s__law_draw) (defScope s__law_draw) .none kV25 dc25 pm25 an25 cd25 ct25, f26, PySem.W.fnOf "_law_pick" "_law_pick" (defArgs s__law_pick) (defBody s__law_pick) (defScope s__law_pick) .none kV26 dc26 pm26 an26 cd26 ct26, f27, PySem.W.fnOf "_law_place_word" "_law_place_word" (defArgs s__law_place_word) (defBody s__law_place_word) (defScope s__law_place_word) .none kV27 dc27 pm27 an27 cd27 ct27, f28, PySem.W.fnOf "_law_value" "_law_value" (defArgs s__law_value) (defBody s__law_value) (defScope s__law_value) .none kV28 dc28 pm28 an28 cd28 ct28, f29, PySem.W.fnOf "_law_amount" "_law_amount" (defArgs s__law_amount) (defBody s__law_amount) (defScope s__law_amount) .none kV29 dc29 pm29 an29 cd29 ct29, f30, PySem.W.fnOf "_law_move" "_law_move" (defArgs s__law_move) (defBody s__law_move) (defScope s__law_move) .none kV30 dc30 pm30 an30 cd30 ct30, f31, PySem.W.fnOf "_law_moves" "_law_moves" (defArgs s__law_moves) (defBody s__law_moves) (defScope s__law_moves) .none kV31 dc31 pm31 an31 cd31 ct31, f32, PySem.W.fnOf "_law_word_text" "_law_word_text" (defArgs s__law_word_text) (defBody s__law_word_text) (defScope s__law_word_text) .none kV32 dc32 pm32 an32 cd32 ct32, f33, PySem.W.fnOf "_law_moved" "_law_moved" (defArgs s__law_moved) (defBody s__law_moved) (defScope s__law_moved) .none kV33 dc33 pm33 an33 cd33 ct33, f34, PySem.W.fnOf "_law_all_moved" "_law_all_moved" (defArgs s__law_all_moved) (defBody s__law_all_moved) (defScope s__law_all_moved) .none kV34 dc34 pm34 an34 cd34 ct34, fa, PySem.W.fnOf "law" "law" (defArgs s_law) (defBody s_law) (defScope s_law) .none kV35 dc35 pm35 an35 cd35 ct35, C_EveryError, C_BadWord, C_BadSize, C_BadRow, C_Word, a_FIGURES, a_PLACE_FRONTS, a_AMOUNT_FRONTS, a_SHAPES⟩
  have F0 : Fun K "is_integer" "is_integer" s_is_integer a.f_is_integer a.d_is_integer := fun_mk (st := s_is_integer) l0 e0 k0
  have F1 : Fun K "is_between" "is_between" s_is_between a.f_is_between a.d_is_between := fun_mk (st := s_is_between) l1 e1 k1
  have F2 : Fun K "first_wrong" "first_wrong" s_first_wrong a.f_first_wrong a.d_first_wrong := fun_mk (st := s_first_wrong) l2 e2 k2
  have F3 : Fun K "__init__" "BadWord.__init__" s_BadWord_init a.f_BadWord_init a.d_BadWord_init := fun_mk (st := s_BadWord_init) l3 e3 k3
  have F4 : Fun K "__init__" "BadSize.__init__" s_BadSize_init a.f_BadSize_init a.d_BadSize_init := fun_mk (st := s_BadSize_init) l4 e4 k4
  have F5 : Fun K "__init__" "BadRow.__init__" s_BadRow_init a.f_BadRow_init a.d_BadRow_init := fun_mk (st := s_BadRow_init) l5 e5 k5
  have F6 : Fun K "check_row" "check_row" s_check_row a.f_check_row a.d_check_row := fun_mk (st := s_check_row) l6 e6 k6
  have F7 : Fun K "nothing" "nothing" s_nothing a.f_nothing a.d_nothing := fun_mk (st := s_nothing) l7 e7 k7
  have F8 : Fun K "joined" "joined" s_joined a.f_joined a.d_joined := fun_mk (st := s_joined) l8 e8 k8
  have F9 : Fun K "in_turn" "in_turn" s_in_turn a.f_in_turn a.d_in_turn := fun_mk (st := s_in_turn) l9 e9 k9
  have F10 : Fun K "is_figure_behind" "is_figure_behind" s_is_figure_behind a.f_is_figure_behind a.d_is_figure_behind := fun_mk (st := s_is_figure_behind) l10 e10 k10
  have F11 : Fun K "is_place_word" "is_place_word" s_is_place_word a.f_is_place_word a.d_is_place_word := fun_mk (st := s_is_place_word) l11 e11 k11
  have F12 : Fun K "is_amount" "is_amount" s_is_amount a.f_is_amount a.d_is_amount := fun_mk (st := s_is_amount) l12 e12 k12
  have F13 : Fun K "place_of" "place_of" s_place_of a.f_place_of a.d_place_of := fun_mk (st := s_place_of) l13 e13 k13
  have F14 : Fun K "amount_of" "amount_of" s_amount_of a.f_amount_of a.d_amount_of := fun_mk (st := s_amount_of) l14 e14 k14
  have F15 : Fun K "is_part" "is_part" s_is_part a.f_is_part a.d_is_part := fun_mk (st := s_is_part) l15 e15 k15
  have F16 : Fun K "read_move" "read_move" s_read_move a.f_read_move a.d_read_move := fun_mk (st := s_read_move) l16 e16 k16
  have F17 : Fun K "read_moves" "read_moves" s_read_moves a.f_read_moves a.d_read_moves := fun_mk (st := s_read_moves) l17 e17 k17
  have F18 : Fun K "exchanged" "exchanged" s_exchanged a.f_exchanged a.d_exchanged := fun_mk (st := s_exchanged) l18 e18 k18
  have F19 : Fun K "rolled" "rolled" s_rolled a.f_rolled a.d_rolled := fun_mk (st := s_rolled) l19 e19 k19
  have F20 : Fun K "moved" "moved" s_moved a.f_moved a.d_moved := fun_mk (st := s_moved) l20 e20 k20
  have F21 : Fun K "__init__" "Word.__init__" s_Word_init a.f_Word_init a.d_Word_init := fun_mk (st := s_Word_init) l21 e21 k21
  have F22 : Fun K "__eq__" "Word.__eq__" s_Word_eq a.f_Word_eq a.d_Word_eq := fun_mk (st := s_Word_eq) l22 e22 k22
  have F23 : Fun K "at" "Word.at" s_Word_at a.f_Word_at a.d_Word_at := fun_mk (st := s_Word_at) l23 e23 k23
  have F24 : Fun K "_law_pen" "_law_pen" s__law_pen a.f__law_pen a.d__law_pen := fun_mk (st := s__law_pen) l24 e24 k24
  have F25 : Fun K "_law_draw" "_law_draw" s__law_draw a.f__law_draw a.d__law_draw := fun_mk (st := s__law_draw) l25 e25 k25
  have F26 : Fun K "_law_pick" "_law_pick" s__law_pick a.f__law_pick a.d__law_pick := fun_mk (st := s__law_pick) l26 e26 k26
  have F27 : Fun K "_law_place_word" "_law_place_word" s__law_place_word a.f__law_place_word a.d__law_place_word := fun_mk (st := s__law_place_word) l27 e27 k27
  have F28 : Fun K "_law_value" "_law_value" s__law_value a.f__law_value a.d__law_value := fun_mk (st := s__law_value) l28 e28 k28
  have F29 : Fun K "_law_amount" "_law_amount" s__law_amount a.f__law_amount a.d__law_amount := fun_mk (st := s__law_amount) l29 e29 k29
  have F30 : Fun K "_law_move" "_law_move" s__law_move a.f__law_move a.d__law_move := fun_mk (st := s__law_move) l30 e30 k30
  have F31 : Fun K "_law_moves" "_law_moves" s__law_moves a.f__law_moves a.d__law_moves := fun_mk (st := s__law_moves) l31 e31 k31
  have F32 : Fun K "_law_word_text" "_law_word_text" s__law_word_text a.f__law_word_text a.d__law_word_text := fun_mk (st := s__law_word_text) l32 e32 k32
  have F33 : Fun K "_law_moved" "_law_moved" s__law_moved a.f__law_moved a.d__law_moved := fun_mk (st := s__law_moved) l33 e33 k33
  have F34 : Fun K "_law_all_moved" "_law_all_moved" s__law_all_moved a.f__law_all_moved a.d__law_all_moved := fun_mk (st := s__law_all_moved) l34 e34 k34
  have F35 : Fun K "law" "law" s_law a.f_law a.d_law := fun_mk (st := s_law) l35 e35 k35
  have T : Tx w K mg a := ⟨(F0),
    (F0.binds (ps := ["value"]) fun _ _ _ _ _ _ us hl => match us, hl with | [_], _ => rfl),
    (PySem.W.mg_of X G a0),
    (F1),
    (F1.binds (ps := ["value", "low", "high"]) fun _ _ _ _ _ _ us hl => match us, hl with | [_, _, _], _ => rfl),
    (PySem.W.mg_of X G a1),
    (F2),
    (F2.binds (ps := ["row", "size"]) fun _ _ _ _ _ _ us hl => match us, hl with | [_, _], _ => rfl),
    (PySem.W.mg_of X G a2),
    (F3),
    (F3.binds (ps := ["self", "index"]) fun _ _ _ _ _ _ us hl => match us, hl with | [_, _], _ => rfl),
    (F4),
    (F4.binds (ps := ["self", "size"]) fun _ _ _ _ _ _ us hl => match us, hl with | [_, _], _ => rfl),
    (F5),
    (F5.binds (ps := ["self", "index"]) fun _ _ _ _ _ _ us hl => match us, hl with | [_, _], _ => rfl),
    (F6),
    (F6.binds (ps := ["row"]) fun _ _ _ _ _ _ us hl => match us, hl with | [_], _ => rfl),
    (PySem.W.mg_of X G a6),
    (F7),
    (F7.binds (ps := ["size"]) fun _ _ _ _ _ _ us hl => match us, hl with | [_], _ => rfl),
    (PySem.W.mg_of X G a7),
    (F8),
    (F8.binds (ps := ["first", "second"]) fun _ _ _ _ _ _ us hl => match us, hl with | [_, _], _ => rfl),
    (PySem.W.mg_of X G a8),
    (F9),
    (F9.binds (ps := ["first", "second"]) fun _ _ _ _ _ _ us hl => match us, hl with | [_, _], _ => rfl),
    (PySem.W.mg_of X G a9),
    (F10),
    (F10.binds (ps := ["fronts", "text"]) fun _ _ _ _ _ _ us hl => match us, hl with | [_, _], _ => rfl),
    (PySem.W.mg_of X G a10),
    (F11),
    (F11.binds (ps := ["text"]) fun _ _ _ _ _ _ us hl => match us, hl with | [_], _ => rfl),
    (PySem.W.mg_of X G a11),
    (F12),
    (F12.binds (ps := ["text"]) fun _ _ _ _ _ _ us hl => match us, hl with | [_], _ => rfl),
    (PySem.W.mg_of X G a12),
    (F13),
    (F13.binds (ps := ["word", "size"]) fun _ _ _ _ _ _ us hl => match us, hl with | [_, _], _ => rfl),
    (PySem.W.mg_of X G a13),
    (F14),
    (F14.binds (ps := ["text", "length"]) fun _ _ _ _ _ _ us hl => match us, hl with | [_, _], _ => rfl),
    (PySem.W.mg_of X G a14),
    (F15),
    (F15.binds (ps := ["text", "kind"]) fun _ _ _ _ _ _ us hl => match us, hl with | [_, _], _ => rfl),
    (PySem.W.mg_of X G a15),
    (F16),
    (F16.binds (ps := ["parts", "start", "may_turn"]) fun _ _ _ _ _ _ us hl => match us, hl with | [_, _, _], _ => rfl),
    (PySem.W.mg_of X G a16),
    (F17),
    (F17.binds (ps := ["parts", "start"]) fun _ _ _ _ _ _ us hl => match us, hl with | [_, _], _ => rfl),
    (PySem.W.mg_of X G a17),
    (F18),
    (F18.binds (ps := ["old", "x", "y"]) fun _ _ _ _ _ _ us hl => match us, hl with | [_, _, _], _ => rfl),
    (PySem.W.mg_of X G a18),
    (F19),
    (F19.binds (ps := ["old", "x", "y", "amount"]) fun _ _ _ _ _ _ us hl => match us, hl with | [_, _, _, _], _ => rfl),
    (PySem.W.mg_of X G a19),
    (F20),
    (F20.binds (ps := ["old", "move"]) fun _ _ _ _ _ _ us hl => match us, hl with | [_, _], _ => rfl),
    (PySem.W.mg_of X G a20),
    (F21),
    (F21.binds (ps := ["self", "text"]) fun _ _ _ _ _ _ us hl => match us, hl with | [_, _], _ => rfl),
    (F22),
    (F22.binds (ps := ["self", "other"]) fun _ _ _ _ _ _ us hl => match us, hl with | [_, _], _ => rfl),
    (F23),
    (F23.binds (ps := ["self", "k"]) fun _ _ _ _ _ _ us hl => match us, hl with | [_, _], _ => rfl),
    (F24),
    (F24.binds (ps := ["script"]) fun _ _ _ _ _ _ us hl => match us, hl with | [_], _ => rfl),
    (PySem.W.mg_of X G a24),
    (F25),
    (F25.binds (ps := ["pen", "many"]) fun _ _ _ _ _ _ us hl => match us, hl with | [_, _], _ => rfl),
    (PySem.W.mg_of X G a25),
    (F26),
    (F26.binds (ps := ["pen", "some"]) fun _ _ _ _ _ _ us hl => match us, hl with | [_, _], _ => rfl),
    (PySem.W.mg_of X G a26),
    (F27),
    (F27.binds (ps := ["pen"]) fun _ _ _ _ _ _ us hl => match us, hl with | [_], _ => rfl),
    (PySem.W.mg_of X G a27),
    (F28),
    (F28.binds (ps := ["word", "k"]) fun _ _ _ _ _ _ us hl => match us, hl with | [_, _], _ => rfl),
    (PySem.W.mg_of X G a28),
    (F29),
    (F29.binds (ps := ["pen"]) fun _ _ _ _ _ _ us hl => match us, hl with | [_], _ => rfl),
    (PySem.W.mg_of X G a29),
    (F30),
    (F30.binds (ps := ["pen", "has_turn"]) fun _ _ _ _ _ _ us hl => match us, hl with | [_, _], _ => rfl),
    (PySem.W.mg_of X G a30),
    (F31),
    (F31.binds (ps := ["pen"]) fun _ _ _ _ _ _ us hl => match us, hl with | [_], _ => rfl),
    (PySem.W.mg_of X G a31),
    (F32),
    (F32.binds (ps := ["moves"]) fun _ _ _ _ _ _ us hl => match us, hl with | [_], _ => rfl),
    (PySem.W.mg_of X G a32),
    (F33),
    (F33.binds (ps := ["row", "move"]) fun _ _ _ _ _ _ us hl => match us, hl with | [_, _], _ => rfl),
    (PySem.W.mg_of X G a33),
    (F34),
    (F34.binds (ps := ["row", "moves"]) fun _ _ _ _ _ _ us hl => match us, hl with | [_, _], _ => rfl),
    (PySem.W.mg_of X G a34),
    (F35),
    (F35.binds (ps := ["script"]) fun _ _ _ _ _ _ us hl => match us, hl with | [_], _ => rfl),
    (PySem.W.mg_of X G a35),
    (PySem.W.mg_of X G c_EveryError),
    (PySem.W.mg_of X G c_BadWord),
    (PySem.W.mg_of X G c_BadSize),
    (PySem.W.mg_of X G c_BadRow),
    (PySem.W.mg_of X G c_Word),
    (⟨pg_Word, hd_Word, po_Word, sa_Word⟩),
    (⟨mk_Word, a21, i_Word_init, kc_Word⟩),
    (n_Word_text),
    (n_Word_moves),
    (n_Word_has_turn),
    (⟨a23, i_Word_at, k23⟩),
    (⟨a22, i_Word_eq, og_Word, on_Word, ot_Word, om_Word, of_Word, ok_Word⟩),
    (PySem.W.mg_none_of X G z_bool),
    (PySem.W.mg_none_of X G z_enumerate),
    (PySem.W.mg_none_of X G z_int),
    (PySem.W.mg_none_of X G z_isinstance),
    (PySem.W.mg_none_of X G z_len),
    (PySem.W.mg_none_of X G z_list),
    (PySem.W.mg_none_of X G z_range),
    (PySem.W.mg_none_of X G z_str),
    (PySem.W.mg_none_of X G z_tuple),
    (⟨_, PySem.W.mg_of X G m_MOST_PLACES⟩),
    (⟨_, PySem.W.mg_of X G m_MOST_MOVES⟩),
    (PySem.W.mg_of X G m_FIGURES),
    (fun H => tupB_ok l_FIGURES h_FIGURES),
    (PySem.W.mg_of X G m_PLACE_FRONTS),
    (fun H => tupB_ok l_PLACE_FRONTS h_PLACE_FRONTS),
    (PySem.W.mg_of X G m_AMOUNT_FRONTS),
    (fun H => tupB_ok l_AMOUNT_FRONTS h_AMOUNT_FRONTS),
    (PySem.W.mg_of X G m_SHAPES),
    (⟨_, _, l_SHAPES, y_SHAPES, h_SHAPES⟩),
    (e_SHAPES),
    (⟨_, v_SHAPES_0, fun H => tupB_ok l_SHAPES_0 h_SHAPES_0⟩),
    (⟨_, v_SHAPES_1, fun H => tupB_ok l_SHAPES_1 h_SHAPES_1⟩),
    (⟨_, v_SHAPES_2, fun H => tupB_ok l_SHAPES_2 h_SHAPES_2⟩),
    (⟨_, PySem.W.mg_of X G m_NO_PART⟩)⟩
  exact ⟨a.d_law, fun s v => .of_eq rfl, fun base _ _ => ok_law T⟩
end Pf07
open PySem PySem.W PyProof.Rows
set_option maxRecDepth 100000 in
set_option maxHeartbeats 0 in
theorem PySem.Challenge.cw_everyorder_k07_whole_words_of_moves_holds : PySem.Challenge.rw_everyorder_k07_whole_words_of_moves.Holds := by
  w_on; o_law; k_head; (case hw => w_witness2)
  k_fill
  refine L2.walk_of (l := PySem.Challenge.rw_everyorder_k07_whole_words_of_moves) (n := 63) (k := 8) (x := "script") (CX := fun _ => L2.CX0) (sp := fun w => Pf07.spLaw _) rfl (by decide) rfl ⟨rfl, by decide, by decide⟩ (fun w h Y => PySem.W.kIn_of Y) ?F (fun _ _ a ns hl _ hS => ⟨a, ns, rfl, hS, hl, fun _ => rfl⟩) (fun _ _ _ _ _ h => h)
  case F =>
    intro w mg fa h KX G hmg
    refine' Pf07.all_mk KX G hmg ?c_EveryError ?c_BadWord ?c_BadSize ?c_BadRow ?c_Word ?a0 ?l0 ?e0 ?k0 ?a1 ?l1 ?e1 ?k1 ?a2 ?l2 ?e2 ?k2 ?a3 ?l3 ?e3 ?k3 ?a4 ?l4 ?e4 ?k4 ?a5 ?l5 ?e5 ?k5 ?a6 ?l6 ?e6 ?k6 ?a7 ?l7 ?e7 ?k7 ?a8 ?l8 ?e8 ?k8 ?a9 ?l9 ?e9 ?k9 ?a10 ?l10 ?e10 ?k10 ?a11 ?l11 ?e11 ?k11 ?a12 ?l12 ?e12 ?k12 ?a13 ?l13 ?e13 ?k13 ?a14 ?l14 ?e14 ?k14 ?a15 ?l15 ?e15 ?k15 ?a16 ?l16 ?e16 ?k16 ?a17 ?l17 ?e17 ?k17 ?a18 ?l18 ?e18 ?k18 ?a19 ?l19 ?e19 ?k19 ?a20 ?l20 ?e20 ?k20 ?a21 ?l21 ?e21 ?k21 ?a22 ?l22 ?e22 ?k22 ?a23 ?l23 ?e23 ?k23 ?a24 ?l24 ?e24 ?k24 ?a25 ?l25 ?e25 ?k25 ?a26 ?l26 ?e26 ?k26 ?a27 ?l27 ?e27 ?k27 ?a28 ?l28 ?e28 ?k28 ?a29 ?l29 ?e29 ?k29 ?a30 ?l30 ?e30 ?k30 ?a31 ?l31 ?e31 ?k31 ?a32 ?l32 ?e32 ?k32 ?a33 ?l33 ?e33 ?k33 ?a34 ?l34 ?e34 ?k34 ?a35 ?l35 ?e35 ?k35 ?pg_Word ?hd_Word ?po_Word ?sa_Word ?mk_Word ?kc_Word ?n_Word_text ?n_Word_moves ?n_Word_has_turn ?i_Word_init ?i_Word_eq ?i_Word_at ?og_Word ?on_Word ?ot_Word ?om_Word ?of_Word ?ok_Word ?z_bool ?z_enumerate ?z_int ?z_isinstance ?z_len ?z_list ?z_range ?z_str ?z_tuple ?m_MOST_PLACES ?m_MOST_MOVES ?m_FIGURES ?l_FIGURES ?h_FIGURES ?m_PLACE_FRONTS ?l_PLACE_FRONTS ?h_PLACE_FRONTS ?m_AMOUNT_FRONTS ?l_AMOUNT_FRONTS ?h_AMOUNT_FRONTS ?m_SHAPES ?l_SHAPES ?y_SHAPES ?h_SHAPES ?e_SHAPES ?v_SHAPES_0 ?l_SHAPES_0 ?h_SHAPES_0 ?v_SHAPES_1 ?l_SHAPES_1 ?h_SHAPES_1 ?v_SHAPES_2 ?l_SHAPES_2 ?h_SHAPES_2 ?m_NO_PART
    (case c_EveryError => k_is)
    (case c_BadWord => k_is)
    (case c_BadSize => k_is)
    (case c_BadRow => k_is)
    (case c_Word => k_is)
    (case a0 => k_is)
    (case l0 => k_is)
    (case e0 => k_is)
    (case k0 => k_is)
    (case a1 => k_is)
    (case l1 => k_is)
    (case e1 => k_is)
    (case k1 => k_is)
    (case a2 => k_is)
    (case l2 => k_is)
    (case e2 => k_is)
    (case k2 => k_is)
    (case a3 => k_is)
    (case l3 => k_is)
    (case e3 => k_is)
    (case k3 => k_is)
    (case a4 => k_is)
    (case l4 => k_is)
    (case e4 => k_is)
    (case k4 => k_is)
    (case a5 => k_is)
    (case l5 => k_is)
    (case e5 => k_is)
    (case k5 => k_is)
    (case a6 => k_is)
    (case l6 => k_is)
    (case e6 => k_is)
    (case k6 => k_is)
    (case a7 => k_is)
    (case l7 => k_is)
    (case e7 => k_is)
    (case k7 => k_is)
    (case a8 => k_is)
    (case l8 => k_is)
    (case e8 => k_is)
    (case k8 => k_is)
    (case a9 => k_is)
    (case l9 => k_is)
    (case e9 => k_is)
    (case k9 => k_is)
    (case a10 => k_is)
    (case l10 => k_is)
    (case e10 => k_is)
    (case k10 => k_is)
    (case a11 => k_is)
    (case l11 => k_is)
    (case e11 => k_is)
    (case k11 => k_is)
    (case a12 => k_is)
    (case l12 => k_is)
    (case e12 => k_is)
    (case k12 => k_is)
    (case a13 => k_is)
    (case l13 => k_is)
    (case e13 => k_is)
    (case k13 => k_is)
    (case a14 => k_is)
    (case l14 => k_is)
    (case e14 => k_is)
    (case k14 => k_is)
    (case a15 => k_is)
    (case l15 => k_is)
    (case e15 => k_is)
    (case k15 => k_is)
    (case a16 => k_is)
    (case l16 => k_is)
    (case e16 => k_is)
    (case k16 => k_is)
    (case a17 => k_is)
    (case l17 => k_is)
    (case e17 => k_is)
    (case k17 => k_is)
    (case a18 => k_is)
    (case l18 => k_is)
    (case e18 => k_is)
    (case k18 => k_is)
    (case a19 => k_is)
    (case l19 => k_is)
    (case e19 => k_is)
    (case k19 => k_is)
    (case a20 => k_is)
    (case l20 => k_is)
    (case e20 => k_is)
    (case k20 => k_is)
    (case a21 => k_is)
    (case l21 => k_is)
    (case e21 => k_is)
    (case k21 => k_is)
    (case a22 => k_is)
    (case l22 => k_is)
    (case e22 => k_is)
    (case k22 => k_is)
    (case a23 => k_is)
    (case l23 => k_is)
    (case e23 => k_is)
    (case k23 => k_is)
    (case a24 => k_is)
    (case l24 => k_is)
    (case e24 => k_is)
    (case k24 => k_is)
    (case a25 => k_is)
    (case l25 => k_is)
    (case e25 => k_is)
    (case k25 => k_is)
    (case a26 => k_is)
    (case l26 => k_is)
    (case e26 => k_is)
    (case k26 => k_is)
    (case a27 => k_is)
    (case l27 => k_is)
    (case e27 => k_is)
    (case k27 => k_is)
    (case a28 => k_is)
    (case l28 => k_is)
    (case e28 => k_is)
    (case k28 => k_is)
    (case a29 => k_is)
    (case l29 => k_is)
    (case e29 => k_is)
    (case k29 => k_is)
    (case a30 => k_is)
    (case l30 => k_is)
    (case e30 => k_is)
    (case k30 => k_is)
    (case a31 => k_is)
    (case l31 => k_is)
    (case e31 => k_is)
    (case k31 => k_is)
    (case a32 => k_is)
    (case l32 => k_is)
    (case e32 => k_is)
    (case k32 => k_is)
    (case a33 => k_is)
    (case l33 => k_is)
    (case e33 => k_is)
    (case k33 => k_is)
    (case a34 => k_is)
    (case l34 => k_is)
    (case e34 => k_is)
    (case k34 => k_is)
    (case a35 => k_is)
    (case l35 => k_is)
    (case e35 => k_is)
    (case k35 => k_is)
    (case pg_Word => k_is)
    (case hd_Word => k_is)
    (case po_Word => k_is)
    (case sa_Word => k_is)
    (case mk_Word => k_is)
    (case kc_Word => k_is)
    (case n_Word_text => k_is)
    (case n_Word_moves => k_is)
    (case n_Word_has_turn => k_is)
    (case i_Word_init => k_is)
    (case i_Word_eq => k_is)
    (case i_Word_at => k_is)
    (case og_Word => k_is)
    (case on_Word => k_is)
    (case ot_Word => k_is)
    (case om_Word => k_is)
    (case of_Word => k_is)
    (case ok_Word => kit_is)
    (case z_bool => k_is)
    (case z_enumerate => k_is)
    (case z_int => k_is)
    (case z_isinstance => k_is)
    (case z_len => k_is)
    (case z_list => k_is)
    (case z_range => k_is)
    (case z_str => k_is)
    (case z_tuple => k_is)
    (case m_MOST_PLACES => k_is)
    (case m_MOST_MOVES => k_is)
    (case m_FIGURES => k_is)
    (case l_FIGURES => k_is)
    (case h_FIGURES => first | rfl | decide +kernel)
    (case m_PLACE_FRONTS => k_is)
    (case l_PLACE_FRONTS => k_is)
    (case h_PLACE_FRONTS => first | rfl | decide +kernel)
    (case m_AMOUNT_FRONTS => k_is)
    (case l_AMOUNT_FRONTS => k_is)
    (case h_AMOUNT_FRONTS => first | rfl | decide +kernel)
    (case m_SHAPES => k_is)
    (case l_SHAPES => k_is)
    (case y_SHAPES => exact ⟨⟨_, _, rfl, rfl⟩, ⟨_, _, rfl, rfl⟩, ⟨_, _, rfl, rfl⟩, trivial⟩)
    (case h_SHAPES => first | rfl | decide +kernel)
    (case e_SHAPES => k_is)
    (case v_SHAPES_0 => k_is)
    (case l_SHAPES_0 => k_is)
    (case h_SHAPES_0 => first | rfl | decide +kernel)
    (case v_SHAPES_1 => k_is)
    (case l_SHAPES_1 => k_is)
    (case h_SHAPES_1 => first | rfl | decide +kernel)
    (case v_SHAPES_2 => k_is)
    (case l_SHAPES_2 => k_is)
    (case h_SHAPES_2 => first | rfl | decide +kernel)
    (case m_NO_PART => k_is)
