import PyProof.Rows.All
import Wide.All
import OpenK.AllK
import Wide.FinOn
import HandS.ForMost
import HandS.Exc
import HandS.ExcOwn
import HandS.ExcField
import HandS.ExcIs
import HandS.ExcInit
import HandS.WordsExc
import HandS.TryMany
import KE.KExcIs
import KE.KIsAll
import KE.RegKIsAll
import HandS.Codes
import HandS.Conv
import HandS.IsInst
import HandS.Style
import HandS.Walk
import HandS.Wide
import KE.GoesEnum
import KE.GoesMore
import HandS.More
import HandS.StrMore
import KE.GoesEnumKw
import PyProof.Rows.CallKwBuiltin
import HandS.Deep
import HandS.Star
import HandS.Text
import HandS.SortInts
import KE.KSortedM
import HandS.Lambda
import HandS.EndTab
import KE.KNestM
import KE.KLam
import HandS.OwnEq
import OpenK.AllK
import HandS.SortOrd
import HandS.TupSets
import KE.KOpsOwn
import PySem.Challenge.RW_everyorder_k29_products_of_runs
set_option Elab.async false
set_option linter.all false
set_option maxRecDepth 100000
set_option maxHeartbeats 4000000
namespace Pf29
open PySem PySem.Spec PyProof.Rows L2
/-! ### the text by places -/
def topS (i : Nat) : Stmt := PySem.Challenge.pw_everyorder_k29_products_of_runs.main.body.getD i (.Pass ⟨0, 0, 0, 0⟩)
abbrev s_is_integer : Stmt := topS 1
abbrev s_is_between : Stmt := topS 2
abbrev s_first_wrong : Stmt := topS 3
abbrev s_BadSize_init : Stmt := inClass (topS 6) 0
abbrev s_BadPlace_init : Stmt := inClass (topS 7) 0
abbrev s_BadRow_init : Stmt := inClass (topS 8) 0
abbrev s_check_row : Stmt := topS 11
abbrev s_common_way : Stmt := topS 14
abbrev s_one_form : Stmt := topS 15
abbrev s_way_of : Stmt := topS 16
abbrev s_index_of_run : Stmt := topS 17
abbrev s_goal_of : Stmt := topS 18
abbrev s_led_on : Stmt := topS 19
abbrev s_taken_back : Stmt := topS 20
abbrev s_Runs_init : Stmt := inClass (topS 21) 0
abbrev s_Runs_eq : Stmt := inClass (topS 21) 1
abbrev s_Runs_mul : Stmt := inClass (topS 21) 2
abbrev s_Runs_invert : Stmt := inClass (topS 21) 3
abbrev s_Runs_at : Stmt := inClass (topS 21) 4
abbrev s_runs_of_list : Stmt := topS 22
abbrev s__law_form : Stmt := topS 24
abbrev s__law_blocks : Stmt := topS 25
abbrev s__law_pen : Stmt := topS 26
abbrev s__law_draw : Stmt := topS 27
abbrev s__law_shuffled : Stmt := topS 28
abbrev s__law_row : Stmt := topS 29
abbrev s__law_after : Stmt := topS 30
abbrev s_law : Stmt := topS 31
theorem sc_is_integer : FnScope ["value"] ["value"] (defScope s_is_integer) := ⟨rfl, rfl, rfl, by decide +kernel, rfl, by decide +kernel, by decide +kernel⟩
theorem sc_is_between : FnScope ["value", "low", "high"] ["value", "low", "high"] (defScope s_is_between) := ⟨rfl, rfl, rfl, by decide +kernel, rfl, by decide +kernel, by decide +kernel⟩
theorem sc_first_wrong : FnScope ["row", "size", "has_come", "index", "member"] ["row", "size"] (defScope s_first_wrong) := ⟨rfl, rfl, rfl, by decide +kernel, rfl, by decide +kernel, by decide +kernel⟩
theorem sc_BadSize_init : FnScope ["self", "size"] ["self", "size"] (defScope s_BadSize_init) := ⟨rfl, rfl, rfl, by decide +kernel, rfl, by decide +kernel, by decide +kernel⟩
theorem sc_BadPlace_init : FnScope ["self", "place"] ["self", "place"] (defScope s_BadPlace_init) := ⟨rfl, rfl, rfl, by decide +kernel, rfl, by decide +kernel, by decide +kernel⟩
theorem sc_BadRow_init : FnScope ["self", "index"] ["self", "index"] (defScope s_BadRow_init) := ⟨rfl, rfl, rfl, by decide +kernel, rfl, by decide +kernel, by decide +kernel⟩
theorem sc_check_row : FnScope ["row", "wrong"] ["row"] (defScope s_check_row) := ⟨rfl, rfl, rfl, by decide +kernel, rfl, by decide +kernel, by decide +kernel⟩
theorem sc_common_way : FnScope ["run", "other", "way"] ["run", "other"] (defScope s_common_way) := ⟨rfl, rfl, rfl, by decide +kernel, rfl, by decide +kernel, by decide +kernel⟩
theorem sc_one_form : FnScope ["pieces", "rows", "start", "length", "goal", "way", "piece", "common", "first"] ["pieces"] (defScope s_one_form) := ⟨rfl, rfl, rfl, by decide +kernel, rfl, by decide +kernel, by decide +kernel⟩
theorem sc_way_of : FnScope ["size", "rows", "backward", "_", "length", "way"] ["size", "rows"] (defScope s_way_of) := ⟨rfl, rfl, rfl, by decide +kernel, rfl, by decide +kernel, by decide +kernel⟩
theorem sc_index_of_run : FnScope ["rows", "place", "low", "high", "middle"] ["rows", "place"] (defScope s_index_of_run) := ⟨rfl, rfl, rfl, by decide +kernel, rfl, by decide +kernel, by decide +kernel⟩
theorem sc_goal_of : FnScope ["run", "place"] ["run", "place"] (defScope s_goal_of) := ⟨rfl, rfl, rfl, by decide +kernel, rfl, by decide +kernel, by decide +kernel⟩
theorem sc_led_on : FnScope ["rows", "run", "start", "left", "goal", "way", "pieces", "index", "told", "many"] ["rows", "run"] (defScope s_led_on) := ⟨rfl, rfl, rfl, by decide +kernel, rfl, by decide +kernel, by decide +kernel⟩
theorem sc_taken_back : FnScope ["run", "start", "length", "goal", "way"] ["run"] (defScope s_taken_back) := ⟨rfl, rfl, rfl, by decide +kernel, rfl, by decide +kernel, by decide +kernel⟩
theorem sc_Runs_init : FnScope ["self", "size", "pieces"] ["self", "size", "pieces"] (defScope s_Runs_init) := ⟨rfl, rfl, rfl, by decide +kernel, rfl, by decide +kernel, by decide +kernel⟩
theorem sc_Runs_eq : FnScope ["self", "other"] ["self", "other"] (defScope s_Runs_eq) := ⟨rfl, rfl, rfl, by decide +kernel, rfl, by decide +kernel, by decide +kernel⟩
theorem sc_Runs_mul : FnScope ["self", "other", "run", "piece"] ["self", "other"] (defScope s_Runs_mul) := ⟨rfl, rfl, rfl, by decide +kernel, rfl, by decide +kernel, by decide +kernel⟩
theorem sc_Runs_invert : FnScope ["self", "run"] ["self"] (defScope s_Runs_invert) := ⟨rfl, rfl, rfl, by decide +kernel, rfl, by decide +kernel, by decide +kernel⟩
theorem sc_Runs_at : FnScope ["self", "j"] ["self", "j"] (defScope s_Runs_at) := ⟨rfl, rfl, rfl, by decide +kernel, rfl, by decide +kernel, by decide +kernel⟩
theorem sc_runs_of_list : FnScope ["row", "place", "goal"] ["row"] (defScope s_runs_of_list) := ⟨rfl, rfl, rfl, by decide +kernel, rfl, by decide +kernel, by decide +kernel⟩
theorem sc__law_form : FnScope ["row", "found", "at", "turn", "many", "way", "k"] ["row"] (defScope s__law_form) := ⟨rfl, rfl, rfl, by decide +kernel, rfl, by decide +kernel, by decide +kernel⟩
theorem sc__law_blocks : FnScope ["pen", "size", "found", "at", "blocks", "turn", "many", "block"] ["pen", "size"] (defScope s__law_blocks) := ⟨rfl, rfl, rfl, by decide +kernel, rfl, by decide +kernel, by decide +kernel⟩
theorem sc__law_pen : FnScope ["script"] ["script"] (defScope s__law_pen) := ⟨rfl, rfl, rfl, by decide +kernel, rfl, by decide +kernel, by decide +kernel⟩
theorem sc__law_draw : FnScope ["pen", "many", "digit", "at", "cell", "mixed"] ["pen", "many"] (defScope s__law_draw) := ⟨rfl, rfl, rfl, by decide +kernel, rfl, by decide +kernel, by decide +kernel⟩
theorem sc__law_shuffled : FnScope ["pen", "some", "left", "found", "k"] ["pen", "some"] (defScope s__law_shuffled) := ⟨rfl, rfl, rfl, by decide +kernel, rfl, by decide +kernel, by decide +kernel⟩
theorem sc__law_row : FnScope ["pen", "size"] ["pen", "size"] (defScope s__law_row) := ⟨rfl, rfl, rfl, by decide +kernel, rfl, by decide +kernel, by decide +kernel⟩
theorem sc__law_after : FnScope ["row", "things", "part"] ["row", "things"] (defScope s__law_after) := ⟨rfl, rfl, rfl, by decide +kernel, rfl, by decide +kernel, by decide +kernel⟩
theorem sc_law : FnScope ["script", "pen", "lap", "size", "one", "two", "f", "g", "back", "place", "source", "other", "first", "second", "e"] ["script"] (defScope s_law) := ⟨rfl, rfl, rfl, by decide +kernel, rfl, by decide +kernel, by decide +kernel⟩
/-- where the defs and classes stand -/
structure Ad where
  f_is_integer : Addr
  d_is_integer : FuncData
  f_is_between : Addr
  d_is_between : FuncData
  f_first_wrong : Addr
  d_first_wrong : FuncData
  f_BadSize_init : Addr
  d_BadSize_init : FuncData
  f_BadPlace_init : Addr
  d_BadPlace_init : FuncData
  f_BadRow_init : Addr
  d_BadRow_init : FuncData
  f_check_row : Addr
  d_check_row : FuncData
  f_common_way : Addr
  d_common_way : FuncData
  f_one_form : Addr
  d_one_form : FuncData
  f_way_of : Addr
  d_way_of : FuncData
  f_index_of_run : Addr
  d_index_of_run : FuncData
  f_goal_of : Addr
  d_goal_of : FuncData
  f_led_on : Addr
  d_led_on : FuncData
  f_taken_back : Addr
  d_taken_back : FuncData
  f_Runs_init : Addr
  d_Runs_init : FuncData
  f_Runs_eq : Addr
  d_Runs_eq : FuncData
  f_Runs_mul : Addr
  d_Runs_mul : FuncData
  f_Runs_invert : Addr
  d_Runs_invert : FuncData
  f_Runs_at : Addr
  d_Runs_at : FuncData
  f_runs_of_list : Addr
  d_runs_of_list : FuncData
  f__law_form : Addr
  d__law_form : FuncData
  f__law_blocks : Addr
  d__law_blocks : FuncData
  f__law_pen : Addr
  d__law_pen : FuncData
  f__law_draw : Addr
  d__law_draw : FuncData
  f__law_shuffled : Addr
  d__law_shuffled : FuncData
  f__law_row : Addr
  d__law_row : FuncData
  f__law_after : Addr
  d__law_after : FuncData
  f_law : Addr
  d_law : FuncData
  C_EveryError : Addr
  C_BadSize : Addr
  C_BadPlace : Addr
  C_BadRow : Addr
  C_Runs : Addr
/-- a class with its own * -/
structure MulC (K : PySem.W.Frag) (C f : Addr) : Prop where
  sf : PySem.W.selfFirst K C = true
  mul : PySem.W.findIn K (.ref C) "__mul__" = some (some (.ref f))
  fn : PySem.W.isFn K (.ref f) = true
/-- a class with its own ~ -/
structure InvC (K : PySem.W.Frag) (C f : Addr) : Prop where
  inv : PySem.W.findIn K (.ref C) "__invert__" = some (some (.ref f))
  fn : PySem.W.isFn K (.ref f) = true
/-- a class with its own ==: what its instances answer -/
structure OwnC (K : PySem.W.Frag) (C f : Addr) : Prop where
  eq : PySem.W.findIn K (.ref C) "__eq__" = some (some (.ref f))
  fn : PySem.W.isFn K (.ref f) = true
  cls : PySem.W.findIn K (.ref C) "__class__" = some (some (.builtin "object.__class__"))
  get : PySem.W.specialIn K (.builtin "object.__class__") "__get__" = some (some (.builtin "getset_descriptor.__get__"))
  tak : PySem.W.takesIn K (.builtin "object.__class__") = some true
  mro : PySem.W.mroIn K C (.type "object") = some true
  fst : PySem.W.notFirst K C (.type "str") = true
  kit : PySem.W.kitOne K (.type "str") (.ref C) = some false
/-- the same class beside numbers and tuples, and its != -/
structure OwnC2 (K : PySem.W.Frag) (C : Addr) : Prop where
  ne : PySem.W.findIn K (.ref C) "__ne__" = some (some (.builtin "object.__ne__"))
  fsi : PySem.W.notFirst K C (.type "int") = true
  fst : PySem.W.notFirst K C (.type "tuple") = true
  kti : PySem.W.kitOne K (.type "int") (.ref C) = some false
  ktt : PySem.W.kitOne K (.type "tuple") (.ref C) = some false
/-- isinstance of a caught error that has its own dict -/
structure ExcD (K : PySem.W.Frag) (D : Addr) : Prop where
  hg : PySem.W.findIn K (.ref D) "__getattribute__" = some (some (.builtin "BaseException.__getattribute__"))
  hk : PySem.W.findIn K (.ref D) "__getattr__" = some none
  hs : PySem.W.subIn K (.ref D) (.type "BaseException") = some true
  hd : PySem.W.hasDictIn K D = true
  ha : PySem.W.findIn K (.ref D) "__class__" = some (some (.builtin "object.__class__"))
  hn : PySem.W.specialIn K (.builtin "object.__class__") "__get__" = some (some (.builtin "getset_descriptor.__get__"))
  ht : PySem.W.takesIn K (.builtin "object.__class__") = some true
  hm : PySem.W.mroIn K D (.type "object") = some true
/-- an own error class: made, its field read, asked by isinstance -/
structure ErrC (K : PySem.W.Frag) (C fI : Addr) (f : Str) : Prop where
  o : OexC K C
  ini : PySem.W.findIn K (.ref C) "__init__" = some (some (.ref fI))
  tin : PySem.W.typeIn K (.ref fI) = some (.type "function")
  no : PySem.W.findIn K (.ref C) f = some none
  x : XfC K C
  i : ExcD K C
/-- an own error class without own __init__ -/
structure ErrZ (K : PySem.W.Frag) (C : Addr) : Prop where
  x : PySem.W.excIn K C [.type "ValueError", .type "Exception", .type "BaseException", .type "object"] "ValueError.__new__" = true
  k : PySem.W.keepIn K (.ref C) = true
  i : ExcD K C
/-- what the top has written -/
structure Tx (w : World) (K : PySem.W.Frag) (mg : Str → Option Value) (a : Ad) : Prop where
  F_is_integer : Fun K "is_integer" "is_integer" s_is_integer a.f_is_integer a.d_is_integer
  b_is_integer : Binds K a.d_is_integer ["value"] []
  m_is_integer : mg "is_integer" = some (.ref a.f_is_integer)
  F_is_between : Fun K "is_between" "is_between" s_is_between a.f_is_between a.d_is_between
  b_is_between : Binds K a.d_is_between ["value", "low", "high"] []
  m_is_between : mg "is_between" = some (.ref a.f_is_between)
  F_first_wrong : Fun K "first_wrong" "first_wrong" s_first_wrong a.f_first_wrong a.d_first_wrong
  b_first_wrong : Binds K a.d_first_wrong ["row", "size"] []
  m_first_wrong : mg "first_wrong" = some (.ref a.f_first_wrong)
  F_BadSize_init : Fun K "__init__" "BadSize.__init__" s_BadSize_init a.f_BadSize_init a.d_BadSize_init
  b_BadSize_init : Binds K a.d_BadSize_init ["self", "size"] []
  F_BadPlace_init : Fun K "__init__" "BadPlace.__init__" s_BadPlace_init a.f_BadPlace_init a.d_BadPlace_init
  b_BadPlace_init : Binds K a.d_BadPlace_init ["self", "place"] []
  F_BadRow_init : Fun K "__init__" "BadRow.__init__" s_BadRow_init a.f_BadRow_init a.d_BadRow_init
  b_BadRow_init : Binds K a.d_BadRow_init ["self", "index"] []
  F_check_row : Fun K "check_row" "check_row" s_check_row a.f_check_row a.d_check_row
  b_check_row : Binds K a.d_check_row ["row"] []
  m_check_row : mg "check_row" = some (.ref a.f_check_row)
  F_common_way : Fun K "common_way" "common_way" s_common_way a.f_common_way a.d_common_way
  b_common_way : Binds K a.d_common_way ["run", "other"] []
  m_common_way : mg "common_way" = some (.ref a.f_common_way)
  F_one_form : Fun K "one_form" "one_form" s_one_form a.f_one_form a.d_one_form
  b_one_form : Binds K a.d_one_form ["pieces"] []
  m_one_form : mg "one_form" = some (.ref a.f_one_form)
  F_way_of : Fun K "way_of" "way_of" s_way_of a.f_way_of a.d_way_of
  b_way_of : Binds K a.d_way_of ["size", "rows"] []
  m_way_of : mg "way_of" = some (.ref a.f_way_of)
  F_index_of_run : Fun K "index_of_run" "index_of_run" s_index_of_run a.f_index_of_run a.d_index_of_run
  b_index_of_run : Binds K a.d_index_of_run ["rows", "place"] []
  m_index_of_run : mg "index_of_run" = some (.ref a.f_index_of_run)
  F_goal_of : Fun K "goal_of" "goal_of" s_goal_of a.f_goal_of a.d_goal_of
  b_goal_of : Binds K a.d_goal_of ["run", "place"] []
  m_goal_of : mg "goal_of" = some (.ref a.f_goal_of)
  F_led_on : Fun K "led_on" "led_on" s_led_on a.f_led_on a.d_led_on
  b_led_on : Binds K a.d_led_on ["rows", "run"] []
  m_led_on : mg "led_on" = some (.ref a.f_led_on)
  F_taken_back : Fun K "taken_back" "taken_back" s_taken_back a.f_taken_back a.d_taken_back
  b_taken_back : Binds K a.d_taken_back ["run"] []
  m_taken_back : mg "taken_back" = some (.ref a.f_taken_back)
  F_Runs_init : Fun K "__init__" "Runs.__init__" s_Runs_init a.f_Runs_init a.d_Runs_init
  b_Runs_init : Binds K a.d_Runs_init ["self", "size", "pieces"] []
  F_Runs_eq : Fun K "__eq__" "Runs.__eq__" s_Runs_eq a.f_Runs_eq a.d_Runs_eq
  b_Runs_eq : Binds K a.d_Runs_eq ["self", "other"] []
  F_Runs_mul : Fun K "__mul__" "Runs.__mul__" s_Runs_mul a.f_Runs_mul a.d_Runs_mul
  b_Runs_mul : Binds K a.d_Runs_mul ["self", "other"] []
  F_Runs_invert : Fun K "__invert__" "Runs.__invert__" s_Runs_invert a.f_Runs_invert a.d_Runs_invert
  b_Runs_invert : Binds K a.d_Runs_invert ["self"] []
  F_Runs_at : Fun K "at" "Runs.at" s_Runs_at a.f_Runs_at a.d_Runs_at
  b_Runs_at : Binds K a.d_Runs_at ["self", "j"] []
  F_runs_of_list : Fun K "runs_of_list" "runs_of_list" s_runs_of_list a.f_runs_of_list a.d_runs_of_list
  b_runs_of_list : Binds K a.d_runs_of_list ["row"] []
  m_runs_of_list : mg "runs_of_list" = some (.ref a.f_runs_of_list)
  F__law_form : Fun K "_law_form" "_law_form" s__law_form a.f__law_form a.d__law_form
  b__law_form : Binds K a.d__law_form ["row"] []
  m__law_form : mg "_law_form" = some (.ref a.f__law_form)
  F__law_blocks : Fun K "_law_blocks" "_law_blocks" s__law_blocks a.f__law_blocks a.d__law_blocks
  b__law_blocks : Binds K a.d__law_blocks ["pen", "size"] []
  m__law_blocks : mg "_law_blocks" = some (.ref a.f__law_blocks)
  F__law_pen : Fun K "_law_pen" "_law_pen" s__law_pen a.f__law_pen a.d__law_pen
  b__law_pen : Binds K a.d__law_pen ["script"] []
  m__law_pen : mg "_law_pen" = some (.ref a.f__law_pen)
  F__law_draw : Fun K "_law_draw" "_law_draw" s__law_draw a.f__law_draw a.d__law_draw
  b__law_draw : Binds K a.d__law_draw ["pen", "many"] []
  m__law_draw : mg "_law_draw" = some (.ref a.f__law_draw)
  F__law_shuffled : Fun K "_law_shuffled" "_law_shuffled" s__law_shuffled a.f__law_shuffled a.d__law_shuffled
  b__law_shuffled : Binds K a.d__law_shuffled ["pen", "some"] []
  m__law_shuffled : mg "_law_shuffled" = some (.ref a.f__law_shuffled)
  F__law_row : Fun K "_law_row" "_law_row" s__law_row a.f__law_row a.d__law_row
  b__law_row : Binds K a.d__law_row ["pen", "size"] []
  m__law_row : mg "_law_row" = some (.ref a.f__law_row)
  F__law_after : Fun K "_law_after" "_law_after" s__law_after a.f__law_after a.d__law_after
  b__law_after : Binds K a.d__law_after ["row", "things"] []
  m__law_after : mg "_law_after" = some (.ref a.f__law_after)
  F_law : Fun K "law" "law" s_law a.f_law a.d_law
  b_law : Binds K a.d_law ["script"] []
  m_law : mg "law" = some (.ref a.f_law)
  c_EveryError : mg "EveryError" = some (.ref a.C_EveryError)
  c_BadSize : mg "BadSize" = some (.ref a.C_BadSize)
  c_BadPlace : mg "BadPlace" = some (.ref a.C_BadPlace)
  c_BadRow : mg "BadRow" = some (.ref a.C_BadRow)
  c_Runs : mg "Runs" = some (.ref a.C_Runs)
  cl_Runs : Cls K a.C_Runs
  mk_Runs : Mk K a.C_Runs a.f_Runs_init
  n_Runs_size : NoAttr K a.C_Runs "size"
  n_Runs_rows : NoAttr K a.C_Runs "rows"
  n_Runs_way : NoAttr K a.C_Runs "way"
  me_Runs_at : Meth K a.C_Runs "at" a.f_Runs_at
  ow_Runs : OwnC K a.C_Runs a.f_Runs_eq
  ow2_Runs : OwnC2 K a.C_Runs
  mu_Runs : MulC K a.C_Runs a.f_Runs_mul
  iv_Runs : InvC K a.C_Runs a.f_Runs_invert
  ox_BadSize : ErrC K a.C_BadSize a.f_BadSize_init "size"
  em_BadSize_BadSize : PySem.W.exmOne K (.ref a.C_BadSize) (.ref a.C_BadSize) = some true
  ox_BadPlace : ErrC K a.C_BadPlace a.f_BadPlace_init "place"
  em_BadPlace_BadSize : PySem.W.exmOne K (.ref a.C_BadPlace) (.ref a.C_BadSize) = some false
  ox_BadRow : ErrC K a.C_BadRow a.f_BadRow_init "index"
  em_BadRow_BadSize : PySem.W.exmOne K (.ref a.C_BadRow) (.ref a.C_BadSize) = some false
  z_bool : mg "bool" = none
  z_enumerate : mg "enumerate" = none
  z_int : mg "int" = none
  z_isinstance : mg "isinstance" = none
  z_len : mg "len" = none
  z_list : mg "list" = none
  z_min : mg "min" = none
  z_range : mg "range" = none
  z_sorted : mg "sorted" = none
  z_sum : mg "sum" = none
  z_tuple : mg "tuple" = none
  m_MOST_PLACES : ∃ t, mg "MOST_PLACES" = some (.int 1000 t)
  m_FEW : ∃ t, mg "FEW" = some (.int 100 t)




/-! ### several clauses `except X as n` -/
/-- what such clauses wish of an exception of the body, one after the other: class, slot of the name, suite -/
def wManyAs (K : PySem.W.Frag) (Wout : WX) (D : Ends) : List (Value × Nat × (Addr → Value → Option Addr → TS)) → WX
  | [] => Wout
  | (c, i, ts) :: r => fun cls d σ H => ∃ b, PySem.W.exmOne K cls c = some b ∧
      (b = true → ∀ a, H a = none → ts a cls d { nx := fun σ' H' => D.nx (σ'.set i none) H', rt := D.rt, bk := fun σ' H' => D.bk (σ'.set i none) H', ct := fun σ' H' => D.ct (σ'.set i none) H' } (σ.set i (some (.ref a))) H) ∧
      (b = false → wManyAs K Wout D r cls d σ H)
inductive HdsAs (X : Cx) : List ExceptHandler → List (Value × Nat × (Addr → Value → Option Addr → TS)) → Prop
  | nil : HdsAs X [] []
  | cons {x n : Str} {c : Value} {i : Nat} {ts : Addr → Value → Option Addr → TS} {b₀ : Stmt} {suite : List Stmt} {np pos' : Pos} {hds : List ExceptHandler} {l : List (Value × Nat × (Addr → Value → Option Addr → TS))}
      (hi : X.N[i]? = some n) (hln : X.env.kindOf n = some .local) (hc : Names X x c)
      (hsu : ∀ (a : Addr) (oe : Obj) (cls : Value) (d : Option Addr) (pn : List (Addr × Obj)), Zc cls d oe → (∃ vs, oe.data = .fields vs) → PSs (X.suite a ((a, oe) :: pn)) (b₀ :: suite) (ts a cls d)) (r : HdsAs X hds l) :
      HdsAs X (.ExceptHandler (some (.Name x np)) (some n) (b₀ :: suite) pos' :: hds) ((c, i, ts) :: l)
section
variable {X : Cx} {body : List Stmt} {h₀ : ExceptHandler} {hds : List ExceptHandler} {l : List (Value × Nat × (Addr → Value → Option Addr → TS))} {pos : Pos} {tb : WX → TS} {Wout : WX}
theorem ps_try_manyAs (hs : X.stack = X.env :: X.outer) (hf : X.env.frame = some X.env.locals) (hN : X.N.Nodup) (tk : Takes X Wout)
    (hb : ∀ (W : WX) (pn : List (Addr × Obj)) (xe : Value → Shared → Prop), Takes (X.tr pn xe) W → PassesOwn (model X.prog X.w) X.A X.env xe → PSs (X.tr pn xe) body (tb W))
    (hh : HdsAs X (h₀ :: hds) l) : PS X (.Try body (h₀ :: hds) [] [] pos) (fun D σ H => tb (wManyAs X.K Wout D l) D σ H) := by
  refine ⟨fun pins s σ H D I h => ?_⟩
  have ok := I.ok
  have hfr : X.A.frames = some (X.env :: X.outer) := by rw [ok.frames, hs]
  refine wpAny_Try_except ?_
  refine wpAny_mono ((hb (wManyAs X.K Wout D l) (X.pn ++ pins) (fun e s₁ => wpAny (model X.prog X.w) X.A (noteFrame e X.env) (fun _ s₂ => wpAny (model X.prog X.w) X.A (setFlight e none) (fun _ s₃ =>
    wpAny (model X.prog X.w) X.A (handleBy e X.env (h₀ :: hds)) (SP X pins D) X.xe s₃) X.xe s₂) X.xe s₁) (fun u s' xx => ?_) PassesOwn.looking).run [] s σ H D (I.toTry _) h) (fun f s1 hsp => ?_) (fun e s1 he => he)
  · -- an exception arrives
    obtain ⟨a, B, sI, pins', σ', H', cls, d, rfl, J', nb, up, sky, na, os, ag, want⟩ := xx
    have J : Inv X pins σ' H' sI := J'.ofTry ok
    show wpAny (model X.prog X.w) X.A (noteFrame (.ref a) X.env) _ _ _
    refine Sky.land Zc.steady hfr hf (show Sky B (X.env :: X.outer) a (Zc cls d) X.env.locals s'.heap by rw [← hs]; exact sky) fun h3 fl3 up3 => ?_
    have J3 : Inv X pins σ' H' { s' with heap := h3 } := J.landed nb fl3.1 (up.trans up3) os ag
    obtain ⟨oe3, vs3, he3, hz3, hd3⟩ := fl3.there
    have nfr : a ∉ frs (X.env :: X.outer) := fun hm => by
      obtain ⟨_, o', e', hnf⟩ := fl3.2.2.1.mem hm
      rw [he3] at e'
      cases e'
      exact hnf _ hd3
    have nL : a ≠ X.env.locals := fun z => nfr (List.mem_filterMap.mpr ⟨X.env, List.mem_cons_self, by rw [hf, z]⟩)
    have nF : a ∉ X.fs := fun hm => by
      obtain ⟨e, he, q⟩ := List.mem_filterMap.mp hm
      exact nfr (List.mem_filterMap.mpr ⟨e, List.mem_cons_of_mem _ he, q⟩)
    have S3 := J3.suite he3 hd3 na nL nF
    have LT : PySem.W.Looks (model X.prog X.w) h3 (typeOf (.ref a)) cls := fun A Q E s k q => wpAny_typeOf_ref (k _ _ he3) (by rw [hz3.1]; exact q)
    have each : ∀ {hds' : List ExceptHandler} {l' : List (Value × Nat × (Addr → Value → Option Addr → TS))}, HdsAs X hds' l' → wManyAs X.K Wout D l' cls d σ' H' →
        wpAny (model X.prog X.w) X.A (handleBy (.ref a) X.env hds') (SP X pins D) X.xe { s' with heap := h3 } := by
      intro hds' l' hk
      induction hk with
      | nil =>
        intro w
        refine wpAny_handleBy_nil ?_
        obtain ⟨_, _, _, oe, vs, T, oT, ts', he, hz, hd, h1, hr⟩ := id fl3
        unfold PySem.passOn
        refine wpAny_bind (wpAny_field he hd h1 ?_)
        rw [if_neg (show ¬ ((Value.ref T == Value.none) = true) from by simp)]
        have fin : wpAny (model X.prog X.w) X.A (setFlight (.ref a) X.env.frame) (fun _ s4 => wpAny (model X.prog X.w) X.A (throw (.ref a) : Sem Flow) (SP X pins D) X.xe s4) X.xe { s' with heap := h3 } := by
          rw [hf]
          exact HandSPX.setFlight_upZ fl3 fun h4 hh4 up4 => wpAny_throw (tk _ _ ⟨a, B, sI, pins, σ', H', cls, d, rfl, J, nb, (up.trans up3).trans up4, .inr (.inr (by rw [hs]; exact hh4)), na, os, ag, w⟩)
        first
          | exact wpAny_bind (wpAny_pure (wpAny_bind fin))
          | exact wpAny_bind fin
      | @cons x n c i ts b₀ suite np pos' hds2 l2 hi hln hc hsu r ih =>
        rintro ⟨b, hb1, hyes, hno⟩
        refine wpAny_handleBy_cons (codeAny_handlers_test ?_) (by intro q; cases q)
        have named : ∀ {Q : Value → Shared → Prop} {E : Value → Shared → Prop}, Q c { s' with heap := h3 } → wpAny (model X.prog X.w) (X.A.mark (some (.ref a))) (eval (.Name x np) X.env) Q E { s' with heap := h3 } := fun {Q E} q => by
          obtain ⟨hg, hdbg, hm | ⟨hm, hv, hnn⟩⟩ := hc
          · exact ld_glob (X := X.suite a ((a, oe3) :: (X.pn ++ pins))) S3 hg hm q hdbg
          · exact ld_blt (X := X.suite a ((a, oe3) :: (X.pn ++ pins))) S3 hg hm hv q hnn hdbg
        refine named ((PySem.W.exm_one (M := model X.prog X.w) (J3.kIn) LT hb1).here ?_)
        cases b with
        | false =>
          show wpAny _ X.A (handleBy (.ref a) X.env hds2) _ _ _
          exact ih (hno rfl)
        | true =>
          refine codeAny_handlers_suite_as ?_
          refine HandSPX.lands_againZ fl3 fun h4 fl4 up4 => ?_
          have J4 : Inv X pins σ' H' { s' with heap := h4 } := J.landed nb fl4.1 ((up.trans up3).trans up4) os ag
          obtain ⟨oe4, vs4, he4, hz4, hd4⟩ := fl4.there
          refine store_ok (X := X.suite a ((a, oe4) :: (X.pn ++ pins))) (v := .ref a) (J4.suite he4 hd4 na nL nF) hN hi (.inl hln) rfl (fun s5 S5 => ?_) (.inr hln)
          refine wpAny_mono ((hsu a oe4 cls d (X.pn ++ pins) hz4 ⟨_, hd4⟩).run [] s5 _ H' _ S5 (hyes rfl a na)) (fun f s6 hsp => ?_) (fun _ _ z => False.elim z)
          have gone : ∀ {σ6 : L2.St} {H6 : Hp} {Q : Shared → Prop}, Inv (X.suite a ((a, oe4) :: (X.pn ++ pins))) [] σ6 H6 s6 → (∀ s7, Inv X pins (σ6.set i none) H6 s7 → Q s7) →
              wpAny (model X.prog X.w) X.A (do bindName X.env n .none; unbindBehindTheSuite X.env n pos') (fun _ s7 => Q s7) X.xe s6 := fun {σ6 H6 Q} S6 hq => gone_ok (S6.unsuite ok) hN hi hln hq
          cases f with
          | next =>
            obtain ⟨σ6, H6, S6, q6⟩ := hsp
            exact gone S6 fun s7 J7 => ⟨_, _, J7, q6⟩
          | brk =>
            obtain ⟨σ6, H6, S6, q6⟩ := hsp
            exact gone S6 fun s7 J7 => ⟨_, _, J7, q6⟩
          | cont =>
            obtain ⟨σ6, H6, S6, q6⟩ := hsp
            exact gone S6 fun s7 J7 => ⟨_, _, J7, q6⟩
          | ret u =>
            obtain ⟨v6, σ6, H6, S6, r6, q6⟩ := hsp
            exact gone S6 fun s7 J7 => ⟨_, _, _, J7, r6, q6⟩
    exact each hh want
  · cases f with
    | next =>
      obtain ⟨σ', H', J', q⟩ := hsp
      exact wpAny_execs_nil ⟨σ', H', J'.ofTry ok, q⟩
    | brk =>
      obtain ⟨σ', H', J', q⟩ := hsp
      exact ⟨σ', H', J'.ofTry ok, q⟩
    | cont =>
      obtain ⟨σ', H', J', q⟩ := hsp
      exact ⟨σ', H', J'.ofTry ok, q⟩
    | ret u =>
      obtain ⟨v, σ', H', J', r, q⟩ := hsp
      exact ⟨v, σ', H', J'.ofTry ok, r, q⟩
end
/-! ### isinstance of a caught error with fields -/
theorem clsIn_of {K : PySem.W.Frag} {D : Addr} (h : PySem.W.hasDictIn K D = true) : (PySem.W.clsIn K D).isSome = true := by
  obtain ⟨cd, hc, _⟩ := PySem.W.any_some h
  rw [hc]
  rfl
theorem exm_ofHd {K : PySem.W.Frag} {C : Addr} {cls : Value} {b : Bool} (h1 : PySem.W.subIn K (.ref C) (.type "BaseException") = some true) (hd : PySem.W.hasDictIn K C = true) (ht : PySem.W.typeIn K (.ref C) = some (.type "type")) (h4 : PySem.W.subIn K cls (.ref C) = some b) :
    PySem.W.exmOne K cls (.ref C) = some b := PySem.W.exm_ref h1 hd ht h4
def rIsD (K : PySem.W.Frag) (D a : Addr) (cls : Value) (d : Option Addr) : List V → Hp → VK → Prop := fun xs H Q => ∃ (dd : Addr) (fs : List (Str × V)) (c : V) (cv : Value) (b : Bool), cls = .ref D ∧ d = some dd ∧ H dd = some (.xd fs) ∧ xs = [.ref a, c] ∧ (∀ u, RelV c u → u = cv) ∧ PySem.W.kitOne K (.ref D) cv = some b ∧ Q (.bl b) H
theorem call_isD {X : Cx} {a D : Addr} {oe : Obj} {cls : Value} {d : Option Addr} {pn : List (Addr × Obj)} (C : ExcD X.K D) (hz : Zc cls d oe) (hf : ∃ vs, oe.data = .fields vs) : CallR (X.suite a ((a, oe) :: pn)) (.builtin "isinstance") (rIsD X.K D a cls d) := by
  intro pins s σ H xs us Q I r h
  obtain ⟨dd, fs, c, cv, b, rfl, rfl, ea, rfl, hcv, e, q⟩ := h
  obtain ⟨u1, u2, rfl, r1, r2⟩ := vals2 r
  cases (show u1 = Value.ref a from r1)
  obtain rfl := hcv _ r2
  obtain ⟨hget, _⟩ := I.pin (a, oe) (List.mem_append.mpr (.inl List.mem_cons_self))
  obtain ⟨vs, hv⟩ := hf
  obtain ⟨mA, hns, hr⟩ := (show ObjOk X.prog X.w H s.heap dd (.xd fs) from I.hok dd _ ea)
  obtain ⟨od, ho, hl⟩ := lookIn_ns hns
  have J : PySem.W.InstAt s.heap a oe D (some od) := ⟨hget, hz.1, by unfold PySem.W.notCls; rw [hv] <;> rfl, by rw [hz.2]; exact ho⟩
  exact PySem.W.kia_one (PySem.W.kitx_exc (clsIn_of C.hd) C.hg C.hk C.hs C.ha C.hn C.ht C.hm) I.kIn J e (fun z => nomatch z) fun tk => ⟨.bl b, H, I.tok tk, rfl, q⟩

/-- a try as a statement of a loop's body: the reading by a name -/
def tTryAs (K : PySem.W.Frag) (tb : WX → TS) (Wout : WX) (l : List (Value × Nat × (Addr → Value → Option Addr → TS))) : TS := fun D σ H => tb (wManyAs K Wout D l) D σ H
theorem ps_try_in {X : Cx} {body : List Stmt} {h₀ : ExceptHandler} {hds : List ExceptHandler} {l : List (Value × Nat × (Addr → Value → Option Addr → TS))} {pos : Pos} {tb : WX → TS} {Wout : WX} (hs : X.stack = X.env :: X.outer) (hf : X.env.frame = some X.env.locals) (hN : X.N.Nodup) (tk : Takes X Wout)
    (hb : ∀ (W : WX) (pn : List (Addr × Obj)) (xe : Value → Shared → Prop), Takes (X.tr pn xe) W → PassesOwn (model X.prog X.w) X.A X.env xe → PSs (X.tr pn xe) body (tb W))
    (hh : HdsAs X (h₀ :: hds) l) : PS X (.Try body (h₀ :: hds) [] [] pos) (tTryAs X.K tb Wout l) := ps_try_manyAs hs hf hN tk hb hh

/-! ### an instance made, a method called, where what is raised is wished for at the caller's slots -/
def tMakeS (C : Addr) (sp : Sp) (dvs : List V) (E : L2.St → XK) (t : TA) : TE := fun σ H Q => t σ H fun vs H1 => ∀ x dx, H1 x = none → H1 dx = none → dx ≠ x →
  sp (.ref x :: (vs ++ dvs)) (upd (upd H1 dx (.own x)) x (.ins C dx [])) (fun v H2 => v = .non ∧ Q (.ref x) H2) (E σ)
section
variable {X : Cx} {k : Nat} {f C : Addr} {fd : FuncData} {ps : List Str} {sp : Sp} {W : WX} {x m : Str} {p pos apos : Pos} {e o : Expr} {es : List Expr} {ta : TE} {t : TA} {ds : List Value} {dvs : List V}
theorem run_makeS {pins : List (Addr × Obj)} {σ : L2.St} {H : Hp} {s : Shared} {Q : VK} {us : List Value} {vs : List V} (M : Mk X.K C f) (F : FnOk X.prog X.w X.K X.mg X.base (L2.CX X.prog X.w) k f fd ps sp) (hr : Room (k + 1) X.A) (hb : Binds X.K fd ps ds) (hd : Vals dvs ds)
    (tk : Takes X W) (I : Inv X pins σ H s) (r : Vals vs us)
    (h : ∀ x dx, H x = none → H dx = none → dx ≠ x → sp (.ref x :: (vs ++ dvs)) (upd (upd H dx (.own x)) x (.ins C dx [])) (fun v H2 => v = .non ∧ Q (.ref x) H2) (WE W σ)) :
    wpAny (model X.prog X.w) X.A (call (.ref C) us) (EP X pins σ Q) X.xe s := by
  have hq := h (s.heap.objs.size + 1) s.heap.objs.size (I.hok.fresh (Nat.le_succ _)) (I.hok.fresh (Nat.le_refl _)) (Nat.ne_of_lt (Nat.lt_succ_self _))
  have I2 := Inv.made (C := C) I
  have r2 : Vals (V.ref (s.heap.objs.size + 1) :: (vs ++ dvs)) (Value.ref (s.heap.objs.size + 1) :: (us ++ ds)) := .cons rfl (r.append hd)
  have hl : (Value.ref (s.heap.objs.size + 1) :: us ++ ds).length = ps.length := by
    have e := r2.length
    rw [F.len _ _ _ _ hq] at e
    exact e.symm
  refine wpAny_call (make_map (f := f) I.kIn M.makes M.init (beq_iff_eq.mp M.fn) (codeAny_mono (F.run _ X.stack _ _ ⟨Value.ref (s.heap.objs.size + 1) :: us, []⟩ (Value.ref (s.heap.objs.size + 1) :: (us ++ ds)) _ _ (WE W σ) (hr.make C us [])
    (I2.env0.make C us []) (hb _ (Value.ref (s.heap.objs.size + 1) :: us) I2.kIn hl) r2 hq) fun r s' hq' => ?_))
  cases r with
  | error e => exact passAt tk σ pins _ _ e s' I2 hq'
  | ok fl =>
    cases fl with
    | ret u =>
      obtain ⟨v, H', I3, rv, ev, q3⟩ := I2.after hq'
      subst ev
      exact ⟨rv, ⟨V.ref (s.heap.objs.size + 1), H', I3, rfl, q3⟩⟩
    | next => exact False.elim hq'
    | brk => exact False.elim hq'
    | cont => exact False.elim hq'
theorem pe_makeS (M : Mk X.K C f) (F : FnOk X.prog X.w X.K X.mg X.base (L2.CX X.prog X.w) k f fd ps sp) (hr : Room (k + 1) X.A) (hg : Gl X x) (hm : X.mg x = some (.ref C)) (hb : Binds X.K fd ps ds) (hd : Vals dvs ds) (tk : Takes X W)
    (ha : PA X (e :: es) t) (hdb : (x == ("__debug__" : Str)) = false := by decide) (he : starEach (e :: es) X.env = (false, eval e X.env) :: starEach es X.env := by rfl) (hpl : (backTo pos (starEach es X.env)).any (·.1) = false := by rfl) :
    PE X (.Call (.Name x p) (e :: es) [] pos) (tMakeS C sp dvs (WE W) t) := by
  refine ⟨fun pins s σ H Q I h => ?_⟩
  refine wpAny_Call_Name_kw (ld_glob I hg hm ?_ hdb)
  refine PySem.W.callWith_K (h₀ := X.base) I.ok.mod.kin M.kp (thn (ha.run pos pins s σ H _ I h) fun us s1 ⟨vs, H1, I1, r, q⟩ => ⟨I1.kIn, ?_⟩) he hpl
  exact run_makeS M F hr hb hd tk I1 r q
def tMethS (C : Addr) (m : Str) (sp : Sp) (E : L2.St → XK) (ta : TE) (t : TA) : TE := fun σ H Q => ta σ H fun x H1 => ∃ a dx fs, x = .ref a ∧ H1 a = some (.ins C dx fs) ∧ fs.lookup m = none ∧
  t σ H1 fun vs H2 => sp (x :: vs) H2 Q (E σ)
/-- o.m(e, ..) -/
theorem pe_methS {pl : Sem Bool} (he : PE X o ta) (c : Cls X.K C) (hm : Meth X.K C m f) (F : FnOk X.prog X.w X.K X.mg X.base (L2.CX X.prog X.w) k f fd ps sp) (hr : Room k X.A) (hb : Binds X.K fd ps []) (tk : Takes X W) (ha : PA X (e :: es) t)
    (hst : starEach (e :: es) X.env = (false, eval e X.env) :: starEach es X.env := by rfl) (hpl : (backTo pos (starEach es X.env)).any (·.1) = false := by rfl)
    (ht : eval (.Call (.Attribute o m apos) (e :: es) [] pos) X.env = (do
      let ov ← eval o X.env
      standAt apos.atName
      let (f, first) ← holding [ov] (getMethod ov m pl)
      callWith pos f first (backTo pos (starEach (e :: es) X.env)) (backToKw pos (keywordEach [] X.env))) := by rfl) :
    PE X (.Call (.Attribute o m apos) (e :: es) [] pos) (tMethS C m sp (WE W) ta t) := by
  refine ⟨fun pins s σ H Q I h => ?_⟩
  refine PySem.W.methodCall_KW (pl := pl) (thn (he.run pins s σ H _ I h) fun u s1 ⟨x, H1, I1, rx, a, dx, fs, ex, ea, l, q⟩ => ?_) ht
  subst ex
  obtain rfl : u = Value.ref a := rx
  refine getmeth_ok I1 ea c hm l ?_
  refine PySem.W.callWith_K (first := [.ref a]) (h₀ := X.base) I.ok.mod.kin hm.kp (thn (ha.run pos pins s1 σ H1 _ I1 q) fun us s2 ⟨vs, H2, I2, r, q2⟩ => ⟨I2.kIn, ?_⟩) hst hpl
  exact run_fnS (us := .ref a :: us) (vs := .ref a :: vs) F hr hb (passAt tk σ) I2 (.cons rfl r) q2
end

/-! ### heaps -/
/-- all but what stands at d is as it was -/
def But (d : Addr) (H H' : Hp) : Prop := ∀ b o, H b = some o → b ≠ d → H' b = some o
theorem But.refl {d : Addr} {H : Hp} : But d H H := fun _ _ h _ => h
theorem But.trans {d : Addr} {H H1 H2 : Hp} (x : But d H H1) (y : But d H1 H2) : But d H H2 := fun b o h n => y b o (x b o h n) n
theorem but_same {d : Addr} {H H' : Hp} (h : Same H H') : But d H H' := fun b o e _ => h b o e
theorem same_upd {H : Hp} {p : Addr} {o : HO} (h : H p = none) : Same H (upd H p o) := fun b x e => by
  rw [upd_ne (ne_of_none e h)]
  exact e
theorem but_upd {d : Addr} {H : Hp} {o : HO} : But d H (upd H d o) := fun b x e n => by
  rw [upd_ne n]
  exact e
theorem But.list {d : Addr} {H H' : Hp} {kvs : List (Key × V)} {l : Addr} {xs : List V} (x : But d H H') (hd : H d = some (.dK kvs)) (h : H l = some (.lst xs)) : H' l = some (.lst xs) :=
  x l _ h (ne_of h hd (by intro z; cases z))
theorem But.tup {d : Addr} {H H' : Hp} {kvs : List (Key × V)} {l : Addr} {xs : List V} (x : But d H H') (hd : H d = some (.dK kvs)) (h : H l = some (.tup xs)) : H' l = some (.tup xs) :=
  x l _ h (ne_of h hd (by intro z; cases z))
theorem But.seq {K : PySem.W.Frag} {d : Addr} {H H' : Hp} {kvs : List (Key × V)} {l : Addr} {xs : List V} (x : But d H H') (hd : H d = some (.dK kvs)) (h : SqL K H l xs) : SqL K H' l xs := by
  rcases h with (h | ⟨o, h⟩) | h
  · exact .inl (.inl (x l _ h (ne_of h hd (by intro z; cases z))))
  · exact .inl (.inr ⟨o, x l _ h (ne_of h hd (by intro z; cases z))⟩)
  · exact .inr h
/-- a list changes where none of what is known stood -/
theorem keep_upd {H H' : Hp} {l : Addr} {o : HO} (h : Same H H') (n : H l = none) : Same H (upd H' l o) := fun b u e => by
  rw [upd_ne (ne_of_none e n)]
  exact h b u e
theorem free_of {H H' : Hp} {p : Addr} (e : Same H H') (h : H' p = none) : H p = none := e.free h
theorem SqL.at {K : PySem.W.Frag} {H : Hp} {a : Addr} {xs : List V} (h : H a = some (.lst xs)) : SqL K H a xs := .inl (.inl h)
theorem SqT.at {K : PySem.W.Frag} {H : Hp} {a : Addr} {xs : List V} (h : H a = some (.tup xs)) : SqT K H a xs := .inl (.inl h)
theorem sz {n : Nat} (h : n ≤ 100000) : n ≤ sizeLine := Nat.le_trans h (by decide)
theorem szlt {n : Nat} (h : n ≤ 100000) : n < sizeLine := Nat.lt_of_le_of_lt h (by decide)
/-! ### data: lists of ints -/
def iD (ns : List Int) : PyData := .list (ns.map PyData.int)
theorem dp_all {K : PySem.W.Frag} {H : Hp} : ∀ ns : List Int, DpAll K H (ns.map V.int) (ns.map PyData.int)
  | [] => .nil
  | _ :: r => .cons (.int _) (dp_all r)
theorem dp_ints {K : PySem.W.Frag} {H : Hp} {p : Addr} {ns : List Int} (h : SqL K H p (ns.map V.int)) : Dp K H (.ref p) (iD ns) := .lst h (dp_all ns)
theorem dp_tints {K : PySem.W.Frag} {H : Hp} {p : Addr} {ns : List Int} (h : SqT K H p (ns.map V.int)) : Dp K H (.ref p) (.tuple (ns.map PyData.int)) := .tup h (dp_all ns)
theorem lay_ints : ∀ ns : List Int, PyData.canLayAll0 (ns.map PyData.int) = true
  | [] => by simp [PyData.canLayAll0]
  | _ :: r => by simp [PyData.canLayAll0, PyData.canLay0, lay_ints r]
theorem eqv_all_ints : ∀ ns ms : List Int, PyData.eqvAll (ns.map PyData.int) (ms.map PyData.int) = decide (ns = ms)
  | [], [] => by simp [PyData.eqvAll]
  | [], _ :: _ => by simp [PyData.eqvAll]
  | _ :: _, [] => by simp [PyData.eqvAll]
  | x :: r, y :: u => by
    simp only [List.map_cons, PyData.eqvAll, PyData.eqv, eqv_all_ints r u, List.cons.injEq]
    by_cases h1 : x = y <;> by_cases h2 : r = u <;> simp [h1, h2]
theorem eqv_ints (ns ms : List Int) : PyData.eqv (iD ns) (iD ms) = decide (ns = ms) := by
  unfold iD
  rw [PyData.eqv]
  exact eqv_all_ints ns ms
theorem deep_ints : ∀ ns : List Int, PyData.depthAll (ns.map PyData.int) ≤ 1
  | [] => by simp [PyData.depthAll]
  | _ :: r => by
    have := deep_ints r
    simp only [List.map_cons, PyData.depthAll, PyData.depth]
    omega
theorem shaped_ints {ns : List Int} : SeqAt.shaped (iD ns) = true := by
  unfold SeqAt.shaped iD
  rw [Bool.and_eq_true, decide_eq_true_eq]
  refine ⟨by rw [PyData.canLay0]; exact lay_ints ns, ?_⟩
  have := deep_ints ns
  rw [PyData.depth]
  omega
theorem atI_ints {ns : List Int} {i : Int} (h0 : 0 ≤ i) (h1 : i.toNat < ns.length) : atI (ns.map V.int) i = some (.int (ns[i.toNat]'h1)) := by
  have e : (i.toNat : Int) = i := by omega
  have z : atI (ns.map V.int) (i.toNat : Int) = some (.int (ns[i.toNat]'h1)) := by
    refine atI_nat ?_
    rw [List.getElem?_map, List.getElem?_eq_getElem h1]
    rfl
  rw [e] at z
  exact z
theorem ixN_nat {n : Nat} {i : Int} (h0 : 0 ≤ i) (h1 : i < (n : Int)) : ixN n i = some i.toNat := by
  unfold ixN
  rw [if_pos h0, if_pos h1]
theorem getD_get {ts : List Int} {i : Nat} (h : i < ts.length) : ts.getD i 0 = ts[i] := by
  rw [List.getD_eq_getElem?_getD, List.getElem?_eq_getElem h]
  rfl
theorem inV_ints {x : Int} : ∀ {xs : List Int}, inV (.int x) (xs.map V.int) = decide (x ∈ xs)
  | [] => rfl
  | y :: r => by
    have ih := inV_ints (x := x) (xs := r)
    unfold inV at ih ⊢
    rw [List.map_cons, List.any_cons, ih]
    have e : eqV (.int y) (.int x) = decide (y = x) := rfl
    rw [e]
    by_cases h : y = x
    · subst h
      simp
    · have h2 : ¬ x = y := fun z => h z.symm
      simp [h, h2]
theorem flat_ints (xs : List Int) : (xs.map V.int).all flatV = true := by
  rw [List.all_eq_true]
  intro x hx
  obtain ⟨i, _, rfl⟩ := List.mem_map.mp hx
  rfl

/-! ### the pen: a dict of the script's cells and two ints -/
def penD (c : Addr) (t l : Int) : HO := .dK [((.inr "cells" : Key), V.ref c), ((.inr "at" : Key), V.int t), ((.inr "left" : Key), V.int l)]
structure PenAt (H : Hp) (d c : Addr) (ns : List Int) (t l : Int) : Prop where
  dc : H d = some (penD c t l)
  cs : H c = some (.lst (ns.map V.int))
  len : ns.length ≤ 63
  t0 : 0 ≤ t
/-- a pen with which at most n draws were made -/
def Pen (H : Hp) (d c : Addr) (n : Nat) : Prop := ∃ ns t l, PenAt H d c ns t l ∧ t ≤ n
theorem k1 : ¬ (("cells" : Str) = "at") := by decide +kernel
theorem k2 : ¬ (("cells" : Str) = "left") := by decide +kernel
theorem k3 : ¬ (("at" : Str) = "left") := by decide +kernel
theorem kk {x y : Str} (h : ¬ x = y) : ¬ ((Sum.inr x : Key) = Sum.inr y) := fun z => h (Sum.inr.inj z)
theorem pen_valC {c : Addr} {t l : Int} : valV [((.inr "cells" : Key), V.ref c), ((.inr "at" : Key), V.int t), ((.inr "left" : Key), V.int l)] (.inr "cells") = some (.ref c) := by
  simp [valV, List.find?]
theorem pen_valA {c : Addr} {t l : Int} : valV [((.inr "cells" : Key), V.ref c), ((.inr "at" : Key), V.int t), ((.inr "left" : Key), V.int l)] (.inr "at") = some (.int t) := by
  simp [valV, List.find?, k1]
theorem pen_valL {c : Addr} {t l : Int} : valV [((.inr "cells" : Key), V.ref c), ((.inr "at" : Key), V.int t), ((.inr "left" : Key), V.int l)] (.inr "left") = some (.int l) := by
  simp [valV, List.find?, k2, k3]
theorem pen_C {H : Hp} {d c : Addr} {t l : Int} (h : H d = some (penD c t l)) : DGet H d (.str "cells") (some (.ref c)) := by
  have e := DGet.k (k := Sum.inr "cells") h
  rw [pen_valC] at e
  exact e
theorem pen_A {H : Hp} {d c : Addr} {t l : Int} (h : H d = some (penD c t l)) : DGet H d (.str "at") (some (.int t)) := by
  have e := DGet.k (k := Sum.inr "at") h
  rw [pen_valA] at e
  exact e
theorem pen_L {H : Hp} {d c : Addr} {t l : Int} (h : H d = some (penD c t l)) : DGet H d (.str "left") (some (.int l)) := by
  have e := DGet.k (k := Sum.inr "left") h
  rw [pen_valL] at e
  exact e
theorem pen_putA {c : Addr} {t l u : Int} : putK [((.inr "cells" : Key), V.ref c), ((.inr "at" : Key), V.int t), ((.inr "left" : Key), V.int l)] (.inr "at") (.int u) = [((.inr "cells" : Key), V.ref c), ((.inr "at" : Key), V.int u), ((.inr "left" : Key), V.int l)] := by
  simp [putK, k1, k3, show ¬ (("left" : Str) = "at") from fun h => k3 h.symm]
theorem pen_putL {c : Addr} {t l u : Int} : putK [((.inr "cells" : Key), V.ref c), ((.inr "at" : Key), V.int t), ((.inr "left" : Key), V.int l)] (.inr "left") (.int u) = [((.inr "cells" : Key), V.ref c), ((.inr "at" : Key), V.int t), ((.inr "left" : Key), V.int u)] := by
  simp [putK, k2, k3]
theorem pen_setA {H : Hp} {d c : Addr} {t l u : Int} (h : H d = some (penD c t l)) : DPut H d (.str "at") (.int u) (upd H d (penD c u l)) := by
  have e := DPut.k (k := Sum.inr "at") (v := .int u) h (by show 3 < sizeLine; exact szlt (by decide))
  rw [pen_putA] at e
  exact e
theorem pen_setL {H : Hp} {d c : Addr} {t l u : Int} (h : H d = some (penD c t l)) : DPut H d (.str "left") (.int u) (upd H d (penD c t u)) := by
  have e := DPut.k (k := Sum.inr "left") (v := .int u) h (by show 3 < sizeLine; exact szlt (by decide))
  rw [pen_putL] at e
  exact e
theorem pen_mk {l : Addr} : mergeK [] [((.inr "cells" : Key), V.ref l), ((.inr "at" : Key), V.int 0), ((.inr "left" : Key), V.int 0)] = [((.inr "cells" : Key), V.ref l), ((.inr "at" : Key), V.int 0), ((.inr "left" : Key), V.int 0)] := by
  simp [mergeK, putK, k1, k2, k3]
theorem Pen.same {H H' : Hp} {d c : Addr} {n : Nat} (p : Pen H d c n) (h : Same H H') : Pen H' d c n := by
  obtain ⟨ns, t, l, q, e⟩ := p
  exact ⟨ns, t, l, ⟨h _ _ q.dc, h _ _ q.cs, q.len, q.t0⟩, e⟩
theorem Pen.up {H : Hp} {d c : Addr} {n m : Nat} (p : Pen H d c n) (h : n ≤ m) : Pen H d c m := by
  obtain ⟨ns, t, l, q, e⟩ := p
  exact ⟨ns, t, l, q, by omega⟩
theorem Pen.dict {H : Hp} {d c : Addr} {n : Nat} (p : Pen H d c n) : ∃ kvs, H d = some (.dK kvs) := by
  obtain ⟨ns, t, l, q, e⟩ := p
  exact ⟨_, q.dc⟩
theorem Pen.cells {H : Hp} {d c : Addr} {n : Nat} (p : Pen H d c n) : ∃ o, H c = some o := by
  obtain ⟨ns, t, l, q, e⟩ := p
  exact ⟨_, q.cs⟩
/-- a list that is not the pen's changes -/
theorem Pen.mut {H : Hp} {d c l : Addr} {n : Nat} {o : HO} (p : Pen H d c n) (hd : d ≠ l) (hc : c ≠ l) : Pen (upd H l o) d c n := by
  obtain ⟨ns, t, u, q, e⟩ := p
  exact ⟨ns, t, u, ⟨by rw [upd_ne hd]; exact q.dc, by rw [upd_ne hc]; exact q.cs, q.len, q.t0⟩, e⟩
/-- what stands where nothing stood may change -/
theorem But.mut {d l : Addr} {H H' : Hp} {o : HO} (b : But d H H') (h : H l = none) : But d H (upd H' l o) := fun x u e n => by
  rw [upd_ne (ne_of_none e h)]
  exact b x u e n
theorem cut63 (ns : List Int) : cutV (ns.map V.int) none (some 63) = (ns.take 63).map V.int := by
  unfold cutV
  rw [show HT.sIx (ns.map V.int).length (ns.map V.int).length (some 63) = min 63 (ns.map V.int).length from HT.sIx_nat _ _ 63, HT.sIx_none, List.drop_zero, Nat.sub_zero, List.map_take, List.take_eq_take_iff]
  omega
section
variable {P : Program} {w : World} {K : PySem.W.Frag} {mg : Str → Option Value} {base : Heap} {a : Ad}
def spPen (K : PySem.W.Frag) : Sp := fun vs H Q _ => ∃ (s : Addr) (ns : List Int), vs = [.ref s] ∧ SqL K H s (ns.map V.int) ∧ ns.length ≤ 63 ∧
  ∀ d c H', H d = none → H c = none → Pen H' d c 0 → Same H H' → Q (.ref d) H'
theorem ok__law_pen (T : Tx w K mg a) : FnOk P w K mg base CX0 1 a.f__law_pen a.d__law_pen ["script"] (spPen K) := by
  refine T.F__law_pen.ok sc__law_pen (fun vs H Q E h => ?_) (fun cdv A outer s H vs Q E hr h => ?_)
  · obtain ⟨s, ns, rfl, _⟩ := h
    rfl
  · obtain ⟨x, ns, rfl, hS, hlen, q⟩ := h
    have hu := hu_of hr
    refine ⟨_, 
(pss_one (ps_ret (pe_disp (pps_cons pe_str (pe_callTy call_list_of (by rfl) T.z_list (by decide +kernel) (pa_cons (pe_slice sl_list (pv 0) po_none (po_some pe_int)) pa_nil)) (pps_cons pe_str pe_int (pps_cons pe_str pe_int pps_nil))) (by rfl) (by rfl) (fun z => by cases z) (by decide)))), ?_⟩
    intro d hd
    have s1 : Same H (upd H d (.dK [])) := same_upd hd
    refine ⟨.ref x, rfl, 63, rfl, x, ns.map V.int, rfl, s1.seq hS, fun p hp => ?_⟩
    have s2 : Same (upd H d (.dK [])) (upd (upd H d (.dK [])) p (.lst (cutV (ns.map V.int) none (some 63)))) := same_upd hp
    refine ⟨p, _, rfl, .inl (SqL.at upd_same), fun l hl => ?_⟩
    have s3 := same_upd (o := .lst (cutV (ns.map V.int) none (some 63))) hl
    have hd3 := s3 _ _ (s2 _ _ (upd_same (H := H) (a := d) (o := .dK [])))
    have hl3 : (upd (upd (upd H d (.dK [])) p (.lst (cutV (ns.map V.int) none (some 63)))) l (.lst (cutV (ns.map V.int) none (some 63)))) l = _ := upd_same
    have ndl : l ≠ d := ne_of hl3 hd3 (by intro z; cases z)
    refine ⟨hd3, [((.inr "cells" : Key), V.ref l), ((.inr "at" : Key), V.int 0), ((.inr "left" : Key), V.int 0)], rfl, (by show 3 ≤ 15; decide), ?_⟩
    rw [pen_mk]
    refine q d l _ hd (s1.free (s2.free hl)) ⟨ns.take 63, 0, 0, ⟨upd_same, ?_, ?_, by decide⟩, by decide⟩ ?_
    · rw [upd_ne ndl, hl3, cut63]
    · rw [List.length_take]
      omega
    · intro b o e
      rw [upd_ne (ne_of_none e hd)]
      exact s3 _ _ (s2 _ _ (s1 _ _ e))
/-- a draw: any int from 0 on that is less than the second argument; the pen alone changes -/
def spDraw : Sp := fun vs H Q _ => ∃ (d c : Addr) (n : Nat) (m : Int), vs = [.ref d, .int m] ∧ Pen H d c n ∧ n < 2 ^ 40 ∧ 0 < m ∧ m < 2 ^ 200 ∧
  ∀ v H', 0 ≤ v → v < m → Pen H' d c (n + 1) → But d H H' → Q (.int v) H'
theorem ok__law_draw (T : Tx w K mg a) : FnOk P w K mg base CX0 1 a.f__law_draw a.d__law_draw ["pen", "many"] spDraw := by
  refine T.F__law_draw.ok sc__law_draw (fun vs H Q E h => ?_) (fun cdv A outer s H vs Q E hr h => ?_)
  · obtain ⟨d, c, n, m, rfl, _⟩ := h
    rfl
  · obtain ⟨d, c, n, m, rfl, ⟨ns, t, l, ⟨hd, hc, hlen, t0⟩, htn⟩, hn, m0, mb, q⟩ := h
    have hu := hu_of hr
    have hmne : m ≠ 0 := by omega
    have hdiv : ∀ x : Int, CDivW x m := fun x => wide_div m0 (b := 200) (by omega) (by decide) (by decide)
    have f0 : ∀ x : Int, 0 ≤ Int.fmod x m := fun x => Int.fmod_nonneg_of_pos x m0
    have f1 : ∀ x : Int, Int.fmod x m < m := fun x => Int.fmod_lt_of_pos x m0
    refine ⟨_, 
(pss_cons (ps_if (pt_cmpR op_ge (pe_dget hu (pv 0) pe_str (fun _ _ => rfl)) (pv 1) (nomark _))
  (pss_cons (ps_set (i := 2) sc__law_draw.nd rfl (.inl rfl) (pe_op op_modN (pe_callTy call_int1 (by rfl) T.z_int (by decide +kernel) (pa_cons (pe_dget hu (pv 0) pe_str (fun _ _ => rfl)) pa_nil)) (pv 1)))
  (pss_cons (ps_dput hu (pv 0) pe_str (pe_op op_fdivW (pe_dget hu (pv 0) pe_str (fun _ _ => rfl)) (pv 1)) rfl)
  (pss_one (ps_ret (pv 2)))))
  pss_nil)
  (pss_cons (ps_set (i := 3) sc__law_draw.nd rfl (.inl rfl) (pe_dget hu (pv 0) pe_str (fun _ _ => rfl)))
  (pss_cons (ps_dput hu (pv 0) pe_str (pe_op op_add (pv 3) pe_int) rfl)
  (pss_cons (ps_set (i := 4) sc__law_draw.nd rfl (.inl rfl) (pe_op op_add (pe_op op_mul pe_int (pv 3)) pe_int))
  (C8.pss_cut (ps_if (pt_cmpR (op_neD hr.units) (pe_dget hu (pv 0) pe_str (fun _ _ => rfl)) (pe_lst pa_nil) (nomark _))
  (pss_one (ps_set (i := 4) sc__law_draw.nd rfl (.inl rfl) (pe_ix ix_list (pe_dget hu (pv 0) pe_str (fun _ _ => rfl)) (pe_op op_modN (pe_callTy call_int1 (by rfl) T.z_int (by decide +kernel) (pa_cons (pv 3) pa_nil)) (pe_callB call_len_seq (by rfl) T.z_len PySem.boot_len (pa_cons (pe_dget hu (pv 0) pe_str (fun _ _ => rfl)) pa_nil))) (fun _ _ => rfl))))
  pss_nil)
  (C8.pss_cut (ps_if (PW.pt (pw_and (pt_cmpR op_lt (pv 3) (pe_callB call_len_seq (by rfl) T.z_len PySem.boot_len (pa_cons (pe_dget hu (pv 0) pe_str (fun _ _ => rfl)) pa_nil)) (nomark _)) (pw_and1 (pt_cmpR op_ge (pv 4) (pe_op op_pow pe_int pe_int) (nomark _)))))
  (pss_cons (ps_dput hu (pv 0) pe_str (pe_op op_fdivW (pe_op op_sub (pv 4) (pe_op op_pow pe_int pe_int)) (pv 1)) rfl)
  (pss_one (ps_ret (pe_op op_modN (pe_callTy call_int1 (by rfl) T.z_int (by decide +kernel) (pa_cons (pe_op op_sub (pv 4) (pe_op op_pow pe_int pe_int)) pa_nil)) (pv 1)))))
  pss_nil)
  (pss_cons (ps_set (i := 5) sc__law_draw.nd rfl (.inl rfl) (pe_op op_add (pe_op op_add (pe_op op_add (pe_op op_mul (pe_op op_modN (pe_callTy call_int1 (by rfl) T.z_int (by decide +kernel) (pa_cons (pv 4) pa_nil)) pe_int) pe_int) (pe_op op_mul (pe_op op_mul pe_int (pv 3)) (pv 3))) (pe_op op_mul pe_int (pv 3))) pe_int))
  (pss_cons (ps_set (i := 5) sc__law_draw.nd rfl (.inl rfl) (pe_op op_modN (pe_callTy call_int1 (by rfl) T.z_int (by decide +kernel) (pa_cons (pv 5) pa_nil)) pe_int))
  (pss_cons (ps_set (i := 5) sc__law_draw.nd rfl (.inl rfl) (pe_op op_modN (pe_callTy call_int1 (by rfl) T.z_int (by decide +kernel) (pa_cons (pe_op op_mul (pv 5) (pe_op op_add (pv 5) pe_int)) pa_nil)) pe_int))
  (pss_one (ps_ret (pe_op op_modN (pe_callTy call_int1 (by rfl) T.z_int (by decide +kernel) (pa_cons (pe_op op_fdivN (pe_op op_modN (pe_callTy call_int1 (by rfl) T.z_int (by decide +kernel) (pa_cons (pe_op op_mul (pv 5) (pv 5)) pa_nil)) pe_int) pe_int) pa_nil)) (pv 1))))))))))))), ?_⟩
    -- if pen['left'] >= many
    refine ⟨.ref d, rfl, d, .int l, rfl, pen_L hd, .int m, rfl, l, m, rfl, rfl, _, rfl, ite2 (fun e => ?_) (fun e => ?_)⟩
    · -- digit = int(pen['left']) % many; pen['left'] = pen['left'] // many; return digit
      refine ⟨.ref d, rfl, d, .int l, rfl, pen_L hd, .inl ⟨l, rfl, .int m, rfl, l, m, rfl, rfl, hmne, ?_⟩⟩
      refine ⟨.ref d, rfl, d, .int l, rfl, pen_L hd, .int m, rfl, l, m, rfl, rfl, hdiv l, .ref d, rfl, d, _, rfl, pen_setL hd, ?_⟩
      exact ⟨_, rfl, q _ _ (f0 l) (f1 l) ⟨ns, t, _, ⟨upd_same, by rw [upd_ne (ne_of hc hd (by intro z; cases z))]; exact hc, hlen, t0⟩, by omega⟩ but_upd⟩
    · -- at = pen['at']; pen['at'] = at + 1; cell = 41 * at + 13
      refine ⟨.ref d, rfl, d, .int t, rfl, pen_A hd, ?_⟩
      refine ⟨.int t, rfl, t, 1, rfl, rfl, .ref d, rfl, d, _, rfl, pen_setA hd, ?_⟩
      refine ⟨.int t, rfl, 41, t, rfl, rfl, .inl ⟨by decide, by decide⟩, 41 * t, 13, rfl, rfl, ?_⟩
      have hd1 : (upd H d (penD c (t + 1) l)) d = some (penD c (t + 1) l) := upd_same
      have hc1 : (upd H d (penD c (t + 1) l)) c = some (.lst (ns.map V.int)) := by
        rw [upd_ne (ne_of hc hd (by intro z; cases z))]
        exact hc
      have b1 : But d H (upd H d (penD c (t + 1) l)) := but_upd
      generalize upd H d (penD c (t + 1) l) = H1 at hd1 hc1 b1 ⊢
      -- if pen['cells'] != []: cell = pen['cells'][int(at) % len(pen['cells'])]
      refine ⟨fun σ' H' => ∃ cell : Int, σ' = [some (.ref d), some (.int m), none, some (.int t), some (.int cell), none] ∧ H' d = some (penD c (t + 1) l) ∧ H' c = some (.lst (ns.map V.int)) ∧ But d H H', ?_, fun σ'' H'' hM => ?_⟩
      · refine ⟨.ref d, rfl, d, .ref c, rfl, pen_C hd1, Nat.zero_le _, fun p hp => ?_⟩
        have s2 : Same H1 (upd H1 p (.lst [])) := same_upd hp
        have hp2 : (upd H1 p (.lst [])) p = some (.lst []) := upd_same
        have hd2 := s2 _ _ hd1
        have hc2 := s2 _ _ hc1
        have b2 : But d H (upd H1 p (.lst [])) := b1.trans (but_same s2)
        generalize upd H1 p (.lst []) = H2 at hd2 hc2 hp2 b2 ⊢
        refine ⟨_, _, dp_ints (SqL.at hc2), dp_ints (ns := []) (SqL.at hp2), shaped_ints, shaped_ints, _, rfl, ?_⟩
        rw [eqv_ints]
        refine ite2 (fun e => ?_) (fun e => ?_)
        · have hns : ns ≠ [] := by
            intro z
            subst z
            simp at e
          have hpos : 0 < ns.length := List.length_pos_iff.mpr hns
          have g0 : (0 : Int) ≤ Int.fmod t (ns.length : Int) := Int.fmod_nonneg_of_pos _ (by omega)
          have g1 : Int.fmod t (ns.length : Int) < (ns.length : Int) := Int.fmod_lt_of_pos _ (by omega)
          refine ⟨.ref d, rfl, d, .ref c, rfl, pen_C hd2, .int t, rfl, .inl ⟨t, rfl, .ref d, rfl, d, .ref c, rfl, pen_C hd2, c, _, rfl, .inl (SqL.at hc2), t, _, rfl, rfl, ?_, c, _, _, .int (ns[(Int.fmod t (ns.length : Int)).toNat]'(by omega)), rfl, rfl, SqL.at hc2, ?_, ?_⟩⟩
          · rw [List.length_map]
            omega
          · rw [List.length_map]
            exact atI_ints g0 (by omega)
          · exact ⟨_, rfl, hd2, hc2, b2⟩
        · exact ⟨_, rfl, hd2, hc2, b2⟩
      · obtain ⟨cell, rfl, hd3, hc3, b3⟩ := hM
        have hlen' : (ns.map V.int).length ≤ 63 := by
          rw [List.length_map]
          exact hlen
        -- if at < len(pen['cells']) and cell >= 10 ** 18
        refine ⟨fun σ' H' => σ' = [some (.ref d), some (.int m), none, some (.int t), some (.int cell), none] ∧ H' = H'', ?_, fun σ' H' hM => ?_⟩
        · refine ⟨.int t, rfl, .ref d, rfl, d, .ref c, rfl, pen_C hd3, c, _, rfl, .inl (SqL.at hc3), t, _, rfl, rfl, _, rfl, ite2 (fun e1 => ?_) (fun e1 => iteF ⟨rfl, rfl⟩)⟩
          refine ⟨.int cell, rfl, 10, 18, rfl, rfl, ⟨by decide, by decide, by decide⟩, cell, _, rfl, rfl, _, rfl, ite2 (fun e2 => ?_) (fun e2 => ⟨rfl, rfl⟩)⟩
          refine ⟨.int cell, rfl, 10, 18, rfl, rfl, ⟨by decide, by decide, by decide⟩, cell, _, rfl, rfl, .int m, rfl, _, m, rfl, rfl, hdiv _, .ref d, rfl, d, _, rfl, pen_setL hd3, ?_⟩
          refine ⟨.int cell, rfl, 10, 18, rfl, rfl, ⟨by decide, by decide, by decide⟩, cell, _, rfl, rfl, .inl ⟨_, rfl, .int m, rfl, _, m, rfl, rfl, hmne, ?_⟩⟩
          exact q _ _ (f0 _) (f1 _) ⟨ns, t + 1, _, ⟨upd_same, by rw [upd_ne (ne_of hc3 hd3 (by intro z; cases z))]; exact hc3, hlen, by omega⟩, by omega⟩ (b3.trans but_upd)
        · obtain ⟨rfl, rfl⟩ := hM
          have g : ∀ x y : Int, 0 < y → 0 ≤ Int.fmod x y ∧ Int.fmod x y < y := fun x y hy => ⟨Int.fmod_nonneg_of_pos x hy, Int.fmod_lt_of_pos x hy⟩
          have g1 := g cell 2147483629 (by decide)
          have z1 : (2147483629 : Int) ≠ 0 := by decide
          have z2 : (2147483647 : Int) ≠ 0 := by decide
          have z3 : (2147483587 : Int) ≠ 0 := by decide
          have z4 : (2147483563 : Int) ≠ 0 := by decide
          have y1 : -(2 ^ 64) < Int.fmod cell 2147483629 ∧ Int.fmod cell 2147483629 < 2 ^ 64 := by omega
          have y2 : -(2 ^ 64) < t ∧ t < 2 ^ 64 := by omega
          refine ⟨.int cell, rfl, .inl ⟨cell, rfl, cell, 2147483629, rfl, rfl, z1, _, 48271, rfl, rfl, .inl y1, .int t, rfl, 69621, t, rfl, rfl, .inr y2, .int t, rfl, _, t, rfl, rfl, .inr y2, _, _, rfl, rfl, .int t, rfl, 59, t, rfl, rfl, .inr y2, _, _, rfl, rfl, _, 11, rfl, rfl, ?_⟩⟩
          have g2 := g (Int.fmod cell 2147483629 * 48271 + 69621 * t * t + 59 * t + 11) 2147483647 (by decide)
          refine ⟨_, rfl, .inl ⟨_, rfl, _, 2147483647, rfl, rfl, z2, ?_⟩⟩
          have y3 : -(2 ^ 64) < Int.fmod (Int.fmod cell 2147483629 * 48271 + 69621 * t * t + 59 * t + 11) 2147483647 ∧ Int.fmod (Int.fmod cell 2147483629 * 48271 + 69621 * t * t + 59 * t + 11) 2147483647 < 2 ^ 64 := by omega
          refine ⟨_, rfl, _, rfl, _, 40014, rfl, rfl, _, _, rfl, rfl, .inl y3, .inl ⟨_, rfl, _, 2147483587, rfl, rfl, z3, ?_⟩⟩
          have g3 := fun x => g x 2147483587 (by decide)
          have y4 : ∀ x, -(2 ^ 64) < Int.fmod x 2147483587 ∧ Int.fmod x 2147483587 < 2 ^ 64 := fun x => by
            have := g3 x
            omega
          refine ⟨_, rfl, _, rfl, _, _, rfl, rfl, .inl (y4 _), .inl ⟨_, rfl, _, 2147483563, rfl, rfl, z4, _, 64, rfl, rfl, ⟨by decide, by decide⟩, .inl ⟨_, rfl, .int m, rfl, _, m, rfl, rfl, hmne, ?_⟩⟩⟩
          exact q _ _ (f0 _) (f1 _) ⟨ns, t + 1, l, ⟨hd3, hc3, hlen, by omega⟩, by omega⟩ b3
end

section
variable {P : Program} {w : World} {K : PySem.W.Frag} {mg : Str → Option Value} {base : Heap} {a : Ad}
/-- the same items in another order, as a new list -/
def spShuf (K : PySem.W.Frag) : Sp := fun vs H Q _ => ∃ (d c s : Addr) (n : Nat) (xs : List V), vs = [.ref d, .ref s] ∧ Pen H d c n ∧ n + xs.length < 2 ^ 40 ∧ SqL K H s xs ∧ xs.length ≤ 100000 ∧
  ∀ p ys H', ys.Perm xs → H p = none → H' p = some (.lst ys) → Pen H' d c (n + xs.length) → But d H H' → Q (.ref p) H'
theorem perm_erase : ∀ (xs : List V) (k : Nat) (h : k < xs.length), (xs[k] :: xs.eraseIdx k).Perm xs
  | x :: r, 0, _ => List.Perm.refl _
  | x :: r, k + 1, h => by
    have h' : k < r.length := by
      simp only [List.length_cons] at h
      omega
    refine (List.Perm.swap x r[k] (r.eraseIdx k)).trans ?_
    exact (perm_erase r k h').cons x
theorem seqIx {v : Int} {n : Nat} (h0 : 0 ≤ v) (h1 : v < n) : seqIndex? v n = some v.toNat := by
  unfold seqIndex?
  have e : ¬ v < 0 := by omega
  simp only [e, if_false]
  simp [h0, h1]
theorem ok__law_shuffled (T : Tx w K mg a) : FnOk P w K mg base CX0 2 a.f__law_shuffled a.d__law_shuffled ["pen", "some"] (spShuf K) := by
  refine T.F__law_shuffled.ok sc__law_shuffled (fun vs H Q E h => ?_) (fun cdv A outer s H vs Q E hr h => ?_)
  · obtain ⟨d, c, s, n, xs, rfl, _⟩ := h
    rfl
  · obtain ⟨d, c, s, n, xs, rfl, hp, hn, hs, h1, q⟩ := h
    obtain ⟨kvs, hd⟩ := hp.dict
    refine ⟨_, 
(pss_cons (ps_par (i := 2) (j := 3) (by rfl) sc__law_shuffled.nd rfl rfl (by decide) rfl rfl (pa_cons (pe_callTy call_list_of (by rfl) T.z_list (by decide +kernel) (pa_cons (pv 1) pa_nil)) (pa_cons (pe_lst pa_nil) pa_nil)) (by rfl))
  (pss_cons (ps_for PassesOwn.never rfl (pi_range1 (by rfl) T.z_range (pa_cons (pe_callB call_len_seq (by rfl) T.z_len PySem.boot_len (pa_cons (pv 2) pa_nil)) pa_nil)) (pg_name (i := 4) sc__law_shuffled.nd rfl (.inl rfl))
  (pss_one (ps_expr (pe_bm PySem.F.plainAttrs_list PySem.F.slot_list_append PySem.F.type_list_append mt_append (pv 3) (pa_cons (pe_bm PySem.F.plainAttrs_list PySem.F.slot_list_pop PySem.F.type_list_pop mt_popAt (pv 2) (pa_cons (pe_call (ok__law_draw T) hr (by rfl) T.m__law_draw T.F__law_draw.kp T.b__law_draw .nil pass0 (pa_cons (pv 0) (pa_cons (pe_callB call_len_seq (by rfl) T.z_len PySem.boot_len (pa_cons (pv 2) pa_nil)) pa_nil))) pa_nil)) pa_nil)))))
  (pss_one (ps_ret (pv 3))))), ?_⟩
    -- left, found = list(some), []
    refine ⟨.ref s, rfl, s, xs, rfl, .inl hs, fun l hl => ⟨Nat.zero_le _, fun f hf => ⟨.ref l, .ref f, rfl, ?_⟩⟩⟩
    have s1 : Same H (upd H l (.lst xs)) := same_upd hl
    have s2 : Same (upd H l (.lst xs)) (upd (upd H l (.lst xs)) f (.lst [])) := same_upd hf
    have nfl : l ≠ f := ne_of_none upd_same hf
    have hl2 : (upd (upd H l (.lst xs)) f (.lst [])) l = some (.lst xs) := s2 _ _ upd_same
    have hf2 : (upd (upd H l (.lst xs)) f (.lst [])) f = some (.lst []) := upd_same
    have fnew : H f = none := s1.free hf
    have lnew : H l = none := hl
    obtain ⟨oc, hcc⟩ := hp.cells
    have hp2 := hp.same (s1.trans s2)
    have b2 : But d H (upd (upd H l (.lst xs)) f (.lst [])) := but_same (s1.trans s2)
    -- for k in range(len(left))
    refine ⟨.ref l, rfl, l, xs, rfl, .inl (SqL.at hl2), _, rfl, by omega, by omega, ?_⟩
    refine for_range (lo := 0) (n := xs.length) (fun i σ H3 => ∃ y4 ls fs, σ = [some (.ref d), some (.ref s), some (.ref l), some (.ref f), y4] ∧ H3 l = some (.lst ls) ∧ H3 f = some (.lst fs) ∧ (fs ++ ls).Perm xs ∧ fs.length = i ∧ Pen H3 d c (n + i) ∧ But d H H3) ?_ ?_ ?_
    · exact ⟨none, xs, [], rfl, hl2, hf2, List.Perm.refl _, rfl, hp2, b2⟩
    · rintro i σ H3 hi ⟨y4, ls, fs, rfl, hl3, hf3, pm, fl, hp3, b3⟩
      obtain ⟨kvs3, hd3⟩ := hp3.dict
      have hlen : fs.length + ls.length = xs.length := by
        have := pm.length_eq
        rw [List.length_append] at this
        exact this
      refine ⟨.ref f, rfl, .inl ⟨rfl, _, SqL.at hf3⟩, .ref l, rfl, .inl ⟨rfl, _, SqL.at hl3⟩, .ref d, rfl, .ref l, rfl, l, ls, rfl, .inl (SqL.at hl3), d, c, n + i, _, rfl, hp3, by omega, by omega, ?_, fun v H4 v0 v1 hp4 hb => ?_⟩
      · have : ((100000 : Nat) : Int) < 2 ^ 200 := by decide
        omega
      · have hl4 := hb.list hd3 hl3
        have hf4 := hb.list hd3 hf3
        have hv : v.toNat < ls.length := by omega
        refine ⟨l, ls, v, v.toNat, ls[v.toNat], rfl, rfl, hl4, by omega, by omega, seqIx v0 v1, List.getElem?_eq_getElem hv, f, fs, _, rfl, rfl, by rw [upd_ne nfl.symm]; exact hf4, szlt (by omega), ?_⟩
        refine ⟨_, ls.eraseIdx v.toNat, fs ++ [ls[v.toNat]], rfl, by rw [upd_ne nfl]; exact upd_same, upd_same, ?_, by rw [List.length_append, fl]; rfl, ?_, ?_⟩
        · refine List.Perm.trans ?_ pm
          rw [List.append_assoc]
          exact (perm_erase ls v.toNat hv).append_left fs
        · have hp5 := (hp4.mut (l := l) (o := .lst (ls.eraseIdx v.toNat)) (ne_of_none hd lnew) (ne_of_none hcc lnew)).mut (l := f) (o := .lst (fs ++ [ls[v.toNat]])) (ne_of_none hd fnew) (ne_of_none hcc fnew)
          exact hp5
        · exact ((b3.trans hb).mut lnew).mut fnew
    · rintro σ H3 ⟨y4, ls, fs, rfl, hl3, hf3, pm, fl, hp3, b3⟩
      have hlen := pm.length_eq
      rw [List.length_append] at hlen
      have e : ls = [] := List.eq_nil_of_length_eq_zero (by omega)
      subst e
      rw [List.append_nil] at pm
      exact ⟨_, rfl, q f fs H3 pm fnew hf3 hp3 b3⟩
end

/-! ### a list or a tuple: walked, enumerated -/
def SqA (K : PySem.W.Frag) (H : Hp) (p : Addr) (xs : List V) : Prop := SqL K H p xs ∨ SqT K H p xs
theorem SqA.len {K : PySem.W.Frag} {H : Hp} {p : Addr} {xs : List V} (h : SqA K H p xs) : SqL K H p xs ∨ SqT K H p xs := h
theorem Same.seqT {K : PySem.W.Frag} {H H' : Hp} {p : Addr} {xs : List V} (e : Same H H') (h : SqT K H p xs) : SqT K H' p xs := by
  rcases h with (h | ⟨o, h⟩) | h
  · exact .inl (.inl (e _ _ h))
  · exact .inl (.inr ⟨o, e _ _ h⟩)
  · exact .inr h
theorem SqA.same {K : PySem.W.Frag} {H H' : Hp} {p : Addr} {xs : List V} (h : SqA K H p xs) (e : Same H H') : SqA K H' p xs := h.elim (fun q => .inl (e.seq q)) fun q => .inr (Same.seqT e q)
def iSeq (K : PySem.W.Frag) (tl : TE) : TI := fun σ H R => tl σ H fun x H1 => ∃ p xs, x = .ref p ∧ ((SqL K H1 p xs ∧ R (Itl K p) H1) ∨ (SqT K H1 p xs ∧ R (Itt K p) H1))
theorem pi_seq {X : Cx} {tg l : Expr} {tl : TE} (hl : PE X l tl) : PI X tg l (iSeq X.K tl) := by
  constructor
  intro pins s σ H R I h
  apply thn (hl.run pins s σ H _ I h)
  rintro v s1 ⟨x, H1, I1, r1, p, xs, rfl, hq⟩
  cases r1
  rcases hq with ⟨hq, q⟩ | ⟨hq, q⟩
  · obtain ⟨its, _, z, _⟩ := I1.list hq
    exact wpAny_pyIter_list z.isList (pi_one (tk := s1.toks) I1 _ (turn_list p _) ⟨_, Heap.get?_push_size _ rfl, rfl, rfl⟩ q)
  · obtain ⟨its, _, z, _⟩ := I1.tuple hq
    exact wpAny_pyIter_tuple (show s1.heap.IsTuple p its.toArray from z) (pi_one (tk := s1.toks) I1 _ (turn_tuple p _) ⟨_, Heap.get?_push_size _ rfl, rfl, rfl⟩ q)
/-- enumerate over a tuple -/
def IteT (K : PySem.W.Frag) (p : Addr) : It where
  go := fun i H => ∃ (xs : List V) (x : V), SqT K H p xs ∧ xs[i]? = some x
  yld := fun i H v H' => ∃ q x, v = .ref q ∧ H q = none ∧ H' = upd H q (.tup [.int (i : Nat), x]) ∧ ∀ xs, SqT K H p xs → xs[i]? = some x
  stop := fun i H => ∃ xs : List V, SqT K H p xs ∧ xs.length = i
theorem turn_enumT {P : Program} {w : World} {K : PySem.W.Frag} {elts : List Expr} {kk : Nat} {tpos : Pos} (p e it : Addr) :
    Turn P w K (.Tuple elts kk tpos) (IteT K p) [e, it] e (fun i h => (∃ old, IsEnum h e it ((i : Nat) : Int) old) ∧ h.IsTupleIter it p i ∧ e ≠ it) where
  mem := List.mem_cons_self ..
  obj := by
    rintro i h ⟨⟨old, he⟩, ⟨o, ho, hc, hd⟩, _⟩ b hb
    simp only [List.mem_cons, List.not_mem_nil, or_false] at hb
    rcases hb with rfl | rfl
    · exact ⟨_, he, fun v q => nomatch q⟩
    · exact ⟨o, ho, fun v q => by rw [hd] at q; cases q⟩
  keep := by
    rintro i h h' ⟨⟨old, he⟩, hi, hne⟩ k
    exact ⟨⟨old, k e (by simp) _ he⟩, hi.at fun o q => k it (by simp) o q, hne⟩
  item := by
    rintro X rfl rfl rfl hc i pins s σ H E I hf ⟨⟨old, he⟩, hit, hne⟩ ⟨xs, x, hq, hx⟩
    obtain ⟨its, rv, z, hz⟩ := I.tuple hq
    obtain ⟨u, hu, ru⟩ := rv.get hx
    have hel : e < s.heap.objs.size := Heap.lt_size he
    have hil : it < s.heap.objs.size := by
      obtain ⟨_, q, _⟩ := hit
      exact Heap.lt_size q
    have hpe : e ≠ p := fun q => by
      obtain ⟨o, ho, hc1, _⟩ := (show s.heap.IsTuple p its.toArray from z)
      rw [← q] at ho
      rw [Option.some.inj (ho.symm.trans he)] at hc1
      injection hc1 with hc1
      exact absurd hc1 (by decide)
    have hpi : p ≠ it := fun q => by
      obtain ⟨o, ho, hc1, _⟩ := (show s.heap.IsTuple p its.toArray from z)
      obtain ⟨o2, ho2, hc2, _⟩ := hit
      rw [q] at ho
      rw [Option.some.inj (ho.symm.trans ho2), hc2] at hc1
      injection hc1 with hc1
      exact absurd hc1 (by decide)
    have D := Draws.tuple (prog := X.prog) (w := X.w) (A := X.A.in1) (I.ok.hd hc) it p hpi its.toArray
    have hlt : i < its.toArray.size := by
      have := (List.getElem?_eq_some_iff.mp hu).1
      simpa using this
    refine wpAny_pyNext_enum_itemD (i := i) D he ⟨hit, z⟩ hlt hne (by simp [hne, hpe]) ?_
    intro v h' tk hv ho hst' hT hsz hk
    have ev : v = u := by
      have h1 : its[i]? = some v := by simpa using hv
      exact Option.some.inj (h1.symm.trans hu)
    subst ev
    refine ⟨_, rfl, wpAny_letOwnedTupleGo_enum (s := { s with heap := h', toks := tk + 1 }) ho ?_⟩
    intro h'' he' sb
    have hT2 : h''.get? s.heap.objs.size = some { cls := .type "tuple", data := .seq #[.int i tk, v] } := (sb.2 _ (Nat.ne_of_gt hel)).trans hT
    have new : ObjOk X.prog X.w (upd H s.heap.objs.size (.tup [.int (i : Nat), x])) h'' s.heap.objs.size (.tup [.int (i : Nat), x]) :=
      ⟨(by decide : 2 ≤ sizeLine), [.int i tk, v], .cons ⟨_, rfl⟩ (.cons ru .nil), _, hT2, rfl, _, rfl⟩
    have I1 : Inv X pins σ (upd H s.heap.objs.size (.tup [.int (i : Nat), x])) { s with heap := h'', toks := tk + 1 } := by
      refine I.turnedNew (ch := [e, it]) (fun b ob hb q => ?_) hf (Nat.le_refl _) new
      have n1 : b ≠ e := fun y => hb (by simp [y])
      have n2 : b ≠ it := fun y => hb (by simp [y])
      exact (sb.2 b n1).trans (hk b ob n1 n2 q)
    refine ⟨.ref s.heap.objs.size, _, I1, rfl, ⟨_, x, rfl, I.hok.fresh (Nat.le_refl _), rfl, fun ys hy => ?_⟩, ⟨⟨v, ?_⟩, hst'.1.at fun o q => (sb.2 it hne.symm).trans q, hne⟩, fun b hb => ?_⟩
    · rw [I.tuple_inj hy hq]
      exact hx
    · rw [show ((i + 1 : Nat) : Int) = (i : Int) + 1 by omega]
      exact he'
    · have hb' : b < s.heap.objs.size := by
        simp only [List.mem_cons, List.not_mem_nil, or_false] at hb
        rcases hb with rfl | rfl
        · exact hel
        · exact hil
      rw [upd_ne (Nat.ne_of_lt hb')]
      exact (hf b hb).1
  done := by
    rintro X rfl rfl rfl hc i pins s σ H E I hf ⟨⟨old, he⟩, hit, hne⟩ ⟨xs, hq, hx⟩
    obtain ⟨its, rv, z, hz⟩ := I.tuple hq
    obtain ⟨f0, f1, f2, f3, f4, f5⟩ := hf it (by simp)
    have hl := rv.length
    have hpi : p ≠ it := fun q => by
      obtain ⟨o, ho, hc1, _⟩ := (show s.heap.IsTuple p its.toArray from z)
      obtain ⟨o2, ho2, hc2, _⟩ := hit
      rw [q] at ho
      rw [Option.some.inj (ho.symm.trans ho2), hc2] at hc1
      injection hc1 with hc1
      exact absurd hc1 (by decide)
    have D := Draws.tuple (prog := X.prog) (w := X.w) (A := X.A.in1) (I.ok.hd hc) it p hpi its.toArray
    have ei : i = its.toArray.size := by
      simp only [List.size_toArray]
      omega
    subst ei
    exact wpAny_pyNext_enum_endD D he ⟨hit, z⟩ fun h' eb => ⟨rfl, I.turned (t' := s.toks) (fun b o hb e => eb b o hb e) f0 f1 f3 f4 f5⟩
  self := by
    rintro A i s Q E ⟨⟨_, he⟩, _⟩ h
    exact wpAny_pyIter_enum he h
theorem meets_enum0 {v : Value} {o : Obj} {Hh : Heap → Prop} (B : Begins v o Hh) :
    Meets (Builtin.«enumerate.__new__» ⟨[.type "enumerate", v], []⟩) (fun _ R s => Hh s.heap ∧
      R (.ok (.ret (.ref (s.heap.push o).objs.size))) { s with heap := (s.heap.push o).push { cls := .type "enumerate", data := .fields #[.none, .bool false, .ref s.heap.objs.size, rawInt 0, .none, .none] } }) := by
  refine .of_wp ?_
  rintro prog w A R ⟨hp, g, d, tk, os⟩ ⟨h1, h⟩
  have hsb := sub_enumerate
  have q1 : ∀ {A' : Around} {E : Value → Shared → Prop} {Q : Value → Shared → Prop}, Q (.ref hp.objs.size) ⟨hp.push o, g, d, tk, os⟩ → wpAny (model prog w) A' (pyIter v) Q E ⟨hp, g, d, tk, os⟩ := by
    intro A' E Q q
    exact B.iter prog w _ _ ⟨hp, g, d, tk, os⟩ _ h1 q
  wp_walk using q1
  refine wpAny_stack_any fun st => wpAny_pure ?_
  split
  · rename_i c _ _ _ _ _
    cases (c == Value.type "enumerate") <;> (wp_walk using q1; exact ⟨_, rfl, h⟩)
  · wp_walk using q1
    exact ⟨_, rfl, h⟩
theorem call_enum0 {prog : Program} {w : World} {A : Around} {E : Value → Shared → Prop} {s : Shared} {v : Value} {o : Obj} {Hh : Heap → Prop} {Q : Value → Shared → Prop} (B : Begins v o Hh) (h1 : Hh s.heap)
    (h : ∀ h', IsEnum h' (s.heap.objs.size + 1) s.heap.objs.size 0 .none → h'.get? s.heap.objs.size = some o → h'.objs.size = s.heap.objs.size + 2 → (∀ b u, s.heap.get? b = some u → h'.get? b = some u) → Q (.ref (s.heap.objs.size + 1)) { s with heap := h' }) :
    wpAny (model prog w) A (call (.type "enumerate") [v]) Q E s := by
  have hz : (s.heap.push o).objs.size = s.heap.objs.size + 1 := by rw [Heap.size_push]
  refine callType_new F.called_enumerate (by decide) (F.typeCall_enumerate_1 _) (F.newCall_enumerate_1 _) (fun obj => F.args_object_init_2 obj _) F.entry_enumerate_new (meets_enum0 B) ⟨h1, ?_⟩
  have key : IsEnum ((s.heap.push o).push { cls := .type "enumerate", data := .fields #[.none, .bool false, .ref s.heap.objs.size, rawInt 0, .none, .none] }) (s.heap.push o).objs.size s.heap.objs.size 0 .none := Heap.get?_push_size _ rfl
  show _ ∧ _
  rw [hz] at key ⊢
  exact ⟨⟨_, key, rfl⟩, h _ key (Heap.get?_push_of_some _ (Heap.get?_push_size _ B.free)) (by rw [Heap.size_push, hz]) fun b u x => Heap.get?_push_of_some _ (Heap.get?_push_of_some _ x)⟩
def iEnS (K : PySem.W.Frag) (ta : TA) : TI := fun σ H R => ta σ H fun vs H1 => ∃ p xs, vs = [.ref p] ∧ ((SqL K H1 p xs ∧ R (Ite K p) H1) ∨ (SqT K H1 p xs ∧ R (IteT K p) H1))
theorem pi_enumS {X : Cx} {e : Expr} {ta : TA} {p pos tpos : Pos} {elts : List Expr} {kk : Nat} (hg : Gl X "enumerate") (hm : X.mg "enumerate" = none) (ha : PA X [e] ta) (hs : starEach [e] X.env = [(false, eval e X.env)] := by rfl) :
    PI X (.Tuple elts kk tpos) (.Call (.Name "enumerate" p) [e] [] pos) (iEnS X.K ta) := by
  constructor
  intro pins s σ H R I h
  refine Call_ (ld_blt I hg hm boot_enumerate (PyProof.Rows.callWith_type1 (thn (ha.run pos pins s σ H _ I h) ?_) hs rfl))
  rintro us s1 ⟨vs, H1, I1, r1, q0, xs, rfl, hq⟩
  cases r1 with
  | cons r rr =>
    cases rr
    cases r
    have fp : ∀ b ∈ [s1.heap.objs.size + 1, s1.heap.objs.size], FpOk X pins H1 b := by
      intro b hb
      simp only [List.mem_cons, List.not_mem_nil, or_false] at hb
      have hle : s1.heap.objs.size ≤ b := by
        rcases hb with rfl | rfl
        · exact Nat.le_add_right _ _
        · exact Nat.le_refl _
      exact I1.fpOk hle (I1.hok.fresh hle)
    rcases hq with ⟨hq, q⟩ | ⟨hq, q⟩
    · obtain ⟨its, _, z, _⟩ := I1.list hq
      refine call_enumerate_list z.isList ?_
      intro h' he hit hsz hk
      exact wpAny_pyIter_enum he ⟨s1.heap.objs.size + 1, [s1.heap.objs.size + 1, s1.heap.objs.size], _, _, H1, rfl, I1.kept (t' := s1.toks) hk, turn_enum q0 (s1.heap.objs.size + 1) s1.heap.objs.size, ⟨⟨.none, he⟩, hit, Nat.succ_ne_self _⟩, fp, q⟩
    · obtain ⟨its, _, z, _⟩ := I1.tuple hq
      refine call_enum0 (begins_tuple q0 its.toArray) z ?_
      intro h' he hit hsz hk
      exact wpAny_pyIter_enum he ⟨s1.heap.objs.size + 1, [s1.heap.objs.size + 1, s1.heap.objs.size], _, _, H1, rfl, I1.kept (t' := s1.toks) hk, turn_enumT q0 (s1.heap.objs.size + 1) s1.heap.objs.size, ⟨⟨.none, he⟩, ⟨_, hit, rfl, rfl⟩, Nat.succ_ne_self _⟩, fp, q⟩
theorem walk_enumT {K : PySem.W.Frag} {p : Addr} {xs : List V} : Walk (IteT K p) xs.length (fun H => SqT K H p xs) (YPair (fun i => some (.int (i : Nat))) (fun i => xs[i]?)) where
  goes := fun i H hi h => ⟨xs, xs[i], h, List.getElem?_eq_getElem hi⟩
  stops := fun H h => ⟨xs, h, rfl⟩
  yields := by
    rintro i H v H' hi h ⟨q, x, rfl, hn, rfl, hx⟩
    exact ⟨q, _, x, rfl, hn, rfl, rfl, hx xs h⟩

/-- tuple(x), its reading with K by name -/
def rTupOf (K : PySem.W.Frag) : List V → Hp → VK → Prop := fun xs H Q => ∃ p ys, xs = [V.ref p] ∧ ((SqL K H p ys ∧ ∀ (l : Addr), H l = none → Q (V.ref l) (upd H l (HO.tup ys))) ∨ SqT K H p ys ∧ Q (V.ref p) H)
theorem call_tuple_ofK {X : Cx} {K : PySem.W.Frag} (hK : X.K = K) : CallR X (.type "tuple") (rTupOf K) := by
  subst hK
  exact call_tuple_of
/-- list(x), its reading with K by name -/
def rListOf (K : PySem.W.Frag) : List V → Hp → VK → Prop := fun xs H Q => ∃ p ys, xs = [V.ref p] ∧ (SqL K H p ys ∨ SqT K H p ys) ∧ ∀ (l : Addr), H l = none → Q (V.ref l) (upd H l (HO.lst ys))
theorem call_list_ofK {X : Cx} {K : PySem.W.Frag} (hK : X.K = K) : CallR X (.type "list") (rListOf K) := by
  subst hK
  exact call_list_of
/-- len(x), its reading with K by name -/
def rLenS (K : PySem.W.Frag) : List V → Hp → VK → Prop := fun xs H Q => ∃ p ys, xs = [V.ref p] ∧ (SqL K H p ys ∨ SqT K H p ys) ∧ Q (.int ys.length) H
theorem call_len_seqK {X : Cx} {K : PySem.W.Frag} (hK : X.K = K) : CallR X (.builtin "len") (rLenS K) := by
  subst hK
  exact call_len_seq

/-! ### questions about values -/
/-- whether a value is an int that is no bool, as isinstance tells it -/
inductive IsI (H : Hp) : V → Bool → Prop where
  | int (i : Int) : IsI H (.int i) true
  | non : IsI H .non false
  | bl (b : Bool) : IsI H (.bl b) false
  | str (z : Str) : IsI H (.str z) false
  | tup {p : Addr} {xs : List V} (e : H p = some (.tup xs)) : IsI H (.ref p) false
  | lst {p : Addr} {xs : List V} (e : H p = some (.lst xs)) : IsI H (.ref p) false
theorem IsI.same {H H' : Hp} {x : V} {b : Bool} (h : IsI H x b) (e : Same H H') : IsI H' x b := by
  cases h with
  | int i => exact .int i
  | non => exact .non
  | bl b => exact .bl b
  | str z => exact .str z
  | tup q => exact .tup (e _ _ q)
  | lst q => exact .lst (e _ _ q)
section
variable {P : Program} {w : World} {K : PySem.W.Frag} {mg : Str → Option Value} {base : Heap} {a : Ad}
def spIsInteger : Sp := fun vs H Q _ => ∃ x b, vs = [x] ∧ IsI H x b ∧ Q (.bl b) H
theorem ok_is_integer (T : Tx w K mg a) : FnOk P w K mg base CX0 1 a.f_is_integer a.d_is_integer ["value"] spIsInteger := by
  refine T.F_is_integer.ok sc_is_integer (fun vs H Q E h => ?_) (fun cdv A outer s H vs Q E hr h => ?_)
  · obtain ⟨x, b, rfl, _⟩ := h
    rfl
  · obtain ⟨x, b, rfl, hb, q⟩ := h
    refine ⟨_, 
(pss_one (ps_ret (pe_and (pe_callB call_isi (by rfl) T.z_isinstance (by decide +kernel) (pa_cons (pv 0) (pa_cons (pe_bltn (v := .ty "int") (by rfl) T.z_int (by decide +kernel) rfl) pa_nil))) (pe_one (pe_not (pe_callB call_isi (by rfl) T.z_isinstance (by decide +kernel) (pa_cons (pv 0) (pa_cons (pe_bltn (v := .ty "bool") (by rfl) T.z_bool (by decide +kernel) rfl) pa_nil)))))))), ?_⟩
    refine ⟨x, rfl, ?_⟩
    cases hb with
    | int i => exact ⟨_, _, _, _, true, rfl, .ty "int", .base (.int i), kit_ty (by decide +kernel), true, rfl, iteT ⟨_, rfl, _, _, _, _, false, rfl, .ty "bool", .base (.int i), kit_ty (by decide +kernel), _, rfl, q⟩⟩
    | non => exact ⟨_, _, _, _, false, rfl, .ty "int", .base .non, kit_ty (by decide +kernel), false, rfl, iteF q⟩
    | str z => exact ⟨_, _, _, _, false, rfl, .ty "int", .base (.str z), kit_ty (by decide +kernel), false, rfl, iteF q⟩
    | tup e => exact ⟨_, _, _, _, false, rfl, .ty "int", .base (.tup e), kit_ty (by decide +kernel), false, rfl, iteF q⟩
    | lst e => exact ⟨_, _, _, _, false, rfl, .ty "int", .base (.lst e), kit_ty (by decide +kernel), false, rfl, iteF q⟩
    | bl b => exact ⟨_, _, _, _, true, rfl, .ty "int", .base (.bl b), kit_ty (by decide +kernel), true, rfl, iteT ⟨_, rfl, _, _, _, _, true, rfl, .ty "bool", .base (.bl b), kit_ty (by decide +kernel), _, rfl, q⟩⟩
def btM (lo hi : Int) : V → Bool
  | .int i => decide (lo ≤ i) && decide (i ≤ hi)
  | _ => false
def spIsBetween : Sp := fun vs H Q _ => ∃ x b lo hi, vs = [x, .int lo, .int hi] ∧ IsI H x b ∧ Q (.bl (btM lo hi x)) H
theorem ok_is_between (T : Tx w K mg a) : FnOk P w K mg base CX0 2 a.f_is_between a.d_is_between ["value", "low", "high"] spIsBetween := by
  refine T.F_is_between.ok sc_is_between (fun vs H Q E h => ?_) (fun cdv A outer s H vs Q E hr h => ?_)
  · obtain ⟨x, b, lo, hi, rfl, _⟩ := h
    rfl
  · obtain ⟨x, b, lo, hi, rfl, hb, q⟩ := h
    refine ⟨_, 
(pss_one (ps_ret (pe_and (pe_call (ok_is_integer T) hr (by rfl) T.m_is_integer T.F_is_integer.kp T.b_is_integer .nil pass0 (pa_cons (pv 0) pa_nil)) (pe_one (pe_chain op_le op_le (pv 1) (pv 0) (pv 2)))))), ?_⟩
    refine ⟨x, rfl, x, b, rfl, hb, b, rfl, ?_⟩
    cases hb with
    | int i =>
      refine iteT ⟨_, rfl, _, rfl, lo, i, rfl, rfl, _, rfl, ?_⟩
      by_cases h1 : lo ≤ i
      · rw [decide_eq_true h1]
        refine iteT ⟨_, rfl, i, hi, rfl, rfl, ?_⟩
        have e : btM lo hi (.int i) = decide (i ≤ hi) := by simp [btM, h1]
        rw [e] at q
        exact q
      · rw [decide_eq_false h1]
        have e : btM lo hi (.int i) = false := by simp [btM, h1]
        rw [e] at q
        exact iteF q
    | non => exact iteF q
    | str z => exact iteF q
    | tup e => exact iteF q
    | lst e => exact iteF q
    | bl b => exact iteF q
/-- the first member that is no place of n or has come before -/
def fwI (n : Nat) : List Int → Nat → List V → Option Nat
  | _, _, [] => none
  | seen, k, .int i :: r => if 0 ≤ i ∧ i < (n : Int) ∧ i ∉ seen then fwI n (i :: seen) (k + 1) r else some k
  | _, k, _ :: _ => some k
def oN : Option Nat → V
  | none => .non
  | some k => .int k
def flags (n : Nat) (seen : List Int) : List V := (List.range n).map fun j : Nat => V.bl (decide ((j : Int) ∈ seen))
theorem flags_len (n : Nat) (seen : List Int) : (flags n seen).length = n := by
  unfold flags
  rw [List.length_map, List.length_range]
theorem flags_nil (n : Nat) : List.replicate n (V.bl false) = flags n [] := by
  refine List.ext_getElem (by rw [flags_len, List.length_replicate]) fun i h1 h2 => ?_
  simp [flags]
theorem flags_get {n : Nat} {seen : List Int} {i : Int} (h0 : 0 ≤ i) (h1 : i < (n : Int)) : atI (flags n seen) i = some (.bl (decide (i ∈ seen))) := by
  have e : (i.toNat : Int) = i := by omega
  have z : atI (flags n seen) (i.toNat : Int) = some (.bl (decide (i ∈ seen))) := by
    refine atI_nat ?_
    unfold flags
    rw [List.getElem?_map, List.getElem?_range (by omega)]
    show some (V.bl (decide ((i.toNat : Int) ∈ seen))) = _
    rw [e]
  rw [e] at z
  exact z
theorem flags_set {n : Nat} {seen : List Int} {i : Int} (h0 : 0 ≤ i) : (flags n seen).set i.toNat (.bl true) = flags n (i :: seen) := by
  refine List.ext_getElem (by rw [List.length_set, flags_len, flags_len]) fun j h1 h2 => ?_
  rw [List.getElem_set]
  by_cases h : i.toNat = j
  · rw [if_pos h]
    have : (j : Int) = i := by omega
    simp [flags, this]
  · rw [if_neg h]
    have : ¬ (j : Int) = i := by omega
    simp [flags, this]
def spFirstWrong (K : PySem.W.Frag) : Sp := fun vs H Q _ => ∃ r xs, vs = [.ref r, .int (xs.length : Int)] ∧ SqA K H r xs ∧ xs.length ≤ 100000 ∧ (∀ x ∈ xs, ∃ b, IsI H x b) ∧ ∀ H', Same H H' → Q (oN (fwI xs.length [] 0 xs)) H'
theorem ok_first_wrong (T : Tx w K mg a) : FnOk P w K mg base CX0 3 a.f_first_wrong a.d_first_wrong ["row", "size"] (spFirstWrong K) := by
  refine T.F_first_wrong.ok sc_first_wrong (fun vs H Q E h => ?_) (fun cdv A outer s H vs Q E hr h => ?_)
  · obtain ⟨r, xs, rfl, _⟩ := h
    rfl
  · obtain ⟨r, xs, rfl, hx, hl, hk, q⟩ := h
    refine ⟨_, 
(pss_cons (ps_set (i := 2) sc_first_wrong.nd rfl (.inl rfl) (pe_op op_rep (pe_lst (pa_cons pe_bl pa_nil)) (pv 1)))
  (pss_cons (ps_for PassesOwn.never rfl (pi_enumS (by rfl) T.z_enumerate (pa_cons (pv 0) pa_nil)) (pg_tup rfl (pgs_cons (pg_name (i := 3) sc_first_wrong.nd rfl (.inl rfl)) (pgs_cons (pg_name (i := 4) sc_first_wrong.nd rfl (.inl rfl)) pgs_nil)))
  (pss_cons (ps_if (PW.pt (pw_or (pt_not (pt_val (pe_call (ok_is_between T) hr (by rfl) T.m_is_between T.F_is_between.kp T.b_is_between .nil pass0 (pa_cons (pv 4) (pa_cons pe_int (pa_cons (pe_op op_sub (pv 1) pe_int) pa_nil)))))) (pw_or1 (pt_val (pe_ix ix_list (pv 2) (pv 4) (fun _ _ => rfl))))))
  (pss_one (ps_ret (pv 3)))
  pss_nil)
  (pss_one (ps_asg pe_bl (pg_sub (pv 2) (pv 4) set_list)))))
  (pss_one (ps_ret pe_non)))), ?_⟩
    -- has_come = [False] * size
    refine ⟨sz (by decide), fun p0 hp0 => ⟨_, rfl, p0, _, _, rfl, rfl, upd_same, by omega, by omega, sz (by simp; omega), fun p hp => ?_⟩⟩
    have s1 : Same H (upd (upd H p0 (.lst [.bl false])) p (.lst (List.replicate (xs.length : Int).toNat [V.bl false]).flatten)) := (same_upd hp0).trans (same_upd hp)
    have e0 : (List.replicate (xs.length : Int).toNat [V.bl false]).flatten = flags xs.length [] := by
      rw [List.flatten_replicate_singleton, Int.toNat_natCast, flags_nil]
    have pn : H p = none := (same_upd hp0).free hp
    have hp1 : (upd (upd H p0 (.lst [.bl false])) p (.lst (List.replicate (xs.length : Int).toNat [V.bl false]).flatten)) p = some (.lst (flags xs.length [])) := by
      rw [e0]
      exact upd_same
    generalize upd (upd H p0 (.lst [.bl false])) p (.lst (List.replicate (xs.length : Int).toNat [V.bl false]).flatten) = H1 at s1 hp1 ⊢
    -- for index, member in enumerate(row)
    refine ⟨.ref r, rfl, r, xs, rfl, ?_⟩
    refine hx.elim (fun hS => .inl ⟨s1.seq hS, ?_⟩) (fun hS => .inr ⟨Same.seqT s1 hS, ?_⟩)
    all_goals
      refine for_it (by first | exact walk_enum (xs := xs) | exact walk_enumT (xs := xs)) (fun i σ H3 => ∃ y3 y4 seen, σ = [some (.ref r), some (.int (xs.length : Int)), some (.ref p), y3, y4] ∧ Same H H3 ∧ H3 p = some (.lst (flags xs.length seen)) ∧ fwI xs.length [] 0 xs = fwI xs.length seen i (xs.drop i)) ?h0 ?hG ?hs ?hd
      case h0 => exact ⟨none, none, [], rfl, s1, hp1, rfl⟩
      case hG =>
        rintro i σ H3 hi ⟨y3, y4, seen, rfl, s3, hp3, ef⟩
        first | exact s3.seq hS | exact Same.seqT s3 hS
      case hd =>
        rintro σ H3 ⟨y3, y4, seen, rfl, s3, hp3, ef⟩
        rw [List.drop_length] at ef
        have q2 := q H3 s3
        rw [ef] at q2
        exact q2
      case hs =>
        rintro i v σ H3 H4 hi ⟨y3, y4, seen, rfl, s3, hp3, ef⟩ ⟨t, x1, x, rfl, nt, rfl, e1, e2⟩
        cases e1
        have s4 : Same H3 (upd H3 t (.tup [.int (i : Nat), x])) := same_upd nt
        have hp4 := s4 _ _ hp3
        have ed : xs.drop i = x :: xs.drop (i + 1) := by
          rw [List.drop_eq_getElem_cons hi]
          have := List.getElem?_eq_some_iff.mp e2
          rw [this.2]
        rw [ed] at ef
        refine ⟨t, [.int (i : Nat), x], rfl, SqT.at upd_same, rfl, _, [x], rfl, x, [], rfl, rfl, ?_⟩
        obtain ⟨b, hb⟩ := hk x (List.mem_of_getElem? e2)
        refine ⟨x, rfl, _, rfl, (xs.length : Int), 1, rfl, rfl, x, b, 0, _, rfl, (hb.same s3).same s4, _, rfl, ?_⟩
        by_cases hbt : btM 0 ((xs.length : Int) - 1) x = true
        · obtain ⟨m, rfl, h0, h1⟩ : ∃ m : Int, x = .int m ∧ 0 ≤ m ∧ m < (xs.length : Int) := by
            cases x with
            | int m =>
              simp only [btM, Bool.and_eq_true, decide_eq_true_eq] at hbt
              exact ⟨m, rfl, hbt.1, by omega⟩
            | _ => exact absurd hbt (by simp [btM])
          rw [hbt]
          refine iteF ⟨_, rfl, _, rfl, p, _, m, _, rfl, rfl, SqL.at hp4, flags_get h0 h1, _, rfl, ?_⟩
          by_cases hm : m ∈ seen
          · rw [decide_eq_true hm]
            have ef2 : fwI xs.length [] 0 xs = some i := by
              rw [ef]
              simp [fwI, hm]
            have q2 := q _ (s3.trans s4)
            rw [ef2] at q2
            exact iteT ⟨_, rfl, q2⟩
          · rw [decide_eq_false hm]
            have ef2 : fwI xs.length [] 0 xs = fwI xs.length (m :: seen) (i + 1) (xs.drop (i + 1)) := by
              rw [ef]
              simp [fwI, hm, h0, h1]
            refine iteF ⟨_, rfl, _, rfl, p, _, m, m.toNat, rfl, rfl, hp4, by rw [flags_len]; exact ixN_nat h0 h1, ?_⟩
            refine ⟨_, _, m :: seen, rfl, ?_, by rw [flags_set h0]; exact upd_same, ef2⟩
            intro c o e
            rw [upd_ne (ne_of_none e pn)]
            exact s4 _ _ (s3 _ _ e)
        · rw [Bool.not_eq_true] at hbt
          rw [hbt]
          have ef2 : fwI xs.length [] 0 xs = some i := by
            rw [ef]
            cases x with
            | int m =>
              simp only [btM, Bool.and_eq_false_iff, decide_eq_false_iff_not] at hbt
              have : ¬ (0 ≤ m ∧ m < (xs.length : Int) ∧ m ∉ seen) := by omega
              simp only [fwI, if_neg this]
            | _ => rfl
          have q2 := q _ (s3.trans s4)
          rw [ef2] at q2
          exact iteT ⟨_, rfl, q2⟩
end

section
variable {P : Program} {w : World} {K : PySem.W.Frag} {mg : Str → Option Value} {base : Heap} {a : Ad}
def spErrInit (C : Addr) (f : Str) : Sp := fun vs H Q _ => ∃ (x : Addr) (v : V), vs = [.ref x, v] ∧ H x = some (exo x C none) ∧ ∀ dx, H dx = none → dx ≠ x → Q .non (upd (upd H dx (exd dx [(f, v)])) x (exo x C (some dx)))
theorem ok_BadSize_init (T : Tx w K mg a) : FnOk P w K mg base CX0 1 a.f_BadSize_init a.d_BadSize_init ["self", "size"] (spErrInit a.C_BadSize "size") := by
  refine T.F_BadSize_init.ok sc_BadSize_init (fun vs H Q E h => ?_) (fun cdv A outer s H vs Q E hr h => ?_)
  · obtain ⟨x, v, rfl, _⟩ := h
    rfl
  · obtain ⟨x, v, rfl, hx, q⟩ := h
    refine ⟨_, 
(pss_one (ps_ost (pv 0) (pv 1))), ?_⟩
    exact ⟨v, rfl, .ref x, rfl, x, a.C_BadSize, rfl, T.ox_BadSize.o, T.ox_BadSize.no, .inl ⟨hx, fun dx n ne => q dx n ne⟩⟩
theorem ok_BadPlace_init (T : Tx w K mg a) : FnOk P w K mg base CX0 1 a.f_BadPlace_init a.d_BadPlace_init ["self", "place"] (spErrInit a.C_BadPlace "place") := by
  refine T.F_BadPlace_init.ok sc_BadPlace_init (fun vs H Q E h => ?_) (fun cdv A outer s H vs Q E hr h => ?_)
  · obtain ⟨x, v, rfl, _⟩ := h
    rfl
  · obtain ⟨x, v, rfl, hx, q⟩ := h
    refine ⟨_, 
(pss_one (ps_ost (pv 0) (pv 1))), ?_⟩
    exact ⟨v, rfl, .ref x, rfl, x, a.C_BadPlace, rfl, T.ox_BadPlace.o, T.ox_BadPlace.no, .inl ⟨hx, fun dx n ne => q dx n ne⟩⟩
theorem ok_BadRow_init (T : Tx w K mg a) : FnOk P w K mg base CX0 1 a.f_BadRow_init a.d_BadRow_init ["self", "index"] (spErrInit a.C_BadRow "index") := by
  refine T.F_BadRow_init.ok sc_BadRow_init (fun vs H Q E h => ?_) (fun cdv A outer s H vs Q E hr h => ?_)
  · obtain ⟨x, v, rfl, _⟩ := h
    rfl
  · obtain ⟨x, v, rfl, hx, q⟩ := h
    refine ⟨_, 
(pss_one (ps_ost (pv 0) (pv 1))), ?_⟩
    exact ⟨v, rfl, .ref x, rfl, x, a.C_BadRow, rfl, T.ox_BadRow.o, T.ox_BadRow.no, .inl ⟨hx, fun dx n ne => q dx n ne⟩⟩
theorem made_same {H H1 : Hp} {x dx C : Addr} {f : Str} {v : V} (s : Same H H1) (hx : H1 x = none) (hd : H1 dx = none) : Same H (upd (del (upd (upd (upd H1 x (exo x C none)) dx (exd dx [(f, v)])) x (exo x C (some dx))) x) dx (.xd [(f, v)])) := fun b o e => by
  have e1 := s b o e
  have nx := ne_of_none e1 hx
  have nd := ne_of_none e1 hd
  rw [upd_ne nd, del_ne nx, upd_ne nx, upd_ne nd, upd_ne nx]
  exact e1
theorem err_end {H H1 : Hp} {C : Addr} {f : Str} {v : V} {E : XK} (s1 : Same H H1) (hE : ∀ H' d, Same H H' → H' d = some (.xd [(f, v)]) → E (.ref C) (some d) H') : ∀ x, H1 x = none →
    spErrInit C f [.ref x, v] (upd H1 x (exo x C none)) (fun u H2 => u = .non ∧ ∃ (d : Addr) (fs : List (Str × V)), H2 x = some (exo x C (some d)) ∧ H2 d = some (exd d fs) ∧ H1 d = none ∧ E (.ref C) (some d) (upd (del H2 x) d (.xd fs))) (fun _ _ _ => False) := by
  intro x hx
  refine ⟨x, v, rfl, upd_same, fun dx hd ne => ⟨rfl, dx, [(f, v)], upd_same, ?_, ?_, ?_⟩⟩
  · rw [upd_ne ne]
    exact upd_same
  · rw [upd_ne ne] at hd
    exact hd
  · have hd1 : H1 dx = none := by
      rw [upd_ne ne] at hd
      exact hd
    exact hE _ dx (made_same s1 hx hd1) upd_same
end

/-! ### == by an own __eq__, with both answers; the other value a text or an instance -/
inductive EqTy (H : Hp) : V → Value → Prop where
  | str (y : Str) : EqTy H (.str y) (.type "str")
  | ins {p C : Addr} {dx : Addr} {fs : List (Str × V)} (e : H p = some (.ins C dx fs)) : EqTy H (.ref p) (.ref C)
def rEqOwn (K : PySem.W.Frag) (C : Addr) (sp : Sp) (E : XK) : R2 := fun x y H Q => ∃ (p dx : Addr) (fs : List (Str × V)) (tb : Value), x = .ref p ∧ H p = some (.ins C dx fs) ∧ EqTy H y tb ∧ PySem.W.notFirst K C tb = true ∧ sp [x, y] H (fun v H' => (∃ b, v = .bl b) ∧ Q v H') E
theorem op_eq_own {X : Cx} {n : Nat} {CX : CXT} {C f : Addr} {fd : FuncData} {ps : List Str} {sp : Sp} {E : XK} (F : FnOk X.prog X.w X.K X.mg X.base CX n f fd ps sp) (hr : Room n X.A)
    (hs : PySem.W.findIn X.K (.ref C) "__eq__" = some (some (.ref f))) (hf : PySem.W.isFn X.K (.ref f) = true) (hb : Binds X.K fd ps []) (hx : Passes CX X E) : OpR X (compareOp .Eq) (rEqOwn X.K C sp E) := by
  rintro pins s σ H x y v u Q I rx ry ⟨p, dx, fs, tb, rfl, hp, ty, hn, hsp⟩
  cases rx
  obtain ⟨mA, J, _⟩ := ins_get I.hok hp
  obtain ⟨od, J, _⟩ := J.look
  obtain ⟨m, hF⟩ := I.fr
  have hT : PySem.W.Looks (model X.prog X.w) s.heap (typeOf u) tb := by
    cases ty with
    | str z =>
      obtain ⟨t, q⟩ := (show ∃ t, u = Value.str z t from ry)
      cases q
      exact .now
    | @ins b C' dy gs e =>
      cases (show u = Value.ref b from ry)
      obtain ⟨mB, J', _⟩ := ins_get I.hok e
      obtain ⟨od', J', _⟩ := J'.look
      exact J'.type
  show wpAny (model X.prog X.w) X.A (richCompare .Eq (.ref p) u) (EP X pins σ Q) X.xe s
  refine PySem.W.cmp_K (op := .Eq) (tb := tb) hr.units0 hF I.ok.mod.kin J hT hn hs hf ?_
  refine wpAny_mono (run_fn F hr hb .nil hx I (show Vals [V.ref p, y] [Value.ref p, u] from .cons rfl (.cons ry .nil)) hsp) (fun w s' z => ?_) fun _ _ h => h
  obtain ⟨z, H', I', rz, ⟨b, ez⟩, q⟩ := z
  subst ez
  cases (show w = Value.bool b from rz)
  exact ⟨.bl b, H', I', rfl, q⟩

/-! ### != by an own __eq__ (object.__ne__ turns its answer round), own == beside ints and tuples -/
inductive EqTy2 (H : Hp) : V → Value → Prop where
  | str (y : Str) : EqTy2 H (.str y) (.type "str")
  | int (i : Int) : EqTy2 H (.int i) (.type "int")
  | ins {p C : Addr} {dx : Addr} {fs : List (Str × V)} (e : H p = some (.ins C dx fs)) : EqTy2 H (.ref p) (.ref C)
  | tup {p : Addr} {xs : List V} (e : H p = some (.tup xs)) : EqTy2 H (.ref p) (.type "tuple")
theorem eqTy2_looks {X : Cx} {pins : List (Addr × Obj)} {σ : L2.St} {H : Hp} {s : Shared} {y : V} {u tb : Value} (I : Inv X pins σ H s) (ty : EqTy2 H y tb) (ry : RelV y u) : PySem.W.Looks (model X.prog X.w) s.heap (typeOf u) tb := by
  cases ty with
  | str z =>
    obtain ⟨t, q⟩ := (show ∃ t, u = Value.str z t from ry)
    cases q
    exact .now
  | int i =>
    obtain ⟨t, q⟩ := (show ∃ t, u = Value.int i t from ry)
    cases q
    exact .now
  | @ins b C' dy gs e =>
    cases (show u = Value.ref b from ry)
    obtain ⟨mB, J', _⟩ := ins_get I.hok e
    obtain ⟨od', J', _⟩ := J'.look
    exact J'.type
  | @tup b xs e =>
    cases (show u = Value.ref b from ry)
    obtain ⟨_, its, _, ob, ho, hc, _⟩ := I.hok b _ e
    rw [← hc]
    exact (PySem.W.Looks.ld ho).andThen .now
def rEqOwn2 (K : PySem.W.Frag) (C : Addr) (sp : Sp) : R2 := fun x y H Q => ∃ (p dx : Addr) (fs : List (Str × V)) (tb : Value), x = .ref p ∧ H p = some (.ins C dx fs) ∧ EqTy2 H y tb ∧ PySem.W.notFirst K C tb = true ∧ sp [x, y] H (fun v H' => (∃ b, v = .bl b) ∧ Q v H') L2.E0
def rNeOwn2 (K : PySem.W.Frag) (C : Addr) (sp : Sp) : R2 := fun x y H Q => ∃ (p dx : Addr) (fs : List (Str × V)) (tb : Value), x = .ref p ∧ H p = some (.ins C dx fs) ∧ EqTy2 H y tb ∧ PySem.W.notFirst K C tb = true ∧ sp [x, y] H (fun v H' => ∃ b, v = .bl b ∧ Q (.bl (!b)) H') L2.E0
theorem op_eq_own2 {X : Cx} {n : Nat} {C f : Addr} {fd : FuncData} {ps : List Str} {sp : Sp} (F : FnOk X.prog X.w X.K X.mg X.base L2.CX0 n f fd ps sp) (hr : Room n X.A)
    (hs : PySem.W.findIn X.K (.ref C) "__eq__" = some (some (.ref f))) (hf : PySem.W.isFn X.K (.ref f) = true) (hb : Binds X.K fd ps []) : OpR X (compareOp .Eq) (rEqOwn2 X.K C sp) := by
  rintro pins s σ H x y v u Q I rx ry ⟨p, dx, fs, tb, rfl, hp, ty, hn, hsp⟩
  cases rx
  obtain ⟨mA, J, _⟩ := ins_get I.hok hp
  obtain ⟨od, J, _⟩ := J.look
  obtain ⟨m, hF⟩ := I.fr
  have hT := eqTy2_looks I ty ry
  show wpAny (model X.prog X.w) X.A (richCompare .Eq (.ref p) u) (EP X pins σ Q) X.xe s
  refine PySem.W.cmp_K (op := .Eq) (tb := tb) hr.units0 hF I.ok.mod.kin J hT hn hs hf ?_
  refine wpAny_mono (run_fn F hr hb .nil pass0 I (show Vals [V.ref p, y] [Value.ref p, u] from .cons rfl (.cons ry .nil)) hsp) (fun w s' z => ?_) fun _ _ h => h
  obtain ⟨z, H', I', rz, ⟨b, ez⟩, q⟩ := z
  subst ez
  cases (show w = Value.bool b from rz)
  exact ⟨.bl b, H', I', rfl, q⟩
theorem op_ne_own2 {X : Cx} {n : Nat} {C f : Addr} {fd : FuncData} {ps : List Str} {sp : Sp} (F : FnOk X.prog X.w X.K X.mg X.base L2.CX0 n f fd ps sp) (hr : Room (n + 1) X.A)
    (hs : PySem.W.findIn X.K (.ref C) "__eq__" = some (some (.ref f))) (hne : PySem.W.findIn X.K (.ref C) "__ne__" = some (some (.builtin "object.__ne__"))) (hob : PySem.W.mroIn X.K C (.type "object") = some true) (hf : PySem.W.isFn X.K (.ref f) = true) (hb : Binds X.K fd ps []) : OpR X (compareOp .NotEq) (rNeOwn2 X.K C sp) := by
  rintro pins s σ H x y v u Q I rx ry ⟨p, dx, fs, tb, rfl, hp, ty, hn, hsp⟩
  cases rx
  obtain ⟨mA, J, _⟩ := ins_get I.hok hp
  obtain ⟨od, J, _⟩ := J.look
  have hT := eqTy2_looks I ty ry
  have kX := I.kIn
  have r2 : Vals [V.ref p, y] [Value.ref p, u] := .cons rfl (.cons ry .nil)
  have hl : [Value.ref p, u].length = ps.length := by
    have e := F.len _ _ _ _ hsp
    exact e
  -- the own == is asked by object.__ne__
  have run : codeAny (model X.prog X.w) X.A (.call (.builtin "object.__ne__") ⟨[.ref p, u], []⟩) (fun r s' => ∃ b : Bool, r = .ok (.ret (.bool (!b))) ∧ ∃ H', Inv X pins σ H' s' ∧ Q (.bl (!b)) H') s := by
    have sub : PySem.W.Looks (model X.prog X.w) s.heap (isInstance (.ref p) (.type "object")) true := J.type.andThen (PySem.W.looks_mroIn kX hob)
    refine codeAny_call_builtin PySem.F.cmp_object.ne.plain PySem.F.cmpEntry_ne (PySem.W.check_slot PySem.F.cmpKind_ne PySem.F.cmpSplit_ne sub (PySem.F.cmpArgs_ne _ _) ?_)
    unfold Builtin.«object.__ne__»
    have hu1 : X.A.in1.units < cLine := (hr.in1).units0
    rw [show slotArgs "__ne__" 1 ⟨[.ref p, u], []⟩ = pure (.ref p, [u]) from rfl]
    refine wpAny_bind (wpAny_pure (wpAny_bind (wpAny_cRoomFor hu1 (wpAny_bind (PySem.W.ifBound_K kX J hs hf ?_)))))
    have inner : wpAny (model X.prog X.w) X.A.in1 (call (.ref f) [.ref p, u]) (fun w s' => ∃ b, w = .bool b ∧ ∃ H', Inv X pins σ H' s' ∧ Q (.bl (!b)) H') (fun e s' => ∃ b : Bool, (Except.error e : Result) = .ok (.ret (.bool (!b))) ∧ ∃ H', Inv X pins σ H' s' ∧ Q (.bl (!b)) H') s := by
      refine wpAny_call (codeAny_mono (F.run X.A.in1 X.stack s H ⟨[.ref p, u], []⟩ [.ref p, u] [V.ref p, y] _ _ hr.in1 I.env0.in1 (hb s [.ref p, u] kX hl) r2 hsp) fun r s' hq => ?_)
      cases r with
      | error e => exact False.elim hq
      | ok fl =>
        cases fl with
        | ret w =>
          obtain ⟨v', H', I', rz, b, ez, q⟩ := I.after hq
          subst ez
          exact ⟨b, rz, H', I', q⟩
        | next => exact False.elim hq
        | brk => exact False.elim hq
        | cont => exact False.elim hq
    refine wpAny_mono inner (fun w s' hq => ?_) fun _ _ h => h
    obtain ⟨b, rfl, H', I', q⟩ := hq
    refine wpAny_bind (wpAny_truthy_bool ?_)
    exact wpAny_pure ⟨b, rfl, H', I', q⟩
  have one : wpAny (model X.prog X.w) X.A (tryCompare (.ref p) "__ne__" u) (fun r s' => ∃ v, r = some v ∧ EP X pins σ Q v s') X.xe s := by
    unfold tryCompare
    simp only [callSpecialIfBound?, bindSpecialIfBound?]
    refine wpAny_bind (wpAny_holding (wpAny_bind (wpAny_bind (wpAny_bind (J.type.here ((PySem.W.looks_findIn kX hne).here ?_))))))
    simp only [PySem.F.cmp_object.ne.bind]
    have fin : wpAny (model X.prog X.w) X.A (call (.builtin "object.__ne__") [.ref p, u]) (fun v s' => ∃ b : Bool, v = .bool (!b) ∧ ∃ H', Inv X pins σ H' s' ∧ Q (.bl (!b)) H') X.xe s := wpAny_call (codeAny_mono run fun r s' hq => by
      obtain ⟨b, rfl, hq⟩ := hq
      exact ⟨b, rfl, hq⟩)
    refine wpAny_bind (wpAny_askSetting (wpAny_ite ?_))
    split
    · refine wpAny_bind (wpAny_pure (wpAny_pure ?_))
      show wpAny _ _ (call (.builtin "object.__ne__") ([.ref p] ++ [u]) >>= fun v => pure (some v)) _ _ _
      refine wpAny_bind (wpAny_mono fin (fun v s' hq => ?_) fun _ _ h => h)
      obtain ⟨b, rfl, H', I', q⟩ := hq
      exact wpAny_pure (wpAny_pure ⟨_, rfl, .bl (!b), H', I', rfl, q⟩)
    · refine wpAny_tryCatch (wpAny_bind (wpAny_pure (wpAny_pure ?_)))
      show wpAny _ _ (call (.builtin "object.__ne__") ([.ref p] ++ [u]) >>= fun v => pure (some v)) _ _ _
      refine wpAny_bind (wpAny_mono fin (fun v s' hq => ?_) fun _ _ h => h)
      obtain ⟨b, rfl, H', I', q⟩ := hq
      exact wpAny_pure (wpAny_pure ⟨_, rfl, .bl (!b), H', I', rfl, q⟩)
  show wpAny (model X.prog X.w) X.A (richCompare .NotEq (.ref p) u) (EP X pins σ Q) X.xe s
  unfold richCompare
  simp only [oneThing_ref]
  refine wpAny_holding (wpAny_bind (wpAny_cRoomFor hr.units0 ?_))
  refine wpAny_bind (J.type.here (wpAny_bind (hT.here ?_)))
  split
  · rename_i q
    have e : PySem.W.subIn X.K tb (.ref C) = some false := by
      rcases Bool.or_eq_true_iff.mp hn with e | e
      · rw [beq_iff_eq.mp e] at q
        simp at q
      · exact beq_iff_eq.mp e
    refine wpAny_bind ((PySem.W.looks_subIn kX e).here ?_)
    simp only [Bool.false_eq_true, if_false]
    refine wpAny_bind (wpAny_mono one (fun r s' z => ?_) fun _ _ e => e)
    obtain ⟨v, rfl, hq⟩ := z
    exact wpAny_pure hq
  · refine wpAny_bind (wpAny_pure ?_)
    simp only [Bool.false_eq_true, if_false]
    refine wpAny_bind (wpAny_mono one (fun r s' z => ?_) fun _ _ e => e)
    obtain ⟨v, rfl, hq⟩ := z
    exact wpAny_pure hq

/-! ### sorted(l), l a list of tuples of ints of which two with one first are alike -/
theorem kat_alike {prog : Program} {w : World} {A : Around} {s : Shared} {b fin : Bool} {Q : Bool → Shared → Prop} (hq : Q fin s) : ∀ {xs ys : List Value} {ns : List Int} {i : Nat}, IntsAre xs ns → IntsAre ys ns → PySem.W.KatLex prog w A b fin Q (xs.zip ys) i s
  | _, _, _, _, .nil, .nil => PySem.W.kat_nil hq
  | _, _, _, _, .cons p t hx, .cons _ u hy => by
    rw [List.zip_cons_cons]
    refine PySem.W.kat_cons (wpAny_eqBool_int ?_)
    rw [beq_self_eq_true]
    exact PySem.W.kat_yes (kat_alike hq hx hy)
def fstOf (h : Heap) (v : Value) : Int := (TS.intsOf h v).headD 0
/-- what is sorted: tuples with a first; one first, one tuple -/
structure FstOk (h : Heap) (vs : List Value) : Prop where
  tup : ∀ v ∈ vs, ∃ n ns, TS.TupInts h v (n :: ns)
  one : ∀ v ∈ vs, ∀ u ∈ vs, ∀ n ns ms, TS.TupInts h v (n :: ns) → TS.TupInts h u (n :: ms) → ns = ms
  len : ∃ d, ∀ v ∈ vs, ∀ ns, TS.TupInts h v ns → ns.length = d
theorem FstOk.keeps {h h' : Heap} {vs : List Value} (x : FstOk h vs) (k : ∀ b o, h.get? b = some o → o.cls = .type "tuple" → h'.get? b = some o) : FstOk h' vs := by
  have same : ∀ v ∈ vs, ∀ ns, TS.TupInts h' v ns → TS.TupInts h v ns := fun v hv ns t => by
    obtain ⟨n, ms, tm⟩ := x.tup v hv
    have e : ns = n :: ms := t.ints.symm.trans (tm.keeps k).ints
    rw [e]
    exact tm
  refine ⟨fun v hv => ?_, fun v hv u hu n ns ms t1 t2 => x.one v hv u hu n ns ms (same v hv _ t1) (same u hu _ t2), ?_⟩
  · obtain ⟨n, ns, t⟩ := x.tup v hv
    exact ⟨n, ns, t.keeps k⟩
  · obtain ⟨d, hd⟩ := x.len
    exact ⟨d, fun v hv ns t => hd v hv ns (same v hv _ t)⟩
theorem fst_kat {h : Heap} : ∀ vs : List Value, (∀ v ∈ vs, ∃ n ns, TS.TupInts h v (n :: ns)) → ∃ fs, PySem.W.KatTups h vs fs ∧ fs.length = vs.length ∧ ∀ f ∈ fs, ∃ n t, f = Value.int n t
  | [], _ => ⟨[], .nil, rfl, fun _ hf => nomatch hf⟩
  | v :: vs, x => by
    obtain ⟨fs, k, hl, hi⟩ := fst_kat vs fun u hu => x u (.tail _ hu)
    obtain ⟨n, ns, a, xs, rfl, ⟨o, ho, hc, m, hd⟩, i⟩ := x v (.head _)
    cases q : xs.toList with
    | nil =>
      rw [q] at i
      cases i
    | cons y ys =>
      rw [q] at i
      cases i with
      | cons _ t i =>
        have z := congrArg (fun l : List Value => l[0]?) q
        refine ⟨.int n t :: fs, .cons ho hc hd (by simpa using z) k, congrArg (· + 1) hl, fun f hf => ?_⟩
        rcases List.mem_cons.mp hf with e | hf
        · exact ⟨n, t, e⟩
        · exact hi f hf
theorem fst_swo (h : Heap) : SrtO.Swo fun v u => decide (fstOf h v < fstOf h u) := by
  refine ⟨fun x y e => ?_, fun x y z e1 e2 => ?_⟩
  · have := of_decide_eq_true e
    exact decide_eq_false (by omega)
  · have a1 := of_decide_eq_false e1
    have a2 := of_decide_eq_false e2
    exact decide_eq_false (by omega)
section
variable {prog : Program} {w : World} {A : Around} {E : Value → Shared → Prop} {s : Shared}
theorem fst_cmp {h0 : Heap} {vs : List Value} (x : FstOk s.heap vs) (hk : ∀ v ∈ vs, ∀ ns, TS.TupInts s.heap v ns → fstOf h0 v = ns.headD 0) : SrtO.Cmp prog w A s (tuples' true) (fun p => p.1 ∈ vs) (SrtO.lt2 fun v u => decide (fstOf h0 v < fstOf h0 u)) := by
  intro p q hm hm'
  obtain ⟨n, ns, t1⟩ := x.tup _ hm
  obtain ⟨m, ms, t2⟩ := x.tup _ hm'
  obtain ⟨d, hd⟩ := x.len
  have l1 := hd _ hm _ t1
  have l2 := hd _ hm' _ t2
  have k1 := hk _ hm _ t1
  have k2 := hk _ hm' _ t2
  show wpAny (model prog w) A (keyLt' (tuples' true) p.1 q.1) (fun r s' => s' = s ∧ r = decide (fstOf h0 p.1 < fstOf h0 q.1)) (fun _ _ => False) s
  rw [k1, k2]
  show wpAny (model prog w) A (keyLt' (tuples' true) p.1 q.1) (fun r s' => s' = s ∧ r = decide (n < m)) (fun _ _ => False) s
  have one := x.one _ hm _ hm'
  have t1' := t1
  have t2' := t2
  obtain ⟨a, xs, e1, ⟨o, ho, hc, c, hdt⟩, i1⟩ := t1
  obtain ⟨a', ys, e2, ⟨o', ho', hc', c', hdt'⟩, i2⟩ := t2
  rw [e1, e2]
  refine PySem.W.kat_lt ho hdt ho' hdt' ?_
  have sz : decide (xs.size < ys.size) = false := by
    have z1 := i1.length
    have z2 := i2.length
    rw [Array.length_toList] at z1 z2
    exact decide_eq_false (by omega)
  rw [sz]
  generalize xs.toList = xl at i1 ⊢
  generalize ys.toList = yl at i2 ⊢
  cases i1 with
  | cons _ t i1 =>
    cases i2 with
    | cons _ u i2 =>
      rw [List.zip_cons_cons]
      refine PySem.W.kat_cons (wpAny_eqBool_int ?_)
      by_cases e : n = m
      · subst e
        rw [beq_self_eq_true]
        have e3 := one n ns ms t1' t2'
        subst e3
        exact PySem.W.kat_yes (kat_alike ⟨rfl, (decide_eq_false (Int.lt_irrefl _)).symm⟩ i1 i2)
      · rw [show (n == m) = false from beq_eq_false_iff_ne.mpr e]
        exact PySem.W.kat_no (oneLt_int ⟨rfl, rfl⟩)
theorem sorted_fst {l : Addr} {vs : List Value} {Q : Value → Shared → Prop} (hl : s.heap.IsList l vs.toArray) (hz : vs.length ≤ sizeLine) (x : FstOk s.heap vs)
    (h : ∀ out : List Value, out.Perm vs → out.Pairwise (fun v u => fstOf s.heap v ≤ fstOf s.heap u) → Q (.ref (s.heap.objs.size + 1)) { s with heap := sortedAll s.heap vs out.toArray }) :
    wpAny (model prog w) A (call (.builtin "sorted") [.ref l]) Q E s := by
  refine SrtO.sorted_ord (fst_swo s.heap) hl hz (fun h2 h₁ a ha kk => ?_) fun out hs hb => h out hb.perm (List.Pairwise.imp (fun {v u} z => ?_) hs)
  · intro h' keep
    have kp : ∀ b o, s.heap.get? b = some o → o.cls = .type "tuple" → h'.get? b = some o := fun b o e _ => keep b o (kk b o e).1 (kk b o e).2
    have x' : FstOk h' vs := x.keeps kp
    obtain ⟨fs, f1, f2, f3⟩ := fst_kat vs x'.tup
    refine ⟨tuples' true, fun Q E hq => ?_, fst_cmp x' fun v hv ns t => ?_⟩
    · refine PySem.W.kat_kind (T := .type "int") f1 (by omega) (fun f hm => ?_) rfl ?_
      · obtain ⟨n, t, rfl⟩ := f3 f hm
        exact PySem.W.Looks.now
      · rw [show (Value.type "int" != Value.type "tuple") = true by decide +kernel]
        exact hq
    · obtain ⟨n, ms, tm⟩ := x.tup v hv
      have e : ns = n :: ms := t.ints.symm.trans (tm.keeps kp).ints
      unfold fstOf
      rw [e, tm.ints]
  · have := of_decide_eq_false z
    omega
end
theorem perm_map_inv {α β : Type} {f : α → β} {out : List β} {m : List β} (h : out.Perm m) : ∀ {L : List α}, m = L.map f → ∃ L' : List α, out = L'.map f ∧ L'.Perm L := by
  induction h with
  | nil =>
    intro L e
    cases L with
    | nil => exact ⟨[], rfl, .refl _⟩
    | cons a b => cases e
  | cons x _ ih =>
    intro L e
    cases L with
    | nil => cases e
    | cons a b =>
      obtain ⟨rfl, e2⟩ := List.cons.inj e
      obtain ⟨L', e3, p⟩ := ih e2
      exact ⟨a :: L', by rw [List.map_cons, e3], p.cons a⟩
  | swap x y l =>
    intro L e
    match L, e with
    | a :: b :: r, e =>
      obtain ⟨rfl, e2⟩ := List.cons.inj e
      obtain ⟨rfl, e3⟩ := List.cons.inj e2
      exact ⟨b :: a :: r, by rw [List.map_cons, List.map_cons, e3], .swap a b r⟩
  | trans _ _ h1 h2 =>
    intro L e
    obtain ⟨L1, e1, p1⟩ := h2 e
    obtain ⟨L2, e2, p2⟩ := h1 e1
    exact ⟨L2, e2, p2.trans p1⟩
/-- sorted(xs), xs a list of tuples of d + 1 ints of which two with one first are alike: a new list of the same, ascending by the firsts -/
def rSortF (K : PySem.W.Frag) : List V → Hp → VK → Prop := fun vs H Q => ∃ (α : Type) (ad : α → Addr) (ky : α → List Int) (L : List α) (a : Addr) (d : Nat), vs = [V.ref a] ∧ SqL K H a (L.map fun e => V.ref (ad e)) ∧ (∀ e ∈ L, SqT K H (ad e) ((ky e).map V.int) ∧ (ky e).length = d + 1) ∧
  (∀ e ∈ L, ∀ f ∈ L, (ky e).headD 0 = (ky f).headD 0 → ky e = ky f) ∧
  ∀ (L' : List α) (p : Addr), L'.Perm L → L'.Pairwise (fun e f => (ky e).headD 0 ≤ (ky f).headD 0) → H p = none → Q (.ref p) (upd H p (.lst (L'.map fun e => V.ref (ad e))))
theorem refs_of {α : Type} {ad : α → Addr} : ∀ {L : List α} {us : List Value}, Vals (L.map fun e => V.ref (ad e)) us → us = L.map fun e => Value.ref (ad e)
  | [], _, .nil => rfl
  | e :: r, u :: us, .cons h t => by
    obtain rfl : u = Value.ref (ad e) := h
    rw [refs_of t]
    rfl
theorem refs_vals {α : Type} {ad : α → Addr} : ∀ (L : List α), Vals (L.map fun e => V.ref (ad e)) (L.map fun e => Value.ref (ad e))
  | [] => .nil
  | e :: r => .cons rfl (refs_vals r)
theorem cr_sortF {X : Cx} : CallR X (.builtin "sorted") (rSortF X.K) := by
  intro pins s σ H vs us Q I r h
  obtain ⟨α, ad, ky, L, a, d, rfl, hs, hx, ho, q⟩ := h
  obtain ⟨its, rv, hl, hz⟩ := I.list hs
  rw [Vals.ref1 r]
  have e1 := refs_of rv
  have raw : ∀ v ∈ its, ∃ e ∈ L, v = .ref (ad e) ∧ TS.TupInts s.heap v (ky e) := fun v hv => by
    rw [e1] at hv
    obtain ⟨e, he, rfl⟩ := List.mem_map.mp hv
    exact ⟨e, he, rfl, tupI_raw I (hx e he).1⟩
  have kc : ∀ e ∈ L, ∃ n ns, ky e = n :: ns ∧ ns.length = d := fun e he => by
    have hd := (hx e he).2
    cases k : ky e with
    | nil =>
      rw [k] at hd
      cases hd
    | cons n ns =>
      rw [k] at hd
      exact ⟨n, ns, rfl, Nat.succ.inj hd⟩
  have ok : FstOk s.heap its := by
    refine ⟨fun v hv => ?_, fun v hv u hu n ns ms t1 t2 => ?_, d + 1, fun v hv ns t => ?_⟩
    · obtain ⟨e, he, rfl, t⟩ := raw v hv
      obtain ⟨n, ns, k, _⟩ := kc e he
      rw [k] at t
      exact ⟨n, ns, t⟩
    · obtain ⟨e, he, _, k1⟩ := raw v hv
      obtain ⟨f, hf, _, k2⟩ := raw u hu
      have z1 : n :: ns = ky e := t1.ints.symm.trans k1.ints
      have z2 : n :: ms = ky f := t2.ints.symm.trans k2.ints
      have z3 := ho e he f hf (by rw [← z1, ← z2]; rfl)
      rw [← z1, ← z2] at z3
      exact (List.cons.inj z3).2
    · obtain ⟨e, he, _, k1⟩ := raw v hv
      rw [t.ints.symm.trans k1.ints]
      exact (hx e he).2
  refine sorted_fst hl.isList (by rw [← rv.length]; exact hz) ok fun out h1 h2 => ?_
  obtain ⟨ep, he'⟩ := PyProof.Rows.sortedAll_at s.heap its out.toArray
  obtain ⟨L', eL, pL⟩ := perm_map_inv h1 e1
  subst eL
  refine ⟨.ref _, upd H (s.heap.objs.size + 1) (.lst (L'.map fun e => V.ref (ad e))), I.laid (t' := s.toks) (fun _ _ => PyProof.Rows.sortedAll_old) (Nat.le_succ _) ⟨?_, _, ep, refs_vals L', he'⟩, rfl, q _ _ pL ?_ (I.hok.fresh (Nat.le_succ _))⟩
  · rw [List.length_map, pL.length_eq, ← List.length_map (f := fun e => V.ref (ad e))]
    exact hz
  · rw [List.pairwise_map] at h2
    refine List.Pairwise.imp_of_mem (fun {e f} he hf h => ?_) h2
    unfold fstOf at h
    rw [(tupI_raw I (hx e (pL.mem_iff.mp he)).1).ints, (tupI_raw I (hx f (pL.mem_iff.mp hf)).1).ints] at h
    exact h

/-! ### x * y and ~x by the class's own methods; what is raised is wished for at the caller's slots -/
def tOpS (r : L2.St → R2) (ta tb : TE) : TE := fun σ H Q => ta σ H fun x H1 => tb σ H1 fun y H2 => r σ x y H2 Q
def rMulOwn (C : Addr) (sp : Sp) (E : L2.St → XK) : L2.St → R2 := fun σ x y H Q => ∃ (p dx : Addr) (fs : List (Str × V)) (q dy : Addr) (gs : List (Str × V)), x = .ref p ∧ y = .ref q ∧ H p = some (.ins C dx fs) ∧ H q = some (.ins C dy gs) ∧
  sp [x, y] H (fun v H' => (∃ r, v = .ref r) ∧ Q v H') (E σ)
section
variable {X : Cx} {n : Nat} {C f : Addr} {fd : FuncData} {ps : List Str} {sp : Sp} {W : WX} {a b : Expr} {ta tb : TE} {pos : Pos}
theorem pe_mulS (M : MulC X.K C f) (F : FnOk X.prog X.w X.K X.mg X.base (L2.CX X.prog X.w) n f fd ps sp) (hr : Room n X.A) (hb : Binds X.K fd ps []) (tk : Takes X W) (ha : PE X a ta) (hbb : PE X b tb) : PE X (.BinOp a .Mult b pos) (tOpS (rMulOwn C sp (WE W)) ta tb) := by
  refine ⟨fun pins s σ H Q I h => ?_⟩
  refine wpAny_BinOp (binT ha hbb I h fun v u s2 x y H2 I2 rx ry q => ?_)
  obtain ⟨p, dx, fs, q0, dy, gs, rfl, rfl, hp, hq, hsp⟩ := q
  cases rx
  cases ry
  obtain ⟨mA, J, _⟩ := ins_get I2.hok hp
  obtain ⟨od, J, _⟩ := J.look
  obtain ⟨mB, J', _⟩ := ins_get I2.hok hq
  obtain ⟨od', J', _⟩ := J'.look
  have kX := I2.kIn
  obtain ⟨cd, rest, hcd, hm⟩ := PySem.W.ksp_first M.sf
  have go : wpAny (model X.prog X.w) X.A (call (.ref f) [.ref p, .ref q0]) (PySem.W.CmpBack (EP X pins σ Q)) X.xe s2 :=
    wpAny_mono (run_fnS F hr hb (passAt tk σ) I2 (show Vals [V.ref p, V.ref q0] [Value.ref p, Value.ref q0] from .cons rfl (.cons rfl .nil)) hsp) (fun w s' z => by
      obtain ⟨z, H', I', rz, ⟨r, ez⟩, q⟩ := z
      subst ez
      cases (show w = Value.ref r from rz)
      exact ⟨.ref r, H', I', rfl, q⟩) fun _ _ e => e
  have one := PySem.W.ksp_try (Q := EP X pins σ Q) (E := X.xe) kX J M.mul M.fn go
  have L1 : PySem.W.Looks (model X.prog X.w) s2.heap (typeOf (.ref p)) (.ref C) := J.type
  have L2' : PySem.W.Looks (model X.prog X.w) s2.heap (typeOf (.ref q0)) (.ref C) := J'.type
  have L3 : PySem.W.Looks (model X.prog X.w) s2.heap (fillsNumberSlot (.ref C) "mul") true := PySem.W.fills_K kX hcd hm M.mul
  show wpAny (model X.prog X.w) X.A (binaryOp .Mult (.ref p) (.ref q0)) (EP X pins σ Q) X.xe s2
  unfold binaryOp
  refine wpAny_holding (wpAny_bind ?_)
  show wpAny (model X.prog X.w) X.A (binaryOp1 "mul" (.ref p) (.ref q0)) _ X.xe s2
  unfold binaryOp1
  refine wpAny_bind (L1.here (wpAny_bind (L2'.here (wpAny_bind (L3.here ?_)))))
  simp only [beq_self_eq_true, if_true]
  ksp_lk
  refine wpAny_mono one (fun r s' hr' => ?_) fun _ _ e => e
  obtain ⟨v, rfl, hq⟩ := hr'
  ksp_lk
  exact hq
theorem pe_invN (M : InvC X.K C f) (F : FnOk X.prog X.w X.K X.mg X.base L2.CX0 n f fd ps sp) (hr : Room n X.A) (hb : Binds X.K fd ps []) (ha : PE X a ta) : PE X (.UnaryOp .Invert a pos) (fun σ H Q => ta σ H fun x H1 => ∃ (p dx : Addr) (fs : List (Str × V)), x = .ref p ∧ H1 p = some (.ins C dx fs) ∧ sp [x] H1 Q L2.E0) := by
  refine ⟨fun pins s σ H Q I h => ?_⟩
  refine UnaryOp_ (thn (ha.run pins s σ H _ I h) fun v s1 ⟨x, H1, I1, r1, q1⟩ => ?_)
  obtain ⟨p, dx, fs, rfl, hp, hsp⟩ := q1
  cases r1
  obtain ⟨mA, J, _⟩ := ins_get I1.hok hp
  obtain ⟨od, J, _⟩ := J.look
  obtain ⟨m, hF⟩ := I1.fr
  refine PySem.W.ksp_inv hF I1.ok.mod.kin J M.inv M.fn ?_
  exact run_fn F hr hb .nil pass0 I1 (show Vals [V.ref p] [Value.ref p] from .cons rfl .nil) hsp
end

/-! ### comprehensions with two clauses -/
section
variable {J : It} {n : Nat} {G : Hp → Prop} {Y : Nat → Hp → V → Hp → Prop}
/-- the first clause: Pv by the turn and the heap -/
theorem lc2_it (w : Walk J n G Y) {g : TG} {tt : TT} {bd : (Hp → Prop) → L2.St → Hp → Prop} {vs : List Nat} {σ : L2.St} {H0 : Hp} {Qd : Hp → Prop} (Pv : Nat → Hp → Prop) (h0 : Pv 0 H0) (hG : ∀ i H, i ≤ n → Pv i H → G H)
    (hs : ∀ i x H H', i < n → Pv i H → Y i H x H' → g x (wipe σ vs) H' fun σ2 H2 => wipe σ2 vs = wipe σ vs ∧ tt σ2 H2 fun b H3 => if b = true then bd (Pv (i + 1)) σ2 H3 else Pv (i + 1) H3) (hd : ∀ H, Pv n H → Qd H) :
    ∃ W : Nat → Nat → Hp → Prop, (∃ m, W 0 m H0) ∧ ∀ i m H, W i m H →
      (J.stop i H ∧ Qd H) ∨ (J.go i H ∧ ∃ Nx : Hp → Prop, (∀ H', Nx H' → ∃ m', m' < m ∧ W (i + 1) m' H') ∧ ∀ x H', J.yld i H x H' → g x (wipe σ vs) H' fun σ2 H2 => wipe σ2 vs = wipe σ vs ∧ tt σ2 H2 fun b H3 => if b = true then bd Nx σ2 H3 else Nx H3) := by
  refine ⟨fun i m H => m = n - i ∧ i ≤ n ∧ Pv i H, ⟨n, by simp, Nat.zero_le _, h0⟩, ?_⟩
  rintro i m H ⟨rfl, hi, p⟩
  have q := hG i H hi p
  rcases Nat.lt_or_ge i n with hlt | hge
  · exact .inr ⟨w.goes i H hlt q, Pv (i + 1), fun H' p' => ⟨n - (i + 1), by omega, rfl, hlt, p'⟩, fun x H' y => hs i x H H' hlt p (w.yields i H x H' hlt q y)⟩
  · obtain rfl : i = n := by omega
    exact .inl ⟨w.stops H q, hd H p⟩
/-- the second clause: from the heap in which it begins -/
theorem lc1_it (w : Walk J n G Y) {g : TG} {tt : TT} {te : TE} {vs : List Nat} {σ : L2.St} {H4 : Hp} {D : Addr} {Nx : Hp → Prop} (Pv : Nat → Hp → Prop) (h0 : Pv 0 H4) (hG : ∀ i H, i ≤ n → Pv i H → G H)
    (hs : ∀ i x H H', i < n → Pv i H → Y i H x H' → g x (wipe σ vs) H' fun σ3 H5 => wipe σ3 vs = wipe σ vs ∧ tt σ3 H5 fun b H6 => if b = true then te σ3 H6 fun y H7 => ∃ acc, H7 D = some (.lst acc) ∧ acc.length < sizeLine ∧ Pv (i + 1) (upd H7 D (.lst (acc ++ [y]))) else Pv (i + 1) H6) (hd : ∀ H, Pv n H → Nx H) :
    ∃ W1 : Nat → Nat → Hp → Prop, (∃ m, W1 0 m H4) ∧ ∀ j k H, W1 j k H →
      (J.stop j H ∧ Nx H) ∨ (J.go j H ∧ ∃ Nx1 : Hp → Prop, (∀ H', Nx1 H' → ∃ k', k' < k ∧ W1 (j + 1) k' H') ∧ ∀ x H', J.yld j H x H' → g x (wipe σ vs) H' fun σ3 H5 => wipe σ3 vs = wipe σ vs ∧ tt σ3 H5 fun b H6 => if b = true then te σ3 H6 fun y H7 => ∃ acc, H7 D = some (.lst acc) ∧ acc.length < sizeLine ∧ Nx1 (upd H7 D (.lst (acc ++ [y]))) else Nx1 H6) := by
  refine ⟨fun i m H => m = n - i ∧ i ≤ n ∧ Pv i H, ⟨n, by simp, Nat.zero_le _, h0⟩, ?_⟩
  rintro i m H ⟨rfl, hi, p⟩
  have q := hG i H hi p
  rcases Nat.lt_or_ge i n with hlt | hge
  · exact .inr ⟨w.goes i H hlt q, Pv (i + 1), fun H' p' => ⟨n - (i + 1), by omega, rfl, hlt, p'⟩, fun x H' y => hs i x H H' hlt p (w.yields i H x H' hlt q y)⟩
  · obtain rfl : i = n := by omega
    exact .inl ⟨w.stops H q, hd H p⟩
end

/-! ### pieces of rearrangements that are told by runs -/
structure Pc where
  s : Int
  l : Int
  g : Int
  w : Int
/-- the pieces stand one behind the other, from lo to hi -/
def Chain : Int → Int → List Pc → Prop
  | lo, hi, [] => lo = hi
  | lo, hi, p :: r => p.s = lo ∧ 1 ≤ p.l ∧ (p.w = 1 ∨ p.w = -1) ∧ Chain (lo + p.l) hi r
/-- where place j comes from -/
def valP : List Pc → Int → Int
  | [], j => j
  | p :: r, j => if j < p.s + p.l then p.g + p.w * (j - p.s) else valP r j
theorem Chain.le : ∀ {r : List Pc} {lo hi : Int}, Chain lo hi r → lo ≤ hi
  | [], _, _, h => by
    have h : _ = _ := h
    omega
  | p :: r, _, _, h => by
    obtain ⟨_, h2, _, h4⟩ := h
    have := h4.le
    omega
theorem Chain.append : ∀ {r q : List Pc} {lo mi hi : Int}, Chain lo mi r → Chain mi hi q → Chain lo hi (r ++ q)
  | [], _, _, _, _, h, k => by
    have h : _ = _ := h
    subst h
    exact k
  | p :: r, q, _, _, _, ⟨h1, h2, h3, h4⟩, k => ⟨h1, h2, h3, h4.append k⟩
theorem Chain.split : ∀ {r q : List Pc} {lo hi : Int}, Chain lo hi (r ++ q) → ∃ mi, Chain lo mi r ∧ Chain mi hi q
  | [], _, _, _, h => ⟨_, rfl, h⟩
  | p :: r, q, _, _, ⟨h1, h2, h3, h4⟩ => by
    obtain ⟨mi, k1, k2⟩ := Chain.split (r := r) h4
    exact ⟨mi, ⟨h1, h2, h3, k1⟩, k2⟩
theorem val_left : ∀ {r q : List Pc} {lo mi : Int} {j : Int}, Chain lo mi r → j < mi → lo ≤ j → valP (r ++ q) j = valP r j
  | [], _, _, _, _, h, k1, k2 => by
    have h : _ = _ := h
    omega
  | p :: r, q, _, _, j, ⟨h1, h2, h3, h4⟩, k1, k2 => by
    show (if j < p.s + p.l then _ else valP (r ++ q) j) = if j < p.s + p.l then _ else valP r j
    split
    · rfl
    · exact val_left h4 k1 (by omega)
theorem val_right : ∀ {r q : List Pc} {lo mi : Int} {j : Int}, Chain lo mi r → mi ≤ j → valP (r ++ q) j = valP q j
  | [], _, _, _, _, _, _ => rfl
  | p :: r, q, _, _, j, ⟨h1, h2, h3, h4⟩, k => by
    have := h4.le
    show (if j < p.s + p.l then _ else valP (r ++ q) j) = _
    rw [if_neg (by omega)]
    exact val_right h4 k
/-- the way in which `other` goes on behind `run`, or 0 -/
def okW (p : Pc) (w : Int) : Bool := decide (p.l = 1) || decide (p.w = w)
def cwF (p q : Pc) : Int :=
  if (okW p 1 && okW q 1) = true ∧ q.g = p.g + 1 * p.l then 1
  else if (okW p (-1) && okW q (-1)) = true ∧ q.g = p.g + -1 * p.l then -1 else 0
def norm (p : Pc) : Pc := ⟨p.s, p.l, p.g, if p.l = 1 then 1 else p.w⟩
def addP (rows : List Pc) (p : Pc) : List Pc := match rows.getLast? with
  | none => rows ++ [norm p]
  | some q => if cwF q (norm p) = 0 then rows ++ [norm p] else rows.dropLast ++ [⟨q.s, q.l + p.l, q.g, cwF q (norm p)⟩]
def oneF (ps : List Pc) : List Pc := ps.foldl addP []
theorem add_none {p : Pc} : addP [] p = [norm p] := rfl
theorem add_some {rows : List Pc} {q p : Pc} : addP (rows ++ [q]) p = if cwF q (norm p) = 0 then rows ++ [q] ++ [norm p] else rows ++ [⟨q.s, q.l + p.l, q.g, cwF q (norm p)⟩] := by
  unfold addP
  rw [List.getLast?_concat]
  dsimp only
  rw [List.dropLast_concat]
theorem norm_val {p : Pc} {j : Int} (h1 : p.s ≤ j) (h2 : j < p.s + p.l) : (norm p).g + (norm p).w * (j - (norm p).s) = p.g + p.w * (j - p.s) := by
  show p.g + (if p.l = 1 then 1 else p.w) * (j - p.s) = _
  split
  · rename_i h
    have : j - p.s = 0 := by omega
    rw [this]
    omega
  · rfl
theorem norm_way {p : Pc} (h : p.w = 1 ∨ p.w = -1) : (norm p).w = 1 ∨ (norm p).w = -1 := by
  show (if p.l = 1 then (1 : Int) else p.w) = 1 ∨ (if p.l = 1 then (1 : Int) else p.w) = -1
  split
  · exact .inl rfl
  · exact h
theorem cw_cases (p q : Pc) : cwF p q = 0 ∨ ((cwF p q = 1 ∨ cwF p q = -1) ∧ (p.l = 1 ∨ p.w = cwF p q) ∧ (q.l = 1 ∨ q.w = cwF p q) ∧ q.g = p.g + cwF p q * p.l) := by
  unfold cwF
  split
  · rename_i h
    obtain ⟨h1, h2⟩ := h
    simp only [okW, Bool.and_eq_true, Bool.or_eq_true, decide_eq_true_eq] at h1
    exact .inr ⟨.inl rfl, h1.1, h1.2, h2⟩
  · split
    · rename_i h
      obtain ⟨h1, h2⟩ := h
      simp only [okW, Bool.and_eq_true, Bool.or_eq_true, decide_eq_true_eq] at h1
      exact .inr ⟨.inr rfl, h1.1, h1.2, h2⟩
    · exact .inl rfl
theorem single {lo hi : Int} {p : Pc} (h : Chain lo hi [p]) : p.s = lo ∧ 1 ≤ p.l ∧ (p.w = 1 ∨ p.w = -1) ∧ lo + p.l = hi := h
theorem add_ok {rows : List Pc} {lo mi : Int} {p : Pc} (h : Chain lo mi rows) (hp : p.s = mi) (hl : 1 ≤ p.l) (hw : p.w = 1 ∨ p.w = -1) :
    Chain lo (mi + p.l) (addP rows p) ∧ ∀ j, lo ≤ j → j < mi + p.l → valP (addP rows p) j = valP (rows ++ [p]) j := by
  have one : Chain mi (mi + p.l) [norm p] := ⟨hp, hl, norm_way hw, rfl⟩
  have vone : ∀ j, mi ≤ j → j < mi + p.l → valP [norm p] j = valP [p] j := fun j h1 h2 => by
    show (if j < p.s + p.l then _ else j) = if j < p.s + p.l then _ else j
    rw [if_pos (by omega), if_pos (by omega)]
    exact norm_val (by omega) (by omega)
  have plain : Chain lo (mi + p.l) (rows ++ [norm p]) ∧ ∀ j, lo ≤ j → j < mi + p.l → valP (rows ++ [norm p]) j = valP (rows ++ [p]) j := by
    refine ⟨h.append one, fun j h1 h2 => ?_⟩
    by_cases c : j < mi
    · rw [val_left h c h1, val_left h c h1]
    · rw [val_right h (by omega), val_right h (by omega)]
      exact vone j (by omega) h2
  rcases List.eq_nil_or_concat rows with rfl | ⟨rs, q, rfl⟩
  · exact plain
  · rw [List.concat_eq_append] at h plain ⊢
    rw [add_some]
    rcases cw_cases q (norm p) with c | ⟨c1, c2, c3, c4⟩
    · rw [if_pos c]
      exact plain
    · have c0 : cwF q (norm p) ≠ 0 := by rcases c1 with c | c <;> omega
      rw [if_neg c0]
      generalize cwF q (norm p) = cw at c0 c1 c2 c3 c4 ⊢
      obtain ⟨k, h1, h2⟩ := h.split
      obtain ⟨q1, q2, q3, q4⟩ := single h2
      have c4 : p.g = q.g + cw * q.l := c4
      have c3 : p.l = 1 ∨ (if p.l = 1 then (1 : Int) else p.w) = cw := c3
      have nw : Chain k (mi + p.l) [⟨q.s, q.l + p.l, q.g, cw⟩] := ⟨q1, by show 1 ≤ q.l + p.l; omega, c1, by show k + (q.l + p.l) = _; omega⟩
      refine ⟨h1.append nw, fun j j1 j2 => ?_⟩
      rw [List.append_assoc]
      by_cases c : j < k
      · rw [val_left h1 c j1, val_left h1 c j1]
      · rw [val_right h1 (by omega), val_right h1 (by omega)]
        show (if j < q.s + (q.l + p.l) then q.g + cw * (j - q.s) else j) = if j < q.s + q.l then q.g + q.w * (j - q.s) else (if j < p.s + p.l then p.g + p.w * (j - p.s) else j)
        rw [if_pos (by omega)]
        by_cases d : j < q.s + q.l
        · rw [if_pos d]
          rcases c2 with c2 | c2
          · have : j - q.s = 0 := by omega
            rw [this, Int.mul_zero, Int.mul_zero]
          · rw [c2]
        · rw [if_neg d, if_pos (by omega), c4]
          have e : cw * (j - q.s) = cw * q.l + cw * (j - p.s) := by
            rw [← Int.mul_add]
            congr 1
            omega
          rw [e]
          rcases c3 with c3 | c3
          · have : j - p.s = 0 := by omega
            rw [this, Int.mul_zero, Int.mul_zero]
            omega
          · by_cases l1 : p.l = 1
            · have : j - p.s = 0 := by omega
              rw [this, Int.mul_zero, Int.mul_zero]
              omega
            · rw [if_neg l1] at c3
              rw [c3]
              omega
theorem fold_ok : ∀ {ps : List Pc} {rows : List Pc} {lo mi hi : Int}, Chain lo mi rows → Chain mi hi ps → Chain lo hi (ps.foldl addP rows) ∧ ∀ j, lo ≤ j → j < hi → valP (ps.foldl addP rows) j = valP (rows ++ ps) j
  | [], rows, lo, mi, hi, h, k => by
    have k : mi = hi := k
    subst k
    rw [List.append_nil]
    exact ⟨h, fun _ _ _ => rfl⟩
  | p :: r, rows, lo, mi, hi, h, ⟨k1, k2, k3, k4⟩ => by
    obtain ⟨a1, a2⟩ := add_ok h k1 k2 k3
    obtain ⟨b1, b2⟩ := fold_ok a1 k4
    refine ⟨b1, fun j j1 j2 => ?_⟩
    show valP (r.foldl addP (addP rows p)) j = _
    rw [b2 j j1 j2]
    have hc : Chain mi (mi + p.l) [p] := ⟨k1, k2, k3, rfl⟩
    by_cases c : j < mi + p.l
    · rw [val_left a1 c j1, a2 j j1 c, show rows ++ p :: r = (rows ++ [p]) ++ r by simp, val_left (h.append hc) c j1]
    · rw [val_right a1 (by omega), show rows ++ p :: r = (rows ++ [p]) ++ r by simp, val_right (h.append hc) (by omega)]
theorem oneF_ok {ps : List Pc} {n : Int} (h : Chain 0 n ps) : Chain 0 n (oneF ps) ∧ ∀ j, 0 ≤ j → j < n → valP (oneF ps) j = valP ps j := by
  obtain ⟨a, b⟩ := fold_ok (rows := []) (lo := 0) (mi := 0) rfl h
  exact ⟨a, b⟩
theorem add_len (rows : List Pc) (p : Pc) : (addP rows p).length ≤ rows.length + 1 := by
  rcases List.eq_nil_or_concat rows with rfl | ⟨rs, q, rfl⟩
  · exact Nat.le_refl 1
  · rw [List.concat_eq_append, add_some]
    split <;> simp
theorem fold_len : ∀ (ps rows : List Pc), (ps.foldl addP rows).length ≤ rows.length + ps.length
  | [], rows => Nat.le_refl _
  | p :: r, rows => by
    have h1 := add_len rows p
    have h2 := fold_len r (addP rows p)
    show (r.foldl addP (addP rows p)).length ≤ rows.length + (r.length + 1)
    omega
/-- the piece with a place is found by halving -/
theorem chain_sorted : ∀ {r : List Pc} {lo hi : Int}, Chain lo hi r → ∀ {i k : Nat} {p q : Pc}, r[i]? = some p → r[k]? = some q → i < k → p.s + p.l ≤ q.s
  | p :: r, lo, hi, ⟨h1, h2, h3, h4⟩, 0, k + 1, x, y, hx, hy, _ => by
    cases hx
    have ge : ∀ {r : List Pc} {lo hi : Int}, Chain lo hi r → ∀ {k : Nat} {y : Pc}, r[k]? = some y → lo ≤ y.s := fun {r} => by
      induction r with
      | nil => intro lo hi _ k y hy; simp at hy
      | cons a b ih =>
        rintro lo hi ⟨g1, g2, g3, g4⟩ k y hy
        cases k with
        | zero =>
          cases hy
          omega
        | succ k =>
          have := ih g4 (k := k) (y := y) (by simpa using hy)
          omega
    have := ge h4 (k := k) (y := y) (by simpa using hy)
    omega
  | p :: r, lo, hi, ⟨h1, h2, h3, h4⟩, i + 1, k + 1, x, y, hx, hy, hik => chain_sorted h4 (i := i) (k := k) (by simpa using hx) (by simpa using hy) (by omega)
theorem val_at : ∀ {r : List Pc} {lo hi : Int}, Chain lo hi r → ∀ {i : Nat} {p : Pc} {j : Int}, r[i]? = some p → p.s ≤ j → (∀ q, r[i + 1]? = some q → j < q.s) → j < hi → valP r j = p.g + p.w * (j - p.s)
  | p :: r, lo, hi, ⟨h1, h2, h3, h4⟩, 0, x, j, hx, k1, k2, k3 => by
    cases hx
    show (if j < p.s + p.l then _ else valP r j) = _
    rw [if_pos]
    cases r with
    | nil =>
      have h4 : lo + p.l = hi := h4
      omega
    | cons q r =>
      have := k2 q rfl
      have := h4.1
      omega
  | p :: r, lo, hi, h, i + 1, x, j, hx, k1, k2, k3 => by
    have := chain_sorted h (i := 0) (k := i + 1) rfl hx (by omega)
    show (if j < p.s + p.l then _ else valP r j) = _
    rw [if_neg (by omega)]
    exact val_at h.2.2.2 (i := i) (by simpa using hx) k1 (fun q hq => k2 q (by simpa using hq)) k3
theorem chain_way : ∀ {r : List Pc} {lo hi : Int}, Chain lo hi r → ∀ {i : Nat} {p : Pc}, r[i]? = some p → p.w = 1 ∨ p.w = -1
  | q :: r, lo, hi, h, 0, x, hx => by
    cases hx
    exact h.2.2.1
  | q :: r, lo, hi, h, i + 1, x, hx => chain_way h.2.2.2 (i := i) (by simpa using hx)
/-- pieces that may be empty -/
def WCh : Int → Int → List Pc → Prop
  | lo, hi, [] => lo = hi
  | lo, hi, p :: r => p.s = lo ∧ 0 ≤ p.l ∧ (p.w = 1 ∨ p.w = -1) ∧ WCh (lo + p.l) hi r
theorem filt_ok : ∀ {r : List Pc} {lo hi : Int}, WCh lo hi r → Chain lo hi (r.filter fun p => decide (0 < p.l)) ∧ ∀ j, lo ≤ j → valP (r.filter fun p => decide (0 < p.l)) j = valP r j
  | [], lo, hi, h => ⟨h, fun _ _ => rfl⟩
  | p :: r, lo, hi, ⟨h1, h2, h3, h4⟩ => by
    obtain ⟨a, b⟩ := filt_ok h4
    by_cases c : 0 < p.l
    · rw [List.filter_cons_of_pos (by simpa using c)]
      refine ⟨⟨h1, by omega, h3, a⟩, fun j hj => ?_⟩
      show (if j < p.s + p.l then _ else valP (r.filter _) j) = if j < p.s + p.l then _ else valP r j
      split
      · rfl
      · exact b j (by omega)
    · rw [List.filter_cons_of_neg (by simpa using c)]
      have l0 : p.l = 0 := by omega
      rw [l0, Int.add_zero] at a b
      refine ⟨a, fun j hj => ?_⟩
      show valP (r.filter _) j = if j < p.s + p.l then _ else valP r j
      rw [if_neg (by omega)]
      exact b j hj

/-! ### pieces in the heap; the way, the form, the place of a run -/
def pcV (p : Pc) : List V := [.int p.s, .int p.l, .int p.g, .int p.w]
def PcsH (H : Hp) : List Addr → List Pc → Prop
  | [], [] => True
  | r :: rs, p :: ps => H r = some (.tup (pcV p)) ∧ PcsH H rs ps
  | _, _ => False
theorem PcsH.len {H : Hp} : ∀ {rs : List Addr} {ps : List Pc}, PcsH H rs ps → rs.length = ps.length
  | [], [], _ => rfl
  | _ :: _, _ :: _, h => congrArg (· + 1) h.2.len
theorem PcsH.mono {H H' : Hp} (e : ∀ b o, H b = some o → (∃ xs, o = .tup xs) → H' b = some o) : ∀ {rs : List Addr} {ps : List Pc}, PcsH H rs ps → PcsH H' rs ps
  | [], [], _ => trivial
  | _ :: _, _ :: _, h => ⟨e _ _ h.1 ⟨_, rfl⟩, PcsH.mono e h.2⟩
theorem PcsH.same {H H' : Hp} {rs : List Addr} {ps : List Pc} (h : PcsH H rs ps) (e : Same H H') : PcsH H' rs ps := h.mono fun b o x _ => e b o x
theorem PcsH.snoc {H : Hp} {r : Addr} {p : Pc} (e : H r = some (.tup (pcV p))) : ∀ {rs : List Addr} {ps : List Pc}, PcsH H rs ps → PcsH H (rs ++ [r]) (ps ++ [p])
  | [], [], _ => ⟨e, trivial⟩
  | _ :: _, _ :: _, h => ⟨h.1, PcsH.snoc e h.2⟩
theorem PcsH.get {H : Hp} : ∀ {rs : List Addr} {ps : List Pc}, PcsH H rs ps → ∀ {i : Nat} {p : Pc}, ps[i]? = some p → ∃ r, rs[i]? = some r ∧ H r = some (.tup (pcV p))
  | [], [], _, i, p, h => by simp at h
  | r :: rs, q :: ps, hh, 0, p, h => by
    cases h
    exact ⟨r, rfl, hh.1⟩
  | r :: rs, q :: ps, hh, i + 1, p, h => by
    obtain ⟨x, hx, hy⟩ := PcsH.get hh.2 (i := i) (p := p) (by simpa using h)
    exact ⟨x, by simpa using hx, hy⟩
theorem PcsH.unsnoc {H : Hp} : ∀ {rs : List Addr} {ps : List Pc} {q : Pc}, PcsH H rs (ps ++ [q]) → ∃ rs' r, rs = rs' ++ [r] ∧ PcsH H rs' ps ∧ H r = some (.tup (pcV q))
  | [], [], q, h => h.elim
  | [], p :: ps, q, h => h.elim
  | r :: rs, [], q, h => by
    obtain ⟨h1, h2⟩ := h
    cases rs with
    | nil => exact ⟨[], r, rfl, trivial, h1⟩
    | cons a b => exact h2.elim
  | r :: rs, p :: ps, q, h => by
    obtain ⟨h1, h2⟩ := h
    obtain ⟨rs', r', rfl, a, b⟩ := PcsH.unsnoc (ps := ps) h2
    exact ⟨r :: rs', r', rfl, ⟨h1, a⟩, b⟩
section
variable {P : Program} {w : World} {K : PySem.W.Frag} {mg : Str → Option Value} {base : Heap} {a : Ad}
def spGoalOf : Sp := fun vs H Q _ => ∃ (r : Addr) (p : Pc) (j : Int), vs = [.ref r, .int j] ∧ H r = some (.tup (pcV p)) ∧ (p.w = 1 ∨ p.w = -1) ∧ Q (.int (p.g + p.w * (j - p.s))) H
theorem ok_goal_of (T : Tx w K mg a) : FnOk P w K mg base CX0 1 a.f_goal_of a.d_goal_of ["run", "place"] spGoalOf := by
  refine T.F_goal_of.ok sc_goal_of (fun vs H Q E h => ?_) (fun cdv A outer s H vs Q E hr h => ?_)
  · obtain ⟨r, p, j, rfl, _⟩ := h
    rfl
  · obtain ⟨r, p, j, rfl, hr, hw, q⟩ := h
    refine ⟨_, 
(pss_one (ps_ret (pe_op op_add (pe_ix ix_tup (pv 0) pe_int (fun _ _ => rfl)) (pe_op op_mul (pe_ix ix_tup (pv 0) pe_int (fun _ _ => rfl)) (pe_op op_sub (pv 1) (pe_ix ix_tup (pv 0) pe_int (fun _ _ => rfl))))))), ?_⟩
    refine ⟨_, rfl, r, pcV p, 2, _, rfl, rfl, SqT.at hr, rfl, _, rfl, r, pcV p, 3, _, rfl, rfl, SqT.at hr, rfl, _, rfl, _, rfl, r, pcV p, 0, _, rfl, rfl, SqT.at hr, rfl, _, _, rfl, rfl, _, _, rfl, rfl, .inl ?_, _, _, rfl, rfl, q⟩
    rcases hw with h | h <;> rw [h] <;> decide
def spCommonWay : Sp := fun vs H Q _ => ∃ (r o : Addr) (p q : Pc), vs = [.ref r, .ref o] ∧ H r = some (.tup (pcV p)) ∧ H o = some (.tup (pcV q)) ∧ ∀ H', Same H H' → Q (.int (cwF p q)) H'
theorem ok_common_way (T : Tx w K mg a) : FnOk P w K mg base CX0 1 a.f_common_way a.d_common_way ["run", "other"] spCommonWay := by
  refine T.F_common_way.ok sc_common_way (fun vs H Q E h => ?_) (fun cdv A outer s H vs Q E hr h => ?_)
  · obtain ⟨r, o, p, q, rfl, _⟩ := h
    rfl
  · obtain ⟨r, o, p, q, rfl, hr, ho, k⟩ := h
    refine ⟨_, 
(pss_cons (ps_for PassesOwn.never rfl (pi_tup (pe_tup (pa_cons pe_int (pa_cons (pe_un un_neg pe_int) pa_nil)))) (pg_name (i := 2) sc_common_way.nd rfl (.inl rfl))
  (pss_one (ps_if (PW.pt (pw_and (PW.pt (pw_or (pt_cmpR op_eq (pe_ix ix_tup (pv 0) pe_int (fun _ _ => rfl)) pe_int (nomark _)) (pw_or1 (pt_cmpR op_eq (pe_ix ix_tup (pv 0) pe_int (fun _ _ => rfl)) (pv 2) (nomark _))))) (pw_and1 (PW.pt (pw_or (pt_cmpR op_eq (pe_ix ix_tup (pv 1) pe_int (fun _ _ => rfl)) pe_int (nomark _)) (pw_or1 (pt_cmpR op_eq (pe_ix ix_tup (pv 1) pe_int (fun _ _ => rfl)) (pv 2) (nomark _))))))))
  (pss_one (ps_if (pt_cmpR op_eq (pe_ix ix_tup (pv 1) pe_int (fun _ _ => rfl)) (pe_op op_add (pe_ix ix_tup (pv 0) pe_int (fun _ _ => rfl)) (pe_op op_mul (pv 2) (pe_ix ix_tup (pv 0) pe_int (fun _ _ => rfl)))) (nomark _))
  (pss_one (ps_ret (pv 2)))
  pss_nil))
  pss_nil)))
  (pss_one (ps_ret pe_int))), ?_⟩
    refine ⟨1, rfl, sz (show 2 ≤ 100000 by decide), fun t nt => ?_⟩
    have s1 := same_upd (o := .tup [.int 1, .int (-1)]) nt
    have e1 : (upd H t (.tup [.int 1, .int (-1)])) t = some (.tup [.int 1, .int (-1)]) := upd_same
    refine ⟨t, rfl, ⟨_, SqT.at e1⟩, ?_⟩
    change ∃ W : Nat → Nat → L2.St → Hp → Prop, (∃ m, W 0 m _ (upd H t (.tup [.int 1, .int (-1)]))) ∧ _
    generalize upd H t (.tup [.int 1, .int (-1)]) = H1 at s1 e1 ⊢
    have orT : ∀ (v : Int) (i : Nat) (x : Addr) (u : Pc) (σ : L2.St) (H' : Hp) (Qb : Bool → Hp → Prop), σ[i]? = some (some (.ref x)) → σ[2]? = some (some (.int v)) → H' x = some (.tup (pcV u)) → Qb (okW u v) H' →
        tOr (tTest (tOp rEq (tOp (rIxT K) (tVar i) (tC (.int 1))) (tC (.int 1)))) (tTest (tOp rEq (tOp (rIxT K) (tVar i) (tC (.int 3))) (tVar 2))) σ H' Qb := fun v i x u σ H' Qb e2 e3 e4 k => by
      refine ⟨_, e2, x, pcV u, 1, _, rfl, rfl, SqT.at e4, rfl, rfl, _, rfl, ?_⟩
      by_cases h1 : u.l = 1
      · rw [decide_eq_true (show V.int u.l = V.int 1 by rw [h1])]
        have : okW u v = true := by
          unfold okW
          rw [decide_eq_true h1]
          rfl
        rw [this] at k
        exact iteT k
      · rw [decide_eq_false (show ¬ V.int u.l = V.int 1 from fun z => h1 (V.int.inj z))]
        refine iteF ⟨_, e2, x, pcV u, 3, _, rfl, rfl, SqT.at e4, rfl, _, e3, rfl, _, rfl, ?_⟩
        have : okW u v = decide (V.int u.w = V.int v) := by
          unfold okW
          rw [decide_eq_false h1, Bool.false_or]
          exact decide_eq_decide.mpr ⟨fun h => by rw [h], fun h => V.int.inj h⟩
        rw [this] at k
        exact k
    refine for_it (walk_tup (xs := [V.int 1, .int (-1)])) (fun j σ H' => ∃ y2, σ = [some (.ref r), some (.ref o), y2] ∧ Same H1 H' ∧ (0 < j → ¬ ((okW p 1 && okW q 1) = true ∧ q.g = p.g + 1 * p.l)) ∧ (1 < j → ¬ ((okW p (-1) && okW q (-1)) = true ∧ q.g = p.g + -1 * p.l))) ?g0 ?gG ?gs ?gd
    case g0 => exact ⟨none, rfl, Same.refl _, fun h => absurd h (by decide), fun h => absurd h (by decide)⟩
    case gG =>
      rintro j σ H' _ ⟨_, _, sm, _⟩
      exact (SqT.at (sm _ _ e1))
    case gs =>
      rintro j y σ H3 H4 hj ⟨y2, rfl, sm, n1, n2⟩ ⟨rfl, ex⟩
      obtain ⟨v, rfl, hv1, hy, hn⟩ : ∃ v : Int, y = .int v ∧ (v = 1 ∨ v = -1) ∧ (((okW p v && okW q v) = true ∧ q.g = p.g + v * p.l) → cwF p q = v) ∧ (¬ ((okW p v && okW q v) = true ∧ q.g = p.g + v * p.l) → (0 < j + 1 → ¬ ((okW p 1 && okW q 1) = true ∧ q.g = p.g + 1 * p.l)) ∧ (1 < j + 1 → ¬ ((okW p (-1) && okW q (-1)) = true ∧ q.g = p.g + -1 * p.l))) := by
        have hj : j < 2 := hj
        match j, hj, ex, n1, n2 with
        | 0, _, ex, _, _ =>
          cases ex
          refine ⟨1, rfl, .inl rfl, fun h => ?_, fun h => ⟨fun _ => h, fun z => absurd z (by decide)⟩⟩
          unfold cwF
          rw [if_pos h]
        | 1, _, ex, n1, _ =>
          cases ex
          refine ⟨-1, rfl, .inr rfl, fun h => ?_, fun h => ⟨fun _ => n1 (by decide), fun _ => h⟩⟩
          unfold cwF
          rw [if_neg (n1 (by decide)), if_pos h]
      have hr4 := sm _ _ (s1 _ _ hr)
      have ho4 := sm _ _ (s1 _ _ ho)
      refine orT v 0 r p _ _ _ rfl rfl hr4 ?_
      cases hA : okW p v with
      | false => exact iteF (iteF ⟨_, rfl, sm, hn (by rw [hA]; exact fun z => Bool.noConfusion z.1)⟩)
      | true =>
        refine iteT (orT v 1 o q _ _ _ rfl rfl ho4 ?_)
        cases hB : okW q v with
        | false => exact iteF ⟨_, rfl, sm, hn (by rw [hA, hB]; exact fun z => Bool.noConfusion z.1)⟩
        | true =>
          refine iteT ⟨_, rfl, o, pcV q, 2, _, rfl, rfl, SqT.at ho4, rfl, _, rfl, r, pcV p, 2, _, rfl, rfl, SqT.at hr4, rfl, _, rfl, _, rfl, r, pcV p, 1, _, rfl, rfl, SqT.at hr4, rfl, _, _, rfl, rfl, .inl (by rcases hv1 with h | h <;> rw [h] <;> decide), _, _, rfl, rfl, rfl, _, rfl, ?_⟩
          by_cases hg : q.g = p.g + v * p.l
          · rw [decide_eq_true (show V.int q.g = V.int (p.g + v * p.l) by rw [← hg])]
            have e := hy ⟨by rw [hA, hB]; rfl, hg⟩
            have z := k _ (s1.trans sm)
            rw [e] at z
            exact iteT ⟨_, rfl, z⟩
          · rw [decide_eq_false (show ¬ V.int q.g = V.int (p.g + v * p.l) from fun z => hg (V.int.inj z))]
            exact iteF ⟨_, rfl, sm, hn fun z => hg z.2⟩
    case gd =>
      rintro σ H' ⟨y2, rfl, sm, n1, n2⟩
      have e : cwF p q = 0 := by
        unfold cwF
        rw [if_neg (n1 (show 0 < 2 by decide)), if_neg (n2 (show 1 < 2 by decide))]
      have := k H' (s1.trans sm)
      rw [e] at this
      exact this
end
section
variable {P : Program} {w : World} {K : PySem.W.Frag} {mg : Str → Option Value} {base : Heap} {a : Ad}
def spIndexOf : Sp := fun vs H Q _ => ∃ (t : Addr) (rs : List Addr) (ps : List Pc) (n j : Int), vs = [.ref t, .int j] ∧ H t = some (.tup (rs.map V.ref)) ∧ PcsH H rs ps ∧ Chain 0 n ps ∧ 0 ≤ j ∧ j < n ∧ ps.length ≤ 100000 ∧
  ∀ (i : Nat) (p : Pc), ps[i]? = some p → p.s ≤ j → (∀ q, ps[i + 1]? = some q → j < q.s) → Q (.int (i : Int)) H
theorem ok_index_of_run (T : Tx w K mg a) : FnOk P w K mg base CX0 1 a.f_index_of_run a.d_index_of_run ["rows", "place"] spIndexOf := by
  refine T.F_index_of_run.ok sc_index_of_run (fun vs H Q E h => ?_) (fun cdv A outer s H vs Q E hr h => ?_)
  · obtain ⟨t, rs, ps, n, j, rfl, _⟩ := h
    rfl
  · obtain ⟨t, rs, ps, n, j, rfl, ht, hps, hc, j0, jn, hl, k⟩ := h
    refine ⟨_, 
(pss_cons (ps_set (i := 2) sc_index_of_run.nd rfl (.inl rfl) pe_int)
  (pss_cons (ps_set (i := 3) sc_index_of_run.nd rfl (.inl rfl) (pe_op op_sub (pe_callB call_len_seq (by rfl) T.z_len PySem.boot_len (pa_cons (pv 0) pa_nil)) pe_int))
  (pss_cons (ps_while PassesOwn.never (pt_cmpR op_lt (pv 2) (pv 3) (nomark _))
  (pss_cons (ps_set (i := 4) sc_index_of_run.nd rfl (.inl rfl) (pe_op op_fdivN (pe_op op_add (pe_op op_add (pv 2) (pv 3)) pe_int) pe_int))
  (pss_one (ps_if (pt_cmpR op_le (pe_ix ix_tup (pe_ix ix_tup (pv 0) (pv 4) (fun _ _ => rfl)) pe_int (fun _ _ => rfl)) (pv 1) (nomark _))
  (pss_one (ps_set (i := 2) sc_index_of_run.nd rfl (.inl rfl) (pv 4)))
  (pss_one (ps_set (i := 3) sc_index_of_run.nd rfl (.inl rfl) (pe_op op_sub (pv 4) pe_int)))))))
  (pss_one (ps_ret (pv 2)))))), ?_⟩
    have rl : rs.length = ps.length := hps.len
    have pl : 0 < ps.length := by
      cases ps with
      | nil =>
        have hc : (0 : Int) = n := hc
        omega
      | cons p r => exact Nat.zero_lt_succ _
    refine ⟨_, rfl, t, rs.map V.ref, rfl, .inr (SqT.at ht), _, 1, rfl, rfl, ?_⟩
    rw [List.length_map, rl]
    refine ⟨fun m σ H' => ∃ (lo hi : Nat) (y4 : Option V), σ = [some (.ref t), some (.int j), some (.int (lo : Int)), some (.int (hi : Int)), y4] ∧ H' = H ∧ m = hi - lo ∧ lo ≤ hi ∧ hi < ps.length ∧ (∀ p, ps[lo]? = some p → p.s ≤ j) ∧ (∀ q, ps[hi + 1]? = some q → j < q.s), ⟨ps.length - 1, 0, ps.length - 1, none, ?_, rfl, rfl, Nat.zero_le _, by omega, fun p hp => ?_, fun q hq => ?_⟩, ?_⟩
    · have : V.int ((ps.length : Int) - 1) = V.int ((ps.length - 1 : Nat) : Int) := by rw [show (ps.length : Int) - 1 = ((ps.length - 1 : Nat) : Int) by omega]
      exact congrArg (fun z => [some (V.ref t), some (V.int j), some (V.int 0), some z, none]) this
    · cases ps with
      | nil => cases hp
      | cons p' r =>
        cases hp
        have := hc.1
        omega
    · rw [List.getElem?_eq_none (by omega)] at hq
      cases hq
    rintro m σ H' ⟨lo, hi, y4, rfl, rfl, rfl, h1, h2, h3, h4⟩
    refine ⟨_, rfl, _, rfl, _, _, rfl, rfl, _, rfl, ?_⟩
    by_cases c : lo < hi
    rotate_left
    · rw [decide_eq_false (show ¬ (lo : Int) < (hi : Int) by omega)]
      have : lo = hi := by omega
      subst this
      exact iteF ⟨_, rfl, k lo (ps[lo]'h2) (List.getElem?_eq_getElem h2) (h3 _ (List.getElem?_eq_getElem h2)) h4⟩
    rw [decide_eq_true (show (lo : Int) < (hi : Int) by omega)]
    refine iteT ⟨fun σ' H'' => ∃ m', m' < hi - lo ∧ ∃ (lo hi : Nat) (y4 : Option V), σ' = [some (.ref t), some (.int j), some (.int (lo : Int)), some (.int (hi : Int)), y4] ∧ H'' = H' ∧ m' = hi - lo ∧ lo ≤ hi ∧ hi < ps.length ∧ (∀ p, ps[lo]? = some p → p.s ≤ j) ∧ (∀ q, ps[hi + 1]? = some q → j < q.s), fun _ _ h => h, ?_⟩
    -- middle = (low + high + 1) // 2
    refine ⟨_, rfl, _, rfl, _, _, rfl, rfl, _, 1, rfl, rfl, ?_⟩
    have hm : Int.fdiv ((lo : Int) + (hi : Int) + 1) 2 = (((lo + hi + 1) / 2 : Nat) : Int) := by
      rw [Int.fdiv_eq_ediv_of_nonneg _ (by decide)]
      omega
    refine ⟨_, 2, rfl, rfl, (by unfold CDivN; omega), ?_⟩
    obtain ⟨mid, hmid⟩ : ∃ mid, (lo + hi + 1) / 2 = mid := ⟨_, rfl⟩
    have m1 : lo < mid := by omega
    have m2 : mid ≤ hi := by omega
    change gName 4 (V.int (Int.fdiv ((lo : Int) + (hi : Int) + 1) 2)) _ _ _
    rw [hm, hmid]
    have gm := List.getElem?_eq_getElem (show mid < ps.length by omega)
    obtain ⟨r, hr1, hr2⟩ := hps.get gm
    have g : atI (rs.map V.ref) ((mid : Nat) : Int) = some (.ref r) := atI_nat (by rw [List.getElem?_map, hr1]; rfl)
    refine ⟨_, rfl, _, rfl, t, rs.map V.ref, (mid : Int), _, rfl, rfl, SqT.at ht, g, r, pcV (ps[mid]'(by omega)), 0, _, rfl, rfl, SqT.at hr2, rfl, _, rfl, _, _, rfl, rfl, _, rfl, ?_⟩
    by_cases hle : (ps[mid]'(by omega)).s ≤ j
    · rw [decide_eq_true hle]
      refine iteT ⟨_, rfl, hi - mid, by omega, mid, hi, _, rfl, rfl, rfl, m2, h2, fun p hp => ?_, h4⟩
      rw [gm] at hp
      cases hp
      exact hle
    · rw [decide_eq_false hle]
      refine iteF ⟨_, rfl, _, 1, rfl, rfl, mid - 1 - lo, by omega, lo, mid - 1, some (.int (mid : Int)), ?_, rfl, rfl, by omega, by omega, h3, fun q hq => ?_⟩
      · have : V.int ((mid : Int) - 1) = V.int ((mid - 1 : Nat) : Int) := by rw [show (mid : Int) - 1 = ((mid - 1 : Nat) : Int) by omega]
        exact congrArg (fun z => [some (V.ref t), some (V.int j), some (V.int (lo : Int)), some z, some (V.int (mid : Int))]) this
      · rw [show mid - 1 + 1 = mid by omega, gm] at hq
        cases hq
        omega
end

/-! ### runs: the one form is one; what is led on; what is taken back -/
def nrm (p : Pc) : Prop := p.l = 1 → p.w = 1
/-- each piece as long as it can be -/
def NFl : List Pc → Prop
  | [] => True
  | p :: r => nrm p ∧ (∀ q, r.head? = some q → cwF p q = 0) ∧ NFl r
theorem NFl.left : ∀ {r q : List Pc}, NFl (r ++ q) → NFl r
  | [], _, _ => trivial
  | p :: r, q, ⟨h1, h2, h3⟩ => by
    refine ⟨h1, fun x hx => h2 x ?_, h3.left⟩
    cases r with
    | nil => cases hx
    | cons a b => exact hx
theorem NFl.snoc : ∀ {r : List Pc} {p : Pc}, NFl r → nrm p → (∀ q, r.getLast? = some q → cwF q p = 0) → NFl (r ++ [p])
  | [], p, _, hp, _ => ⟨hp, fun q hq => (by cases hq), trivial⟩
  | [a], p, ⟨h1, h2, h3⟩, hp, hl => ⟨h1, fun q hq => by
      cases hq
      exact hl a rfl, hp, fun q hq => (by cases hq), trivial⟩
  | a :: b :: r, p, ⟨h1, h2, h3⟩, hp, hl => by
    refine ⟨h1, fun q hq => h2 q hq, ?_⟩
    exact NFl.snoc (r := b :: r) h3 hp fun q hq => hl q (by rw [List.getLast?_cons_cons]; exact hq)
theorem nrm_norm (p : Pc) : nrm (norm p) := fun h => by
  show (if p.l = 1 then (1 : Int) else p.w) = 1
  exact if_pos h
theorem cw_ne {p q : Pc} {v : Int} (hv : v = 1 ∨ v = -1) (h1 : p.l = 1 ∨ p.w = v) (h2 : q.l = 1 ∨ q.w = v) (h3 : q.g = p.g + v * p.l) : cwF p q ≠ 0 := by
  have o1 : okW p v = true := by
    unfold okW
    rcases h1 with h | h <;> simp [h]
  have o2 : okW q v = true := by
    unfold okW
    rcases h2 with h | h <;> simp [h]
  unfold cwF
  rcases hv with rfl | rfl
  · rw [if_pos ⟨by rw [o1, o2]; rfl, h3⟩]
    decide
  · split
    · decide
    · rw [if_pos ⟨by rw [o1, o2]; rfl, h3⟩]
      decide
theorem add_nf {rows : List Pc} {p : Pc} (h : NFl rows) (hl : ∀ q ∈ rows, 1 ≤ q.l) (hp : 1 ≤ p.l) : NFl (addP rows p) := by
  rcases List.eq_nil_or_concat rows with rfl | ⟨rs, q, rfl⟩
  · exact NFl.snoc (r := []) trivial (nrm_norm p) fun q hq => (by cases hq)
  · rw [List.concat_eq_append] at h hl ⊢
    rw [add_some]
    split
    · rename_i c
      refine NFl.snoc h (nrm_norm p) fun x hx => ?_
      rw [List.getLast?_concat] at hx
      cases hx
      exact c
    · rename_i c
      have ql := hl q (by simp)
      refine NFl.snoc h.left (fun (z : q.l + p.l = 1) => by omega) fun x hx => ?_
      obtain ⟨rs', rfl⟩ : ∃ rs', rs = rs' ++ [x] := by
        rcases List.eq_nil_or_concat rs with rfl | ⟨rs', y, rfl⟩
        · cases hx
        · rw [List.concat_eq_append] at hx ⊢
          rw [List.getLast?_concat] at hx
          cases hx
          exact ⟨rs', rfl⟩
      have hq : cwF x q = 0 := by
        have : ∀ r : List Pc, NFl (r ++ [x] ++ [q]) → cwF x q = 0 := fun r => by
          induction r with
          | nil => exact fun h => h.2.1 q rfl
          | cons a b ih => exact fun h => ih h.2.2
        exact this rs' h
      rcases cw_cases x ⟨q.s, q.l + p.l, q.g, cwF q (norm p)⟩ with e | ⟨e1, e2, e3, e4⟩
      · exact e
      · exfalso
        generalize cwF x ⟨q.s, q.l + p.l, q.g, cwF q (norm p)⟩ = v at e1 e2 e3 e4
        have e3 : q.l + p.l = 1 ∨ cwF q (norm p) = v := e3
        have e5 : cwF q (norm p) = v := by rcases e3 with e | e <;> omega
        rcases cw_cases q (norm p) with d | ⟨_, d2, _, _⟩
        · exact c d
        · rw [e5] at d2
          exact cw_ne e1 e2 d2 e4 hq
theorem fold_nf : ∀ {ps rows : List Pc} {lo mi hi : Int}, Chain lo mi rows → Chain mi hi ps → NFl rows → NFl (ps.foldl addP rows)
  | [], _, _, _, _, _, _, h => h
  | p :: r, rows, lo, mi, hi, h, ⟨k1, k2, k3, k4⟩, hn => by
    have pos : ∀ {r : List Pc} {lo hi : Int}, Chain lo hi r → ∀ q ∈ r, 1 ≤ q.l := fun {r} => by
      induction r with
      | nil => exact fun _ q hq => nomatch hq
      | cons a b ih =>
        rintro lo hi ⟨_, g2, _, g4⟩ q hq
        rcases List.mem_cons.mp hq with rfl | hq
        · exact g2
        · exact ih g4 q hq
    have z := fold_nf (add_ok h k1 k2 k3).1 k4 (add_nf hn (pos h) k2)
    exact z
theorem oneF_nf {ps : List Pc} {n : Int} (h : Chain 0 n ps) : NFl (oneF ps) := fold_nf (rows := []) (lo := 0) (mi := 0) rfl h trivial
/-- a value at the beginning of what is left -/
theorem val_head {p : Pc} {r : List Pc} {j : Int} (h : j < p.s + p.l) : valP (p :: r) j = p.g + p.w * (j - p.s) := if_pos h
theorem val_tail {p : Pc} {r : List Pc} {j : Int} (h : ¬ j < p.s + p.l) : valP (p :: r) j = valP r j := if_neg h
theorem wcase {v u : Int} (h : v = 1 ∨ v = -1) (k : u = 1 ∨ u = -1) (ne : u ≠ v) : u = -v := by omega
/-- the shorter head is no head of a one form -/
theorem nf_short {p q : Pc} {r t : List Pc} {lo hi : Int} (hp : Chain lo hi (p :: r)) (hq : Chain lo hi (q :: t)) (np : NFl (p :: r)) (v : ∀ j, lo ≤ j → j < hi → valP (p :: r) j = valP (q :: t) j)
    (d : ∀ j, lo ≤ j → j + 2 < hi → valP (p :: r) j ≠ valP (p :: r) (j + 2)) (h : p.l < q.l) : False := by
  obtain ⟨p1, p2, p3, p4⟩ := hp
  obtain ⟨q1, q2, q3, q4⟩ := hq
  have ql := q4.le
  cases r with
  | nil =>
    have p4 : lo + p.l = hi := p4
    omega
  | cons x r =>
    obtain ⟨x1, x2, x3, x4⟩ := p4
    have xl := x4.le
    have g0 : p.g = q.g := by
      have := v lo (by omega) (by omega)
      rw [val_head (by omega), val_head (by omega), show lo - p.s = 0 by omega, show lo - q.s = 0 by omega] at this
      omega
    have pw : p.l = 1 ∨ p.w = q.w := by
      by_cases c : p.l = 1
      · exact .inl c
      · have := v (lo + 1) (by omega) (by omega)
        rw [val_head (by omega), val_head (by omega), show lo + 1 - p.s = 1 by omega, show lo + 1 - q.s = 1 by omega] at this
        exact .inr (by omega)
    have e1 := v (lo + p.l) (by omega) (by omega)
    rw [val_tail (by omega), val_head (by omega), val_head (by omega), show lo + p.l - x.s = 0 by omega, show lo + p.l - q.s = p.l by omega] at e1
    have xg : x.g = p.g + q.w * p.l := by omega
    have xw : x.l = 1 ∨ x.w = q.w := by
      by_cases c : x.l = 1
      · exact .inl c
      · refine .inr (Decidable.byContradiction fun ne => ?_)
        have ew := wcase q3 x3 ne
        refine d (lo + p.l - 1) (by omega) (by omega) ?_
        rw [show lo + p.l - 1 + 2 = lo + p.l + 1 by omega, val_head (by omega), val_tail (by omega), val_head (by omega), show lo + p.l - 1 - p.s = p.l - 1 by omega, show lo + p.l + 1 - x.s = 1 by omega, ew, xg]
        rcases pw with c1 | c1
        · rw [c1]
          omega
        · rw [c1, Int.mul_sub]
          omega
    exact cw_ne q3 pw xw xg (np.2.1 x rfl)
theorem nf_unique : ∀ {a b : List Pc} {lo hi : Int}, Chain lo hi a → Chain lo hi b → NFl a → NFl b → (∀ j, lo ≤ j → j < hi → valP a j = valP b j) → (∀ j, lo ≤ j → j + 2 < hi → valP a j ≠ valP a (j + 2)) → a = b
  | [], [], _, _, _, _, _, _, _, _ => rfl
  | [], q :: t, lo, hi, ha, ⟨h1, h2, h3, h4⟩, _, _, _, _ => by
    have ha : lo = hi := ha
    have := h4.le
    omega
  | p :: r, [], lo, hi, ⟨h1, h2, h3, h4⟩, hb, _, _, _, _ => by
    have hb : lo = hi := hb
    have := h4.le
    omega
  | p :: r, q :: t, lo, hi, ha, hb, na, nb, v, d => by
    have d' : ∀ j, lo ≤ j → j + 2 < hi → valP (q :: t) j ≠ valP (q :: t) (j + 2) := fun j j0 j1 => by
      rw [← v j j0 (by omega), ← v (j + 2) (by omega) (by omega)]
      exact d j j0 j1
    have el : p.l = q.l := by
      rcases Int.lt_trichotomy p.l q.l with c | c | c
      · exact (nf_short ha hb na v d c).elim
      · exact c
      · exact (nf_short hb ha nb (fun j j0 j1 => (v j j0 j1).symm) d' c).elim
    obtain ⟨p1, p2, p3, p4⟩ := ha
    obtain ⟨q1, q2, q3, q4⟩ := hb
    have pl := p4.le
    have g0 : p.g = q.g := by
      have := v lo (by omega) (by omega)
      rw [val_head (by omega), val_head (by omega), show lo - p.s = 0 by omega, show lo - q.s = 0 by omega] at this
      omega
    have ew : p.w = q.w := by
      by_cases c : p.l = 1
      · rw [na.1 c, nb.1 (by omega)]
      · have := v (lo + 1) (by omega) (by omega)
        rw [val_head (by omega), val_head (by omega), show lo + 1 - p.s = 1 by omega, show lo + 1 - q.s = 1 by omega] at this
        omega
    have e : p = q := by
      have e1 : p.s = q.s := by omega
      cases p
      cases q
      subst e1 el g0 ew
      rfl
    subst e
    congr 1
    refine nf_unique p4 q4 na.2.2 nb.2.2 (fun j j0 j1 => ?_) fun j j0 j1 => ?_
    · have := v j (by omega) j1
      rw [val_tail (by omega), val_tail (by omega)] at this
      exact this
    · have := d j (by omega) j1
      rw [val_tail (by omega), val_tail (by omega)] at this
      exact this
/-- a rearrangement of the places 0 to n - 1, told by pieces -/
structure Rea (n : Int) (ps : List Pc) : Prop where
  ch : Chain 0 n ps
  val : ∀ j, 0 ≤ j → j < n → 0 ≤ valP ps j ∧ valP ps j < n
  inj : ∀ i j, 0 ≤ i → i < n → 0 ≤ j → j < n → valP ps i = valP ps j → i = j
theorem Rea.two {n : Int} {ps : List Pc} (r : Rea n ps) : ∀ j, 0 ≤ j → j + 2 < n → valP ps j ≠ valP ps (j + 2) := fun j j0 j1 e => by
  have := r.inj j (j + 2) j0 (by omega) (by omega) (by omega) e
  omega
theorem Rea.uniq {n : Int} {a b : List Pc} (ra : Rea n a) (rb : Rea n b) (na : NFl a) (nb : NFl b) (v : ∀ j, 0 ≤ j → j < n → valP a j = valP b j) : a = b := nf_unique ra.ch rb.ch na nb v ra.two
/-- the rearrangement g of places, told by the pieces ps -/
theorem rea_of {n : Int} {ps : List Pc} {f : Int → Int} (hc : Chain 0 n ps) (hv : ∀ j, 0 ≤ j → j < n → valP ps j = f j) (h1 : ∀ j, 0 ≤ j → j < n → 0 ≤ f j ∧ f j < n) (h2 : ∀ i j, 0 ≤ i → i < n → 0 ≤ j → j < n → f i = f j → i = j) : Rea n ps :=
  ⟨hc, fun j a b => by rw [hv j a b]; exact h1 j a b, fun i j a b c d e => h2 i j a b c d (by rw [← hv i a b, ← hv j c d]; exact e)⟩
theorem Rea.one {n : Int} {ps : List Pc} (r : Rea n ps) : Rea n (oneF ps) ∧ NFl (oneF ps) ∧ ∀ j, 0 ≤ j → j < n → valP (oneF ps) j = valP ps j := by
  obtain ⟨a, b⟩ := oneF_ok r.ch
  exact ⟨rea_of a b r.val r.inj, oneF_nf r.ch, b⟩
theorem Rea.pos {n : Int} {ps : List Pc} (r : Rea n ps) : 0 ≤ n := r.ch.le
/-! a piece of a chain -/
theorem chain_mem : ∀ {r : List Pc} {lo hi : Int}, Chain lo hi r → ∀ {p : Pc}, p ∈ r → lo ≤ p.s ∧ 1 ≤ p.l ∧ (p.w = 1 ∨ p.w = -1) ∧ p.s + p.l ≤ hi
  | q :: r, lo, hi, ⟨h1, h2, h3, h4⟩, p, hp => by
    rcases List.mem_cons.mp hp with rfl | hp
    · have := h4.le
      exact ⟨by omega, h2, h3, by omega⟩
    · obtain ⟨a, b, c, d⟩ := chain_mem h4 hp
      exact ⟨by omega, b, c, d⟩
theorem val_mem : ∀ {r : List Pc} {lo hi : Int}, Chain lo hi r → ∀ {p : Pc} {j : Int}, p ∈ r → p.s ≤ j → j < p.s + p.l → valP r j = p.g + p.w * (j - p.s)
  | q :: r, lo, hi, ⟨h1, h2, h3, h4⟩, p, j, hp, k1, k2 => by
    rcases List.mem_cons.mp hp with rfl | hp
    · exact val_head k2
    · obtain ⟨a, _⟩ := chain_mem h4 hp
      rw [val_tail (by omega)]
      exact val_mem h4 hp k1 k2
theorem chain_has : ∀ {r : List Pc} {lo hi j : Int}, Chain lo hi r → lo ≤ j → j < hi → ∃ p ∈ r, p.s ≤ j ∧ j < p.s + p.l
  | [], lo, hi, j, h, h1, h2 => by
    have h : lo = hi := h
    omega
  | p :: r, lo, hi, j, ⟨h1, h2, h3, h4⟩, a, b => by
    by_cases c : j < p.s + p.l
    · exact ⟨p, .head _, by omega, c⟩
    · obtain ⟨q, hq, k⟩ := chain_has h4 (show lo + p.l ≤ j by omega) b
      exact ⟨q, .tail _ hq, k⟩
/-! sums of lengths -/
def sumL : List Pc → Int
  | [] => 0
  | p :: r => p.l + sumL r
theorem sumL_perm {a b : List Pc} (h : a.Perm b) : sumL a = sumL b := by
  induction h with
  | nil => rfl
  | cons x _ ih => show x.l + _ = x.l + _; rw [ih]
  | swap x y l => show y.l + (x.l + sumL l) = x.l + (y.l + sumL l); omega
  | trans _ _ h1 h2 => rw [h1, h2]
theorem chain_sum : ∀ {r : List Pc} {lo hi : Int}, Chain lo hi r → sumL r = hi - lo
  | [], lo, hi, h => by
    have h : lo = hi := h
    show (0 : Int) = _
    omega
  | p :: r, lo, hi, ⟨h1, h2, h3, h4⟩ => by
    have := chain_sum h4
    show p.l + sumL r = _
    omega
/-- pieces one behind the other, that fill a room, leave no gap -/
theorem tile_le : ∀ {r : List Pc} {lo hi : Int}, lo ≤ hi → (∀ p ∈ r, lo ≤ p.s ∧ 1 ≤ p.l ∧ p.s + p.l ≤ hi) → r.Pairwise (fun p q => p.s + p.l ≤ q.s) → sumL r ≤ hi - lo
  | [], lo, hi, h, _, _ => by
    show (0 : Int) ≤ _
    omega
  | p :: r, lo, hi, h, hb, hp => by
    obtain ⟨h1, h2⟩ := List.pairwise_cons.mp hp
    obtain ⟨a, b, c⟩ := hb p (.head _)
    have := tile_le (r := r) (lo := p.s + p.l) (hi := hi) c (fun q hq => ⟨h1 q hq, (hb q (.tail _ hq)).2⟩) h2
    show p.l + sumL r ≤ _
    omega
theorem tile_ok : ∀ {r : List Pc} {lo hi : Int}, lo ≤ hi → (∀ p ∈ r, lo ≤ p.s ∧ 1 ≤ p.l ∧ (p.w = 1 ∨ p.w = -1) ∧ p.s + p.l ≤ hi) → r.Pairwise (fun p q => p.s + p.l ≤ q.s) → sumL r = hi - lo → Chain lo hi r
  | [], lo, hi, h, _, _, e => by
    have e : (0 : Int) = hi - lo := e
    show lo = hi
    omega
  | p :: r, lo, hi, h, hb, hp, e => by
    obtain ⟨h1, h2⟩ := List.pairwise_cons.mp hp
    obtain ⟨a, b, w, c⟩ := hb p (.head _)
    have hb' : ∀ q ∈ r, p.s + p.l ≤ q.s ∧ 1 ≤ q.l ∧ (q.w = 1 ∨ q.w = -1) ∧ q.s + q.l ≤ hi := fun q hq => ⟨h1 q hq, (hb q (.tail _ hq)).2⟩
    have l := tile_le (r := r) (lo := p.s + p.l) (hi := hi) c (fun q hq => ⟨(hb' q hq).1, (hb' q hq).2.1, (hb' q hq).2.2.2⟩) h2
    have e : p.l + sumL r = hi - lo := e
    have es : p.s = lo := by omega
    refine ⟨es, b, w, ?_⟩
    rw [← es]
    exact tile_ok c hb' h2 (by omega)
/-! what is taken back -/
def tbP (p : Pc) : Pc := if p.w = 1 then ⟨p.g, p.l, p.s, 1⟩ else ⟨p.g - p.l + 1, p.l, p.s + p.l - 1, -1⟩
theorem tb1 {p : Pc} (h : p.w = 1) : tbP p = ⟨p.g, p.l, p.s, 1⟩ := if_pos h
theorem tb2 {p : Pc} (h : p.w = -1) : tbP p = ⟨p.g - p.l + 1, p.l, p.s + p.l - 1, -1⟩ := if_neg (by rw [h]; decide)
theorem tb_l (p : Pc) : (tbP p).l = p.l := by
  unfold tbP
  split <;> rfl
theorem tb_w {p : Pc} (h : p.w = 1 ∨ p.w = -1) : (tbP p).w = p.w := by
  unfold tbP
  rcases h with h | h <;> rw [h] <;> simp
theorem sumL_tb : ∀ ps : List Pc, sumL (ps.map tbP) = sumL ps
  | [] => rfl
  | p :: r => by
    show (tbP p).l + sumL (r.map tbP) = p.l + sumL r
    rw [tb_l, sumL_tb r]
/-- where place x stands in the taken back piece, its value leads back -/
theorem tb_val {p : Pc} {x : Int} (hw : p.w = 1 ∨ p.w = -1) (h1 : (tbP p).s ≤ x) (h2 : x < (tbP p).s + (tbP p).l) :
    p.s ≤ (tbP p).g + (tbP p).w * (x - (tbP p).s) ∧ (tbP p).g + (tbP p).w * (x - (tbP p).s) < p.s + p.l ∧ p.g + p.w * ((tbP p).g + (tbP p).w * (x - (tbP p).s) - p.s) = x := by
  rcases hw with h | h
  · rw [tb1 h] at *
    rw [h]
    dsimp only at *
    refine ⟨by omega, by omega, by omega⟩
  · rw [tb2 h] at *
    rw [h]
    dsimp only at *
    refine ⟨by omega, by omega, by omega⟩
/-- .. and each value of the piece stands there -/
theorem tb_has {p : Pc} {j : Int} (hw : p.w = 1 ∨ p.w = -1) (h1 : p.s ≤ j) (h2 : j < p.s + p.l) : (tbP p).s ≤ p.g + p.w * (j - p.s) ∧ p.g + p.w * (j - p.s) < (tbP p).s + (tbP p).l := by
  rcases hw with h | h
  · rw [tb1 h, h]
    exact ⟨by dsimp only; omega, by dsimp only; omega⟩
  · rw [tb2 h, h]
    exact ⟨by dsimp only; omega, by dsimp only; omega⟩
theorem tb_in {n : Int} {ps : List Pc} (r : Rea n ps) {p : Pc} (hp : p ∈ ps) : 0 ≤ (tbP p).s ∧ 1 ≤ (tbP p).l ∧ ((tbP p).w = 1 ∨ (tbP p).w = -1) ∧ (tbP p).s + (tbP p).l ≤ n := by
  obtain ⟨a, b, w, c⟩ := chain_mem r.ch hp
  have e1 := val_mem r.ch hp (j := p.s) (by omega) (by omega)
  have e2 := val_mem r.ch hp (j := p.s + p.l - 1) (by omega) (by omega)
  have v1 := r.val p.s (by omega) (by omega)
  have v2 := r.val (p.s + p.l - 1) (by omega) (by omega)
  rw [e1] at v1
  rw [e2] at v2
  rw [tb_l, tb_w w]
  rw [show p.s - p.s = 0 by omega] at v1
  rw [show p.s + p.l - 1 - p.s = p.l - 1 by omega] at v2
  refine ⟨?_, b, w, ?_⟩
  all_goals
    rcases w with h | h
    · rw [h] at v1 v2
      rw [tb1 h]
      dsimp only
      omega
    · rw [h] at v1 v2
      rw [tb2 h]
      dsimp only
      omega
/-- two pieces' images are apart -/
theorem tb_apart {n : Int} {ps : List Pc} (r : Rea n ps) {p q : Pc} (hp : p ∈ ps) (hq : q ∈ ps) (ne : p.s + p.l ≤ q.s) : (tbP p).s + (tbP p).l ≤ (tbP q).s ∨ (tbP q).s + (tbP q).l ≤ (tbP p).s := by
  obtain ⟨a, b, w, c⟩ := chain_mem r.ch hp
  obtain ⟨a', b', w', c'⟩ := chain_mem r.ch hq
  refine Decidable.byContradiction fun h => ?_
  have h1 : ¬ (tbP p).s + (tbP p).l ≤ (tbP q).s := fun z => h (.inl z)
  have h2 : ¬ (tbP q).s + (tbP q).l ≤ (tbP p).s := fun z => h (.inr z)
  have lp := tb_l p
  have lq := tb_l q
  obtain ⟨x, x1, x2, x3, x4⟩ : ∃ x, (tbP p).s ≤ x ∧ x < (tbP p).s + (tbP p).l ∧ (tbP q).s ≤ x ∧ x < (tbP q).s + (tbP q).l := by
    by_cases k : (tbP p).s ≤ (tbP q).s
    · exact ⟨(tbP q).s, by omega, by omega, by omega, by omega⟩
    · exact ⟨(tbP p).s, by omega, by omega, by omega, by omega⟩
  obtain ⟨i1, i2, i3⟩ := tb_val w x1 x2
  obtain ⟨j1, j2, j3⟩ := tb_val w' x3 x4
  generalize (tbP p).g + (tbP p).w * (x - (tbP p).s) = i at i1 i2 i3
  generalize (tbP q).g + (tbP q).w * (x - (tbP q).s) = j at j1 j2 j3
  have := r.inj i j (by omega) (by omega) (by omega) (by omega) (by rw [val_mem r.ch hp i1 i2, val_mem r.ch hq j1 j2, i3, j3])
  omega
theorem chain_pair : ∀ {r : List Pc} {lo hi : Int}, Chain lo hi r → r.Pairwise fun p q => p.s + p.l ≤ q.s
  | [], _, _, _ => .nil
  | p :: r, lo, hi, ⟨h1, h2, h3, h4⟩ => .cons (fun q hq => by
      obtain ⟨a, _⟩ := chain_mem h4 hq
      omega) (chain_pair h4)
/-- what is taken back, sorted by its starts -/
theorem Rea.back {n : Int} {ps qs : List Pc} (r : Rea n ps) (pm : qs.Perm (ps.map tbP)) (so : qs.Pairwise fun p q => p.s ≤ q.s) : Rea n qs ∧ (∀ j, 0 ≤ j → j < n → valP qs (valP ps j) = j) ∧ ∀ x, 0 ≤ x → x < n → valP ps (valP qs x) = x := by
  have mem : ∀ q ∈ qs, ∃ p ∈ ps, tbP p = q := fun q hq => List.mem_map.mp (pm.mem_iff.mp hq)
  have hin : ∀ q ∈ qs, 0 ≤ q.s ∧ 1 ≤ q.l ∧ (q.w = 1 ∨ q.w = -1) ∧ q.s + q.l ≤ n := fun q hq => by
    obtain ⟨p, hp, rfl⟩ := mem q hq
    exact tb_in r hp
  have ap0 : (ps.map tbP).Pairwise fun p q => p.s + p.l ≤ q.s ∨ q.s + q.l ≤ p.s := by
    rw [List.pairwise_map]
    have := chain_pair r.ch
    refine List.Pairwise.imp_of_mem (fun {p q} hp hq h => tb_apart r hp hq h) this
  have ap : qs.Pairwise fun p q => p.s + p.l ≤ q.s ∨ q.s + q.l ≤ p.s := (pm.pairwise_iff (fun {a b} h => h.symm)).mpr ap0
  have tl : qs.Pairwise fun p q => p.s + p.l ≤ q.s := by
    have both := List.Pairwise.and so ap
    refine List.Pairwise.imp_of_mem (fun {p q} hp hq h => ?_) both
    obtain ⟨h1, h2 | h2⟩ := h
    · exact h2
    · have := (hin p hp).2.1
      have := (hin q hq).2.1
      omega
  have sm : sumL qs = n - 0 := by
    rw [sumL_perm pm, sumL_tb, chain_sum r.ch]
  have ch : Chain 0 n qs := tile_ok r.ch.le hin tl sm
  have fwd : ∀ x, 0 ≤ x → x < n → (0 ≤ valP qs x ∧ valP qs x < n) ∧ valP ps (valP qs x) = x := fun x x0 x1 => by
    obtain ⟨q, hq, k1, k2⟩ := chain_has ch x0 x1
    obtain ⟨p, hp, rfl⟩ := mem q hq
    obtain ⟨a, b, w, c⟩ := chain_mem r.ch hp
    obtain ⟨i1, i2, i3⟩ := tb_val w k1 k2
    rw [val_mem ch hq k1 k2]
    exact ⟨⟨by omega, by omega⟩, by rw [val_mem r.ch hp i1 i2]; exact i3⟩
  refine ⟨⟨ch, fun x x0 x1 => (fwd x x0 x1).1, fun i j i0 i1 j0 j1 e => ?_⟩, fun j j0 j1 => ?_, fun x x0 x1 => (fwd x x0 x1).2⟩
  · rw [← (fwd i i0 i1).2, ← (fwd j j0 j1).2, e]
  · obtain ⟨v0, v1⟩ := r.val j j0 j1
    obtain ⟨⟨u0, u1⟩, e⟩ := fwd _ v0 v1
    exact r.inj _ _ u0 u1 j0 j1 e
/-! what is led on -/
/-- how many pieces begin above lo, at most at hi -/
def cntS : List Pc → Int → Int → Nat
  | [], _, _ => 0
  | p :: r, lo, hi => (if lo < p.s ∧ p.s ≤ hi then 1 else 0) + cntS r lo hi
theorem cnt_le : ∀ (ps : List Pc) {lo hi lo' hi' : Int}, lo' ≤ lo → hi ≤ hi' → cntS ps lo hi ≤ cntS ps lo' hi'
  | [], _, _, _, _, _, _ => Nat.le_refl _
  | p :: r, lo, hi, lo', hi', h1, h2 => by
    have := cnt_le r h1 h2
    show (if lo < p.s ∧ p.s ≤ hi then 1 else 0) + cntS r lo hi ≤ (if lo' < p.s ∧ p.s ≤ hi' then 1 else 0) + cntS r lo' hi'
    split
    · rw [if_pos (by omega)]
      omega
    · omega
theorem cnt_more : ∀ {ps : List Pc} {p : Pc} {lo hi lo' hi' : Int}, p ∈ ps → lo' ≤ lo → hi ≤ hi' → ¬ (lo < p.s ∧ p.s ≤ hi) → (lo' < p.s ∧ p.s ≤ hi') → cntS ps lo hi + 1 ≤ cntS ps lo' hi'
  | q :: r, p, lo, hi, lo', hi', hp, h1, h2, h3, h4 => by
    show (if lo < q.s ∧ q.s ≤ hi then 1 else 0) + cntS r lo hi + 1 ≤ (if lo' < q.s ∧ q.s ≤ hi' then 1 else 0) + cntS r lo' hi'
    rcases List.mem_cons.mp hp with rfl | hp
    · rw [if_neg h3, if_pos h4]
      have := cnt_le r h1 h2
      omega
    · have := cnt_more hp h1 h2 h3 h4
      split
      · rw [if_pos (by omega)]
        omega
      · omega
/-- of intervals that are apart at most one has a start -/
def sumC (ps : List Pc) : List Pc → Nat
  | [] => 0
  | q :: r => cntS ps (tbP q).s ((tbP q).s + (tbP q).l - 1) + sumC ps r
theorem cnt_nil : ∀ {gs : List Pc}, sumC [] gs = 0
  | [] => rfl
  | q :: r => by
    show 0 + sumC [] r = 0
    rw [cnt_nil]
theorem sumC_cons {p : Pc} {ps : List Pc} : ∀ gs : List Pc, sumC (p :: ps) gs = sumC [p] gs + sumC ps gs
  | [] => rfl
  | q :: r => by
    show (_ + cntS ps _ _) + sumC (p :: ps) r = ((_ + cntS [] _ _) + sumC [p] r) + (cntS ps _ _ + sumC ps r)
    rw [sumC_cons r]
    show _ = ((_ + 0) + _) + _
    omega
theorem sumC_one {p : Pc} : ∀ {gs : List Pc}, gs.Pairwise (fun a b => (tbP a).s + (tbP a).l ≤ (tbP b).s ∨ (tbP b).s + (tbP b).l ≤ (tbP a).s) → sumC [p] gs ≤ 1
  | [], _ => Nat.zero_le _
  | q :: r, h => by
    obtain ⟨h1, h2⟩ := List.pairwise_cons.mp h
    have ih := sumC_one (p := p) h2
    show ((if (tbP q).s < p.s ∧ p.s ≤ (tbP q).s + (tbP q).l - 1 then 1 else 0) + 0) + sumC [p] r ≤ 1
    split
    · rename_i c
      have z : ∀ r : List Pc, (∀ b ∈ r, (tbP q).s + (tbP q).l ≤ (tbP b).s ∨ (tbP b).s + (tbP b).l ≤ (tbP q).s) → sumC [p] r = 0 := fun r => by
        induction r with
        | nil => exact fun _ => rfl
        | cons b r ih =>
          intro hb
          show ((if (tbP b).s < p.s ∧ p.s ≤ (tbP b).s + (tbP b).l - 1 then 1 else 0) + 0) + sumC [p] r = 0
          rw [ih fun x hx => hb x (.tail _ hx), if_neg]
          have := hb b (.head _)
          omega
      rw [z r h1]
      exact Nat.le_refl _
    · omega
theorem sumC_le {gs : List Pc} (h : gs.Pairwise (fun a b => (tbP a).s + (tbP a).l ≤ (tbP b).s ∨ (tbP b).s + (tbP b).l ≤ (tbP a).s)) : ∀ ps : List Pc, sumC ps gs ≤ ps.length
  | [] => by
    rw [cnt_nil]
    exact Nat.le_refl _
  | p :: ps => by
    rw [sumC_cons]
    have := sumC_one (p := p) h
    have := sumC_le h ps
    show _ ≤ ps.length + 1
    omega
theorem Rea.apart {n : Int} {gs : List Pc} (r : Rea n gs) : gs.Pairwise fun a b => (tbP a).s + (tbP a).l ≤ (tbP b).s ∨ (tbP b).s + (tbP b).l ≤ (tbP a).s :=
  List.Pairwise.imp_of_mem (fun {p q} hp hq h => tb_apart r hp hq h) (chain_pair r.ch)
/-- pieces of one piece's places, led on by ps -/
structure Led (ps : List Pc) (p : Pc) (qs : List Pc) : Prop where
  ch : Chain p.s (p.s + p.l) qs
  val : ∀ j, p.s ≤ j → j < p.s + p.l → valP qs j = valP ps (p.g + p.w * (j - p.s))
  few : qs.length ≤ 1 + cntS ps (tbP p).s ((tbP p).s + (tbP p).l - 1)
/-- all pieces of gs led on -/
structure LedAll (fs : List Pc) (lo hi : Int) (gs qs : List Pc) : Prop where
  ch : Chain lo hi qs
  val : ∀ j, lo ≤ j → j < hi → valP qs j = valP fs (valP gs j)
  few : qs.length ≤ gs.length + sumC fs gs
theorem sumC_app (fs : List Pc) : ∀ (a b : List Pc), sumC fs (a ++ b) = sumC fs a + sumC fs b
  | [], b => by
    show sumC fs b = 0 + sumC fs b
    omega
  | q :: a, b => by
    show _ + sumC fs (a ++ b) = _ + sumC fs a + sumC fs b
    rw [sumC_app fs a b]
    omega
theorem LedAll.snoc {fs gs qs rs : List Pc} {g : Pc} {lo mi : Int} (h : LedAll fs lo mi gs qs) (hc : Chain lo mi gs) (hg : g.s = mi) (l : Led fs g rs) : LedAll fs lo (mi + g.l) (gs ++ [g]) (qs ++ rs) := by
  subst hg
  refine ⟨h.ch.append l.ch, fun j j0 j1 => ?_, ?_⟩
  · by_cases c : j < g.s
    · rw [val_left h.ch c j0, val_left hc c j0]
      exact h.val j j0 c
    · rw [val_right h.ch (by omega), val_right hc (by omega), val_head (r := []) j1]
      exact l.val j (by omega) j1
  · rw [List.length_append, List.length_append, sumC_app]
    have := h.few
    have := l.few
    show qs.length + rs.length ≤ gs.length + 1 + (sumC fs gs + (cntS fs _ _ + 0))
    omega
theorem mul_ok {n : Int} {fs gs qs : List Pc} (hf : Rea n fs) (hg : Rea n gs) (h : LedAll fs 0 n gs qs) : Rea n qs ∧ qs.length ≤ fs.length + gs.length ∧ ∀ j, 0 ≤ j → j < n → valP qs j = valP fs (valP gs j) := by
  refine ⟨rea_of h.ch h.val (fun j j0 j1 => ?_) fun i j i0 i1 j0 j1 e => ?_, ?_, h.val⟩
  · obtain ⟨a, b⟩ := hg.val j j0 j1
    exact hf.val _ a b
  · obtain ⟨a, b⟩ := hg.val j j0 j1
    obtain ⟨c, d⟩ := hg.val i i0 i1
    exact hg.inj i j i0 i1 j0 j1 (hf.inj _ _ c d a b e)
  · have := h.few
    have := sumC_le hg.apart fs
    omega

theorem ixN_last (n : Nat) : ixN (n + 1) (-1) = some n := by
  unfold ixN
  rw [if_neg (by decide), if_pos (by omega)]
  congr 1
  omega
theorem atI_last {xs : List V} {x : V} : atI (xs ++ [x]) (-1) = some x := by
  unfold atI
  rw [List.length_append]
  show (ixN (xs.length + 1) (-1)).bind _ = _
  rw [ixN_last]
  show (xs ++ [x])[xs.length]? = some x
  rw [List.getElem?_append_right (Nat.le_refl _), Nat.sub_self]
  rfl
theorem set_last {xs : List V} {x y : V} : (xs ++ [x]).set xs.length y = xs ++ [y] := by
  rw [List.set_append_right _ _ (Nat.le_refl _), Nat.sub_self]
  rfl
section
variable {P : Program} {w : World} {K : PySem.W.Frag} {mg : Str → Option Value} {base : Heap} {a : Ad}
def spOneForm : Sp := fun vs H Q _ => ∃ (x : Addr) (rs : List Addr) (ps : List Pc), vs = [.ref x] ∧ H x = some (.lst (rs.map V.ref)) ∧ PcsH H rs ps ∧ ps.length ≤ 1000 ∧ ∀ t rs' H', H t = none → H' t = some (.tup (rs'.map V.ref)) → PcsH H' rs' (oneF ps) → Same H H' → Q (.ref t) H'
theorem ok_one_form (T : Tx w K mg a) : FnOk P w K mg base CX0 2 a.f_one_form a.d_one_form ["pieces"] spOneForm := by
  refine T.F_one_form.ok sc_one_form (fun vs H Q E h => ?_) (fun cdv A outer s H vs Q E hr h => ?_)
  · obtain ⟨x, rs, ps, rfl, _⟩ := h
    rfl
  · obtain ⟨x, rs, ps, rfl, hx, hps, hl, k⟩ := h
    refine ⟨_, 
(pss_cons (ps_set (i := 1) sc_one_form.nd rfl (.inl rfl) (pe_lst pa_nil))
  (pss_cons (ps_for PassesOwn.never rfl (pi_list (pv 0)) (pg_tup rfl (pgs_cons (pg_name (i := 2) sc_one_form.nd rfl (.inl rfl)) (pgs_cons (pg_name (i := 3) sc_one_form.nd rfl (.inl rfl)) (pgs_cons (pg_name (i := 4) sc_one_form.nd rfl (.inl rfl)) (pgs_cons (pg_name (i := 5) sc_one_form.nd rfl (.inl rfl)) pgs_nil)))))
  (C8.pss_cut (ps_set (i := 6) sc_one_form.nd rfl (.inl rfl) (pe_tup (pa_cons (pv 2) (pa_cons (pv 3) (pa_cons (pv 4) (pa_cons (pe_ifExp (pt_cmpR op_eq (pv 3) pe_int (nomark _)) pe_int (pv 5)) pa_nil))))))
  (C8.pss_cut (ps_set (i := 7) sc_one_form.nd rfl (.inl rfl) (pe_ifExp (pt_truth (pv 1) (fun _ => rfl)) (pe_call (ok_common_way T) hr (by rfl) T.m_common_way T.F_common_way.kp T.b_common_way .nil pass0 (pa_cons (pe_ix ix_list (pv 1) (pe_un un_neg pe_int) (fun _ _ => rfl)) (pa_cons (pv 6) pa_nil))) pe_int))
  (pss_one (ps_if (pt_cmpR op_eq (pv 7) pe_int (nomark _))
  (pss_one (ps_expr (pe_bm PySem.F.plainAttrs_list PySem.F.slot_list_append PySem.F.type_list_append mt_append (pv 1) (pa_cons (pv 6) pa_nil))))
  (pss_cons (ps_set (i := 8) sc_one_form.nd rfl (.inl rfl) (pe_ix ix_list (pv 1) (pe_un un_neg pe_int) (fun _ _ => rfl)))
  (pss_one (ps_asg (pe_tup (pa_cons (pe_ix ix_tup (pv 8) pe_int (fun _ _ => rfl)) (pa_cons (pe_op op_add (pe_ix ix_tup (pv 8) pe_int (fun _ _ => rfl)) (pv 3)) (pa_cons (pe_ix ix_tup (pv 8) pe_int (fun _ _ => rfl)) (pa_cons (pv 7) pa_nil))))) (pg_sub (pv 1) (pe_un un_neg pe_int) set_list)))))))))
  (pss_one (ps_ret (pe_callTy call_tuple_of (by rfl) T.z_tuple (by decide +kernel) (pa_cons (pv 1) pa_nil)))))), ?_⟩
    have rl := hps.len
    refine ⟨sz (show 0 ≤ 100000 by decide), fun L nL => ?_⟩
    have s1 := same_upd (o := .lst []) nL
    have eL : (upd H L (.lst [])) L = some (.lst []) := upd_same
    change gName 1 (V.ref L) _ (upd H L (.lst [])) _
    generalize upd H L (.lst []) = H1 at s1 eL ⊢
    have nx : x ≠ L := ne_of_none hx nL
    refine ⟨_, rfl, x, rfl, ⟨_, SqL.at (s1 _ _ hx)⟩, ?_⟩
    refine for_it (walk_list (xs := rs.map V.ref)) (fun j σ H' => ∃ (y2 y3 y4 y5 y6 y7 y8 : Option V) (us : List Addr), σ = [some (.ref x), some (.ref L), y2, y3, y4, y5, y6, y7, y8] ∧ Same H H' ∧ H' L = some (.lst (us.map V.ref)) ∧ PcsH H' us ((ps.take j).foldl addP [])) ?g0 ?gG ?gs ?gd
    case g0 => exact ⟨none, none, none, none, none, none, none, [], rfl, s1, eL, trivial⟩
    case gG =>
      rintro j σ H' _ ⟨_, _, _, _, _, _, _, _, _, sm, _⟩
      exact sm.seq (SqL.at hx)
    case gs =>
      rintro j y σ H3 H4 hj ⟨y2, y3, y4, y5, y6, y7, y8, us, rfl, sm, eu, hu⟩ ⟨rfl, ex⟩
      have hj : j < rs.length := by
        rw [List.length_map] at hj
        exact hj
      have hjp : j < ps.length := by omega
      obtain ⟨r, hr1, hr2⟩ := hps.get (List.getElem?_eq_getElem hjp)
      rw [List.getElem?_map, hr1] at ex
      cases ex
      have hr4 := sm _ _ hr2
      have htk : (ps.take (j + 1)).foldl addP [] = addP ((ps.take j).foldl addP []) (ps[j]'hjp) := by
        rw [List.take_succ, List.getElem?_eq_getElem hjp]
        show (ps.take j ++ [ps[j]]).foldl addP [] = _
        rw [List.foldl_append]
        rfl
      rw [htk]
      have ul := hu.len
      have ul2 : us.length ≤ 1000 := by
        have := fold_len (ps.take j) []
        rw [List.length_take] at this
        simp only [List.length_nil] at this
        omega
      generalize (ps.take j).foldl addP [] = rows at hu ul ⊢
      generalize ps[j]'hjp = p at hr4 ⊢
      clear htk hr2 hr1
      refine ⟨r, pcV p, rfl, SqT.at hr4, rfl, .int p.s, [.int p.l, .int p.g, .int p.w], rfl, .int p.l, [.int p.g, .int p.w], rfl, .int p.g, [.int p.w], rfl, .int p.w, [], rfl, rfl, ?_⟩
      -- piece = (start, length, goal, 1 if length == 1 else way)
      refine ⟨fun σ' H' => ∃ pc : Addr, σ' = [some (.ref x), some (.ref L), some (.int p.s), some (.int p.l), some (.int p.g), some (.int p.w), some (.ref pc), y7, y8] ∧ H' pc = some (.tup (pcV (norm p))) ∧ Same H4 H', ?_, ?_⟩
      · refine ⟨_, rfl, _, rfl, _, rfl, _, rfl, rfl, _, rfl, ?_⟩
        by_cases h1 : p.l = 1
        · rw [decide_eq_true (show V.int p.l = V.int 1 by rw [h1])]
          refine iteT ⟨sz (show 4 ≤ 100000 by decide), fun pc npc => ⟨pc, rfl, ?_, same_upd npc⟩⟩
          rw [upd_same]
          show _ = some (HO.tup [.int p.s, .int p.l, .int p.g, .int (if p.l = 1 then 1 else p.w)])
          rw [if_pos h1]
        · rw [decide_eq_false (show ¬ V.int p.l = V.int 1 from fun z => h1 (V.int.inj z))]
          refine iteF ⟨_, rfl, sz (show 4 ≤ 100000 by decide), fun pc npc => ⟨pc, rfl, ?_, same_upd npc⟩⟩
          rw [upd_same]
          show _ = some (HO.tup [.int p.s, .int p.l, .int p.g, .int (if p.l = 1 then 1 else p.w)])
          rw [if_neg h1]
      rintro σ' H5 ⟨pc, rfl, epc, s5⟩
      have eu5 := s5 _ _ eu
      have hu5 := hu.same s5
      have sm5 := sm.trans s5
      -- common = common_way(rows[-1], piece) if rows else 0
      refine ⟨fun σ' H' => ∃ c : Int, σ' = [some (.ref x), some (.ref L), some (.int p.s), some (.int p.l), some (.int p.g), some (.int p.w), some (.ref pc), some (.int c), y8] ∧ Same H5 H' ∧ (c = 0 → addP rows p = rows ++ [norm p]) ∧ (c ≠ 0 → ∃ rs q, rows = rs ++ [q] ∧ addP rows p = rs ++ [⟨q.s, q.l + p.l, q.g, c⟩]), ?_, ?_⟩
      · rcases List.eq_nil_or_concat rows with rfl | ⟨rs2, q, rfl⟩
        · cases us with
          | cons u r => exact hu5.elim
          | nil => exact ⟨_, rfl, false, .inl ⟨_, SqL.at eu5, rfl⟩, iteF ⟨0, rfl, Same.refl _, fun _ => rfl, fun h => absurd rfl h⟩⟩
        · rw [List.concat_eq_append] at hu5 ⊢
          obtain ⟨us2, uq, rfl, hu7, equ⟩ := hu5.unsnoc
          rw [List.map_append] at eu5
          refine ⟨_, rfl, true, .inl ⟨_, SqL.at eu5, by simp⟩, iteT ⟨_, rfl, 1, rfl, L, _, -1, .ref uq, rfl, rfl, SqL.at eu5, atI_last, _, rfl, uq, pc, q, norm p, rfl, equ, epc, fun H6 s6 => ⟨cwF q (norm p), rfl, s6, fun h => ?_, fun h => ⟨rs2, q, rfl, ?_⟩⟩⟩⟩
          · rw [add_some, if_pos h]
          · rw [add_some, if_neg h]
      rintro σ' H6 ⟨c, rfl, s6, hc0, hc1⟩
      have eu6 := s6 _ _ eu5
      have hu6 := hu5.same s6
      have sm6 := sm5.trans s6
      have epc6 := s6 _ _ epc
      -- if common == 0
      refine ⟨_, rfl, rfl, _, rfl, ?_⟩
      by_cases hc : c = 0
      · rw [decide_eq_true (show V.int c = V.int 0 by rw [hc])]
        refine iteT ⟨_, rfl, .inl ⟨rfl, _, SqL.at eu6⟩, _, rfl, L, us.map V.ref, .ref pc, rfl, rfl, eu6, szlt (by rw [List.length_map]; omega), ?_⟩
        refine ⟨_, _, _, _, _, _, _, us ++ [pc], rfl, keep_upd sm6 nL, by rw [upd_same, List.map_append]; rfl, ?_⟩
        rw [hc0 hc]
        have nL6 : ∀ b xs, H6 b = some (.tup xs) → b ≠ L := fun b xs e z => by
          rw [z, eu6] at e
          cases e
        refine PcsH.snoc ?_ (hu6.mono fun b o e ⟨xs, h⟩ => ?_)
        · rw [upd_ne (nL6 _ _ epc6)]
          exact epc6
        · subst h
          rw [upd_ne (nL6 _ _ e)]
          exact e
      · rw [decide_eq_false (show ¬ V.int c = V.int 0 from fun z => hc (V.int.inj z))]
        obtain ⟨rs2, q, rfl, hadd⟩ := hc1 hc
        rw [hadd]
        obtain ⟨us2, uq, rfl, hu7, equ⟩ := hu6.unsnoc
        refine iteF ?_
        -- first = rows[-1]
        rw [List.map_append] at eu6
        refine ⟨_, rfl, 1, rfl, L, us2.map V.ref ++ [.ref uq], -1, .ref uq, rfl, rfl, SqL.at eu6, atI_last, ?_⟩
        refine ⟨_, rfl, uq, pcV q, 0, _, rfl, rfl, SqT.at equ, rfl, _, rfl, uq, pcV q, 1, _, rfl, rfl, SqT.at equ, rfl, _, rfl, _, _, rfl, rfl, _, rfl, uq, pcV q, 2, _, rfl, rfl, SqT.at equ, rfl, _, rfl, sz (show 4 ≤ 100000 by decide), fun nt nnt => ?_⟩
        have s7 := same_upd (o := .tup [.int q.s, .int (q.l + p.l), .int q.g, .int c]) nnt
        have ent : (upd H6 nt (.tup [.int q.s, .int (q.l + p.l), .int q.g, .int c])) nt = some (.tup [.int q.s, .int (q.l + p.l), .int q.g, .int c]) := upd_same
        generalize upd H6 nt (.tup [.int q.s, .int (q.l + p.l), .int q.g, .int c]) = H7 at s7 ent ⊢
        have eu7 := s7 _ _ eu6
        have hu8 := hu7.same s7
        refine ⟨_, rfl, 1, rfl, L, us2.map V.ref ++ [.ref uq], -1, us2.length, rfl, rfl, eu7, ?_, ?_⟩
        · rw [List.length_append, List.length_map]
          exact ixN_last _
        have nL7 : ∀ b xs, H7 b = some (.tup xs) → b ≠ L := fun b xs e z => by
          rw [z, eu7] at e
          cases e
        refine ⟨_, _, _, _, _, _, _, us2 ++ [nt], rfl, keep_upd (sm6.trans s7) nL, ?_, PcsH.snoc ?_ (hu8.mono fun b o e ⟨xs, h⟩ => ?_)⟩
        · rw [upd_same, List.map_append]
          have := set_last (xs := us2.map V.ref) (x := .ref uq) (y := .ref nt)
          rw [List.length_map] at this
          rw [this]
          rfl
        · rw [upd_ne (nL7 _ _ ent)]
          exact ent
        · subst h
          rw [upd_ne (nL7 _ _ e)]
          exact e
    case gd =>
      rintro σ H' ⟨y2, y3, y4, y5, y6, y7, y8, us, rfl, sm, eu, hu⟩
      rw [List.length_map, rl, List.take_length] at hu
      refine ⟨_, rfl, L, _, rfl, .inl ⟨SqL.at eu, fun t nt => k t us _ (sm.free nt) upd_same (hu.same (same_upd nt)) (sm.trans (same_upd nt))⟩⟩
end

/-! ### runs as instances, with their way -/
instance : DecidableEq Pc := fun a b => decidable_of_iff (a.s = b.s ∧ a.l = b.l ∧ a.g = b.g ∧ a.w = b.w) ⟨fun ⟨h1, h2, h3, h4⟩ => by
  cases a
  cases b
  cases h1
  cases h2
  cases h3
  cases h4
  rfl, fun h => by rw [h]; exact ⟨rfl, rfl, rfl, rfl⟩⟩
/-- so many places are in runs that go backward -/
def sumB : List Pc → Int
  | [] => 0
  | p :: r => (if p.w = -1 then p.l else 0) + sumB r
theorem sumB_app : ∀ (a b : List Pc), sumB (a ++ b) = sumB a + sumB b
  | [], b => by
    show sumB b = 0 + sumB b
    omega
  | p :: a, b => by
    show _ + sumB (a ++ b) = _ + sumB a + sumB b
    rw [sumB_app a b]
    omega
def wayF (n : Int) (ps : List Pc) : Int := if sumB ps ≤ 100 then 1 else if n - sumB ps ≤ 100 then -1 else 0
/-- a Runs of size n with the pieces ps stands at p -/
def RunsAt (C : Addr) (H : Hp) (p : Addr) (n : Int) (ps : List Pc) : Prop := ∃ dx fs t rs, H p = some (.ins C dx fs) ∧ (fs.lookup ("size" : Str) = some (.int n) ∧ fs.lookup ("way" : Str) = some (.int (wayF n ps))) ∧ fs.lookup ("rows" : Str) = some (.ref t) ∧ fs.lookup ("at" : Str) = none ∧ H t = some (.tup (rs.map V.ref)) ∧ PcsH H rs ps
theorem RunsAt.mono {C : Addr} {H H' : Hp} {p : Addr} {n : Int} {ps : List Pc} (h : RunsAt C H p n ps) (e : ∀ b o, H b = some o → (∃ xs, o = .lst xs ∨ o = .tup xs) ∨ (∃ C dx fs, o = .ins C dx fs) → H' b = some o) : RunsAt C H' p n ps := by
  obtain ⟨dx, fs, t, rs, h1, h2, h3, h4, h5, h6⟩ := h
  exact ⟨dx, fs, t, rs, e _ _ h1 (.inr ⟨_, _, _, rfl⟩), h2, h3, h4, e _ _ h5 (.inl ⟨_, .inr rfl⟩), h6.mono fun b o x ⟨xs, q⟩ => e b o x (.inl ⟨xs, .inr q⟩)⟩
theorem RunsAt.same {C : Addr} {H H' : Hp} {p : Addr} {n : Int} {ps : List Pc} (h : RunsAt C H p n ps) (e : Same H H') : RunsAt C H' p n ps := h.mono fun b o x _ => e b o x
theorem rkN {f g : Str} {v r : V} {fs : List (Str × V)} (h : fs.lookup f = some r) (ne : f ≠ g) : (putF g v fs).lookup f = some r := by
  rw [lookup_putF, if_neg ne]
  exact h
theorem rkP {f : Str} {v : V} {fs : List (Str × V)} : (putF f v fs).lookup f = some v := by
  rw [lookup_putF, if_pos rfl]
theorem rkO {f g : Str} {v : V} {fs : List (Str × V)} (h : fs.lookup f = none) (ne : f ≠ g) : (putF g v fs).lookup f = none := by
  rw [lookup_putF, if_neg ne]
  exact h
theorem putL (f : Str) (v : V) : ∀ fs : List (Str × V), (putF f v fs).length ≤ fs.length + 1
  | [] => Nat.le_refl _
  | (g, u) :: r => by
    unfold putF
    split
    · exact Nat.le_succ _
    · have := putL f v r
      show (putF f v r).length + 1 ≤ r.length + 1 + 1
      omega
theorem szF1 (f : Str) (v : V) : (putF f v []).length < 1000 := by
  have := putL f v []
  simp only [List.length_nil] at this
  omega
theorem szF2 (f g : Str) (v u : V) : (putF g u (putF f v [])).length < 1000 := by
  have h1 := putL f v []
  have h2 := putL g u (putF f v [])
  simp only [List.length_nil] at h1
  omega
section
variable {P : Program} {w : World} {K : PySem.W.Frag} {mg : Str → Option Value} {base : Heap} {a : Ad}
def spWayOf : Sp := fun vs H Q _ => ∃ (n : Int) (t : Addr) (rs : List Addr) (ps : List Pc), vs = [.int n, .ref t] ∧ H t = some (.tup (rs.map V.ref)) ∧ PcsH H rs ps ∧ ps.length ≤ 1000 ∧ ∀ H', Same H H' → Q (.int (wayF n ps)) H'
theorem ok_way_of (T : Tx w K mg a) : FnOk P w K mg base CX0 1 a.f_way_of a.d_way_of ["size", "rows"] spWayOf := by
  refine T.F_way_of.ok sc_way_of (fun vs H Q E h => ?_) (fun cdv A outer s H vs Q E hr h => ?_)
  · obtain ⟨n, t, rs, ps, rfl, _⟩ := h
    rfl
  · obtain ⟨n, t, rs, ps, rfl, ht, hps, hl, k⟩ := h
    refine ⟨_, 
(pss_cons (ps_set (i := 2) sc_way_of.nd rfl (.inl rfl) (pe_callB (cr_sum rfl) (by rfl) T.z_sum (by decide +kernel) (pa_cons (pe_lc (own := [("_", 3), ("length", 4), ("way", 5)]) (g := gTup K 4 (gCons (gName 3) (gCons (gName 4) (gCons (gName 3) (gCons (gName 5) gNil))))) rfl sc_way_of.nd (pi_tup (pv 1)) (blkOk_by (own := [("_", 3), ("length", 4), ("way", 5)]) (N := ["size", "rows", "backward", "_", "length", "way"]) (sc := defScope s_way_of) (by decide +kernel)) (fun _ _ _ _ _ => pg_tup rfl (pgs_cons (pg_name (i := 3) sc_way_of.nd rfl (Or.inl rfl)) (pgs_cons (pg_name (i := 4) sc_way_of.nd rfl (Or.inl rfl)) (pgs_cons (pg_name (i := 3) sc_way_of.nd rfl (Or.inl rfl)) (pgs_cons (pg_name (i := 5) sc_way_of.nd rfl (Or.inl rfl)) pgs_nil))))) (fun _ _ _ _ _ => (pts_one (pt_cmpR op_eq (pv 5) (pe_un un_neg pe_int) (nomark _)))) (fun _ _ _ _ _ => (pv 4))) pa_nil)))
  (pss_cons (ps_if (pt_cmpR op_le (pv 2) (pe_glob (v := .int 100) (by rfl) T.m_FEW.choose_spec ⟨_, rfl⟩) (nomark _))
  (pss_one (ps_ret pe_int))
  pss_nil)
  (pss_one (ps_ret (pe_ifExp (pt_cmpR op_le (pe_op op_sub (pv 0) (pv 2)) (pe_glob (v := .int 100) (by rfl) T.m_FEW.choose_spec ⟨_, rfl⟩) (nomark _)) (pe_un un_neg pe_int) pe_int))))), ?_⟩
    have rl := hps.len
    refine ⟨_, rfl, t, rfl, ⟨_, SqT.at ht⟩, fun D hD => ?_⟩
    refine lc_it (walk_tup (xs := rs.map V.ref)) (fun j H' => Same H H' ∧ ∃ ns : List Int, ns.length ≤ j ∧ ns.sum = sumB (ps.take j) ∧ H' D = some (.lst (ns.map V.int))) ?h0 ?hG ?hs ?hd
    case h0 => exact ⟨same_upd hD, [], Nat.le_refl _, rfl, upd_same⟩
    case hG =>
      rintro j H' _ ⟨sm, _⟩
      exact SqT.at (sm _ _ ht)
    case hs =>
      rintro j y H3 H4 hj ⟨sm, ns, hn, hsum, eD⟩ ⟨rfl, ex⟩
      rw [List.length_map] at hj
      have hjp : j < ps.length := by omega
      obtain ⟨r, hr1, hr2⟩ := hps.get (List.getElem?_eq_getElem hjp)
      rw [List.getElem?_map, hr1] at ex
      cases ex
      have htk : sumB (ps.take (j + 1)) = sumB (ps.take j) + if (ps[j]'hjp).w = -1 then (ps[j]'hjp).l else 0 := by
        rw [List.take_succ, List.getElem?_eq_getElem hjp]
        show sumB (ps.take j ++ [ps[j]]) = _
        rw [sumB_app]
        show _ + (_ + 0) = _
        omega
      generalize ps[j]'(by omega) = p at hr2 htk
      refine ⟨r, pcV p, rfl, SqT.at (sm _ _ hr2), rfl, .int p.s, [.int p.l, .int p.g, .int p.w], rfl, .int p.l, [.int p.g, .int p.w], rfl, .int p.g, [.int p.w], rfl, .int p.w, [], rfl, rfl, rfl, ?_⟩
      refine ⟨_, rfl, 1, rfl, rfl, _, rfl, ?_⟩
      by_cases c : p.w = -1
      · rw [decide_eq_true (show V.int p.w = V.int (-1) by rw [c])]
        rw [if_pos c] at htk
        refine iteT ⟨_, rfl, ns.map V.int, eD, szlt (by rw [List.length_map]; omega), keep_upd sm hD, ns ++ [p.l], ?_, ?_, ?_⟩
        · rw [List.length_append]
          show ns.length + 1 ≤ j + 1
          omega
        · rw [htk, List.sum_append, hsum]
          show _ + (p.l + 0) = _
          omega
        · rw [upd_same, List.map_append]
          rfl
      · rw [decide_eq_false (show ¬ V.int p.w = V.int (-1) from fun z => c (V.int.inj z))]
        rw [if_neg c] at htk
        exact iteF ⟨sm, ns, by omega, by rw [htk, hsum]; omega, eD⟩
    case hd =>
      rintro H3 ⟨sm, ns, hn, hsum, eD⟩
      rw [List.length_map, rl, List.take_length] at hsum
      refine ⟨D, ns, rfl, SqL.at eD, ?_⟩
      rw [hsum]
      have k := k H3 sm
      unfold wayF at k
      refine ⟨_, rfl, _, _, rfl, rfl, _, rfl, ?_⟩
      by_cases c : sumB ps ≤ 100
      · rw [decide_eq_true c]
        rw [if_pos c] at k
        exact iteT k
      rw [decide_eq_false c]
      rw [if_neg c] at k
      refine iteF ⟨_, rfl, _, rfl, _, _, rfl, rfl, _, _, rfl, rfl, _, rfl, ?_⟩
      by_cases c2 : n - sumB ps ≤ 100
      · rw [decide_eq_true c2]
        rw [if_pos c2] at k
        exact iteT ⟨1, rfl, k⟩
      · rw [decide_eq_false c2]
        rw [if_neg c2] at k
        exact iteF k
def spRunsInit (C : Addr) : Sp := fun vs H Q _ => ∃ (p dx x : Addr) (n : Int) (rs : List Addr) (ps : List Pc), vs = [.ref p, .int n, .ref x] ∧ H p = some (.ins C dx []) ∧ H x = some (.lst (rs.map V.ref)) ∧ PcsH H rs ps ∧ ps.length ≤ 1000 ∧
  ∀ H', RunsAt C H' p n (oneF ps) → (∀ b o, H b = some o → b ≠ p → H' b = some o) → Q .non H'
theorem ok_Runs_init (T : Tx w K mg a) : FnOk P w K mg base CX0 3 a.f_Runs_init a.d_Runs_init ["self", "size", "pieces"] (spRunsInit a.C_Runs) := by
  refine T.F_Runs_init.ok sc_Runs_init (fun vs H Q E h => ?_) (fun cdv A outer s H vs Q E hr h => ?_)
  · obtain ⟨p, dx, x, n, rs, ps, rfl, _⟩ := h
    rfl
  · obtain ⟨p, dx, x, n, rs, ps, rfl, hp, hx, hps, hl, k⟩ := h
    refine ⟨_, 
(pss_cons (ps_fld (pv 0) (pv 1) rfl)
  (pss_cons (ps_fld (pv 0) (pe_call (ok_one_form T) hr (by rfl) T.m_one_form T.F_one_form.kp T.b_one_form .nil pass0 (pa_cons (pv 2) pa_nil)) rfl)
  (pss_one (ps_fld (pv 0) (pe_call (ok_way_of T) (hr.mono (by decide)) (by rfl) T.m_way_of T.F_way_of.kp T.b_way_of .nil pass0 (pa_cons (pv 1) (pa_cons (pe_fld (pv 0) rfl) pa_nil))) rfl)))), ?_⟩
    have ne : ("rows" : Str) ≠ "size" := by decide +kernel
    have ne2 : ("size" : Str) ≠ "rows" := by decide +kernel
    have ne3 : ("size" : Str) ≠ "way" := by decide +kernel
    have ne4 : ("rows" : Str) ≠ "way" := by decide +kernel
    have ne5 : ("at" : Str) ≠ "way" ∧ ("at" : Str) ≠ "rows" ∧ ("at" : Str) ≠ "size" := by decide +kernel
    -- self.size = size
    refine ⟨_, rfl, .ref p, rfl, p, a.C_Runs, dx, [], rfl, hp, T.cl_Runs, T.n_Runs_size, (show 0 < 1000 by decide), ?_⟩
    have e1 : (upd H p (.ins a.C_Runs dx (putF "size" (.int n) []))) p = some (.ins a.C_Runs dx (putF "size" (.int n) [])) := upd_same
    have q1 : ∀ b o, H b = some o → b ≠ p → (upd H p (.ins a.C_Runs dx (putF "size" (.int n) []))) b = some o := fun b o e z => by
      rw [upd_ne z]
      exact e
    have px : x ≠ p := ne_of hx hp (by intro z; cases z)
    generalize upd H p (.ins a.C_Runs dx (putF "size" (.int n) [])) = H1 at e1 q1 ⊢
    have hps1 : PcsH H1 rs ps := hps.mono fun b o e ⟨xs, h⟩ => q1 b o e (ne_of e hp (by rw [h]; intro z; cases z))
    -- self.rows = one_form(pieces)
    refine ⟨_, rfl, x, rs, ps, rfl, q1 _ _ hx px, hps1, hl, fun t rs' H2 nt et hrs s2 => ?_⟩
    have e2 := s2 _ _ e1
    refine ⟨.ref p, rfl, p, a.C_Runs, dx, _, rfl, e2, T.cl_Runs, T.n_Runs_rows, szF1 _ _, ?_⟩
    have e3 : (upd H2 p (.ins a.C_Runs dx (putF "rows" (.ref t) (putF "size" (.int n) [])))) p = some (.ins a.C_Runs dx (putF "rows" (.ref t) (putF "size" (.int n) []))) := upd_same
    have q3 : ∀ b o, H2 b = some o → b ≠ p → (upd H2 p (.ins a.C_Runs dx (putF "rows" (.ref t) (putF "size" (.int n) [])))) b = some o := fun b o e z => by
      rw [upd_ne z]
      exact e
    have et3 := q3 _ _ et (ne_of et e2 (by intro z; cases z))
    have hrs3 : PcsH (upd H2 p (.ins a.C_Runs dx (putF "rows" (.ref t) (putF "size" (.int n) [])))) rs' (oneF ps) := hrs.mono fun b o e ⟨xs, h⟩ => q3 b o e (ne_of e e2 (by rw [h]; intro z; cases z))
    generalize upd H2 p (.ins a.C_Runs dx (putF "rows" (.ref t) (putF "size" (.int n) []))) = H3 at e3 q3 et3 hrs3 ⊢
    have ol : (oneF ps).length ≤ 1000 := by
      have := fold_len ps []
      simp only [List.length_nil] at this
      show (ps.foldl addP []).length ≤ 1000
      omega
    -- self.way = way_of(size, self.rows)
    refine ⟨_, rfl, .ref p, rfl, p, a.C_Runs, dx, _, _, rfl, e3, T.cl_Runs, T.n_Runs_rows, rkP, n, t, rs', oneF ps, rfl, et3, hrs3, ol, fun H4 s4 => ?_⟩
    generalize hu : wayF n (oneF ps) = u
    have e4 := s4 _ _ e3
    refine ⟨.ref p, rfl, p, a.C_Runs, dx, _, rfl, e4, T.cl_Runs, T.n_Runs_way, szF2 _ _ _ _, ?_⟩
    have q5 : ∀ b o, H4 b = some o → b ≠ p → (upd H4 p (.ins a.C_Runs dx (putF "way" (.int u) (putF "rows" (.ref t) (putF "size" (.int n) []))))) b = some o := fun b o e z => by
      rw [upd_ne z]
      exact e
    refine k _ ⟨dx, _, t, rs', upd_same, ⟨rkN (rkN rkP ne2) ne3, ?_⟩, rkN rkP ne4, rkO (rkO (rkO rfl ne5.2.2) ne5.2.1) ne5.1, q5 _ _ (s4 _ _ et3) (ne_of (s4 _ _ et3) e4 (by intro z; cases z)), ?_⟩ fun b o e z => q5 b o (s4 _ _ (q3 b o (s2 _ _ (q1 b o e z)) z)) z
    · rw [hu]
      exact rkP
    exact (hrs3.same s4).mono fun b o e ⟨xs, h⟩ => q5 b o e (ne_of e e4 (by rw [h]; intro z; cases z))
end

theorem madeR {H : Hp} {x dx C : Addr} (hx : H x = none) (hd : H dx = none) (ne : dx ≠ x) : Same H (upd (upd H dx (.own x)) x (.ins C dx [])) ∧ (upd (upd H dx (.own x)) x (.ins C dx [])) x = some (.ins C dx []) :=
  ⟨(same_upd hd).trans (same_upd (by rw [upd_ne ne.symm]; exact hx)), upd_same⟩
def pcD (p : Pc) : PyData := .tuple [.int p.s, .int p.l, .int p.g, .int p.w]
def rsD (ps : List Pc) : PyData := .tuple (ps.map pcD)
theorem dp_pcs {K : PySem.W.Frag} {H : Hp} : ∀ {rs : List Addr} {ps : List Pc}, PcsH H rs ps → DpAll K H (rs.map V.ref) (ps.map pcD)
  | [], [], _ => .nil
  | _ :: _, _ :: _, h => .cons (.tup (SqT.at h.1) (.cons (.int _) (.cons (.int _) (.cons (.int _) (.cons (.int _) .nil))))) (dp_pcs h.2)
theorem shaped_rs (ps : List Pc) : SeqAt.shaped (rsD ps) = true := by
  have a1 : ∀ ps : List Pc, PyData.canLayAll0 (ps.map pcD) = true := fun ps => by
    induction ps with
    | nil => simp [PyData.canLayAll0]
    | cons p r ih => simp [pcD, PyData.canLay0, PyData.canLayAll0, ih]
  have a2 : ∀ ps : List Pc, PyData.depthAll (ps.map pcD) ≤ 2 := fun ps => by
    induction ps with
    | nil => simp [PyData.depthAll]
    | cons p r ih =>
      simp only [List.map_cons, PyData.depthAll, pcD, PyData.depth]
      omega
  unfold SeqAt.shaped rsD
  rw [Bool.and_eq_true, decide_eq_true_eq]
  refine ⟨by rw [PyData.canLay0]; exact a1 ps, ?_⟩
  have := a2 ps
  rw [PyData.depth]
  omega
theorem eqv_rs (ps qs : List Pc) : PyData.eqv (rsD ps) (rsD qs) = decide (ps = qs) := by
  have one : ∀ p q : Pc, PyData.eqv (pcD p) (pcD q) = decide (p = q) := fun p q => by
    have e : (p = q) = (p.s = q.s ∧ p.l = q.l ∧ p.g = q.g ∧ p.w = q.w) := propext ⟨fun h => by rw [h]; exact ⟨rfl, rfl, rfl, rfl⟩, fun ⟨h1, h2, h3, h4⟩ => by
      cases p
      cases q
      cases h1
      cases h2
      cases h3
      cases h4
      rfl⟩
    simp only [pcD, PyData.eqv, PyData.eqvAll, Bool.and_true, e, Bool.decide_and]
    rfl
  have all : ∀ ps qs : List Pc, PyData.eqvAll (ps.map pcD) (qs.map pcD) = decide (ps = qs) := fun ps => by
    induction ps with
    | nil =>
      intro qs
      cases qs <;> simp [PyData.eqvAll]
    | cons p r ih =>
      intro qs
      cases qs with
      | nil => simp [PyData.eqvAll]
      | cons q t =>
        simp only [List.map_cons, PyData.eqvAll, one, ih, List.cons.injEq, Bool.decide_and]
  unfold rsD
  rw [PyData.eqv]
  exact all ps qs
def fullP (k x y : Int) (ps : List Pc) : List Pc := ((⟨0, x, 0, 1⟩ : Pc) :: (ps ++ [(⟨y + 1, k - y - 1, y + 1, 1⟩ : Pc)])).filter fun p => decide (0 < p.l)
section
variable {P : Program} {w : World} {K : PySem.W.Frag} {mg : Str → Option Value} {base : Heap} {a : Ad}
def spRunsEq (C : Addr) : Sp := fun vs H Q _ => ∃ (p q : Addr) (n m : Int) (ps qs : List Pc), vs = [.ref p, .ref q] ∧ RunsAt C H p n ps ∧ RunsAt C H q m qs ∧ Q (.bl (decide (ps = qs))) H
theorem ok_Runs_eq (T : Tx w K mg a) : FnOk P w K mg base CX0 3 a.f_Runs_eq a.d_Runs_eq ["self", "other"] (spRunsEq a.C_Runs) := by
  refine T.F_Runs_eq.ok sc_Runs_eq (fun vs H Q E h => ?_) (fun cdv A outer s H vs Q E hr h => ?_)
  · obtain ⟨p, q, n, m, ps, qs, rfl, _⟩ := h
    rfl
  · obtain ⟨p, q, n, m, ps, qs, rfl, ⟨dx, fs, t, rs, p1, p2, p3, p4, p5, p6⟩, ⟨dy, gs, u, rq, q1, q2, q3, q4, q5, q6⟩, k⟩ := h
    refine ⟨_, 
(pss_one (ps_ret (pe_and (pe_callB call_isi (by rfl) T.z_isinstance (by decide +kernel) (pa_cons (pv 1) (pa_cons (pe_glob (v := .ref a.C_Runs) (by rfl) T.c_Runs rfl) pa_nil))) (pe_one (pe_cmpR (op_eqD hr.units) (pe_fld (pv 0) rfl) (pe_fld (pv 1) rfl) (nomark _)))))), ?_⟩
    refine ⟨.ref q, rfl, .ref q, .ref a.C_Runs, .ref a.C_Runs, .ref a.C_Runs, true, rfl, .own _, .base (.ins q1 T.cl_Runs T.ow_Runs.cls T.ow_Runs.get T.ow_Runs.tak T.ow_Runs.mro), ?_, ?_⟩
    · unfold PySem.W.kitOne
      rw [if_pos (by simp)]
    refine ⟨true, rfl, iteT ⟨.ref p, rfl, p, a.C_Runs, dx, _, _, rfl, p1, T.cl_Runs, T.n_Runs_rows, p3, .ref q, rfl, q, a.C_Runs, dy, _, _, rfl, q1, T.cl_Runs, T.n_Runs_rows, q3, ?_⟩⟩
    refine ⟨rsD ps, rsD qs, .tup (SqT.at p5) (dp_pcs p6), .tup (SqT.at q5) (dp_pcs q6), shaped_rs ps, shaped_rs qs, ?_⟩
    rw [eqv_rs]
    exact k
def spRunsAt (C CP : Addr) : Sp := fun vs H Q E => ∃ (p : Addr) (n : Int) (y : V) (ib : Bool) (ps : List Pc), vs = [.ref p, y] ∧ RunsAt C H p n ps ∧ IsI H y ib ∧ ps.length ≤ 1000 ∧
  ((∃ j : Int, y = .int j ∧ Chain 0 n ps ∧ 0 ≤ j ∧ j < n ∧ Q (.int (valP ps j)) H) ∨ (btM 0 (n - 1) y = false ∧ ∀ H' d, Same H H' → H' d = some (.xd [("place", y)]) → E (.ref CP) (some d) H'))
theorem ok_Runs_at (T : Tx w K mg a) : FnOk P w K mg base (L2.CX P w) 3 a.f_Runs_at a.d_Runs_at ["self", "j"] (spRunsAt a.C_Runs a.C_BadPlace) := by
  refine T.F_Runs_at.okX sc_Runs_at (fun vs H Q E h => ?_) (fun cdv A outer s H vs Q E hr h => ?_)
  · obtain ⟨p, n, y, ib, ps, rfl, _⟩ := h
    rfl
  · obtain ⟨p, n, y, ib, ps, rfl, ⟨dx, fs, t, rs, p1, p2, p3, p4, p5, p6⟩, hI, hl, h⟩ := h
    refine ⟨_, 
(pss_cons (ps_if (pt_not (pt_val (pe_call (ok_is_between T) hr (by rfl) T.m_is_between T.F_is_between.kp T.b_is_between .nil pass0 (pa_cons (pv 1) (pa_cons pe_int (pa_cons (pe_op op_sub (pe_fld (pv 0) rfl) pe_int) pa_nil))))))
  (pss_one (ps_raise rfl (takes_of rfl rfl rfl rfl) (pmk_oex T.ox_BadPlace.o T.ox_BadPlace.ini T.ox_BadPlace.tin (ok_BadPlace_init T) hr T.b_BadPlace_init .nil pass0 (by rfl) T.c_BadPlace (pa_cons (pv 1) pa_nil))))
  pss_nil)
  (pss_one (ps_ret (pe_call (ok_goal_of T) (hr.mono (by decide)) (by rfl) T.m_goal_of T.F_goal_of.kp T.b_goal_of .nil pass0 (pa_cons (pe_ix ix_tup (pe_fld (pv 0) rfl) (pe_call (ok_index_of_run T) (hr.mono (by decide)) (by rfl) T.m_index_of_run T.F_index_of_run.kp T.b_index_of_run .nil pass0 (pa_cons (pe_fld (pv 0) rfl) (pa_cons (pv 1) pa_nil))) (fun _ _ => rfl)) (pa_cons (pv 1) pa_nil)))))), ?_⟩
    refine ⟨_, rfl, .ref p, rfl, p, a.C_Runs, dx, _, _, rfl, p1, T.cl_Runs, T.n_Runs_size, p2.1, _, 1, rfl, rfl, y, ib, 0, n - 1, rfl, hI, _, rfl, ?_⟩
    rcases h with ⟨j, rfl, hc, j0, jn, k⟩ | ⟨hb, hE⟩
    rotate_left
    · rw [hb]
      exact iteT ⟨_, rfl, (by decide : 1 ≤ 1000), err_end (Same.refl H) hE⟩
    rw [show btM 0 (n - 1) (.int j) = true from by simp only [btM, Bool.and_eq_true, decide_eq_true_eq]; omega]
    refine ⟨.ref p, rfl, p, a.C_Runs, dx, _, _, rfl, p1, T.cl_Runs, T.n_Runs_rows, p3, .ref p, rfl, p, a.C_Runs, dx, _, _, rfl, p1, T.cl_Runs, T.n_Runs_rows, p3, _, rfl, t, rs, ps, n, j, rfl, p5, p6, hc, j0, jn, by omega, fun i q hq h1 h2 => ?_⟩
    obtain ⟨r, hr1, hr2⟩ := p6.get hq
    have g : atI (rs.map V.ref) ((i : Nat) : Int) = some (.ref r) := atI_nat (by rw [List.getElem?_map, hr1]; rfl)
    refine ⟨t, rs.map V.ref, (i : Int), .ref r, rfl, rfl, SqT.at p5, g, _, rfl, r, q, j, rfl, hr2, chain_way hc hq, ?_⟩
    rw [val_at hc hq h1 h2 jn] at k
    exact k
end

/-! ### the next piece of a chain -/
theorem chain_next : ∀ {r : List Pc} {lo hi : Int}, Chain lo hi r → ∀ {i : Nat} {q : Pc}, r[i]? = some q → q.s + q.l < hi → ∃ q', r[i + 1]? = some q' ∧ q'.s = q.s + q.l
  | p :: r, lo, hi, ⟨h1, h2, h3, h4⟩, 0, q, e, h => by
    cases e
    cases r with
    | nil =>
      have h4 : lo + p.l = hi := h4
      omega
    | cons x t => exact ⟨x, rfl, by rw [h4.1]; omega⟩
  | p :: r, lo, hi, ⟨h1, h2, h3, h4⟩, i + 1, q, e, h => chain_next h4 (i := i) (by simpa using e) h
theorem chain_prev : ∀ {r : List Pc} {lo hi : Int}, Chain lo hi r → ∀ {i : Nat} {q : Pc}, r[i]? = some q → lo < q.s → ∃ i' q', i = i' + 1 ∧ r[i']? = some q' ∧ q'.s + q'.l = q.s
  | p :: r, lo, hi, ⟨h1, h2, h3, h4⟩, 0, q, e, h => by
    cases e
    omega
  | p :: r, lo, hi, ⟨h1, h2, h3, h4⟩, i + 1, q, e, h => by
    have e : r[i]? = some q := by simpa using e
    cases i with
    | zero =>
      refine ⟨0, p, rfl, rfl, ?_⟩
      cases r with
      | nil => cases e
      | cons x t =>
        cases e
        rw [h4.1, h1]
    | succ i =>
      have g : lo + p.l < q.s := by
        have c := chain_sorted h4 (i := 0) (k := i + 1) (p := r[0]'(by
          have := (List.getElem?_eq_some_iff.mp e).1
          omega)) (q := q) (List.getElem?_eq_getElem _) e (by omega)
        have m := chain_mem h4 (List.getElem_mem (l := r) (n := 0) (by
          have := (List.getElem?_eq_some_iff.mp e).1
          omega))
        omega
      obtain ⟨i', q', ei, a, b⟩ := chain_prev h4 (i := i + 1) e g
      exact ⟨i' + 1, q', by omega, by simpa using a, b⟩
theorem chain_at {r : List Pc} {lo hi : Int} (h : Chain lo hi r) {i : Nat} {q : Pc} {j : Int} (e : r[i]? = some q) (h1 : q.s ≤ j) (h2 : ∀ x, r[i + 1]? = some x → j < x.s) (h3 : j < hi) : j < q.s + q.l := by
  refine Decidable.byContradiction fun c => ?_
  obtain ⟨x, hx, ex⟩ := chain_next h e (by omega)
  have := h2 x hx
  omega
/-- one step of what is led on: at place g of the piece q, in the way v, left places -/
def manyF (q : Pc) (g v left : Int) : Int := min (if v = 1 then q.s + q.l - g else g - q.s + 1) left
theorem many_ok {q : Pc} {g v left : Int} (h1 : q.s ≤ g) (h2 : g < q.s + q.l) (hl : 1 ≤ left) (hv : v = 1 ∨ v = -1) : 1 ≤ manyF q g v left ∧ manyF q g v left ≤ left ∧ (v = 1 → g + manyF q g v left ≤ q.s + q.l) ∧ (v = -1 → q.s ≤ g - manyF q g v left + 1) ∧
    (manyF q g v left < left → (v = 1 → g + manyF q g v left = q.s + q.l) ∧ (v = -1 → g - manyF q g v left + 1 = q.s)) := by
  unfold manyF
  rcases hv with rfl | rfl
  · rw [if_pos rfl]
    omega
  · rw [if_neg (by decide)]
    omega
/-- what has been led on of the piece p, d places -/
structure LedTo (ps : List Pc) (p : Pc) (d : Int) (qs : List Pc) : Prop where
  d0 : 0 ≤ d
  d1 : d ≤ p.l
  ch : Chain p.s (p.s + d) qs
  val : ∀ j, p.s ≤ j → j < p.s + d → valP qs j = valP ps (p.g + p.w * (j - p.s))
theorem led_step {n : Int} {ps qs : List Pc} {p q : Pc} {d : Int} {i : Nat} (hc : Chain 0 n ps) (hw : p.w = 1 ∨ p.w = -1) (h : LedTo ps p d qs) (hd : d < p.l) (hq : ps[i]? = some q) (g1 : q.s ≤ p.g + p.w * d) (g2 : p.g + p.w * d < q.s + q.l) :
    LedTo ps p (d + manyF q (p.g + p.w * d) p.w (p.l - d)) (qs ++ [⟨p.s + d, manyF q (p.g + p.w * d) p.w (p.l - d), q.g + q.w * (p.g + p.w * d - q.s), p.w * q.w⟩]) := by
  obtain ⟨m1, m2, m3, m4, m5⟩ := many_ok g1 g2 (show 1 ≤ p.l - d by omega) hw
  generalize manyF q (p.g + p.w * d) p.w (p.l - d) = m at m1 m2 m3 m4 m5 ⊢
  have qw := chain_way hc hq
  have qm := List.mem_of_getElem? hq
  have one : Chain (p.s + d) (p.s + d + m) [(⟨p.s + d, m, q.g + q.w * (p.g + p.w * d - q.s), p.w * q.w⟩ : Pc)] := ⟨rfl, m1, by
    show p.w * q.w = 1 ∨ p.w * q.w = -1
    rcases hw with a | a <;> rcases qw with b | b <;> rw [a, b] <;> decide, rfl⟩
  have hd0 := h.d0
  refine ⟨by omega, by omega, ?_, fun j j0 j1 => ?_⟩
  · rw [← Int.add_assoc]
    exact h.ch.append one
  · by_cases c : j < p.s + d
    · rw [val_left h.ch c j0]
      exact h.val j j0 c
    · rw [val_right h.ch (by omega), val_head (r := []) (by show j < p.s + d + m; omega)]
      show q.g + q.w * (p.g + p.w * d - q.s) + p.w * q.w * (j - (p.s + d)) = _
      obtain ⟨t, rfl⟩ : ∃ t, j = p.s + d + t := ⟨j - (p.s + d), by omega⟩
      rw [show p.s + d + t - (p.s + d) = t by omega, show p.s + d + t - p.s = d + t by omega]
      have inq : q.s ≤ p.g + p.w * (d + t) ∧ p.g + p.w * (d + t) < q.s + q.l := by
        rcases hw with a | a
        · have := m3 a
          rw [a] at this g1 g2 ⊢
          omega
        · have := m4 a
          rw [a] at this g1 g2 ⊢
          omega
      rw [val_mem hc qm inq.1 inq.2]
      rw [show p.g + p.w * (d + t) - q.s = (p.g + p.w * d - q.s) + p.w * t by rw [Int.mul_add]; omega, Int.mul_add, ← Int.mul_assoc, Int.mul_comm q.w p.w]
      omega
/-- where what is led on stands: in a run, so many pieces made -/
structure LedIn (ps : List Pc) (p : Pc) (d : Int) (m : Nat) (i : Nat) (q : Pc) : Prop where
  at' : ps[i]? = some q
  g1 : q.s ≤ p.g + p.w * d
  g2 : p.g + p.w * d < q.s + q.l
  few : (p.w = 1 → m ≤ cntS ps (tbP p).s (p.g + d)) ∧ (p.w = -1 → m ≤ cntS ps (p.g - d) ((tbP p).s + (tbP p).l - 1))
theorem led_next {n : Int} {ps : List Pc} {p q : Pc} {d : Int} {i m : Nat} (hc : Chain 0 n ps) (hw : p.w = 1 ∨ p.w = -1) (h0 : 0 ≤ (tbP p).s) (h1 : (tbP p).s + (tbP p).l ≤ n) (hd0 : 0 ≤ d) (hd : d < p.l) (h : LedIn ps p d m i q) :
    (d + manyF q (p.g + p.w * d) p.w (p.l - d) < p.l → ∃ (i' : Nat) (q' : Pc), (i' : Int) = (i : Int) + p.w ∧ LedIn ps p (d + manyF q (p.g + p.w * d) p.w (p.l - d)) (m + 1) i' q') ∧ m ≤ cntS ps (tbP p).s ((tbP p).s + (tbP p).l - 1) := by
  obtain ⟨hq, g1, g2, few⟩ := h
  obtain ⟨m1, m2, m3, m4, m5⟩ := many_ok g1 g2 (show 1 ≤ p.l - d by omega) hw
  generalize manyF q (p.g + p.w * d) p.w (p.l - d) = mm at m1 m2 m3 m4 m5 ⊢
  have tl := tb_l p
  rcases hw with a | a
  · have ts : (tbP p).s = p.g := by rw [tb1 a]
    have few := few.1 a
    rw [a] at g1 g2 m5
    refine ⟨fun hm => ?_, Nat.le_trans few (cnt_le ps (Int.le_refl _) (by omega))⟩
    have e := (m5 (by omega)).1 rfl
    obtain ⟨q', hq', es⟩ := chain_next hc hq (by omega)
    have qm := List.mem_of_getElem? hq'
    have ql := (chain_mem hc qm).2.1
    refine ⟨i + 1, q', by rw [a]; omega, ⟨hq', by rw [a]; omega, by rw [a]; omega, fun _ => ?_, fun z => by omega⟩⟩
    exact Nat.le_trans (Nat.succ_le_succ few) (cnt_more qm (Int.le_refl _) (by omega) (by omega) (by omega))
  · have ts : (tbP p).s = p.g - p.l + 1 := by rw [tb2 a]
    have few := few.2 a
    rw [a] at g1 g2 m5
    refine ⟨fun hm => ?_, Nat.le_trans few (cnt_le ps (by omega) (Int.le_refl _))⟩
    have e := (m5 (by omega)).2 rfl
    obtain ⟨i', q', rfl, hq', es⟩ := chain_prev hc hq (by omega)
    have ql := (chain_mem hc (List.mem_of_getElem? hq')).2.1
    have qm := List.mem_of_getElem? hq
    refine ⟨i', q', by rw [a]; omega, ⟨hq', by rw [a]; omega, by rw [a]; omega, fun z => by omega, fun _ => ?_⟩⟩
    exact Nat.le_trans (Nat.succ_le_succ few) (cnt_more qm (by omega) (Int.le_refl _) (by omega) (by omega))
theorem cnt_len : ∀ (ps : List Pc) (lo hi : Int), cntS ps lo hi ≤ ps.length
  | [], _, _ => Nat.le_refl _
  | p :: r, lo, hi => by
    have := cnt_len r lo hi
    show (if lo < p.s ∧ p.s ≤ hi then 1 else 0) + cntS r lo hi ≤ r.length + 1
    split <;> omega

section
variable {P : Program} {w : World} {K : PySem.W.Frag} {mg : Str → Option Value} {base : Heap} {a : Ad}
def spLedOn : Sp := fun vs H Q _ => ∃ (t r : Addr) (rs : List Addr) (ps : List Pc) (p : Pc) (n : Int), vs = [.ref t, .ref r] ∧ H t = some (.tup (rs.map V.ref)) ∧ PcsH H rs ps ∧ Chain 0 n ps ∧ H r = some (.tup (pcV p)) ∧ 1 ≤ p.l ∧ (p.w = 1 ∨ p.w = -1) ∧ 0 ≤ (tbP p).s ∧ (tbP p).s + (tbP p).l ≤ n ∧ ps.length ≤ 1000 ∧
  ∀ L us qs H', H L = none → H' L = some (.lst (us.map V.ref)) → PcsH H' us qs → Led ps p qs → Same H H' → Q (.ref L) H'
theorem ok_led_on (T : Tx w K mg a) : FnOk P w K mg base CX0 2 a.f_led_on a.d_led_on ["rows", "run"] spLedOn := by
  refine T.F_led_on.ok sc_led_on (fun vs H Q E h => ?_) (fun cdv A outer s H vs Q E hr h => ?_)
  · obtain ⟨t, r, rs, ps, p, n, rfl, _⟩ := h
    rfl
  · obtain ⟨t, r, rs, ps, p, n, rfl, ht, hps, hc, hr0, pl, pw, b0, b1, hl, k⟩ := h
    refine ⟨_, 
(pss_cons (ps_asg (pv 1) (pg_tup rfl (pgs_cons (pg_name (i := 2) sc_led_on.nd rfl (.inl rfl)) (pgs_cons (pg_name (i := 3) sc_led_on.nd rfl (.inl rfl)) (pgs_cons (pg_name (i := 4) sc_led_on.nd rfl (.inl rfl)) (pgs_cons (pg_name (i := 5) sc_led_on.nd rfl (.inl rfl)) pgs_nil))))))
  (pss_cons (ps_set (i := 6) sc_led_on.nd rfl (.inl rfl) (pe_lst pa_nil))
  (pss_cons (ps_set (i := 7) sc_led_on.nd rfl (.inl rfl) (pe_call (ok_index_of_run T) hr (by rfl) T.m_index_of_run T.F_index_of_run.kp T.b_index_of_run .nil pass0 (pa_cons (pv 0) (pa_cons (pv 4) pa_nil))))
  (pss_cons (ps_while PassesOwn.never (pt_cmpR op_gt (pv 3) pe_int (nomark _))
  (pss_cons (ps_set (i := 8) sc_led_on.nd rfl (.inl rfl) (pe_ix ix_tup (pv 0) (pv 7) (fun _ _ => rfl)))
  (C8.pss_cut (ps_set (i := 9) sc_led_on.nd rfl (.inl rfl) (pe_ifExp (pt_cmpR op_eq (pv 5) pe_int (nomark _)) (pe_op op_sub (pe_op op_add (pe_ix ix_tup (pv 8) pe_int (fun _ _ => rfl)) (pe_ix ix_tup (pv 8) pe_int (fun _ _ => rfl))) (pv 4)) (pe_op op_add (pe_op op_sub (pv 4) (pe_ix ix_tup (pv 8) pe_int (fun _ _ => rfl))) pe_int)))
  (pss_cons (ps_set (i := 9) sc_led_on.nd rfl (.inl rfl) (pe_callB (call_min2 rfl) (by rfl) T.z_min (by decide +kernel) (pa_cons (pv 9) (pa_cons (pv 3) pa_nil))))
  (pss_cons (ps_expr (pe_bm PySem.F.plainAttrs_list PySem.F.slot_list_append PySem.F.type_list_append mt_append (pv 6) (pa_cons (pe_tup (pa_cons (pv 2) (pa_cons (pv 9) (pa_cons (pe_call (ok_goal_of T) hr (by rfl) T.m_goal_of T.F_goal_of.kp T.b_goal_of .nil pass0 (pa_cons (pv 8) (pa_cons (pv 4) pa_nil))) (pa_cons (pe_op op_mul (pv 5) (pe_ix ix_tup (pv 8) pe_int (fun _ _ => rfl))) pa_nil))))) pa_nil)))
  (pss_cons (ps_set (i := 2) sc_led_on.nd rfl (.inl rfl) (pe_op op_add (pv 2) (pv 9)))
  (pss_cons (ps_set (i := 4) sc_led_on.nd rfl (.inl rfl) (pe_op op_add (pv 4) (pe_op op_mul (pv 5) (pv 9))))
  (pss_cons (ps_set (i := 3) sc_led_on.nd rfl (.inl rfl) (pe_op op_sub (pv 3) (pv 9)))
  (pss_one (ps_set (i := 7) sc_led_on.nd rfl (.inl rfl) (pe_op op_add (pv 7) (pv 5))))))))))))
  (pss_one (ps_ret (pv 6))))))), ?_⟩
    -- start, left, goal, way = run
    refine ⟨_, rfl, r, pcV p, rfl, SqT.at hr0, rfl, .int p.s, [.int p.l, .int p.g, .int p.w], rfl, .int p.l, [.int p.g, .int p.w], rfl, .int p.g, [.int p.w], rfl, .int p.w, [], rfl, rfl, ?_⟩
    -- pieces = []
    refine ⟨sz (show 0 ≤ 100000 by decide), fun L nL => ?_⟩
    have s1 := same_upd (o := .lst []) nL
    have eL : (upd H L (.lst [])) L = some (.lst []) := upd_same
    change gName _ (V.ref L) _ (upd H L (.lst [])) _
    generalize upd H L (.lst []) = H1 at s1 eL ⊢
    have gl : 0 ≤ p.g ∧ p.g < n := by
      have tl := tb_l p
      rcases pw with e | e
      · rw [tb1 e] at b0 b1 tl
        dsimp only at b0 b1 tl
        omega
      · rw [tb2 e] at b0 b1 tl
        dsimp only at b0 b1 tl
        omega
    -- index = index_of_run(rows, goal)
    refine ⟨_, rfl, _, rfl, t, rs, ps, n, p.g, rfl, s1 _ _ ht, hps.same s1, hc, gl.1, gl.2, by omega, fun i q hq h1 h2 => ?_⟩
    have g2 := chain_at hc hq h1 h2 gl.2
    have ld0 : LedTo ps p 0 [] := ⟨Int.le_refl _, by omega, by show p.s = p.s + 0; omega, fun j _ _ => by omega⟩
    have li0 : LedIn ps p 0 0 i q := ⟨hq, by rw [Int.mul_zero]; omega, by rw [Int.mul_zero]; omega, fun _ => Nat.zero_le _, fun _ => Nat.zero_le _⟩
    -- while left > 0
    refine ⟨fun m σ H' => ∃ (d : Int) (ix : Int) (y8 y9 : Option V) (us : List Addr) (qs : List Pc), σ = [some (.ref t), some (.ref r), some (.int (p.s + d)), some (.int (p.l - d)), some (.int (p.g + p.w * d)), some (.int p.w), some (.ref L), some (.int ix), y8, y9] ∧ m = (p.l - d).toNat ∧ Same H H' ∧ H' L = some (.lst (us.map V.ref)) ∧ PcsH H' us qs ∧ LedTo ps p d qs ∧ (d < p.l → ∃ (i : Nat) (q : Pc), ix = i ∧ LedIn ps p d qs.length i q) ∧ qs.length ≤ 1 + cntS ps (tbP p).s ((tbP p).s + (tbP p).l - 1), ⟨_, 0, (i : Int), none, none, [], [], ?_, rfl, s1, eL, trivial, ld0, fun _ => ⟨i, q, rfl, li0⟩, Nat.zero_le _⟩, ?_⟩
    · rw [Int.add_zero, Int.sub_zero, Int.mul_zero, Int.add_zero]
      rfl
    rintro m σ H2 ⟨d, ix, y8, y9, us, qs, rfl, rfl, sm, eu, hu, ld, lin, few⟩
    refine ⟨_, rfl, _, 0, rfl, rfl, _, rfl, ?_⟩
    by_cases c : 0 < p.l - d
    rotate_left
    · rw [decide_eq_false c]
      have d1 := ld.d1
      have e : d = p.l := by omega
      subst e
      exact iteF ⟨_, rfl, k L us qs H2 nL eu hu ⟨ld.ch, ld.val, few⟩ sm⟩
    rw [decide_eq_true c]
    obtain ⟨i, q, rfl, li⟩ := lin (by omega)
    obtain ⟨nx, fw⟩ := led_next hc pw b0 b1 ld.d0 (by omega) li
    have ls := led_step hc pw ld (by omega) li.at' li.g1 li.g2
    obtain ⟨m1, m2, m3, m4, m5⟩ := many_ok li.g1 li.g2 (show 1 ≤ p.l - d by omega) pw
    refine iteT ⟨fun σ' H'' => ∃ m', m' < (p.l - d).toNat ∧ ∃ (d : Int) (ix : Int) (y8 y9 : Option V) (us : List Addr) (qs : List Pc), σ' = [some (.ref t), some (.ref r), some (.int (p.s + d)), some (.int (p.l - d)), some (.int (p.g + p.w * d)), some (.int p.w), some (.ref L), some (.int ix), y8, y9] ∧ m' = (p.l - d).toNat ∧ Same H H'' ∧ H'' L = some (.lst (us.map V.ref)) ∧ PcsH H'' us qs ∧ LedTo ps p d qs ∧ (d < p.l → ∃ (i : Nat) (q : Pc), ix = i ∧ LedIn ps p d qs.length i q) ∧ qs.length ≤ 1 + cntS ps (tbP p).s ((tbP p).s + (tbP p).l - 1), fun _ _ h => h, ?_⟩
    -- told = rows[index]
    obtain ⟨rq, hr1, hr2⟩ := hps.get li.at'
    have g : atI (rs.map V.ref) ((i : Nat) : Int) = some (.ref rq) := atI_nat (by rw [List.getElem?_map, hr1]; rfl)
    have hr3 := sm _ _ hr2
    have qw := chain_way hc li.at'
    have cm : ∀ z : Int, CMul p.w z := fun z => .inl (by rcases pw with h | h <;> rw [h] <;> decide)
    have cq : ∀ z : Int, CMul q.w z := fun z => .inl (by rcases qw with h | h <;> rw [h] <;> decide)
    refine ⟨_, rfl, _, rfl, t, rs.map V.ref, (i : Int), .ref rq, rfl, rfl, SqT.at (sm _ _ ht), g, ?_⟩
    -- many = told[0] + told[1] - goal if way == 1 else goal - told[0] + 1
    refine ⟨fun σ' H' => σ' = [some (.ref t), some (.ref r), some (.int (p.s + d)), some (.int (p.l - d)), some (.int (p.g + p.w * d)), some (.int p.w), some (.ref L), some (.int (i : Int)), some (.ref rq), some (.int (if p.w = 1 then q.s + q.l - (p.g + p.w * d) else p.g + p.w * d - q.s + 1))] ∧ H' = H2, ?_, ?_⟩
    · refine ⟨_, rfl, rfl, _, rfl, ?_⟩
      rcases pw with e | e
      · rw [decide_eq_true (show V.int p.w = V.int 1 by rw [e]), if_pos e]
        exact iteT ⟨_, rfl, rq, pcV q, 0, _, rfl, rfl, SqT.at hr3, rfl, _, rfl, rq, pcV q, 1, _, rfl, rfl, SqT.at hr3, rfl, _, _, rfl, rfl, _, rfl, _, _, rfl, rfl, rfl, rfl⟩
      · have ne : ¬ p.w = 1 := by omega
        rw [decide_eq_false (show ¬ V.int p.w = V.int 1 from fun z => ne (V.int.inj z)), if_neg ne]
        exact iteF ⟨_, rfl, _, rfl, rq, pcV q, 0, _, rfl, rfl, SqT.at hr3, rfl, _, _, rfl, rfl, _, 1, rfl, rfl, rfl, rfl⟩
    rintro σ' H' ⟨rfl, rfl⟩
    -- many = min(many, left)
    refine ⟨_, rfl, _, rfl, _, _, rfl, ?_⟩
    have em : (if p.l - d < (if p.w = 1 then q.s + q.l - (p.g + p.w * d) else p.g + p.w * d - q.s + 1) then p.l - d else (if p.w = 1 then q.s + q.l - (p.g + p.w * d) else p.g + p.w * d - q.s + 1)) = manyF q (p.g + p.w * d) p.w (p.l - d) := by
      unfold manyF
      split <;> omega
    rw [em]
    generalize manyF q (p.g + p.w * d) p.w (p.l - d) = mm at nx ls m1 m2 m3 m4 m5 ⊢
    -- pieces.append((start, many, goal_of(told, goal), way * told[3]))
    refine ⟨_, rfl, .inl ⟨rfl, _, SqL.at eu⟩, _, rfl, _, rfl, _, rfl, _, rfl, rq, q, _, rfl, hr3, qw, _, rfl, _, rfl, rq, pcV q, 3, _, rfl, rfl, SqT.at hr3, rfl, _, _, rfl, rfl, cm _, sz (show 4 ≤ 100000 by decide), fun nt nnt => ?_⟩
    have s3 := same_upd (o := .tup (pcV ⟨p.s + d, mm, q.g + q.w * (p.g + p.w * d - q.s), p.w * q.w⟩)) nnt
    have ent : (upd H' nt (.tup (pcV ⟨p.s + d, mm, q.g + q.w * (p.g + p.w * d - q.s), p.w * q.w⟩))) nt = some (.tup (pcV ⟨p.s + d, mm, q.g + q.w * (p.g + p.w * d - q.s), p.w * q.w⟩)) := upd_same
    have ul := hu.len
    have ql2 : qs.length ≤ 1 + cntS ps (tbP p).s ((tbP p).s + (tbP p).l - 1) := few
    have cl := cnt_len ps (tbP p).s ((tbP p).s + (tbP p).l - 1)
    refine ⟨L, us.map V.ref, .ref nt, rfl, rfl, s3 _ _ eu, szlt (by rw [List.length_map]; omega), ?_⟩
    change tSeq _ _ _ _ (upd (upd H' nt (.tup (pcV ⟨p.s + d, mm, q.g + q.w * (p.g + p.w * d - q.s), p.w * q.w⟩))) L (.lst (us.map V.ref ++ [V.ref nt])))
    generalize upd H' nt (.tup (pcV ⟨p.s + d, mm, q.g + q.w * (p.g + p.w * d - q.s), p.w * q.w⟩)) = H3 at s3 ent ⊢
    have eu3 := s3 _ _ eu
    have nL3 : ∀ b xs, H3 b = some (.tup xs) → b ≠ L := fun b xs e z => by
      rw [z, eu3] at e
      cases e
    refine ⟨_, rfl, _, rfl, _, _, rfl, rfl, _, rfl, _, rfl, _, rfl, _, _, rfl, rfl, cm _, _, _, rfl, rfl, _, rfl, _, rfl, _, _, rfl, rfl, _, rfl, _, rfl, _, _, rfl, rfl, ?_⟩
    have e1 : p.s + d + mm = p.s + (d + mm) := by omega
    have e2 : p.l - d - mm = p.l - (d + mm) := by omega
    have e3 : p.g + p.w * d + p.w * mm = p.g + p.w * (d + mm) := by
      rw [Int.mul_add]
      omega
    refine ⟨_, by omega, d + mm, (i : Int) + p.w, some (.ref rq), some (.int mm), us ++ [nt], _, ?_, rfl, keep_upd (sm.trans s3) nL, ?_, ?_, ls, fun hm => ?_, ?_⟩
    · rw [← e1, ← e2, ← e3]
      rfl
    · rw [upd_same, List.map_append]
      rfl
    · refine PcsH.snoc ?_ ((hu.same s3).mono fun b o e ⟨xs, h⟩ => ?_)
      · rw [upd_ne (nL3 _ _ ent)]
        exact ent
      · subst h
        rw [upd_ne (nL3 _ _ e)]
        exact e
    · obtain ⟨i', q', ei, li'⟩ := nx (by omega)
      rw [List.length_append]
      exact ⟨i', q', ei.symm, li'⟩
    · rw [List.length_append]
      show qs.length + 1 ≤ _
      omega
end

theorem PcsH.append {H : Hp} : ∀ {us : List Addr} {ps : List Pc} {vs : List Addr} {qs : List Pc}, PcsH H us ps → PcsH H vs qs → PcsH H (us ++ vs) (ps ++ qs)
  | [], [], _, _, _, k => k
  | _ :: _, _ :: _, _, _, h, k => ⟨h.1, PcsH.append h.2 k⟩
theorem PcsH.take {H : Hp} : ∀ (i : Nat) {us : List Addr} {ps : List Pc}, PcsH H us ps → PcsH H (us.take i) (ps.take i)
  | 0, _, _, _ => trivial
  | i + 1, [], [], _ => trivial
  | i + 1, _ :: _, _ :: _, h => ⟨h.1, h.2.take i⟩
theorem PcsH.memE {H : Hp} : ∀ {us : List Addr} {qs : List Pc}, PcsH H us qs → ∀ e ∈ us.zip qs, H e.1 = some (.tup (pcV e.2))
  | [], [], _, e, he => nomatch he
  | u :: us, q :: qs, h, e, he => by
    rw [List.zip_cons_cons] at he
    rcases List.mem_cons.mp he with rfl | he
    · exact h.1
    · exact h.2.memE e he
theorem PcsH.ofE {H : Hp} : ∀ {L : List (Addr × Pc)}, (∀ e ∈ L, H e.1 = some (.tup (pcV e.2))) → PcsH H (L.map (·.1)) (L.map (·.2))
  | [], _ => trivial
  | e :: r, h => ⟨h e (.head _), PcsH.ofE fun x hx => h x (.tail _ hx)⟩
theorem map_zip1 : ∀ {us : List Addr} {qs : List Pc}, us.length = qs.length → (us.zip qs).map (·.1) = us
  | [], [], _ => rfl
  | u :: us, q :: qs, h => by
    rw [List.zip_cons_cons, List.map_cons, map_zip1 (Nat.succ.inj h)]
theorem map_zip2 : ∀ {us : List Addr} {qs : List Pc}, us.length = qs.length → (us.zip qs).map (·.2) = qs
  | [], [], _ => rfl
  | u :: us, q :: qs, h => by
    rw [List.zip_cons_cons, List.map_cons, map_zip2 (Nat.succ.inj h)]
theorem pair_mem {R : Pc → Pc → Prop} : ∀ {r : List Pc}, r.Pairwise R → ∀ {p q : Pc}, p ∈ r → q ∈ r → p = q ∨ R p q ∨ R q p
  | a :: r, h, p, q, hp, hq => by
    obtain ⟨h1, h2⟩ := List.pairwise_cons.mp h
    rcases List.mem_cons.mp hp with e1 | hp'
    · rcases List.mem_cons.mp hq with e2 | hq'
      · exact .inl (e1.trans e2.symm)
      · exact .inr (.inl (by rw [e1]; exact h1 q hq'))
    · rcases List.mem_cons.mp hq with e2 | hq'
      · exact .inr (.inr (by rw [e2]; exact h1 p hp'))
      · exact pair_mem h2 hp' hq'
/-- the starts of what is taken back are unlike -/
theorem tb_start {n : Int} {ps : List Pc} (r : Rea n ps) {p q : Pc} (hp : p ∈ ps) (hq : q ∈ ps) (e : (tbP p).s = (tbP q).s) : p = q := by
  have l1 := (tb_in r hp).2.1
  have l2 := (tb_in r hq).2.1
  rcases pair_mem (chain_pair r.ch) hp hq with h | h | h
  · exact h
  · have := tb_apart r hp hq h
    omega
  · have := tb_apart r hq hp h
    omega
theorem fold_le1000 {ps : List Pc} {m : Nat} (h : ps.length ≤ m) : (oneF ps).length ≤ m := by
  have := fold_len ps []
  simp only [List.length_nil] at this
  show (ps.foldl addP []).length ≤ m
  omega
section
variable {P : Program} {w : World} {K : PySem.W.Frag} {mg : Str → Option Value} {base : Heap} {a : Ad}
def spTakenBack : Sp := fun vs H Q _ => ∃ (r : Addr) (p : Pc), vs = [.ref r] ∧ H r = some (.tup (pcV p)) ∧ (p.w = 1 ∨ p.w = -1) ∧ ∀ t, H t = none → Q (.ref t) (upd H t (.tup (pcV (tbP p))))
theorem ok_taken_back (T : Tx w K mg a) : FnOk P w K mg base CX0 1 a.f_taken_back a.d_taken_back ["run"] spTakenBack := by
  refine T.F_taken_back.ok sc_taken_back (fun vs H Q E h => ?_) (fun cdv A outer s H vs Q E hr h => ?_)
  · obtain ⟨r, p, rfl, _⟩ := h
    rfl
  · obtain ⟨r, p, rfl, hr0, pw, k⟩ := h
    refine ⟨_, 
(pss_cons (ps_asg (pv 0) (pg_tup rfl (pgs_cons (pg_name (i := 1) sc_taken_back.nd rfl (.inl rfl)) (pgs_cons (pg_name (i := 2) sc_taken_back.nd rfl (.inl rfl)) (pgs_cons (pg_name (i := 3) sc_taken_back.nd rfl (.inl rfl)) (pgs_cons (pg_name (i := 4) sc_taken_back.nd rfl (.inl rfl)) pgs_nil))))))
  (pss_cons (ps_if (pt_cmpR op_eq (pv 4) pe_int (nomark _))
  (pss_one (ps_ret (pe_tup (pa_cons (pv 3) (pa_cons (pv 2) (pa_cons (pv 1) (pa_cons pe_int pa_nil)))))))
  pss_nil)
  (pss_one (ps_ret (pe_tup (pa_cons (pe_op op_add (pe_op op_sub (pv 3) (pv 2)) pe_int) (pa_cons (pv 2) (pa_cons (pe_op op_sub (pe_op op_add (pv 1) (pv 2)) pe_int) (pa_cons (pe_un un_neg pe_int) pa_nil))))))))), ?_⟩
    refine ⟨_, rfl, r, pcV p, rfl, SqT.at hr0, rfl, .int p.s, [.int p.l, .int p.g, .int p.w], rfl, .int p.l, [.int p.g, .int p.w], rfl, .int p.g, [.int p.w], rfl, .int p.w, [], rfl, rfl, ?_⟩
    refine ⟨_, rfl, rfl, _, rfl, ?_⟩
    rcases pw with e | e
    · rw [decide_eq_true (show V.int p.w = V.int 1 by rw [e])]
      rw [tb1 e] at k
      exact iteT ⟨_, rfl, _, rfl, _, rfl, sz (show 4 ≤ 100000 by decide), fun t nt => k t nt⟩
    · have ne : ¬ p.w = 1 := by omega
      rw [decide_eq_false (show ¬ V.int p.w = V.int 1 from fun z => ne (V.int.inj z))]
      rw [tb2 e] at k
      exact iteF ⟨_, rfl, _, rfl, _, _, rfl, rfl, _, _, rfl, rfl, _, rfl, _, rfl, _, rfl, _, _, rfl, rfl, _, _, rfl, rfl, _, rfl, sz (show 4 ≤ 100000 by decide), fun t nt => k t nt⟩
def spRunsInv (C : Addr) : Sp := fun vs H Q _ => ∃ (p : Addr) (n : Int) (ps : List Pc), vs = [.ref p] ∧ RunsAt C H p n ps ∧ Rea n ps ∧ ps.length ≤ 1000 ∧
  ∀ q H' qs, RunsAt C H' q n qs → Rea n qs → NFl qs → qs.length ≤ ps.length → (∀ j, 0 ≤ j → j < n → valP qs (valP ps j) = j) → (∀ j, 0 ≤ j → j < n → valP ps (valP qs j) = j) → Same H H' → Q (.ref q) H'
theorem ok_Runs_invert (T : Tx w K mg a) : FnOk P w K mg base CX0 5 a.f_Runs_invert a.d_Runs_invert ["self"] (spRunsInv a.C_Runs) := by
  refine T.F_Runs_invert.ok sc_Runs_invert (fun vs H Q E h => ?_) (fun cdv A outer s H vs Q E hr h => ?_)
  · obtain ⟨p, n, ps, rfl, _⟩ := h
    rfl
  · obtain ⟨p, n, ps, rfl, ⟨dx, fs, t, rs, p1, p2, p3, p4, p5, p6⟩, hR, hl, k⟩ := h
    refine ⟨_, 
(pss_one (ps_ret (pe_make T.mk_Runs (ok_Runs_init T) hr (by rfl) T.c_Runs T.b_Runs_init .nil pass0 (pa_cons (pe_fld (pv 0) rfl) (pa_cons (pe_callB cr_sortF (by rfl) T.z_sorted (by decide +kernel) (pa_cons (pe_lc (own := [("run", 1)]) (g := gName 1) rfl sc_Runs_invert.nd (pi_tup (pe_fld (pv 0) rfl)) (blkOk_by (own := [("run", 1)]) (N := ["self", "run"]) (sc := defScope s_Runs_invert) (by decide +kernel)) (fun _ _ _ _ _ => pg_name (i := 1) sc_Runs_invert.nd rfl (Or.inl rfl)) (fun _ _ _ _ _ => pts_nil) (fun _ _ _ _ _ => (pe_call (ok_taken_back T) (hr.mono (by decide)) (by rfl) T.m_taken_back T.F_taken_back.kp T.b_taken_back .nil pass0 (pa_cons (pv 1) pa_nil)))) pa_nil)) pa_nil))))), ?_⟩
    have rl := p6.len
    refine ⟨.ref p, rfl, p, a.C_Runs, dx, _, _, rfl, p1, T.cl_Runs, T.n_Runs_size, p2.1, .ref p, rfl, p, a.C_Runs, dx, _, _, rfl, p1, T.cl_Runs, T.n_Runs_rows, p3, t, rfl, ⟨_, SqT.at p5⟩, fun D hD => ?_⟩
    refine lc_it (walk_tup (xs := rs.map V.ref)) (fun j H' => Same H H' ∧ ∃ us : List Addr, H' D = some (.lst (us.map V.ref)) ∧ PcsH H' us ((ps.take j).map tbP)) ?h0 ?hG ?hs ?hd
    case h0 => exact ⟨same_upd hD, [], upd_same, trivial⟩
    case hG =>
      rintro j H' _ ⟨sm, _⟩
      exact SqT.at (sm _ _ p5)
    case hs =>
      rintro j yy H4 H5 hj ⟨sm, us, eD, hus⟩ ⟨rfl, ex⟩
      rw [List.length_map] at hj
      have hja : j < ps.length := by omega
      obtain ⟨r, hr1, hr2⟩ := p6.get (List.getElem?_eq_getElem hja)
      rw [List.getElem?_map, hr1] at ex
      cases ex
      have htk : (ps.take (j + 1)).map tbP = (ps.take j).map tbP ++ [tbP (ps[j]'hja)] := by
        rw [List.take_succ, List.getElem?_eq_getElem hja, List.map_append]
        rfl
      rw [htk]
      have ul := hus.len
      rw [List.length_map, List.length_take] at ul
      have pw := chain_way hR.ch (List.getElem?_eq_getElem hja)
      generalize (ps.take j).map tbP = done at hus ⊢
      generalize ps[j]'hja = q at hr2 pw ⊢
      refine ⟨rfl, _, rfl, r, q, rfl, sm _ _ hr2, pw, fun nt nnt => ?_⟩
      have s6 := same_upd (o := .tup (pcV (tbP q))) nnt
      have ent : (upd H5 nt (.tup (pcV (tbP q)))) nt = some (.tup (pcV (tbP q))) := upd_same
      generalize upd H5 nt (.tup (pcV (tbP q))) = H6 at s6 ent ⊢
      have eD6 := s6 _ _ eD
      have nD : ∀ b xs, H6 b = some (.tup xs) → b ≠ D := fun b xs e z => by
        rw [z, eD6] at e
        cases e
      refine ⟨us.map V.ref, eD6, szlt (by rw [List.length_map]; omega), keep_upd (sm.trans s6) hD, us ++ [nt], by rw [upd_same, List.map_append]; rfl, ?_⟩
      refine PcsH.snoc ?_ ((hus.same s6).mono fun b o e ⟨xs, h⟩ => ?_)
      · rw [upd_ne (nD _ _ ent)]
        exact ent
      · subst h
        rw [upd_ne (nD _ _ e)]
        exact e
    case hd =>
      rintro H4 ⟨sm, us, eD, hus⟩
      rw [List.length_map, rl, List.take_length] at hus
      have ul := hus.len
      -- sorted(..)
      refine ⟨Addr × Pc, (·.1), (fun e => [e.2.s, e.2.l, e.2.g, e.2.w]), us.zip (ps.map tbP), D, 3, rfl, ?_, fun e he => ⟨SqT.at (hus.memE e he), rfl⟩, fun e he f hf ee => ?_, fun L' b pL srt nb => ?_⟩
      · have z : (us.zip (ps.map tbP)).map (fun e => V.ref e.1) = us.map V.ref := by
          have z := congrArg (List.map V.ref) (map_zip1 ul)
          rw [List.map_map] at z
          exact z
        show SqL _ H4 D ((us.zip (ps.map tbP)).map fun e => V.ref e.1)
        rw [z]
        exact SqL.at eD
      · have e1 := (List.of_mem_zip he).2
        have f1 := (List.of_mem_zip hf).2
        obtain ⟨p1, m1, q1⟩ := List.mem_map.mp e1
        obtain ⟨p2, m2, q2⟩ := List.mem_map.mp f1
        have ee : e.2.s = f.2.s := ee
        rw [← q1, ← q2] at ee
        show [e.2.s, e.2.l, e.2.g, e.2.w] = [f.2.s, f.2.l, f.2.g, f.2.w]
        rw [← q1, ← q2, tb_start hR m1 m2 ee]
      · have s5 := same_upd (o := .lst (L'.map fun e => V.ref e.1)) nb
        have eb : (upd H4 b (.lst (L'.map fun e => V.ref e.1))) b = some (.lst ((L'.map (·.1)).map V.ref)) := by
          rw [upd_same, List.map_map]
          rfl
        have hL : PcsH H4 (L'.map (·.1)) (L'.map (·.2)) := PcsH.ofE fun e he => hus.memE e (pL.mem_iff.mp he)
        have hp : (L'.map (·.2)).Perm (ps.map tbP) := by
          have z := pL.map (fun e : Addr × Pc => e.2)
          rw [map_zip2 ul] at z
          exact z
        have hs : (L'.map (·.2)).Pairwise fun p q => p.s ≤ q.s := List.pairwise_map.mpr srt
        have hL5 := hL.same s5
        refine fun q dy hq hdy ne => ?_
        change spRunsInit _ _ (upd (upd (upd H4 b (.lst (L'.map fun e => V.ref e.1))) dy (.own q)) q (.ins a.C_Runs dy [])) _ _
        generalize upd H4 b (.lst (L'.map fun e => V.ref e.1)) = H5 at s5 eb hL5 hq hdy ⊢
        obtain ⟨s6, ep⟩ := madeR (C := a.C_Runs) hq hdy ne
        generalize upd (upd H5 dy (.own q)) q (.ins a.C_Runs dy []) = H6 at s6 ep ⊢
        obtain ⟨b1, b2, b3⟩ := hR.back hp hs
        obtain ⟨o1, o2, o3⟩ := b1.one
        have ql : (L'.map (·.2)).length = ps.length := by
          rw [hp.length_eq, List.length_map]
        refine ⟨q, dy, b, n, L'.map (·.1), L'.map (·.2), rfl, ep, s6 _ _ eb, hL5.same s6, by rw [ql]; exact hl, fun H7 hR7 hk => ⟨rfl, k q H7 _ hR7 o1 o2 (by rw [← ql]; exact fold_le1000 (Nat.le_refl _)) (fun j j0 j1 => ?_) (fun j j0 j1 => ?_) ?_⟩⟩
        · obtain ⟨v0, v1⟩ := hR.val j j0 j1
          rw [o3 _ v0 v1]
          exact b2 j j0 j1
        · rw [o3 j j0 j1]
          exact b3 j j0 j1
        · exact sm.trans (s5.trans fun b o e => hk b o (s6 b o e) (ne_of_none e hq))
end

section
variable {P : Program} {w : World} {K : PySem.W.Frag} {mg : Str → Option Value} {base : Heap} {a : Ad}
def spRunsMul (C CS : Addr) : Sp := fun vs H Q E => ∃ (p q : Addr) (n m : Int) (fs gs : List Pc), vs = [.ref p, .ref q] ∧ RunsAt C H p n fs ∧ RunsAt C H q m gs ∧
  ((n = m ∧ Rea n fs ∧ Rea n gs ∧ fs.length + gs.length ≤ 1000 ∧ ∀ r H' hs, RunsAt C H' r n hs → Rea n hs → NFl hs → hs.length ≤ fs.length + gs.length → (∀ j, 0 ≤ j → j < n → valP hs j = valP fs (valP gs j)) → Same H H' → Q (.ref r) H') ∨
   (n ≠ m ∧ ∀ H' d, Same H H' → H' d = some (.xd [("size", .int m)]) → E (.ref CS) (some d) H'))
theorem ok_Runs_mul (T : Tx w K mg a) : FnOk P w K mg base (L2.CX P w) 5 a.f_Runs_mul a.d_Runs_mul ["self", "other"] (spRunsMul a.C_Runs a.C_BadSize) := by
  refine T.F_Runs_mul.okX sc_Runs_mul (fun vs H Q E h => ?_) (fun cdv A outer s H vs Q E hr h => ?_)
  · obtain ⟨p, q, n, m, fs, gs, rfl, _⟩ := h
    rfl
  · obtain ⟨p, q, n, m, fs, gs, rfl, ⟨dx, us, t, rs, p1, p2, p3, p4, p5, p6⟩, ⟨dy, vs, u, rq, q1, q2, q3, q4, q5, q6⟩, h⟩ := h
    refine ⟨_, 
(pss_cons (ps_if (pt_not (pt_val (pe_callB call_isi (by rfl) T.z_isinstance (by decide +kernel) (pa_cons (pv 1) (pa_cons (pe_glob (v := .ref a.C_Runs) (by rfl) T.c_Runs rfl) pa_nil)))))
  (pss_one ps_never)
  pss_nil)
  (pss_cons (ps_if (pt_cmpR op_ne (pe_fld (pv 0) rfl) (pe_fld (pv 1) rfl) (nomark _))
  (pss_one (ps_raise rfl (takes_of rfl rfl rfl rfl) (pmk_oex T.ox_BadSize.o T.ox_BadSize.ini T.ox_BadSize.tin (ok_BadSize_init T) (hr.mono (by decide)) T.b_BadSize_init .nil pass0 (by rfl) T.c_BadSize (pa_cons (pe_fld (pv 1) rfl) pa_nil))))
  pss_nil)
  (pss_one (ps_ret (pe_make T.mk_Runs (ok_Runs_init T) hr (by rfl) T.c_Runs T.b_Runs_init .nil pass0 (pa_cons (pe_fld (pv 0) rfl) (pa_cons (pe_lc2 (own := [("run", 2), ("piece", 3)]) (vs1 := [3]) (g := gName 2) (g1 := gName 3) rfl sc_Runs_mul.nd (pi_tup (pe_fld (pv 1) rfl)) (blkOk_by (own := [("run", 2), ("piece", 3)]) (N := ["self", "other", "run", "piece"]) (sc := defScope s_Runs_mul) (by decide +kernel)) (by decide) (fun _ _ _ _ _ => pg_name (i := 2) sc_Runs_mul.nd rfl (Or.inl rfl)) (fun _ _ _ _ _ => pts_nil) (fun _ _ _ _ _ => (show PI _ _ _ (iList K _) from pi_list (pe_call (ok_led_on T) (hr.mono (by decide)) (by rfl) T.m_led_on T.F_led_on.kp T.b_led_on .nil pass0 (pa_cons (show PE _ _ (tFld K _ _) from pe_fld (pv 0) rfl) (pa_cons (pv 2) pa_nil))))) (fun _ _ _ _ _ => pg_name (i := 3) sc_Runs_mul.nd rfl (Or.inl rfl)) (fun _ _ _ _ _ => pts_nil) (fun _ _ _ _ _ => (pv 3))) pa_nil))))))), ?_⟩
    -- isinstance(other, Runs)
    refine ⟨.ref q, rfl, .ref q, .ref a.C_Runs, .ref a.C_Runs, .ref a.C_Runs, true, rfl, .own _, .base (.ins q1 T.cl_Runs T.ow_Runs.cls T.ow_Runs.get T.ow_Runs.tak T.ow_Runs.mro), ?_, ?_⟩
    · unfold PySem.W.kitOne
      rw [if_pos (by simp)]
    refine ⟨true, rfl, iteF ?_⟩
    -- self.size != other.size
    refine ⟨.ref p, rfl, p, a.C_Runs, dx, _, _, rfl, p1, T.cl_Runs, T.n_Runs_size, p2.1, .ref q, rfl, q, a.C_Runs, dy, _, _, rfl, q1, T.cl_Runs, T.n_Runs_size, q2.1, ?_⟩
    rcases h with ⟨rfl, hf, hg, hl, k⟩ | ⟨hne, hE⟩
    rotate_left
    · refine ⟨rfl, _, rfl, ?_⟩
      rw [decide_eq_false (show ¬ V.int n = V.int m from fun z => hne (V.int.inj z))]
      exact iteT ⟨.ref q, rfl, q, a.C_Runs, dy, _, _, rfl, q1, T.cl_Runs, T.n_Runs_size, q2.1, (by decide : 1 ≤ 1000), err_end (Same.refl H) hE⟩
    refine ⟨rfl, _, rfl, ?_⟩
    rw [decide_eq_true (show V.int n = V.int n from rfl)]
    refine iteF ?_
    -- Runs(self.size, [..])
    refine ⟨.ref p, rfl, p, a.C_Runs, dx, _, _, rfl, p1, T.cl_Runs, T.n_Runs_size, p2.1, .ref q, rfl, q, a.C_Runs, dy, _, _, rfl, q1, T.cl_Runs, T.n_Runs_rows, q3, u, rfl, ⟨_, SqT.at q5⟩, fun D hD => ?_⟩
    have gl := q6.len
    refine lc2_it (walk_tup (xs := rq.map V.ref)) (fun j H' => Same H H' ∧ ∃ (ws : List Addr) (qs : List Pc) (mi : Int), H' D = some (.lst (ws.map V.ref)) ∧ PcsH H' ws qs ∧ Chain 0 mi (gs.take j) ∧ LedAll fs 0 mi (gs.take j) qs) ?h0 ?hG ?hs ?hd
    case h0 => exact ⟨same_upd hD, [], [], 0, upd_same, trivial, rfl, ⟨rfl, fun j a b => by omega, Nat.zero_le _⟩⟩
    case hG =>
      rintro j H' _ ⟨sm, _⟩
      exact SqT.at (sm _ _ q5)
    case hs =>
      rintro j yy H4 H5 hj ⟨sm, ws, qs, mi, eD, hws, hch, hla⟩ ⟨rfl, ex⟩
      rw [List.length_map] at hj
      have hja : j < gs.length := by omega
      obtain ⟨r, hr1, hr2⟩ := q6.get (List.getElem?_eq_getElem hja)
      rw [List.getElem?_map, hr1] at ex
      cases ex
      have gm : gs[j]'hja ∈ gs := List.getElem_mem _
      obtain ⟨g1, g2, g3, g4⟩ := chain_mem hg.ch gm
      obtain ⟨b0, b1, b2, b3⟩ := tb_in hg gm
      have htk : gs.take (j + 1) = gs.take j ++ [gs[j]'hja] := by
        rw [List.take_succ, List.getElem?_eq_getElem hja]
        rfl
      obtain ⟨hc2, gst⟩ : Chain 0 (mi + (gs[j]'hja).l) (gs.take j ++ [gs[j]'hja]) ∧ (gs[j]'hja).s = mi := by
        have hall := hg.ch
        rw [← List.take_append_drop j gs, List.drop_eq_getElem_cons hja] at hall
        obtain ⟨mi', k1, k2⟩ := hall.split
        have e1 := chain_sum k1
        have e2 := chain_sum hch
        have e : mi' = mi := by omega
        subst e
        exact ⟨hch.append ⟨k2.1, k2.2.1, k2.2.2.1, rfl⟩, k2.1⟩
      rw [htk]
      have flen : fs.length ≤ 1000 := by omega
      have glen : (gs.take j).length = j := by rw [List.length_take]; omega
      generalize gs[j]'hja = g at *
      have wl := hws.len
      have wl2 : ws.length ≤ 2000 := by
        have := hla.few
        have := sumC_le (List.Pairwise.sublist (List.take_sublist j gs) hg.apart) fs
        omega
      generalize gs.take j = dn at *
      refine ⟨rfl, .ref p, rfl, p, a.C_Runs, dx, _, _, rfl, sm _ _ p1, T.cl_Runs, T.n_Runs_rows, p3, _, rfl, t, r, rs, fs, g, n, rfl, sm _ _ p5, p6.same sm, hf.ch, sm _ _ hr2, g2, g3, b0, b3, flen, fun L us' qs' H6 nL eL hqs led s6 => ?_⟩
      have eD6 := s6 _ _ eD
      have hws6 := hws.same s6
      have ll := hqs.len
      have neL : L ≠ D := fun z => by
        rw [z, eD] at nL
        cases nL
      have few := led.few
      have cl := cnt_len fs (tbP g).s ((tbP g).s + (tbP g).l - 1)
      have ql : us'.length ≤ 2000 := by omega
      refine ⟨L, rfl, ⟨_, SqL.at eL⟩, ?_⟩
      refine lc1_it (walk_list (xs := us'.map V.ref)) (fun i H' => Same H H' ∧ H' D = some (.lst ((ws ++ us'.take i).map V.ref)) ∧ PcsH H' (ws ++ us'.take i) (qs ++ qs'.take i) ∧ H' L = some (.lst (us'.map V.ref)) ∧ PcsH H' us' qs') ?k0 ?kG ?ks ?kd
      case k0 => exact ⟨sm.trans s6, by rw [List.take_zero, List.append_nil]; exact eD6, by rw [List.take_zero, List.take_zero, List.append_nil, List.append_nil]; exact hws6, eL, hqs⟩
      case kG =>
        rintro i H' _ ⟨_, _, _, eL', _⟩
        exact SqL.at eL'
      case ks =>
        rintro i yy H7 H8 hi ⟨sm7, eD7, hp7, eL7, hq7⟩ ⟨rfl, ex7⟩
        rw [List.length_map] at hi
        have hia : i < qs'.length := by omega
        obtain ⟨r7, hr7, hr8⟩ := hq7.get (List.getElem?_eq_getElem hia)
        rw [List.getElem?_map, hr7] at ex7
        cases ex7
        have t1 : us'.take (i + 1) = us'.take i ++ [r7] := by
          rw [List.take_succ, hr7]
          rfl
        have nD : ∀ b xs, H8 b = some (.tup xs) → b ≠ D := fun b xs e z => by
          rw [z, eD7] at e
          cases e
        have mv : ∀ {us : List Addr} {ps : List Pc}, PcsH H8 us ps → PcsH (upd H8 D (.lst ((ws ++ us'.take i).map V.ref ++ [V.ref r7]))) us ps := fun h => h.mono fun b o e ⟨xs, z⟩ => by
          subst z
          rw [upd_ne (nD _ _ e)]
          exact e
        refine ⟨rfl, _, rfl, (ws ++ us'.take i).map V.ref, eD7, szlt ?_, keep_upd sm7 hD, ?_, ?_, ?_, mv hq7⟩
        · rw [List.length_map, List.length_append, List.length_take]
          omega
        · rw [upd_same, t1, ← List.append_assoc, List.map_append (l₂ := [r7])]
          rfl
        · rw [t1, ← List.append_assoc]
          rw [List.take_succ, List.getElem?_eq_getElem hia]
          show PcsH _ _ (qs ++ (qs'.take i ++ [qs'[i]'hia]))
          rw [← List.append_assoc]
          refine PcsH.snoc ?_ (mv hp7)
          rw [upd_ne (nD _ _ hr8)]
          exact hr8
        · rw [upd_ne neL]
          exact eL7
      case kd =>
        rintro H7 ⟨sm7, eD7, hp7, _, _⟩
        rw [List.length_map] at eD7 hp7
        rw [List.take_length] at eD7 hp7
        rw [ll, List.take_length] at hp7
        exact ⟨sm7, ws ++ us', qs ++ qs', mi + g.l, eD7, hp7, hc2, hla.snoc hch gst led⟩
    case hd =>
      rintro H4 ⟨sm, ws, qs, mi, eD, hws, hch, hla⟩
      rw [List.length_map, gl, List.take_length] at hch hla
      have e1 := chain_sum hg.ch
      have e2 := chain_sum hch
      obtain rfl : mi = n := by omega
      obtain ⟨m1, m2, m3⟩ := mul_ok hf hg hla
      obtain ⟨o1, o2, o3⟩ := m1.one
      refine fun r dz hr0 hdz ne => ?_
      obtain ⟨s6, ep⟩ := madeR (C := a.C_Runs) hr0 hdz ne
      generalize upd (upd H4 dz (.own r)) r (.ins a.C_Runs dz []) = H6 at s6 ep ⊢
      exact ⟨r, dz, D, mi, ws, qs, rfl, ep, s6 _ _ eD, hws.same s6, by omega, fun H7 hR7 hk => ⟨rfl, k r H7 _ hR7 o1 o2 (fold_le1000 m2) (fun j j0 j1 => (o3 j j0 j1).trans (m3 j j0 j1)) (sm.trans fun b o e => hk b o (s6 b o e) (ne_of_none e hr0))⟩⟩
end

/-! ### rearrangements as lists of ints -/
def ri (n : Nat) : List Int := (List.range n).map fun i : Nat => (i : Int)
theorem ri_len (n : Nat) : (ri n).length = n := by
  unfold ri
  rw [List.length_map, List.length_range]
theorem ri_mem {n : Nat} {x : Int} : x ∈ ri n ↔ 0 ≤ x ∧ x < (n : Int) := by
  unfold ri
  simp only [List.mem_map, List.mem_range]
  constructor
  · rintro ⟨k, hk, rfl⟩
    omega
  · rintro ⟨h0, h1⟩
    exact ⟨x.toNat, by omega, by omega⟩
theorem ri_get {n i : Nat} (h : i < n) : (ri n)[i]? = some (i : Int) := by
  unfold ri
  rw [List.getElem?_map, List.getElem?_range h]
  rfl
theorem ri_nodup (n : Nat) : (ri n).Nodup := by
  unfold ri
  refine List.Pairwise.map _ (fun i j (h : i ≠ j) => ?_) List.nodup_range
  omega
theorem rgV_ri (n : Nat) : rgV 0 (n : Int) = (ri n).map V.int := by
  unfold rgV ri
  rw [List.map_map]
  have e : ((n : Int) - 0).toNat = n := by omega
  rw [e]
  refine List.map_congr_left fun i _ => ?_
  show V.int (0 + (i : Nat)) = V.int (i : Int)
  rw [Int.zero_add]
/-- a rearrangement: the ints from 0 on, each once -/
def IsRow (xs : List Int) : Prop := xs.Perm (ri xs.length)
theorem IsRow.mem {xs : List Int} (h : IsRow xs) {x : Int} : x ∈ xs ↔ 0 ≤ x ∧ x < (xs.length : Int) := by
  rw [h.mem_iff, ri_mem]
theorem IsRow.nodup {xs : List Int} (h : IsRow xs) : xs.Nodup := h.nodup_iff.mpr (ri_nodup _)
theorem IsRow.at {xs : List Int} (h : IsRow xs) {i : Nat} (hi : i < xs.length) : 0 ≤ xs[i] ∧ xs[i].toNat < xs.length := by
  have := h.mem.mp (List.getElem_mem hi)
  omega
theorem isRow_ri (n : Nat) : IsRow (ri n) := by
  unfold IsRow
  rw [ri_len]
theorem isRow_of {xs : List Int} (n : Nat) (h : xs.Perm (ri n)) : IsRow xs := by
  unfold IsRow
  have := h.length_eq
  rw [ri_len] at this
  rw [this]
  exact h
/-- without doubles and within bounds: a rearrangement -/
theorem nodup_sub_len : ∀ {xs ys : List Int}, xs.Nodup → (∀ x ∈ xs, x ∈ ys) → xs.length ≤ ys.length
  | [], _, _, _ => Nat.zero_le _
  | x :: r, ys, hn, hs => by
    have hx := hs x (List.mem_cons_self ..)
    have hn' := List.nodup_cons.mp hn
    have h2 := nodup_sub_len (xs := r) (ys := ys.erase x) hn'.2 fun y hy => by
      have hne : y ≠ x := fun e => hn'.1 (e ▸ hy)
      exact (List.mem_erase_of_ne hne).mpr (hs y (List.mem_cons_of_mem _ hy))
    rw [List.length_erase_of_mem hx] at h2
    have : 0 < ys.length := List.length_pos_of_mem hx
    simp only [List.length_cons]
    omega
theorem perm_of_nodup : ∀ {xs ys : List Int}, xs.Nodup → ys.Nodup → (∀ x ∈ xs, x ∈ ys) → xs.length = ys.length → xs.Perm ys
  | [], ys, _, _, _, e => by
    have : ys = [] := List.eq_nil_of_length_eq_zero e.symm
    subst this
    exact List.Perm.refl _
  | x :: r, ys, hn, hy, hs, e => by
    have hx := hs x (List.mem_cons_self ..)
    have hn' := List.nodup_cons.mp hn
    have hl : r.length = (ys.erase x).length := by
      rw [List.length_erase_of_mem hx]
      simp only [List.length_cons] at e
      omega
    have p := perm_of_nodup (xs := r) (ys := ys.erase x) hn'.2 (hy.erase x) (fun y h => by
      have hne : y ≠ x := fun e => hn'.1 (e ▸ h)
      exact (List.mem_erase_of_ne hne).mpr (hs y (List.mem_cons_of_mem _ h))) hl
    exact (p.cons x).trans (List.perm_cons_erase hx).symm
theorem isRow_mk {xs : List Int} (hn : xs.Nodup) (hb : ∀ x ∈ xs, 0 ≤ x ∧ x < (xs.length : Int)) : IsRow xs :=
  perm_of_nodup hn (ri_nodup _) (fun x hx => ri_mem.mpr (hb x hx)) (ri_len _).symm
/-- all places are there -/
theorem IsRow.all {xs : List Int} (h : IsRow xs) {v : Nat} (hv : v < xs.length) : (v : Int) ∈ xs := h.mem.mpr (by omega)
/-! ### picking members -/
def pickI (ts rs : List Int) : List Int := rs.map fun r => ts.getD r.toNat 0
theorem pick_len (ts rs : List Int) : (pickI ts rs).length = rs.length := by
  unfold pickI
  rw [List.length_map]
theorem pick_get {ts rs : List Int} {i : Nat} (h : i < rs.length) : (pickI ts rs)[i]'(by rw [pick_len]; exact h) = ts.getD rs[i].toNat 0 := by
  simp [pickI]
/-- done one behind the other -/
theorem pick_pick {ts xs ys : List Int} (hx : ∀ y ∈ ys, 0 ≤ y ∧ y.toNat < xs.length) : pickI (pickI ts xs) ys = pickI ts (pickI xs ys) := by
  unfold pickI
  rw [List.map_map]
  refine List.map_congr_left fun y hy => ?_
  have h := (hx y hy).2
  show (List.map (fun r : Int => ts.getD r.toNat 0) xs).getD y.toNat 0 = ts.getD (xs.getD y.toNat 0).toNat 0
  rw [List.getD_eq_getElem?_getD, List.getElem?_map, List.getElem?_eq_getElem h, List.getD_eq_getElem?_getD (l := xs), List.getElem?_eq_getElem h]
  rfl
theorem pick_ri (xs : List Int) : pickI xs (ri xs.length) = xs := by
  refine List.ext_getElem (by rw [pick_len, ri_len]) fun i h1 h2 => ?_
  rw [pick_get (by rw [ri_len]; exact h2)]
  have e : (ri xs.length)[i]'(by rw [ri_len]; exact h2) = (i : Int) := by
    have := ri_get h2
    rw [List.getElem?_eq_getElem (by rw [ri_len]; exact h2)] at this
    exact Option.some.inj this
  rw [e, Int.toNat_natCast, getD_get h2]
theorem ri_pick {xs : List Int} {n : Nat} (h : ∀ x ∈ xs, 0 ≤ x ∧ x < (n : Int)) : pickI (ri n) xs = xs := by
  unfold pickI
  conv => rhs; rw [← List.map_id xs]
  refine List.map_congr_left fun x hx => ?_
  have := h x hx
  show (ri n).getD x.toNat 0 = x
  rw [List.getD_eq_getElem?_getD, ri_get (by omega)]
  show ((x.toNat : Nat) : Int) = x
  omega
/-- a rearrangement of a rearrangement's members -/
theorem pick_perm {ts rs : List Int} (hr : IsRow rs) (hl : rs.length = ts.length) : (pickI ts rs).Perm ts := by
  have p : (pickI ts rs).Perm (pickI ts (ri rs.length)) := List.Perm.map _ hr
  rw [hl, pick_ri] at p
  exact p
theorem isRow_pick {xs ys : List Int} (hx : IsRow xs) (hy : IsRow ys) (hl : ys.length = xs.length) : IsRow (pickI xs ys) := by
  refine isRow_of xs.length ((pick_perm hy hl).trans hx)
/-! ### taking back -/
/-- bs takes xs back -/
def InvOf (xs bs : List Int) : Prop := bs.length = xs.length ∧ ∀ (j : Nat) (h : j < xs.length), bs[xs[j].toNat]? = some (j : Int)
theorem InvOf.pick {xs bs : List Int} (h : InvOf xs bs) (hx : IsRow xs) : pickI bs xs = ri xs.length := by
  refine List.ext_getElem (by rw [pick_len, ri_len]) fun i h1 h2 => ?_
  rw [pick_len] at h1
  rw [pick_get h1, List.getD_eq_getElem?_getD, h.2 i h1]
  have := ri_get h1
  rw [List.getElem?_eq_getElem h2] at this
  exact (Option.some.inj this).symm
theorem InvOf.mem {xs bs : List Int} (h : InvOf xs bs) (hx : IsRow xs) {v : Nat} (hv : v < xs.length) : ∃ (j : Nat) (hj : j < xs.length), xs[j] = (v : Int) ∧ bs[v]? = some (j : Int) := by
  obtain ⟨j, hj, e⟩ := List.getElem_of_mem (hx.all hv)
  have := h.2 j hj
  rw [e, Int.toNat_natCast] at this
  exact ⟨j, hj, e, this⟩
theorem InvOf.pick2 {xs bs : List Int} (h : InvOf xs bs) (hx : IsRow xs) : pickI xs bs = ri xs.length := by
  refine List.ext_getElem (by rw [pick_len, ri_len, h.1]) fun i h1 h2 => ?_
  rw [pick_len, h.1] at h1
  obtain ⟨j, hj, e, eb⟩ := h.mem hx h1
  have hb : i < bs.length := by rw [h.1]; exact h1
  rw [pick_get hb]
  have e2 : bs[i] = (j : Int) := by
    rw [List.getElem?_eq_getElem hb] at eb
    exact Option.some.inj eb
  rw [e2, Int.toNat_natCast, getD_get hj, e]
  have := ri_get h1
  rw [List.getElem?_eq_getElem h2] at this
  exact (Option.some.inj this).symm
theorem InvOf.bound {xs bs : List Int} (h : InvOf xs bs) (hx : IsRow xs) : ∀ y ∈ bs, 0 ≤ y ∧ y.toNat < xs.length := by
  intro y hy
  obtain ⟨i, hi, e⟩ := List.getElem_of_mem hy
  obtain ⟨j, hj, _, eb⟩ := h.mem hx (v := i) (by rw [← h.1]; exact hi)
  rw [List.getElem?_eq_getElem hi] at eb
  have := Option.some.inj eb
  omega
theorem InvOf.row {xs bs : List Int} (h : InvOf xs bs) (hx : IsRow xs) : IsRow bs := by
  refine isRow_mk ?_ fun y hy => ?_
  · rw [List.nodup_iff_pairwise_ne, List.pairwise_iff_getElem]
    intro i j hi hj hij e
    obtain ⟨u, hu, e1, b1⟩ := h.mem hx (v := i) (by rw [← h.1]; exact hi)
    obtain ⟨v, hv, e2, b2⟩ := h.mem hx (v := j) (by rw [← h.1]; exact hj)
    rw [List.getElem?_eq_getElem hi] at b1
    rw [List.getElem?_eq_getElem hj] at b2
    have q1 := Option.some.inj b1
    have q2 := Option.some.inj b2
    have : u = v := by omega
    subst this
    rw [e1] at e2
    omega
  · have := h.bound hx y hy
    rw [h.1]
    omega
theorem InvOf.uniq {xs b1 b2 : List Int} (h1 : InvOf xs b1) (h2 : InvOf xs b2) (hx : IsRow xs) : b1 = b2 := by
  refine List.ext_getElem (by rw [h1.1, h2.1]) fun i q1 q2 => ?_
  obtain ⟨u, hu, e1, y1⟩ := h1.mem hx (v := i) (by rw [← h1.1]; exact q1)
  have y2 := h2.2 u hu
  rw [e1, Int.toNat_natCast] at y2
  rw [List.getElem?_eq_getElem q1] at y1
  rw [List.getElem?_eq_getElem q2] at y2
  exact (Option.some.inj y1).trans (Option.some.inj y2).symm
theorem fwI_none : ∀ (n : Nat) (xs : List Int) (seen : List Int) (k : Nat), xs.Nodup → (∀ x ∈ xs, 0 ≤ x ∧ x < (n : Int) ∧ x ∉ seen) → fwI n seen k (xs.map V.int) = none
  | _, [], _, _, _, _ => rfl
  | n, x :: r, seen, k, hn, hb => by
    have hn' := List.nodup_cons.mp hn
    have hx := hb x (List.mem_cons_self ..)
    simp only [List.map_cons, fwI, if_pos hx]
    refine fwI_none n r (x :: seen) (k + 1) hn'.2 fun y hy => ?_
    have := hb y (List.mem_cons_of_mem _ hy)
    refine ⟨this.1, this.2.1, ?_⟩
    intro q
    rcases List.mem_cons.mp q with e | q
    · exact hn'.1 (e ▸ hy)
    · exact this.2.2 q
theorem fwI_row {xs : List Int} (h : IsRow xs) : fwI xs.length [] 0 (xs.map V.int) = none :=
  fwI_none _ _ _ _ h.nodup fun x hx => ⟨(h.mem.mp hx).1, (h.mem.mp hx).2, List.not_mem_nil⟩

theorem isI_ints {H : Hp} {ns : List Int} : ∀ x ∈ ns.map V.int, ∃ b, IsI H x b := by
  intro x hx
  obtain ⟨i, _, rfl⟩ := List.mem_map.mp hx
  exact ⟨true, .int i⟩
/-! ### rows that may be wrong -/
def RowV (K : PySem.W.Frag) (H : Hp) (p : Addr) (xs : List V) : Prop := SqA K H p xs ∧ xs.length ≤ 100000 ∧ ∀ x ∈ xs, ∃ b, IsI H x b
theorem RowV.same {K : PySem.W.Frag} {H H' : Hp} {p : Addr} {xs : List V} (h : RowV K H p xs) (e : Same H H') : RowV K H' p xs := ⟨h.1.same e, h.2.1, fun x hx => by
  obtain ⟨b, hb⟩ := h.2.2 x hx
  exact ⟨b, hb.same e⟩⟩
def fwR (xs : List V) : Option Nat := fwI xs.length [] 0 xs
theorem fwR_row {xs : List Int} (h : IsRow xs) : fwR (xs.map V.int) = none := by
  unfold fwR
  rw [List.length_map]
  exact fwI_row h
theorem rowV_ints {K : PySem.W.Frag} {H : Hp} {p : Addr} {xs : List Int} (h : SqA K H p (xs.map V.int)) (hl : xs.length ≤ 100000) : RowV K H p (xs.map V.int) := ⟨h, by rw [List.length_map]; exact hl, isI_ints⟩
section
variable {P : Program} {w : World} {K : PySem.W.Frag} {mg : Str → Option Value} {base : Heap} {a : Ad}
/-- what is wished for when an error with one field is raised -/
def ErrAt (H : Hp) (E : XK) (C : Addr) (f : Str) (v : V) : Prop := ∀ H' d, Same H H' → H' d = some (.xd [(f, v)]) → E (.ref C) (some d) H'
theorem ErrAt.on {H H1 : Hp} {E : XK} {C : Addr} {f : Str} {v : V} (h : ErrAt H E C f v) (s : Same H H1) : ErrAt H1 E C f v := fun H' d s' e => h H' d (s.trans s') e
def spCheckRowX (K : PySem.W.Frag) (CR : Addr) : Sp := fun vs H Q E => ∃ p xs, vs = [.ref p] ∧ RowV K H p xs ∧ (∀ k, fwR xs = some k → ErrAt H E CR "index" (.int ((k : Nat) : Int))) ∧ (fwR xs = none → ∀ H', Same H H' → Q .non H')
theorem ok_check_row (T : Tx w K mg a) : FnOk P w K mg base (L2.CX P w) 4 a.f_check_row a.d_check_row ["row"] (spCheckRowX K a.C_BadRow) := by
  refine T.F_check_row.okX sc_check_row (fun vs H Q E h => ?_) (fun cdv A outer s H vs Q E hr h => ?_)
  · obtain ⟨p, xs, rfl, _⟩ := h
    rfl
  · obtain ⟨p, xs, rfl, ⟨hS, hL, hI⟩, hE, q⟩ := h
    refine ⟨_, 
(pss_cons (ps_set (i := 1) sc_check_row.nd rfl (.inl rfl) (pe_call (ok_first_wrong T) hr (by rfl) T.m_first_wrong T.F_first_wrong.kp T.b_first_wrong .nil pass0 (pa_cons (pv 0) (pa_cons (pe_callB call_len_seq (by rfl) T.z_len PySem.boot_len (pa_cons (pv 0) pa_nil)) pa_nil))))
  (pss_one (ps_if (pt_cmpR op_notN (pv 1) pe_non (nomark _))
  (pss_one (ps_raise rfl (takes_of rfl rfl rfl rfl) (pmk_oex T.ox_BadRow.o T.ox_BadRow.ini T.ox_BadRow.tin (ok_BadRow_init T) (hr.mono (by decide)) T.b_BadRow_init .nil pass0 (by rfl) T.c_BadRow (pa_cons (pv 1) pa_nil))))
  pss_nil))), ?_⟩
    refine ⟨.ref p, rfl, .ref p, rfl, p, _, rfl, hS, p, xs, rfl, hS, hL, hI, fun H' s' => ?_⟩
    cases e : fwI xs.length [] 0 xs with
    | none => exact ⟨_, rfl, rfl, _, rfl, iteF (q e H' s')⟩
    | some k => exact ⟨_, rfl, rfl, _, rfl, iteT ⟨_, rfl, (by decide : 1 ≤ 1000), err_end s' (hE k e)⟩⟩
theorem no_q {xs : List V} {k : Nat} (e : fwR xs = some k) {A : Prop} : fwR xs = none → A := fun z => by
  rw [e] at z
  cases z
theorem one_e {xs : List V} {k : Nat} (e : fwR xs = some k) {B : Nat → Prop} (h : B k) : ∀ j, fwR xs = some j → B j := fun j z => by
  rw [e] at z
  cases z
  exact h
theorem no_e {xs : List V} (e : fwR xs = none) {B : Nat → Prop} : ∀ j, fwR xs = some j → B j := fun j z => by
  rw [e] at z
  cases z
end

/-! ### runs of a list, and with one place more -/
/-- one piece a place -/
def sngF : Int → List Int → List Pc
  | _, [] => []
  | lo, g :: r => ⟨lo, 1, g, 1⟩ :: sngF (lo + 1) r
theorem sng_len : ∀ (lo : Int) (is : List Int), (sngF lo is).length = is.length
  | _, [] => rfl
  | lo, _ :: r => congrArg (· + 1) (sng_len (lo + 1) r)
theorem sng_chain : ∀ (lo : Int) (is : List Int), Chain lo (lo + is.length) (sngF lo is)
  | lo, [] => by
    show lo = lo + ((0 : Nat) : Int)
    omega
  | lo, g :: r => by
    refine ⟨rfl, Int.le_refl _, .inl rfl, ?_⟩
    have := sng_chain (lo + 1) r
    rw [show lo + ((g :: r).length : Int) = lo + 1 + (r.length : Int) by simp only [List.length_cons]; omega]
    exact this
theorem sng_get : ∀ (lo : Int) (is : List Int) {i : Nat} (h : i < is.length), (sngF lo is)[i]? = some ⟨lo + i, 1, is[i], 1⟩
  | lo, g :: r, 0, _ => by
    show some (⟨lo, 1, g, 1⟩ : Pc) = some ⟨lo + ((0 : Nat) : Int), 1, g, 1⟩
    rw [show lo + ((0 : Nat) : Int) = lo by omega]
  | lo, g :: r, i + 1, h => by
    have := sng_get (lo + 1) r (i := i) (by simpa using h)
    show (sngF (lo + 1) r)[i]? = some (⟨lo + ((i + 1 : Nat) : Int), 1, r[i]'(by simpa using h), 1⟩ : Pc)
    rw [this, show lo + 1 + (i : Int) = lo + ((i + 1 : Nat) : Int) by omega]
theorem sng_val {is : List Int} {j : Nat} (h : j < is.length) : valP (sngF 0 is) (j : Int) = is[j] := by
  have m := List.mem_of_getElem? (sng_get 0 is h)
  rw [val_mem (sng_chain 0 is) m (by show 0 + (j : Int) ≤ j; omega) (by show (j : Int) < 0 + j + 1; omega)]
  show is[j] + 1 * ((j : Int) - (0 + j)) = _
  omega
/-- the list's rearrangement, told by pieces -/
def ValIs (ps : List Pc) (is : List Int) : Prop := ∀ (j : Nat) (h : j < is.length), valP ps (j : Int) = is[j]
theorem ValIs.rea {ps : List Pc} {is : List Int} (v : ValIs ps is) (hc : Chain 0 is.length ps) (hr : IsRow is) : Rea is.length ps := by
  have at' : ∀ j : Int, 0 ≤ j → j < is.length → ∃ (i : Nat) (h : i < is.length), j = i ∧ valP ps j = is[i] := fun j j0 j1 => ⟨j.toNat, by omega, by omega, by
    have := v j.toNat (by omega)
    rw [show ((j.toNat : Nat) : Int) = j by omega] at this
    exact this⟩
  refine ⟨hc, fun j j0 j1 => ?_, fun i j i0 i1 j0 j1 e => ?_⟩
  · obtain ⟨i, h, _, e⟩ := at' j j0 j1
    rw [e]
    have := hr.at h
    omega
  · obtain ⟨a, ha, ea, va⟩ := at' i i0 i1
    obtain ⟨b, hb, eb, vb⟩ := at' j j0 j1
    rw [va, vb] at e
    have := (List.getElem_inj (i := a) (j := b) (h₀ := ha) (h₁ := hb) hr.nodup).mp e
    omega
section
variable {P : Program} {w : World} {K : PySem.W.Frag} {mg : Str → Option Value} {base : Heap} {a : Ad}
def spRunsOfList (K : PySem.W.Frag) (C CR CS : Addr) : Sp := fun vs H Q E => ∃ (p : Addr) (xs : List V), vs = [.ref p] ∧ RowV K H p xs ∧
  ((∃ is : List Int, xs = is.map V.int ∧ IsRow is ∧ 1 ≤ is.length ∧ is.length ≤ 1000 ∧ ∀ q H' ps, RunsAt C H' q is.length ps → Rea is.length ps → NFl ps → ps.length ≤ is.length → ValIs ps is → Same H H' → Q (.ref q) H') ∨
   (∃ k, fwR xs = some k ∧ ErrAt H E CR "index" (.int ((k : Nat) : Int))) ∨
   (fwR xs = none ∧ ¬ (1 ≤ xs.length ∧ xs.length ≤ 1000) ∧ ErrAt H E CS "size" (.int (xs.length : Int))))
theorem ok_runs_of_list (T : Tx w K mg a) : FnOk P w K mg base (L2.CX P w) 5 a.f_runs_of_list a.d_runs_of_list ["row"] (spRunsOfList K a.C_Runs a.C_BadRow a.C_BadSize) := by
  refine T.F_runs_of_list.okX sc_runs_of_list (fun vs H Q E h => ?_) (fun cdv A outer s H vs Q E hr h => ?_)
  · obtain ⟨p, xs, rfl, _⟩ := h
    rfl
  · obtain ⟨p, xs, rfl, hV, h⟩ := h
    refine ⟨_, 
(pss_cons (ps_expr (pe_callS (ok_check_row T) hr (by rfl) T.m_check_row T.F_check_row.kp T.b_check_row (fun σ => passAt (takes_of rfl rfl rfl rfl) σ) (pa_cons (pv 0) pa_nil)))
  (pss_cons (ps_if (pt_not (pt_val (pe_call (ok_is_between T) (hr.mono (by decide)) (by rfl) T.m_is_between T.F_is_between.kp T.b_is_between .nil pass0 (pa_cons (pe_callB call_len_seq (by rfl) T.z_len PySem.boot_len (pa_cons (pv 0) pa_nil)) (pa_cons pe_int (pa_cons (pe_glob (v := .int 1000) (by rfl) T.m_MOST_PLACES.choose_spec ⟨_, rfl⟩) pa_nil))))))
  (pss_one (ps_raise rfl (takes_of rfl rfl rfl rfl) (pmk_oex T.ox_BadSize.o T.ox_BadSize.ini T.ox_BadSize.tin (ok_BadSize_init T) (hr.mono (by decide)) T.b_BadSize_init .nil pass0 (by rfl) T.c_BadSize (pa_cons (pe_callB call_len_seq (by rfl) T.z_len PySem.boot_len (pa_cons (pv 0) pa_nil)) pa_nil))))
  pss_nil)
  (pss_one (ps_ret (pe_make T.mk_Runs (ok_Runs_init T) hr (by rfl) T.c_Runs T.b_Runs_init .nil pass0 (pa_cons (pe_callB call_len_seq (by rfl) T.z_len PySem.boot_len (pa_cons (pv 0) pa_nil)) (pa_cons (pe_lc (own := [("place", 1), ("goal", 2)]) (g := gTup K 2 (gCons (gName 1) (gCons (gName 2) gNil))) rfl sc_runs_of_list.nd (pi_enumS (by rfl) T.z_enumerate (pa_cons (pv 0) pa_nil)) (blkOk_by (own := [("place", 1), ("goal", 2)]) (N := ["row", "place", "goal"]) (sc := defScope s_runs_of_list) (by decide +kernel)) (fun _ _ _ _ _ => pg_tup rfl (pgs_cons (pg_name (i := 1) sc_runs_of_list.nd rfl (Or.inl rfl)) (pgs_cons (pg_name (i := 2) sc_runs_of_list.nd rfl (Or.inl rfl)) pgs_nil))) (fun _ _ _ _ _ => pts_nil) (fun _ _ _ _ _ => (pe_tup (pa_cons (pv 1) (pa_cons pe_int (pa_cons (pv 2) (pa_cons pe_int pa_nil))))))) pa_nil))))))), ?_⟩
    have hV' := hV
    obtain ⟨hS, hL, hI⟩ := hV
    rcases h with ⟨is, rfl, hR, l1, l2, k⟩ | ⟨m, hm, hE⟩ | ⟨hn, hlen, hE⟩
    rotate_left
    · exact ⟨_, rfl, p, xs, rfl, hV', one_e hm hE, no_q hm⟩
    · refine ⟨_, rfl, p, xs, rfl, hV', no_e hn, fun _ H' s' => ?_⟩
      refine ⟨.ref p, rfl, p, xs, rfl, hS.same s', .int (xs.length : Int), true, 1, 1000, rfl, .int _, _, rfl, ?_⟩
      rw [show btM 1 1000 (.int (xs.length : Int)) = false from by
        refine Bool.eq_false_iff.mpr fun z => hlen ?_
        simp only [btM, Bool.and_eq_true, decide_eq_true_eq] at z
        omega]
      exact iteT ⟨.ref p, rfl, p, xs, rfl, hS.same s', (by decide : 1 ≤ 1000), err_end s' hE⟩
    have hn := fwR_row hR
    refine ⟨_, rfl, p, _, rfl, hV', no_e hn, fun _ H1 s1 => ?_⟩
    have hS1 := hS.same s1
    refine ⟨.ref p, rfl, p, _, rfl, hS1, .int ((is.map V.int).length : Int), true, 1, 1000, rfl, .int _, _, rfl, ?_⟩
    rw [List.length_map]
    rw [show btM 1 1000 (.int (is.length : Int)) = true from by
      simp only [btM, Bool.and_eq_true, decide_eq_true_eq]
      omega]
    refine iteF ⟨.ref p, rfl, p, _, rfl, hS1, .ref p, rfl, p, is.map V.int, rfl, ?_⟩
    rw [List.length_map]
    have sl := sng_len 0 is
    refine hS1.elim (fun hS2 => .inl ⟨hS2, fun D hD => ?_⟩) (fun hS2 => .inr ⟨hS2, fun D hD => ?_⟩)
    all_goals
      refine lc_it (by first | exact walk_enum (xs := is.map V.int) | exact walk_enumT (xs := is.map V.int)) (fun j H' => Same H1 H' ∧ ∃ us : List Addr, H' D = some (.lst (us.map V.ref)) ∧ PcsH H' us ((sngF 0 is).take j)) ?h0 ?hG ?hs ?hd
      case h0 => exact ⟨same_upd hD, [], upd_same, trivial⟩
      case hG =>
        rintro j H' _ ⟨sm, _⟩
        first | exact sm.seq hS2 | exact Same.seqT sm hS2
      case hs =>
        rintro j v H3 H4 hj ⟨sm, us, eD, hus⟩ ⟨t, x1, x, rfl, nt, rfl, e1, e2⟩
        cases e1
        rw [List.length_map] at hj
        have e2 : (is.map V.int)[j]? = some x := e2
        rw [List.getElem?_map, List.getElem?_eq_getElem hj] at e2
        cases e2
        have s4 := same_upd (o := .tup [.int (j : Nat), .int is[j]]) nt
        have et : (upd H3 t (.tup [.int (j : Nat), .int is[j]])) t = some (.tup [.int (j : Nat), .int is[j]]) := upd_same
        generalize upd H3 t (.tup [.int (j : Nat), .int is[j]]) = H4 at s4 et ⊢
        have ul := hus.len
        rw [List.length_take] at ul
        have htk : (sngF 0 is).take (j + 1) = (sngF 0 is).take j ++ [⟨(j : Int), 1, is[j], 1⟩] := by
          rw [List.take_succ, sng_get 0 is hj, Int.zero_add]
          rfl
        rw [htk]
        generalize (sngF 0 is).take j = dn at hus ul ⊢
        refine ⟨t, [.int (j : Nat), .int is[j]], rfl, SqT.at et, rfl, _, [.int is[j]], rfl, .int is[j], [], rfl, rfl, rfl, ?_⟩
        refine ⟨_, rfl, _, rfl, sz (show 4 ≤ 100000 by decide), fun nt2 nnt => ?_⟩
        have s5 := same_upd (o := .tup [.int (j : Nat), .int 1, .int is[j], .int 1]) nnt
        have ent : (upd H4 nt2 (.tup [.int (j : Nat), .int 1, .int is[j], .int 1])) nt2 = some (.tup (pcV ⟨(j : Int), 1, is[j], 1⟩)) := upd_same
        generalize upd H4 nt2 (.tup [.int (j : Nat), .int 1, .int is[j], .int 1]) = H5 at s5 ent ⊢
        have eD5 := s5 _ _ (s4 _ _ eD)
        have nD : ∀ b xs, H5 b = some (.tup xs) → b ≠ D := fun b xs e z => by
          rw [z, eD5] at e
          cases e
        refine ⟨us.map V.ref, eD5, szlt (by rw [List.length_map]; omega), keep_upd (sm.trans (s4.trans s5)) hD, us ++ [nt2], by rw [upd_same, List.map_append]; rfl, ?_⟩
        refine PcsH.snoc ?_ (((hus.same s4).same s5).mono fun b o e ⟨xs, h⟩ => ?_)
        · rw [upd_ne (nD _ _ ent)]
          exact ent
        · subst h
          rw [upd_ne (nD _ _ e)]
          exact e
      case hd =>
        rintro H3 ⟨sm, us, eD, hus⟩
        rw [List.length_map, ← sl, List.take_length] at hus
        refine fun q dx hq hdx ne => ?_
        obtain ⟨s6, ep⟩ := madeR (C := a.C_Runs) hq hdx ne
        generalize upd (upd H3 dx (.own q)) q (.ins a.C_Runs dx []) = H6 at s6 ep ⊢
        have hc : Chain 0 is.length (sngF 0 is) := by
          have := sng_chain 0 is
          rw [Int.zero_add] at this
          exact this
        obtain ⟨o1, o2, o3⟩ := (ValIs.rea (fun j h => sng_val h) hc hR).one
        refine ⟨q, dx, D, (is.length : Int), us, sngF 0 is, rfl, ep, s6 _ _ eD, hus.same s6, by omega, fun H7 hR7 hk => ⟨rfl, k q H7 _ hR7 o1 o2 (fold_le1000 (by omega)) (fun j h => ?_) ?_⟩⟩
        · rw [o3 j (by omega) (by omega)]
          exact sng_val h
        · exact s1.trans (sm.trans fun b o e => hk b o (s6 b o e) (ne_of_none e hq))
end

theorem ne_false {xs ys : List Int} {A B : Prop} (h : xs = ys) (q : B) : if (!PyData.eqv (iD xs) (iD ys)) = true then A else B := by
  subst h
  rw [eqv_ints, decide_eq_true rfl]
  exact q
theorem perm_ints {vs : List V} {xs : List Int} (h : vs.Perm (xs.map V.int)) : ∃ ys : List Int, vs = ys.map V.int ∧ ys.Perm xs := by
  let un : V → Int := fun v => match v with
    | .int i => i
    | _ => 0
  have e : vs = (vs.map un).map V.int := by
    rw [List.map_map]
    conv => lhs; rw [← List.map_id vs]
    refine List.map_congr_left fun v hv => ?_
    obtain ⟨i, _, rfl⟩ := List.mem_map.mp (h.mem_iff.mp hv)
    rfl
  refine ⟨vs.map un, e, ?_⟩
  have p := h.map un
  rw [List.map_map] at p
  have e2 : xs.map (un ∘ V.int) = xs := by
    conv => rhs; rw [← List.map_id xs]
    exact List.map_congr_left fun _ _ => rfl
  rw [e2] at p
  exact p
/-- the comprehension [xs[y] for y in ys]: names at i (ys), j (xs), k (y) -/
theorem lc_pick {K : PySem.W.Frag} {σ : L2.St} {H : Hp} {Q : VK} {p r : Addr} {xs ys : List Int} {i j k : Nat} (hi : σ[i]? = some (some (.ref r))) (hj : σ[j]? = some (some (.ref p))) (hjk : k ≠ j) (hk : k < σ.length)
    (hy : SqL K H r (ys.map V.int)) (hx : SqL K H p (xs.map V.int)) (hb : ∀ y ∈ ys, 0 ≤ y ∧ y.toNat < xs.length) (hl : ys.length ≤ 100000)
    (q : ∀ o H', H o = none → H' o = some (.lst ((pickI xs ys).map V.int)) → Same H H' → Q (.ref o) H') :
    tLc (iList K (tVar i)) (gName k) tYes (tOp (rIxL K) (tVar j) (tVar k)) [k] σ H Q := by
  refine ⟨_, hi, r, rfl, ⟨_, hy⟩, fun o ho => ?_⟩
  refine lc_it (walk_list (xs := ys.map V.int)) (fun i H' => Same H H' ∧ H' o = some (.lst (((pickI xs ys).take i).map V.int))) ?h0 ?hG ?hs ?hd
  case h0 => exact ⟨same_upd ho, upd_same⟩
  case hG =>
    rintro i H' _ ⟨sm, _⟩
    exact sm.seq hy
  case hd =>
    rintro H' ⟨sm, e⟩
    rw [List.length_map, List.take_of_length_le (by rw [pick_len]; exact Nat.le_refl _)] at e
    exact q o H' ho e sm
  case hs =>
    rintro i x H3 H4 hi' ⟨sm, e⟩ ⟨rfl, ex⟩
    rw [List.length_map] at hi'
    rw [List.getElem?_map, List.getElem?_eq_getElem hi'] at ex
    cases ex
    have hbi := hb _ (List.getElem_mem hi')
    refine ⟨?_, .ref p, ?_, .int ys[i], ?_, p, _, ys[i], _, rfl, rfl, sm.seq hx, atI_ints hbi.1 hbi.2, ?_⟩
    · show ((σ.set k none).set k _).set k none = σ.set k none
      simp
    · show ((σ.set k none).set k _)[j]? = _
      rw [List.getElem?_set_ne hjk, List.getElem?_set_ne hjk]
      exact hj
    · show ((σ.set k none).set k _)[k]? = _
      rw [List.getElem?_set_self (by simp; exact hk)]
    · refine ⟨_, e, ?_, ?_, ?_⟩
      · rw [List.length_map, List.length_take]
        exact szlt (Nat.le_trans (Nat.min_le_right _ _) (by rw [pick_len]; exact hl))
      · intro b u hb'
        rw [upd_ne (ne_of_none hb' ho)]
        exact sm b u hb'
      · rw [upd_same, List.take_add_one, List.getElem?_eq_getElem (by rw [pick_len]; exact hi'), pick_get hi', List.map_append, getD_get hbi.2]
        rfl
section
variable {P : Program} {w : World} {K : PySem.W.Frag} {mg : Str → Option Value} {base : Heap} {a : Ad}
def spLawRow : Sp := fun vs H Q _ => ∃ (d c : Addr) (n m : Nat), vs = [.ref d, .int (m : Int)] ∧ Pen H d c n ∧ n + m < 2 ^ 40 ∧ m ≤ 100000 ∧
  ∀ p ys H', IsRow ys → ys.length = m → H p = none → H' p = some (.lst (ys.map V.int)) → Pen H' d c (n + m) → But d H H' → Q (.ref p) H'
theorem ok__law_row (T : Tx w K mg a) : FnOk P w K mg base CX0 3 a.f__law_row a.d__law_row ["pen", "size"] spLawRow := by
  refine T.F__law_row.ok sc__law_row (fun vs H Q E h => ?_) (fun cdv A outer s H vs Q E hr h => ?_)
  · obtain ⟨d, c, n, m, rfl, _⟩ := h
    rfl
  · obtain ⟨d, c, n, m, rfl, hp, hn, hm, q⟩ := h
    refine ⟨_, 
(pss_one (ps_ret (pe_call (ok__law_shuffled T) hr (by rfl) T.m__law_shuffled T.F__law_shuffled.kp T.b__law_shuffled .nil pass0 (pa_cons (pv 0) (pa_cons (pe_listRg rfl (by rfl) T.z_list (prg_1 (by rfl) T.z_range (pv 1))) pa_nil))))), ?_⟩
    refine ⟨.ref d, rfl, _, rfl, _, rfl, RgOk.of_le (by decide) (by omega) (by decide) (by omega), fun l hl => ?_⟩
    rw [rgV_ri]
    have s1 : Same H (upd H l (.lst ((ri m).map V.int))) := same_upd hl
    have hlen : ((ri m).map V.int).length = m := by rw [List.length_map, ri_len]
    refine ⟨d, c, l, n, _, rfl, hp.same s1, by rw [hlen]; exact hn, SqL.at upd_same, by rw [hlen]; exact hm, fun p ys H' pm hp0 hpl hpen hb => ?_⟩
    obtain ⟨zs, rfl, pz⟩ := perm_ints pm
    have zl : zs.length = m := by
      have := pz.length_eq
      rw [ri_len] at this
      exact this
    rw [hlen] at hpen
    exact q p zs H' (isRow_of m pz) zl (s1.free hp0) hpl hpen fun b o e n => hb b o (s1 b o e) n
def spAfter (K : PySem.W.Frag) : Sp := fun vs H Q _ => ∃ p r xs ts, vs = [.ref p, .ref r] ∧ SqL K H p (xs.map V.int) ∧ SqL K H r (ts.map V.int) ∧ (∀ y ∈ xs, 0 ≤ y ∧ y.toNat < ts.length) ∧ xs.length ≤ 100000 ∧
  ∀ o H', H o = none → H' o = some (.lst ((pickI ts xs).map V.int)) → Same H H' → Q (.ref o) H'
theorem ok__law_after (T : Tx w K mg a) : FnOk P w K mg base CX0 1 a.f__law_after a.d__law_after ["row", "things"] (spAfter K) := by
  refine T.F__law_after.ok sc__law_after (fun vs H Q E h => ?_) (fun cdv A outer s H vs Q E hr h => ?_)
  · obtain ⟨p, r, xs, ts, rfl, _⟩ := h
    rfl
  · obtain ⟨p, r, xs, ts, rfl, hX, hT, hb, hl, q⟩ := h
    refine ⟨_, 
(pss_one (ps_ret (pe_lc (own := [("part", 2)]) (g := gName 2) rfl sc__law_after.nd (pi_list (pv 0)) (blkOk_by (own := [("part", 2)]) (N := ["row", "things", "part"]) (sc := defScope s__law_after) (by decide +kernel)) (fun _ _ _ _ _ => pg_name (i := 2) sc__law_after.nd rfl (Or.inl rfl)) (fun _ _ _ _ _ => pts_nil) (fun _ _ _ _ _ => (pe_ix (show IxR _ (rIxL K) from ix_list) (pv 1) (pv 2) (fun _ _ => rfl)))))), ?_⟩
    exact lc_pick (i := 0) (j := 1) (k := 2) rfl rfl (by decide) (show 2 < 3 by decide) hX hT hb hl q
end

/-! ### the law's own one form of a list -/
/-- the piece p cannot go on at the place at -/
def StopAt (xs : List Int) (at' : Nat) (ps : List Pc) : Prop := ∀ p, ps.getLast? = some p → ∀ (h : at' < xs.length) (q : Pc), q.g = xs[at'] → cwF p q = 0
/-- so many members go on from the place at, in this way -/
structure Goes (xs : List Int) (at' : Nat) (v : Int) (m : Nat) : Prop where
  m1 : 1 ≤ m
  le : at' + m ≤ xs.length
  all : ∀ t, t < m → ∀ h : at' + t < xs.length, ∀ h0 : at' < xs.length, xs[at' + t] = xs[at'] + v * t
theorem goes_one {xs : List Int} {at' : Nat} {v : Int} (h : at' < xs.length) : Goes xs at' v 1 := ⟨Nat.le_refl _, h, fun t ht h1 h0 => by
  have : t = 0 := by omega
  subst this
  show xs[at'] = _ + v * ((0 : Nat) : Int)
  rw [show v * ((0 : Nat) : Int) = 0 by simp]
  omega⟩
/-- the piece that the law makes -/
def lawP (xs : List Int) (at' : Nat) (v : Int) (m : Nat) : Pc := ⟨at', m, xs.getD at' 0, if 1 < m then v else 1⟩
theorem lawP_ok {xs : List Int} {at' m : Nat} {v : Int} (g : Goes xs at' v m) (hv : v = 1 ∨ v = -1) (h0 : at' < xs.length) {ps : List Pc} (hc : Chain 0 at' ps) (hn : NFl ps) (hs : StopAt xs at' ps) (hval : ∀ (j : Nat) (h : j < xs.length), j < at' → valP ps (j : Int) = xs[j])
    (hend : ∀ h : at' + m < xs.length, xs[at' + m] ≠ xs[at'] + v * m) (hone : m = 1 → ∀ h : at' + 1 < xs.length, xs[at' + 1] ≠ xs[at'] - 1 ∧ xs[at' + 1] ≠ xs[at'] + 1) :
    Chain 0 (at' + m : Nat) (ps ++ [lawP xs at' v m]) ∧ NFl (ps ++ [lawP xs at' v m]) ∧ StopAt xs (at' + m) (ps ++ [lawP xs at' v m]) ∧ ∀ (j : Nat) (h : j < xs.length), j < at' + m → valP (ps ++ [lawP xs at' v m]) (j : Int) = xs[j] := by
  obtain ⟨m1, le, all⟩ := g
  have w1 : (lawP xs at' v m).w = 1 ∨ (lawP xs at' v m).w = -1 := by
    show (if 1 < m then v else 1) = 1 ∨ (if 1 < m then v else 1) = -1
    split
    · exact hv
    · exact .inl rfl
  have wv : 1 < m → (lawP xs at' v m).w = v := fun h => if_pos h
  have gv : (lawP xs at' v m).g = xs[at'] := getD_get h0
  have one : Chain (at' : Int) ((at' + m : Nat) : Int) [lawP xs at' v m] := ⟨rfl, by show (1 : Int) ≤ (m : Int); omega, w1, by show (at' : Int) + (m : Int) = _; omega⟩
  refine ⟨hc.append one, hn.snoc (fun h => ?_) (fun q hq => hs q hq h0 _ gv), fun p hp h q hq => ?_, fun j h hj => ?_⟩
  · have h : (m : Int) = 1 := h
    exact if_neg (by omega)
  · rw [List.getLast?_concat] at hp
    cases hp
    rcases cw_cases (lawP xs at' v m) q with e | ⟨e1, e2, e3, e4⟩
    · exact e
    · exfalso
      rw [gv, hq] at e4
      have e2 : (m : Int) = 1 ∨ (lawP xs at' v m).w = cwF (lawP xs at' v m) q := e2
      have e4 : xs[at' + m] = xs[at'] + cwF (lawP xs at' v m) q * (m : Int) := e4
      generalize cwF (lawP xs at' v m) q = c at e1 e2 e4
      by_cases hm : m = 1
      · subst hm
        obtain ⟨n1, n2⟩ := hone rfl h
        rcases e1 with rfl | rfl
        · exact n2 (by rw [e4]; simp)
        · exact n1 (by rw [e4]; simp; omega)
      · rcases e2 with e2 | e2
        · omega
        · rw [wv (by omega)] at e2
          rw [← e2] at e4
          exact hend h e4
  · by_cases c : j < at'
    · rw [val_left hc (by omega) (by omega)]
      exact hval j h c
    · rw [val_right hc (by omega), val_head (r := []) (by show (j : Int) < (at' : Int) + (m : Int); omega), gv]
      show xs[at'] + (if 1 < m then v else 1) * ((j : Int) - (at' : Int)) = xs[j]
      obtain ⟨t, rfl⟩ : ∃ t, j = at' + t := ⟨j - at', by omega⟩
      rw [all t (by omega) h h0, show ((at' + t : Nat) : Int) - (at' : Int) = (t : Int) by omega]
      by_cases hm : 1 < m
      · rw [if_pos hm]
      · have : t = 0 := by omega
        subst this
        simp
section
variable {P : Program} {w : World} {K : PySem.W.Frag} {mg : Str → Option Value} {base : Heap} {a : Ad}
def spLawForm (K : PySem.W.Frag) : Sp := fun vs H Q _ => ∃ (p : Addr) (xs : List Int), vs = [.ref p] ∧ SqL K H p (xs.map V.int) ∧ xs.length ≤ 1000 ∧
  ∀ o rs ps H', H o = none → H' o = some (.lst (rs.map V.ref)) → PcsH H' rs ps → Chain 0 xs.length ps → NFl ps → ValIs ps xs → Same H H' → Q (.ref o) H'
theorem ok__law_form (T : Tx w K mg a) : FnOk P w K mg base CX0 1 a.f__law_form a.d__law_form ["row"] (spLawForm K) := by
  refine T.F__law_form.ok sc__law_form (fun vs H Q E h => ?_) (fun cdv A outer s H vs Q E hr h => ?_)
  · obtain ⟨p, xs, rfl, _⟩ := h
    rfl
  · obtain ⟨p, xs, rfl, hS, hl, k⟩ := h
    refine ⟨_, 
(pss_cons (ps_par (i := 1) (j := 2) (by rfl) sc__law_form.nd rfl rfl (by decide) rfl rfl (pa_cons (pe_lst pa_nil) (pa_cons pe_int pa_nil)) (by rfl))
  (pss_cons (ps_for PassesOwn.never rfl (pi_range1 (by rfl) T.z_range (pa_cons (pe_callB call_len_seq (by rfl) T.z_len PySem.boot_len (pa_cons (pv 0) pa_nil)) pa_nil)) (pg_name (i := 3) sc__law_form.nd rfl (.inl rfl))
  (pss_one (ps_if (pt_cmpR op_lt (pv 2) (pe_callB call_len_seq (by rfl) T.z_len PySem.boot_len (pa_cons (pv 0) pa_nil)) (nomark _))
  (pss_cons (ps_asg (pe_tup (pa_cons pe_int (pa_cons pe_int pa_nil))) (pg_tup rfl (pgs_cons (pg_name (i := 4) sc__law_form.nd rfl (.inl rfl)) (pgs_cons (pg_name (i := 5) sc__law_form.nd rfl (.inl rfl)) pgs_nil))))
  (C8.pss_cut (ps_if (PW.pt (pw_and (pt_cmpR op_lt (pe_op op_add (pv 2) pe_int) (pe_callB call_len_seq (by rfl) T.z_len PySem.boot_len (pa_cons (pv 0) pa_nil)) (nomark _)) (pw_and1 (pt_cmpR op_eq (pe_ix ix_list (pv 0) (pe_op op_add (pv 2) pe_int) (fun _ _ => rfl)) (pe_op op_sub (pe_ix ix_list (pv 0) (pv 2) (fun _ _ => rfl)) pe_int) (nomark _)))))
  (pss_one (ps_set (i := 5) sc__law_form.nd rfl (.inl rfl) (pe_un un_neg pe_int)))
  pss_nil)
  (pss_cons (ps_for PassesOwn.never rfl (pi_range2 (by rfl) T.z_range (pa_cons (pe_op op_add (pv 2) pe_int) (pa_cons (pe_callB call_len_seq (by rfl) T.z_len PySem.boot_len (pa_cons (pv 0) pa_nil)) pa_nil))) (pg_name (i := 6) sc__law_form.nd rfl (.inl rfl))
  (pss_one (ps_if (PW.pt (pw_and (pt_cmpR op_eq (pv 6) (pe_op op_add (pv 2) (pv 4)) (nomark _)) (pw_and1 (pt_cmpR op_eq (pe_ix ix_list (pv 0) (pv 6) (fun _ _ => rfl)) (pe_op op_add (pe_ix ix_list (pv 0) (pv 2) (fun _ _ => rfl)) (pe_op op_mul (pv 5) (pv 4))) (nomark _)))))
  (pss_one (ps_set (i := 4) sc__law_form.nd rfl (.inl rfl) (pe_op op_add (pv 4) pe_int)))
  pss_nil)))
  (pss_cons (ps_expr (pe_bm PySem.F.plainAttrs_list PySem.F.slot_list_append PySem.F.type_list_append mt_append (pv 1) (pa_cons (pe_tup (pa_cons (pv 2) (pa_cons (pv 4) (pa_cons (pe_ix ix_list (pv 0) (pv 2) (fun _ _ => rfl)) (pa_cons (pe_ifExp (pt_cmpR op_gt (pv 4) pe_int (nomark _)) (pv 5) pe_int) pa_nil))))) pa_nil)))
  (pss_one (ps_set (i := 2) sc__law_form.nd rfl (.inl rfl) (pe_op op_add (pv 2) (pv 4))))))))
  pss_nil)))
  (pss_one (ps_ret (pv 1))))), ?_⟩
    refine ⟨sz (show 0 ≤ 100000 by decide), fun o no => ⟨.ref o, .int 0, rfl, ?_⟩⟩
    have s1 := same_upd (o := .lst []) no
    have eo : (upd H o (.lst [])) o = some (.lst []) := upd_same
    generalize upd H o (.lst []) = H1 at s1 eo ⊢
    refine ⟨.ref p, rfl, p, xs.map V.int, rfl, .inl (s1.seq hS), _, rfl, by omega, by rw [List.length_map]; omega, ?_⟩
    have rd : ∀ {H' : Hp}, Same H H' → ∀ {i : Nat} (h : i < xs.length) {Q' : VK}, Q' (.int xs[i]) H' → rIxL K (.ref p) (.int (i : Int)) H' Q' := fun {H'} sm {i} h {Q'} q => ⟨p, _, (i : Int), _, rfl, rfl, sm.seq hS, atI_nat (by rw [List.getElem?_map, List.getElem?_eq_getElem h]; rfl), q⟩
    -- for turn in range(len(row))
    refine for_range (lo := 0) (n := (xs.map V.int).length) (fun i σ H' => ∃ (at' : Nat) (y3 y4 y5 y6 : Option V) (rs : List Addr) (ps : List Pc), σ = [some (.ref p), some (.ref o), some (.int (at' : Int)), y3, y4, y5, y6] ∧ Same H H' ∧ H' o = some (.lst (rs.map V.ref)) ∧ PcsH H' rs ps ∧ Chain 0 at' ps ∧ NFl ps ∧ StopAt xs at' ps ∧ (∀ (j : Nat) (h : j < xs.length), j < at' → valP ps (j : Int) = xs[j]) ∧ at' ≤ xs.length ∧ (i ≤ at' ∨ at' = xs.length) ∧ ps.length ≤ at') ?g0 ?gs ?gd
    case g0 => exact ⟨0, none, none, none, none, [], [], rfl, s1, eo, trivial, rfl, trivial, fun p hp => (by cases hp), fun j _ hj => absurd hj (Nat.not_lt_zero _), Nat.zero_le _, .inl (Nat.le_refl _), Nat.le_refl _⟩
    case gs =>
      rintro i σ H2 hi ⟨at', y3, y4, y5, y6, rs, ps, rfl, sm, eo2, hps, hc, hn, hst, hval, hat, hia, hpl⟩
      -- if at < len(row)
      refine ⟨_, rfl, .ref p, rfl, p, xs.map V.int, rfl, .inl (sm.seq hS), _, _, rfl, rfl, _, rfl, ?_⟩
      rw [List.length_map] at hi ⊢
      by_cases c : at' < xs.length
      rotate_left
      · rw [decide_eq_false (show ¬ (at' : Int) < (xs.length : Int) by omega)]
        exact iteF ⟨at', _, y4, y5, y6, rs, ps, rfl, sm, eo2, hps, hc, hn, hst, hval, hat, .inr (by omega), hpl⟩
      rw [decide_eq_true (show (at' : Int) < (xs.length : Int) by omega)]
      refine iteT ?_
      -- many, way = 1, 1
      refine ⟨sz (show 2 ≤ 100000 by decide), fun t nt => ?_⟩
      have s3 := same_upd (o := .tup [.int 1, .int 1]) nt
      refine ⟨t, [.int 1, .int 1], rfl, SqT.at upd_same, rfl, .int 1, [.int 1], rfl, .int 1, [], rfl, rfl, ?_⟩
      have sm3 := sm.trans s3
      have eo3 := s3 _ _ eo2
      have hps3 := hps.same s3
      change C8.tCut _ _ _ _ (upd H2 t (.tup [.int 1, .int 1]))
      generalize upd H2 t (.tup [.int 1, .int 1]) = H3 at sm3 eo3 hps3 ⊢
      clear s3 hps eo2 sm nt
      -- if at + 1 < len(row) and row[at + 1] == row[at] - 1: way = -1
      refine ⟨fun σ' H' => ∃ v : Int, σ' = [some (.ref p), some (.ref o), some (.int (at' : Int)), some (.int (0 + (i : Int))), some (.int 1), some (.int v), y6] ∧ H' = H3 ∧ (v = 1 ∨ v = -1) ∧ (v = 1 → ∀ h : at' + 1 < xs.length, xs[at' + 1] ≠ xs[at'] - 1) ∧ (v = -1 → ∃ h : at' + 1 < xs.length, xs[at' + 1] = xs[at'] - 1), ?_, ?_⟩
      · refine ⟨_, rfl, _, 1, rfl, rfl, .ref p, rfl, p, xs.map V.int, rfl, .inl (sm3.seq hS), _, _, rfl, rfl, _, rfl, ?_⟩
        rw [List.length_map]
        by_cases c1 : at' + 1 < xs.length
        rotate_left
        · rw [decide_eq_false (show ¬ (at' : Int) + 1 < (xs.length : Int) by omega)]
          exact iteF (iteF ⟨1, rfl, rfl, .inl rfl, fun _ h => absurd h c1, fun z => by cases z⟩)
        rw [decide_eq_true (show (at' : Int) + 1 < (xs.length : Int) by omega)]
        refine iteT ⟨.ref p, rfl, _, rfl, _, 1, rfl, rfl, rd sm3 c1 ⟨.ref p, rfl, _, rfl, rd sm3 c ⟨_, 1, rfl, rfl, rfl, _, rfl, ?_⟩⟩⟩
        by_cases c2 : xs[at' + 1] = xs[at'] - 1
        · rw [decide_eq_true (show V.int xs[at' + 1] = V.int (xs[at'] - 1) by rw [c2])]
          exact iteT ⟨1, rfl, -1, rfl, rfl, .inr rfl, fun z => (by cases z), fun _ => ⟨c1, c2⟩⟩
        · rw [decide_eq_false (show ¬ V.int xs[at' + 1] = V.int (xs[at'] - 1) from fun z => c2 (V.int.inj z))]
          exact iteF ⟨1, rfl, rfl, .inl rfl, fun _ _ => c2, fun z => by cases z⟩
      rintro σ' H' ⟨v, rfl, rfl, hv, hv1, hv2⟩
      -- for k in range(at + 1, len(row))
      refine ⟨_, rfl, _, 1, rfl, rfl, .ref p, rfl, p, xs.map V.int, rfl, .inl (sm3.seq hS), (at' : Int) + 1, (xs.length : Int), by rw [List.length_map], by omega, ?_⟩
      rw [show ((xs.length : Int) - ((at' : Int) + 1)).toNat = xs.length - (at' + 1) by omega]
      refine for_range (lo := (at' : Int) + 1) (n := xs.length - (at' + 1)) (fun j σ' H'' => ∃ (m : Nat) (y6 : Option V), σ' = [some (.ref p), some (.ref o), some (.int (at' : Int)), some (.int (0 + (i : Int))), some (.int (m : Int)), some (.int v), y6] ∧ H'' = H' ∧ Goes xs at' v m ∧ m ≤ j + 1 ∧ (m < j + 1 → ∀ h : at' + m < xs.length, xs[at' + m] ≠ xs[at'] + v * m)) ?h0 ?hs ?hd
      case h0 => exact ⟨1, y6, rfl, rfl, goes_one c, Nat.le_refl _, fun h => absurd h (Nat.lt_irrefl _)⟩
      case hs =>
        rintro j σ' H'' hj ⟨m, y6, rfl, rfl, g, mj, mend⟩
        refine ⟨_, rfl, _, rfl, _, rfl, _, _, rfl, rfl, rfl, _, rfl, ?_⟩
        by_cases ck : m = j + 1
        rotate_left
        · rw [decide_eq_false (show ¬ V.int ((at' : Int) + 1 + (j : Int)) = V.int ((at' : Int) + (m : Int)) from fun z => by have := V.int.inj z; omega)]
          exact iteF (iteF ⟨m, _, rfl, rfl, g, by omega, fun _ => mend (by omega)⟩)
        subst ck
        rw [decide_eq_true (show V.int ((at' : Int) + 1 + (j : Int)) = V.int ((at' : Int) + ((j + 1 : Nat) : Int)) by congr 1; omega)]
        have hk : at' + 1 + j < xs.length := by omega
        refine iteT ⟨.ref p, rfl, _, rfl, ?_⟩
        rw [show (at' : Int) + 1 + (j : Int) = ((at' + 1 + j : Nat) : Int) by omega]
        refine rd sm3 hk ⟨.ref p, rfl, _, rfl, rd sm3 c ⟨_, rfl, _, rfl, _, _, rfl, rfl, .inl (by rcases hv with h | h <;> rw [h] <;> decide), _, _, rfl, rfl, rfl, _, rfl, ?_⟩⟩
        by_cases c3 : xs[at' + 1 + j] = xs[at'] + v * ((j + 1 : Nat) : Int)
        · rw [decide_eq_true (show V.int xs[at' + 1 + j] = V.int (xs[at'] + v * ((j + 1 : Nat) : Int)) by rw [c3])]
          refine iteT ⟨_, rfl, _, 1, rfl, rfl, j + 1 + 1, _, rfl, rfl, ⟨by omega, by omega, fun t ht h h0 => ?_⟩, by omega, fun z => absurd z (Nat.lt_irrefl _)⟩
          by_cases ct : t < j + 1
          · exact g.all t ct h h0
          · have : t = j + 1 := by omega
            subst this
            have e : at' + (j + 1) = at' + 1 + j := by omega
            simp only [e]
            exact c3
        · rw [decide_eq_false (show ¬ V.int xs[at' + 1 + j] = V.int (xs[at'] + v * ((j + 1 : Nat) : Int)) from fun z => c3 (V.int.inj z))]
          refine iteF ⟨j + 1, _, rfl, rfl, g, by omega, fun _ h z => c3 ?_⟩
          have e : at' + (j + 1) = at' + 1 + j := by omega
          simp only [e] at z
          exact z
      case hd =>
        rintro σ' H'' ⟨m, y6, rfl, rfl, g, mj, mend⟩
        have gl := g.le
        have m1 := g.m1
        have hend : ∀ h : at' + m < xs.length, xs[at' + m] ≠ xs[at'] + v * m := fun h => mend (by omega) h
        have hone : m = 1 → ∀ h : at' + 1 < xs.length, xs[at' + 1] ≠ xs[at'] - 1 ∧ xs[at' + 1] ≠ xs[at'] + 1 := fun e h => by
          subst e
          have := hend h
          rcases hv with rfl | rfl
          · exact ⟨hv1 rfl h, fun z => this (by rw [z]; simp)⟩
          · obtain ⟨_, z⟩ := hv2 rfl
            exact absurd (show xs[at' + 1] = xs[at'] + -1 * ((1 : Nat) : Int) by rw [z, Int.sub_eq_add_neg]; rfl) this
        obtain ⟨r1, r2, r3, r4⟩ := lawP_ok g hv c hc hn hst hval hend hone
        have ul := hps3.len
        -- found.append((at, many, row[at], way if many > 1 else 1)); at = at + many
        refine ⟨_, rfl, .inl ⟨rfl, _, SqL.at eo3⟩, _, rfl, _, rfl, .ref p, rfl, _, rfl, rd sm3 c ⟨_, rfl, _, 1, rfl, rfl, _, rfl, ?_⟩⟩
        have gx : xs.getD at' 0 = xs[at'] := getD_get c
        have f1 : i + 1 ≤ at' + m := by
          clear hv1 hv2 hone hend mend hv
          omega
        have f2 : (ps ++ [lawP xs at' v m]).length ≤ at' + m := by
          rw [List.length_append]
          show ps.length + 1 ≤ at' + m
          clear hv1 hv2 hone hend mend hv
          omega
        have f3 : (rs.map V.ref).length ≤ 100000 := by
          rw [List.length_map]
          clear hv1 hv2 hone hend mend hv
          omega
        by_cases cm : 1 < m
        · rw [decide_eq_true (show (1 : Int) < (m : Int) by omega)]
          have eP : [V.int (at' : Int), .int (m : Int), .int xs[at'], .int v] = pcV (lawP xs at' v m) := by
            unfold lawP pcV
            rw [gx, if_pos cm]
          refine iteT ⟨_, rfl, sz (show 4 ≤ 100000 by decide), fun nt nnt => ?_⟩
          have s4 := same_upd (o := .tup [.int (at' : Int), .int (m : Int), .int xs[at'], .int v]) nnt
          have ent : (upd H'' nt (.tup [.int (at' : Int), .int (m : Int), .int xs[at'], .int v])) nt = some (.tup (pcV (lawP xs at' v m))) := by
            rw [upd_same, ← eP]
          generalize upd H'' nt (.tup [.int (at' : Int), .int (m : Int), .int xs[at'], .int v]) = H4 at s4 ent ⊢
          have eo4 := s4 _ _ eo3
          have nO : ∀ b xs, H4 b = some (.tup xs) → b ≠ o := fun b xs e z => by
            rw [z, eo4] at e
            cases e
          refine ⟨o, rs.map V.ref, .ref nt, rfl, rfl, eo4, szlt f3, _, rfl, _, rfl, _, _, rfl, rfl, at' + m, _, _, _, _, rs ++ [nt], ps ++ [lawP xs at' v m], rfl, keep_upd (sm3.trans s4) no, by rw [upd_same, List.map_append]; rfl, ?_, r1, r2, r3, r4, gl, .inl f1, f2⟩
          refine PcsH.snoc ?_ ((hps3.same s4).mono fun b o e ⟨xs, h⟩ => ?_)
          · rw [upd_ne (nO _ _ ent)]
            exact ent
          · subst h
            rw [upd_ne (nO _ _ e)]
            exact e
        · rw [decide_eq_false (show ¬ (1 : Int) < (m : Int) by omega)]
          have eP : [V.int (at' : Int), .int (m : Int), .int xs[at'], .int 1] = pcV (lawP xs at' v m) := by
            unfold lawP pcV
            rw [gx, if_neg cm]
          refine iteF ⟨sz (show 4 ≤ 100000 by decide), fun nt nnt => ?_⟩
          have s4 := same_upd (o := .tup [.int (at' : Int), .int (m : Int), .int xs[at'], .int 1]) nnt
          have ent : (upd H'' nt (.tup [.int (at' : Int), .int (m : Int), .int xs[at'], .int 1])) nt = some (.tup (pcV (lawP xs at' v m))) := by
            rw [upd_same, ← eP]
          generalize upd H'' nt (.tup [.int (at' : Int), .int (m : Int), .int xs[at'], .int 1]) = H4 at s4 ent ⊢
          have eo4 := s4 _ _ eo3
          have nO : ∀ b xs, H4 b = some (.tup xs) → b ≠ o := fun b xs e z => by
            rw [z, eo4] at e
            cases e
          refine ⟨o, rs.map V.ref, .ref nt, rfl, rfl, eo4, szlt f3, _, rfl, _, rfl, _, _, rfl, rfl, at' + m, _, _, _, _, rs ++ [nt], ps ++ [lawP xs at' v m], rfl, keep_upd (sm3.trans s4) no, by rw [upd_same, List.map_append]; rfl, ?_, r1, r2, r3, r4, gl, .inl f1, f2⟩
          refine PcsH.snoc ?_ ((hps3.same s4).mono fun b o e ⟨xs, h⟩ => ?_)
          · rw [upd_ne (nO _ _ ent)]
            exact ent
          · subst h
            rw [upd_ne (nO _ _ e)]
            exact e
    case gd =>
      rintro σ H2 ⟨at', y3, y4, y5, y6, rs, ps, rfl, sm, eo2, hps, hc, hn, hst, hval, hat, hia, hpl⟩
      rw [List.length_map] at hia
      have e : at' = xs.length := by omega
      subst e
      exact ⟨_, rfl, k o rs ps H2 no eo2 hps hc hn (fun j h => hval j h h) sm⟩
end

/-! ### the law's lists of blocks -/
def HeldL (H : Hp) (L : List (Addr × List Int)) : Prop := ∀ e ∈ L, H e.1 = some (.lst (e.2.map V.int))
def flatL (L : List (Addr × List Int)) : List Int := (L.map (·.2)).flatten
theorem HeldL.mono {H H' : Hp} {L : List (Addr × List Int)} (h : HeldL H L) (e : ∀ b xs, H b = some (.lst xs) → (∃ f ∈ L, f.1 = b) → H' b = some (.lst xs)) : HeldL H' L := fun f hf => e _ _ (h f hf) ⟨f, hf, rfl⟩
theorem flat_perm {L M : List (Addr × List Int)} (h : L.Perm M) : (flatL L).Perm (flatL M) := by
  unfold flatL
  induction h with
  | nil => exact .refl _
  | cons x _ ih => exact ih.append_left _
  | swap x y l =>
    simp only [List.map_cons, List.flatten_cons, ← List.append_assoc]
    exact List.perm_append_comm.append_right _
  | trans _ _ h1 h2 => exact h1.trans h2
theorem flat_snoc (L : List (Addr × List Int)) (e : Addr × List Int) : flatL (L ++ [e]) = flatL L ++ e.2 := by
  unfold flatL
  simp
/-- from lo on, m ints -/
def riF (lo m : Nat) : List Int := (List.range m).map fun i : Nat => ((lo + i : Nat) : Int)
theorem rgV_riF (lo m : Nat) : rgV (lo : Int) ((lo + m : Nat) : Int) = (riF lo m).map V.int := by
  unfold rgV riF
  rw [List.map_map, show (((lo + m : Nat) : Int) - (lo : Int)).toNat = m by omega]
  refine List.map_congr_left fun i _ => ?_
  show V.int ((lo : Int) + (i : Nat)) = V.int ((lo + i : Nat) : Int)
  congr 1
theorem ri_add (lo m : Nat) : ri (lo + m) = ri lo ++ riF lo m := by
  unfold ri riF
  rw [List.range_add, List.map_append, List.map_map]
  rfl
theorem riF_len (lo m : Nat) : (riF lo m).length = m := by
  unfold riF
  rw [List.length_map, List.length_range]
/-- where the making of blocks stands, turn i -/
def BlkI (d c fo bo : Addr) (n m : Nat) (H : Hp) (i : Nat) (σ : L2.St) (H' : Hp) : Prop := ∃ (at' : Nat) (y5 y6 y7 : Option V) (L : List (Addr × List Int)), σ = [some (.ref d), some (.int (m : Int)), some (.ref fo), some (.int (at' : Int)), some (.ref bo), y5, y6, y7] ∧ Pen H' d c (n + 2 * i) ∧ But d H H' ∧ H' fo = some (.lst []) ∧ H' bo = some (.lst (L.map fun e => V.ref e.1)) ∧ HeldL H' L ∧ (flatL L).Perm (ri at') ∧ at' ≤ m ∧ (i ≤ at' ∨ at' = m) ∧ L.length ≤ at' ∧ ∀ e ∈ L, e.1 ≠ bo
theorem blk_step {d c fo bo bq : Addr} {n m i at' mm : Nat} {H H5 : Hp} {L : List (Addr × List Int)} {zs : List Int} {y5 y6 y7 : Option V} (hd : d ≠ bo) (hc : c ≠ bo) (nbo : H bo = none) (hp : Pen H5 d c (n + 2 * i + 2)) (bt : But d H H5) (ef : H5 fo = some (.lst [])) (eb : H5 bo = some (.lst (L.map fun e => V.ref e.1))) (hL : HeldL H5 L) (pm : (flatL L).Perm (ri at')) (hz : H5 bq = some (.lst (zs.map V.int))) (nq : bq ≠ bo) (pz : zs.Perm (riF at' mm)) (m1 : 1 ≤ mm) (m2 : at' + mm ≤ m) (hi : i ≤ at' ∨ at' = m) (ll : L.length ≤ at') (lb : ∀ e ∈ L, e.1 ≠ bo) (fb : fo ≠ bo) {σ : L2.St} (hσ : σ = [some (.ref d), some (.int (m : Int)), some (.ref fo), some (.int ((at' + mm : Nat) : Int)), some (.ref bo), y5, y6, y7]) :
    BlkI d c fo bo n m H (i + 1) σ (upd H5 bo (.lst ((L.map fun e => V.ref e.1) ++ [V.ref bq]))) := by
  refine ⟨at' + mm, y5, y6, y7, L ++ [(bq, zs)], hσ, ?_, bt.mut nbo, ?_, ?_, ?_, ?_, m2, .inl (by omega), ?_, ?_⟩
  · have := hp.mut (o := .lst ((L.map fun e => V.ref e.1) ++ [V.ref bq])) hd hc
    rw [show n + 2 * (i + 1) = n + 2 * i + 2 by omega]
    exact this
  · rw [upd_ne fb]
    exact ef
  · rw [upd_same, List.map_append]
    rfl
  · intro e he
    rcases List.mem_append.mp he with h | h
    · rw [upd_ne (lb e h)]
      exact hL e h
    · rw [List.mem_singleton] at h
      subst h
      show upd H5 bo _ bq = _
      rw [upd_ne nq]
      exact hz
  · rw [flat_snoc, ri_add]
    exact pm.append pz
  · rw [List.length_append]
    show L.length + 1 ≤ at' + mm
    omega
  · intro e he
    rcases List.mem_append.mp he with h | h
    · exact lb e h
    · rw [List.mem_singleton] at h
      subst h
      exact nq
section
variable {P : Program} {w : World} {K : PySem.W.Frag} {mg : Str → Option Value} {base : Heap} {a : Ad}
def spLawBlocks : Sp := fun vs H Q _ => ∃ (d c : Addr) (n m : Nat), vs = [.ref d, .int (m : Int)] ∧ Pen H d c n ∧ n + 4 * m < 2 ^ 40 ∧ m ≤ 1000 ∧
  ∀ p ys H', IsRow ys → ys.length = m → H' p = some (.lst (ys.map V.int)) → Pen H' d c (n + 3 * m) → But d H H' → Q (.ref p) H'
theorem ok__law_blocks (T : Tx w K mg a) : FnOk P w K mg base CX0 3 a.f__law_blocks a.d__law_blocks ["pen", "size"] spLawBlocks := by
  refine T.F__law_blocks.ok sc__law_blocks (fun vs H Q E h => ?_) (fun cdv A outer s H vs Q E hr h => ?_)
  · obtain ⟨d, c, n, m, rfl, _⟩ := h
    rfl
  · obtain ⟨d, c, n, m, rfl, hp, hn, hm, k⟩ := h
    refine ⟨_, 
(pss_cons (ps_par3 (i := 2) (j := 3) (l := 4) (by rfl) sc__law_blocks.nd rfl rfl rfl (by decide) (by decide) (by decide) rfl rfl rfl (pa_cons (pe_lst pa_nil) (pa_cons pe_int (pa_cons (pe_lst pa_nil) pa_nil))) (by rfl))
  (pss_cons (ps_for PassesOwn.never rfl (pi_range1 (by rfl) T.z_range (pa_cons (pv 1) pa_nil)) (pg_name (i := 5) sc__law_blocks.nd rfl (.inl rfl))
  (pss_one (ps_if (pt_cmpR op_lt (pv 3) (pv 1) (nomark _))
  (pss_cons (ps_set (i := 6) sc__law_blocks.nd rfl (.inl rfl) (pe_op op_add pe_int (pe_call (ok__law_draw T) (hr.mono (by decide)) (by rfl) T.m__law_draw T.F__law_draw.kp T.b__law_draw .nil pass0 (pa_cons (pv 0) (pa_cons (pe_callB (call_min2 rfl) (by rfl) T.z_min (by decide +kernel) (pa_cons pe_int (pa_cons (pe_callTy call_int1 (by rfl) T.z_int (by decide +kernel) (pa_cons (pe_op op_sub (pv 1) (pv 3)) pa_nil)) pa_nil))) pa_nil)))))
  (pss_cons (ps_set (i := 7) sc__law_blocks.nd rfl (.inl rfl) (pe_listRg rfl (by rfl) T.z_list (prg_2 (by rfl) T.z_range (pv 3) (pe_op op_add (pv 3) (pv 6)))))
  (pss_cons (ps_expr (pe_bm PySem.F.plainAttrs_list PySem.F.slot_list_append PySem.F.type_list_append mt_append (pv 4) (pa_cons (pe_ifExp (pt_cmpR op_eq (pe_call (ok__law_draw T) (hr.mono (by decide)) (by rfl) T.m__law_draw T.F__law_draw.kp T.b__law_draw .nil pass0 (pa_cons (pv 0) (pa_cons pe_int pa_nil))) pe_int (nomark _)) (pe_revL (pv 7)) (pv 7)) pa_nil)))
  (pss_one (ps_set (i := 3) sc__law_blocks.nd rfl (.inl rfl) (pe_op op_add (pv 3) (pv 6)))))))
  pss_nil)))
  (pss_cons (ps_for PassesOwn.never rfl (pi_list (pe_call (ok__law_shuffled T) hr (by rfl) T.m__law_shuffled T.F__law_shuffled.kp T.b__law_shuffled .nil pass0 (pa_cons (pv 0) (pa_cons (pv 4) pa_nil)))) (pg_name (i := 7) sc__law_blocks.nd rfl (.inl rfl))
  (pss_one (ps_set (i := 2) sc__law_blocks.nd rfl (.inl rfl) (pe_op op_cat (pv 2) (pv 7)))))
  (pss_one (ps_ret (pv 2)))))), ?_⟩
    refine ⟨sz (show 0 ≤ 100000 by decide), fun fo nfo => ⟨sz (show 0 ≤ 100000 by decide), fun bo nbo => ?_⟩⟩
    have s1 := same_upd (o := .lst []) nfo
    have ef : (upd H fo (.lst [])) fo = some (.lst []) := upd_same
    generalize upd H fo (.lst []) = H0 at s1 ef nbo ⊢
    have s2 := same_upd (o := .lst []) nbo
    have eb : (upd H0 bo (.lst [])) bo = some (.lst []) := upd_same
    have ef2 := s2 _ _ ef
    have nbo0 := s1.free nbo
    have sm0 := s1.trans s2
    generalize upd H0 bo (.lst []) = H1 at s2 eb ef2 sm0 ⊢
    refine ⟨.ref fo, .int 0, .ref bo, rfl, ?_⟩
    obtain ⟨_, hdd⟩ := hp.dict
    obtain ⟨_, hcc⟩ := hp.cells
    have nd : d ≠ bo := ne_of_none hdd nbo0
    have nc : c ≠ bo := ne_of_none hcc nbo0
    have nf : fo ≠ bo := ne_of_none ef nbo
    -- for turn in range(size)
    refine ⟨_, rfl, (m : Int), rfl, by omega, by omega, ?_⟩
    refine for_range (lo := 0) (n := m) (BlkI d c fo bo n m H) ⟨0, none, none, none, [], rfl, hp.same sm0, but_same sm0, ef2, eb, fun e he => (by cases he), .refl _, Nat.zero_le _, .inl (Nat.le_refl _), Nat.le_refl _, fun e he => (by cases he)⟩ ?_ ?_
    · rintro i σ H2 hi ⟨at', y5, y6, y7, L, rfl, hp2, bt2, ef3, eb3, hL, pm, hat, hia, ll, lb⟩
      -- if at < size
      refine ⟨_, rfl, _, rfl, _, _, rfl, rfl, _, rfl, ?_⟩
      by_cases c1 : at' < m
      rotate_left
      · rw [decide_eq_false (show ¬ (at' : Int) < (m : Int) by omega)]
        exact iteF ⟨at', _, y6, y7, L, rfl, hp2.up (by omega), bt2, ef3, eb3, hL, pm, hat, .inr (by omega), ll, lb⟩
      rw [decide_eq_true (show (at' : Int) < (m : Int) by omega)]
      refine iteT ⟨_, rfl, _, rfl, _, rfl, _, _, rfl, rfl, .inl ⟨_, rfl, 6, (m : Int) - (at' : Int), rfl, d, c, n + 2 * i, _, rfl, hp2, by omega, ?_, ?_, fun v H3 v0 v1 hp3 b3 => ⟨1, v, rfl, rfl, ?_⟩⟩⟩
      · split <;> omega
      · split
        · have : ((100000 : Nat) : Int) < 2 ^ 200 := by decide
          omega
        · decide
      obtain ⟨mm, em, m1, m2⟩ : ∃ mm : Nat, 1 + v = (mm : Int) ∧ 1 ≤ mm ∧ at' + mm ≤ m := ⟨(1 + v).toNat, by omega, by omega, by split at v1 <;> omega⟩
      change gName 6 (V.int (1 + v)) _ _ _
      rw [em]
      have bt3 := bt2.trans b3
      obtain ⟨_, hd2⟩ := hp2.dict
      have ef4 := b3.list hd2 ef3
      have eb4 := b3.list hd2 eb3
      have hL4 : HeldL H3 L := fun e he => b3.list hd2 (hL e he)
      -- block = list(range(at, at + many))
      refine ⟨_, rfl, _, rfl, _, rfl, _, _, rfl, rfl, _, _, rfl, rfl, RgOk.of_le (by omega) (by omega) (by omega) (by omega), fun bl nbl => ?_⟩
      rw [show (at' : Int) + (mm : Int) = ((at' + mm : Nat) : Int) by omega, rgV_riF]
      have s5 := same_upd (o := .lst ((riF at' mm).map V.int)) nbl
      have ebl : (upd H3 bl (.lst ((riF at' mm).map V.int))) bl = some (.lst ((riF at' mm).map V.int)) := upd_same
      have nbl2 : bl ≠ bo := fun z => by
        rw [z, eb4] at nbl
        cases nbl
      change tSeq _ _ _ _ (upd H3 bl (.lst ((riF at' mm).map V.int)))
      generalize upd H3 bl (.lst ((riF at' mm).map V.int)) = H4 at s5 ebl ⊢
      have hp4 := hp3.same s5
      have bt4 := bt3.trans (but_same s5)
      have ef5 := s5 _ _ ef4
      have eb5 := s5 _ _ eb4
      have hL5 : HeldL H4 L := fun e he => s5 _ _ (hL4 e he)
      obtain ⟨_, hd4⟩ := hp4.dict
      -- blocks.append(..)
      refine ⟨_, rfl, .inl ⟨rfl, _, SqL.at eb5⟩, _, rfl, d, c, n + 2 * i + 1, 3, rfl, hp4, by omega, by decide, by decide, fun u H6 u0 u1 hp6 b6 => ⟨rfl, _, rfl, ?_⟩⟩
      have bt6 := bt4.trans b6
      have ef6 := b6.list hd4 ef5
      have eb6 := b6.list hd4 eb5
      have ebl6 := b6.list hd4 ebl
      have hL6 : HeldL H6 L := fun e he => b6.list hd4 (hL5 e he)
      have lc : (L.map fun e => V.ref e.1).length ≤ 100000 := by
        rw [List.length_map]
        omega
      refine ite2 (fun _ => ?_) (fun _ => ?_)
      · refine ⟨_, rfl, bl, _, rfl, SqL.at ebl6, fun bq nbq => ?_⟩
        have s7 := same_upd (o := .lst ((riF at' mm).map V.int).reverse) nbq
        have ebq : (upd H6 bq (.lst ((riF at' mm).map V.int).reverse)) bq = some (.lst ((riF at' mm).reverse.map V.int)) := by
          rw [upd_same, List.map_reverse]
        have nbq2 : bq ≠ bo := fun z => by
          rw [z, eb6] at nbq
          cases nbq
        generalize upd H6 bq (.lst ((riF at' mm).map V.int).reverse) = H7 at s7 ebq ⊢
        refine ⟨bo, _, .ref bq, rfl, rfl, s7 _ _ eb6, szlt lc, _, rfl, _, rfl, _, _, rfl, rfl, ?_⟩
        exact blk_step nd nc nbo0 (hp6.same s7) (bt6.trans (but_same s7)) (s7 _ _ ef6) (s7 _ _ eb6) (fun e he => s7 _ _ (hL6 e he)) pm ebq nbq2 (List.reverse_perm _) m1 m2 hia ll lb nf rfl
      · refine ⟨_, rfl, bo, _, .ref bl, rfl, rfl, eb6, szlt lc, _, rfl, _, rfl, _, _, rfl, rfl, ?_⟩
        exact blk_step nd nc nbo0 hp6 bt6 ef6 eb6 hL6 pm ebl6 nbl2 (.refl _) m1 m2 hia ll lb nf rfl
    · rintro σ H2 ⟨at', y5, y6, y7, L, rfl, hp2, bt2, ef3, eb3, hL, pm, hat, hia, ll, lb⟩
      have e : at' = m := by omega
      subst e
      -- for block in _law_shuffled(pen, blocks)
      refine ⟨_, rfl, _, rfl, d, c, bo, n + 2 * at', _, rfl, hp2, by rw [List.length_map]; omega, SqL.at eb3, by rw [List.length_map]; omega, fun sh ys H3 pys nsh esh hp3 b3 => ?_⟩
      obtain ⟨M, rfl, pM⟩ := perm_map_inv pys rfl
      obtain ⟨_, hd2⟩ := hp2.dict
      have hM : HeldL H3 M := fun e he => b3.list hd2 (hL e (pM.mem_iff.mp he))
      rw [List.length_map] at hp3
      have ef4 := b3.list hd2 ef3
      have ml := pM.length_eq
      refine ⟨sh, rfl, ⟨_, SqL.at esh⟩, ?_⟩
      have tl : ∀ k, (flatL (M.take k)).length ≤ at' := fun k => by
        have h1 : (flatL M).length = at' := by
          rw [(flat_perm pM).length_eq, pm.length_eq, ri_len]
        have h2 : flatL M = flatL (M.take k) ++ flatL (M.drop k) := by
          unfold flatL
          rw [← List.flatten_append, ← List.map_append, List.take_append_drop]
        rw [h2, List.length_append] at h1
        omega
      refine for_it (walk_list (xs := M.map fun e => V.ref e.1)) (fun j σ H' => ∃ (fo' : Addr) (y7 : Option V), σ = [some (.ref d), some (.int (at' : Int)), some (.ref fo'), some (.int (at' : Int)), some (.ref bo), y5, y6, y7] ∧ Same H3 H' ∧ H' fo' = some (.lst ((flatL (M.take j)).map V.int))) ?g0 ?gG ?gs ?gd
      case g0 => exact ⟨fo, y7, rfl, Same.refl _, ef4⟩
      case gG =>
        rintro j σ H' _ ⟨_, _, _, sm, _⟩
        exact sm.seq (SqL.at esh)
      case gs =>
        rintro j yy σ H4 H5 hj ⟨fo', y7, rfl, sm, ef5⟩ ⟨rfl, ex⟩
        rw [List.length_map] at hj
        rw [List.getElem?_map, List.getElem?_eq_getElem hj] at ex
        cases ex
        have hb := sm _ _ (hM _ (List.getElem_mem hj))
        have tk : flatL (M.take (j + 1)) = flatL (M.take j) ++ (M[j]'hj).2 := by
          rw [List.take_succ, List.getElem?_eq_getElem hj]
          exact flat_snoc _ _
        have l1 := tl (j + 1)
        rw [tk, List.length_append] at l1
        refine ⟨_, rfl, _, rfl, fo', _, _, _, rfl, rfl, ef5, hb, sz (by rw [List.length_map, List.length_map]; omega), fun nw nnw => ?_⟩
        refine ⟨nw, _, rfl, sm.trans (same_upd nnw), ?_⟩
        rw [upd_same, tk, List.map_append]
      case gd =>
        rintro σ H4 ⟨fo', y7, rfl, sm, ef5⟩
        rw [List.length_map, List.take_length] at ef5
        have hpm := (flat_perm pM).trans pm
        refine ⟨_, rfl, k fo' (flatL M) H4 (isRow_of at' hpm) (by rw [hpm.length_eq, ri_len]) ef5 ((hp3.same sm).up (by omega)) (bt2.trans (b3.trans (but_same sm)))⟩
end

theorem RunsAt.but {C d : Addr} {H H' : Hp} {kvs : List (Key × V)} {p : Addr} {n : Int} {ps : List Pc} (h : RunsAt C H p n ps) (b : But d H H') (hd : H d = some (.dK kvs)) : RunsAt C H' p n ps :=
  h.mono fun x o e z => b x o e (ne_of e hd (by rcases z with ⟨xs, rfl | rfl⟩ | ⟨_, _, _, rfl⟩ <;> intro z <;> cases z))
theorem form_ne {K : PySem.W.Frag} {H1 : Hp} {Qv : VK} {p t : Addr} {rs : List Addr} {ps : List Pc} {xs : List Int} (hx : SqL K H1 p (xs.map V.int)) (hl : xs.length ≤ 1000) (hr : IsRow xs) (et : H1 t = some (.tup (rs.map V.ref))) (hps : PcsH H1 rs ps) (hc : Rea xs.length ps) (hn : NFl ps) (hv : ValIs ps xs) (k : ∀ H', Same H1 H' → Qv (.bl false) H') :
    spLawForm K [.ref p] H1 (fun x H2 => ∃ p' ys, [x] = [.ref p'] ∧ ((SqL K H2 p' ys ∧ ∀ l, H2 l = none → rNeD K (.ref t) (.ref l) (upd H2 l (.tup ys)) Qv) ∨ (SqT K H2 p' ys ∧ rNeD K (.ref t) (.ref p') H2 Qv))) L2.E0 := by
  refine ⟨p, xs, rfl, hx, hl, fun o rs2 qs H2 no eo hqs qc qn qv s2 => ⟨o, _, rfl, .inl ⟨SqL.at eo, fun l nl => ?_⟩⟩⟩
  have s3 := same_upd (o := .tup (rs2.map V.ref)) nl
  have el : (upd H2 l (.tup (rs2.map V.ref))) l = some (.tup (rs2.map V.ref)) := upd_same
  generalize upd H2 l (.tup (rs2.map V.ref)) = H3 at s3 el ⊢
  have s13 := s2.trans s3
  have e : ps = qs := hc.uniq (qv.rea qc hr) hn qn fun j j0 j1 => by
    have h1 := hv j.toNat (by omega)
    have h2 := qv j.toNat (by omega)
    rw [show ((j.toNat : Nat) : Int) = j by omega] at h1 h2
    rw [h1, h2]
  refine ⟨rsD ps, rsD qs, .tup (SqT.at (s13 _ _ et)) (dp_pcs (hps.same s13)), .tup (SqT.at el) (dp_pcs (hqs.same s3)), shaped_rs ps, shaped_rs qs, ?_⟩
  rw [eqv_rs, decide_eq_true e]
  exact k H3 s13

theorem vals_pick {hs fs gs : List Pc} {one two : List Int} (hf : ValIs fs one) (hg : ValIs gs two) (r2 : IsRow two) (hl : two.length = one.length) (hv : ∀ j, 0 ≤ j → j < (one.length : Int) → valP hs j = valP fs (valP gs j)) : ValIs hs (pickI one two) := fun j h => by
  rw [pick_len] at h
  have b := r2.at h
  rw [hv j (by omega) (by omega), hg j h, pick_get h, getD_get (by omega)]
  have := hf two[j].toNat (by omega)
  rw [show ((two[j].toNat : Nat) : Int) = two[j] by omega] at this
  exact this
theorem vals_back {hs fs : List Pc} {one bs : List Int} (hf : ValIs fs one) (r1 : IsRow one) (hb : InvOf one bs) (hv : ∀ j, 0 ≤ j → j < (one.length : Int) → valP hs (valP fs j) = j) : ValIs hs bs := fun v h => by
  rw [hb.1] at h
  obtain ⟨j, hj, e, eb⟩ := hb.mem r1 h
  have := hv j (by omega) (by omega)
  rw [hf j hj, e] at this
  rw [this]
  rw [List.getElem?_eq_getElem (by rw [hb.1]; exact h)] at eb
  exact (Option.some.inj eb).symm
section
variable {P : Program} {w : World} {K : PySem.W.Frag} {mg : Str → Option Value} {base : Heap} {a : Ad}
def spLaw (K : PySem.W.Frag) : Sp := fun vs H Q _ => ∃ (s : Addr) (ns : List Int), vs = [.ref s] ∧ SqL K H s (ns.map V.int) ∧ ns.length ≤ 63 ∧ ∀ H', Q (.bl true) H'
theorem ok_law (T : Tx w K mg a) : FnOk P w K mg base CX0 6 a.f_law a.d_law ["script"] (spLaw K) := by
  refine T.F_law.ok sc_law (fun vs H Q E h => ?_) (fun cdv A outer s H vs Q E hr h => ?_)
  · obtain ⟨x, ns, rfl, _⟩ := h
    rfl
  · obtain ⟨x, ns, rfl, hS, hlen, q⟩ := h
    refine ⟨_, 
(pss_cons (ps_set (i := 1) sc_law.nd rfl (.inl rfl) (pe_call (ok__law_pen T) (hr.mono (by decide)) (by rfl) T.m__law_pen T.F__law_pen.kp T.b__law_pen .nil pass0 (pa_cons (pv 0) pa_nil)))
  (pss_cons (ps_for PassesOwn.never rfl (pi_range1 (by rfl) T.z_range (pa_cons pe_int pa_nil)) (pg_name (i := 2) sc_law.nd rfl (.inl rfl))
  (pss_cons (ps_set (i := 3) sc_law.nd rfl (.inl rfl) (pe_op op_add pe_int (pe_call (ok__law_draw T) (hr.mono (by decide)) (by rfl) T.m__law_draw T.F__law_draw.kp T.b__law_draw .nil pass0 (pa_cons (pv 1) (pa_cons pe_int pa_nil)))))
  (C8.pss_cut (ps_set (i := 4) sc_law.nd rfl (.inl rfl) (pe_ifExp (pt_cmpR op_gt (pe_call (ok__law_draw T) (hr.mono (by decide)) (by rfl) T.m__law_draw T.F__law_draw.kp T.b__law_draw .nil pass0 (pa_cons (pv 1) (pa_cons pe_int pa_nil))) pe_int (nomark _)) (pe_call (ok__law_blocks T) (hr.mono (by decide)) (by rfl) T.m__law_blocks T.F__law_blocks.kp T.b__law_blocks .nil pass0 (pa_cons (pv 1) (pa_cons (pv 3) pa_nil))) (pe_call (ok__law_row T) (hr.mono (by decide)) (by rfl) T.m__law_row T.F__law_row.kp T.b__law_row .nil pass0 (pa_cons (pv 1) (pa_cons (pv 3) pa_nil)))))
  (C8.pss_cut (ps_set (i := 5) sc_law.nd rfl (.inl rfl) (pe_ifExp (pt_cmpR op_gt (pe_call (ok__law_draw T) (hr.mono (by decide)) (by rfl) T.m__law_draw T.F__law_draw.kp T.b__law_draw .nil pass0 (pa_cons (pv 1) (pa_cons pe_int pa_nil))) pe_int (nomark _)) (pe_call (ok__law_blocks T) (hr.mono (by decide)) (by rfl) T.m__law_blocks T.F__law_blocks.kp T.b__law_blocks .nil pass0 (pa_cons (pv 1) (pa_cons (pv 3) pa_nil))) (pe_call (ok__law_row T) (hr.mono (by decide)) (by rfl) T.m__law_row T.F__law_row.kp T.b__law_row .nil pass0 (pa_cons (pv 1) (pa_cons (pv 3) pa_nil)))))
  (pss_cons (ps_par3 (i := 6) (j := 7) (l := 8) (by rfl) sc_law.nd rfl rfl rfl (by decide) (by decide) (by decide) rfl rfl rfl (pa_cons (pe_callS (ok_runs_of_list T) hr (by rfl) T.m_runs_of_list T.F_runs_of_list.kp T.b_runs_of_list (fun σ => passAt takes0 σ) (pa_cons (pv 4) pa_nil)) (pa_cons (pe_callS (ok_runs_of_list T) hr (by rfl) T.m_runs_of_list T.F_runs_of_list.kp T.b_runs_of_list (fun σ => passAt takes0 σ) (pa_cons (pv 5) pa_nil)) (pa_cons (pe_op op_rep (pe_lst (pa_cons pe_int pa_nil)) (pv 3)) pa_nil))) (by rfl))
  (pss_cons (ps_for PassesOwn.never rfl (pi_enumS (by rfl) T.z_enumerate (pa_cons (pv 4) pa_nil)) (pg_tup rfl (pgs_cons (pg_name (i := 9) sc_law.nd rfl (.inl rfl)) (pgs_cons (pg_name (i := 10) sc_law.nd rfl (.inl rfl)) pgs_nil)))
  (pss_one (ps_asg (pv 9) (pg_sub (pv 8) (pv 10) set_list))))
  (pss_cons (ps_if (pt_cmpR (op_neD hr.units) (pe_fld (pe_mulS T.mu_Runs (ok_Runs_mul T) hr T.b_Runs_mul takes0 (pv 6) (pv 7)) rfl) (pe_callTy call_tuple_of (by rfl) T.z_tuple (by decide +kernel) (pa_cons (pe_call (ok__law_form T) (hr.mono (by decide)) (by rfl) T.m__law_form T.F__law_form.kp T.b__law_form .nil pass0 (pa_cons (pe_call (ok__law_after T) (hr.mono (by decide)) (by rfl) T.m__law_after T.F__law_after.kp T.b__law_after .nil pass0 (pa_cons (pv 5) (pa_cons (pv 4) pa_nil))) pa_nil)) pa_nil)) (nomark _))
  (pss_one (ps_ret pe_bl))
  pss_nil)
  (pss_cons (ps_if (pt_cmpR (op_neD hr.units) (pe_fld (pe_mulS T.mu_Runs (ok_Runs_mul T) hr T.b_Runs_mul takes0 (pv 7) (pv 6)) rfl) (pe_callTy call_tuple_of (by rfl) T.z_tuple (by decide +kernel) (pa_cons (pe_call (ok__law_form T) (hr.mono (by decide)) (by rfl) T.m__law_form T.F__law_form.kp T.b__law_form .nil pass0 (pa_cons (pe_call (ok__law_after T) (hr.mono (by decide)) (by rfl) T.m__law_after T.F__law_after.kp T.b__law_after .nil pass0 (pa_cons (pv 4) (pa_cons (pv 5) pa_nil))) pa_nil)) pa_nil)) (nomark _))
  (pss_one (ps_ret pe_bl))
  pss_nil)
  (pss_cons (ps_if (PW.pt (pw_or (pt_cmpR (op_neD hr.units) (pe_fld (pe_invN T.iv_Runs (ok_Runs_invert T) hr T.b_Runs_invert (pv 6)) rfl) (pe_callTy call_tuple_of (by rfl) T.z_tuple (by decide +kernel) (pa_cons (pe_call (ok__law_form T) (hr.mono (by decide)) (by rfl) T.m__law_form T.F__law_form.kp T.b__law_form .nil pass0 (pa_cons (pv 8) pa_nil)) pa_nil)) (nomark _)) (pw_or (pt_cmpR (op_neD hr.units) (pe_fld (pv 6) rfl) (pe_callTy call_tuple_of (by rfl) T.z_tuple (by decide +kernel) (pa_cons (pe_call (ok__law_form T) (hr.mono (by decide)) (by rfl) T.m__law_form T.F__law_form.kp T.b__law_form .nil pass0 (pa_cons (pv 4) pa_nil)) pa_nil)) (nomark _)) (pw_or1 (pt_cmpR (op_neD hr.units) (pe_fld (pv 7) rfl) (pe_callTy call_tuple_of (by rfl) T.z_tuple (by decide +kernel) (pa_cons (pe_call (ok__law_form T) (hr.mono (by decide)) (by rfl) T.m__law_form T.F__law_form.kp T.b__law_form .nil pass0 (pa_cons (pv 5) pa_nil)) pa_nil)) (nomark _))))))
  (pss_one (ps_ret pe_bl))
  pss_nil)
  (pss_cons (ps_set (i := 11) sc_law.nd rfl (.inl rfl) (pe_callS (ok_runs_of_list T) hr (by rfl) T.m_runs_of_list T.F_runs_of_list.kp T.b_runs_of_list (fun σ => passAt takes0 σ) (pa_cons (pe_call (ok__law_row T) (hr.mono (by decide)) (by rfl) T.m__law_row T.F__law_row.kp T.b__law_row .nil pass0 (pa_cons (pv 1) (pa_cons (pe_op op_add (pe_op op_add (pv 3) pe_int) (pe_call (ok__law_draw T) (hr.mono (by decide)) (by rfl) T.m__law_draw T.F__law_draw.kp T.b__law_draw .nil pass0 (pa_cons (pv 1) (pa_cons pe_int pa_nil)))) pa_nil))) pa_nil)))
  (pss_one (ps_for PassesOwn.never rfl (pi_list (pe_lst (pa_cons (pe_tup (pa_cons (pv 6) (pa_cons (pv 11) pa_nil))) (pa_cons (pe_tup (pa_cons (pv 11) (pa_cons (pv 6) pa_nil))) pa_nil)))) (pg_tup rfl (pgs_cons (pg_name (i := 12) sc_law.nd rfl (.inl rfl)) (pgs_cons (pg_name (i := 13) sc_law.nd rfl (.inl rfl)) pgs_nil)))
  (pss_one (ps_try_in rfl rfl sc_law.nd takes0 (fun W pn xe tk po => (pss_cons (ps_expr (pe_mulS T.mu_Runs (ok_Runs_mul T) hr T.b_Runs_mul tk (pv 12) (pv 13)))
  (pss_one (ps_ret pe_bl))))
  (.cons (i := 14) rfl rfl ⟨rfl, by decide, .inl T.c_BadSize⟩ (fun x oe cls d pn hz hf => (pss_one (ps_if (pt_cmpR op_ne (pe_xf T.ox_BadSize.x T.ox_BadSize.no hz hf (pv 14)) (show PE _ _ (tFld K _ _) from pe_fld (pv 13) rfl) (nomark _))
  (pss_one (ps_ret pe_bl))
  pss_nil)))
  .nil)))))))))))))))
  (pss_one (ps_ret pe_bl)))), ?_⟩
    refine ⟨.ref x, rfl, x, ns, rfl, hS, hlen, fun d c H1 hdn hcn hp s1 => ?_⟩
    refine ⟨4, rfl, by decide, by decide, ?_⟩
    refine for_range (lo := 0) (n := 4) (fun i σ H2 => (∃ y2 y3 y4 y5 y6 y7 y8 y9 y10 y11 y12 y13 y14 : Option V, σ = [some (.ref x), some (.ref d), y2, y3, y4, y5, y6, y7, y8, y9, y10, y11, y12, y13, y14]) ∧ Pen H2 d c (i * 1000)) ?_ ?_ ?_
    · exact ⟨⟨none, none, none, none, none, none, none, none, none, none, none, none, none, rfl⟩, hp⟩
    · rintro i σ H2 hi ⟨⟨y2, y3, y4, y5, y6, y7, y8, y9, y10, y11, y12, y13, y14, rfl⟩, hp2⟩
      -- size = 1 + _law_draw(pen, 24)
      refine ⟨_, rfl, d, c, _, 24, rfl, hp2, by omega, by decide, by decide, fun v1 H3 a0 a1 hp3 b3 => ⟨1, v1, rfl, rfl, ?_⟩⟩
      obtain ⟨m, em, m1, m2⟩ : ∃ m : Nat, 1 + v1 = (m : Int) ∧ 1 ≤ m ∧ m ≤ 24 := ⟨(1 + v1).toNat, by omega, by omega, by omega⟩
      change gName 3 (V.int (1 + v1)) _ _ _
      rw [em]
      -- one = ..
      refine ⟨fun σ' H' => ∃ (one : Addr) (xs : List Int), σ' = [some (.ref x), some (.ref d), some (.int (0 + (i : Int))), some (.int (m : Int)), some (.ref one), y5, y6, y7, y8, y9, y10, y11, y12, y13, y14] ∧ IsRow xs ∧ xs.length = m ∧ H' one = some (.lst (xs.map V.int)) ∧ Pen H' d c (i * 1000 + 100), ?_, ?_⟩
      · refine ⟨_, rfl, d, c, _, 3, rfl, hp3, by omega, by decide, by decide, fun u H4 u0 u1 hp4 b4 => ⟨_, 0, rfl, rfl, _, rfl, ite2 (fun _ => ?_) (fun _ => ?_)⟩⟩
        · exact ⟨_, rfl, _, rfl, d, c, _, m, rfl, hp4, by omega, by omega, fun p ys H5 r l e hp5 b5 => ⟨p, ys, rfl, r, l, e, hp5.up (by omega)⟩⟩
        · exact ⟨_, rfl, _, rfl, d, c, _, m, rfl, hp4, by omega, by omega, fun p ys H5 r l _ e hp5 b5 => ⟨p, ys, rfl, r, l, e, hp5.up (by omega)⟩⟩
      rintro σ' H4 ⟨one, xs, rfl, rx, lx, ex, hp4⟩
      -- two = ..
      refine ⟨fun σ' H' => ∃ (two : Addr) (ys : List Int), σ' = [some (.ref x), some (.ref d), some (.int (0 + (i : Int))), some (.int (m : Int)), some (.ref one), some (.ref two), y6, y7, y8, y9, y10, y11, y12, y13, y14] ∧ IsRow ys ∧ ys.length = m ∧ H' two = some (.lst (ys.map V.int)) ∧ H' one = some (.lst (xs.map V.int)) ∧ Pen H' d c (i * 1000 + 200), ?_, ?_⟩
      · obtain ⟨_, hd4⟩ := hp4.dict
        refine ⟨_, rfl, d, c, _, 3, rfl, hp4, by omega, by decide, by decide, fun u H5 u0 u1 hp5 b5 => ⟨_, 0, rfl, rfl, _, rfl, ite2 (fun _ => ?_) (fun _ => ?_)⟩⟩
        · exact ⟨_, rfl, _, rfl, d, c, _, m, rfl, hp5, by omega, by omega, fun p ys H6 r l e hp6 b6 => ⟨p, ys, rfl, r, l, e, (b5.trans b6).list hd4 ex, hp6.up (by omega)⟩⟩
        · exact ⟨_, rfl, _, rfl, d, c, _, m, rfl, hp5, by omega, by omega, fun p ys H6 r l _ e hp6 b6 => ⟨p, ys, rfl, r, l, e, (b5.trans b6).list hd4 ex, hp6.up (by omega)⟩⟩
      rintro σ' H5 ⟨two, ys, rfl, ry, ly, ey, ex5, hp5⟩
      clear hp2 hp3 b3 hp4 ex H3
      subst lx
      -- f, g, back = runs_of_list(one), runs_of_list(two), [0] * size
      refine ⟨_, rfl, one, _, rfl, rowV_ints (.inl (SqL.at ex5)) (by omega), .inl ⟨xs, rfl, rx, m1, by omega, fun f H6 fs hF reF nfF lnF vF s6 => ?_⟩⟩
      refine ⟨_, rfl, two, _, rfl, rowV_ints (.inl (SqL.at (s6 _ _ ey))) (by omega), .inl ⟨ys, rfl, ry, by omega, by omega, fun g H7 gs hG reG nfG lnG vG s7 => ?_⟩⟩
      rw [ly] at hG reG lnG
      refine ⟨sz (by decide), fun p0 hp0 => ⟨_, rfl, p0, _, _, rfl, rfl, upd_same, by omega, by omega, sz (by simp; omega), fun bo nbo => ?_⟩⟩
      have s8 : Same H7 (upd (upd H7 p0 (.lst [.int 0])) bo (.lst (List.replicate (xs.length : Int).toNat [V.int 0]).flatten)) := (same_upd hp0).trans (same_upd nbo)
      have eb : (upd (upd H7 p0 (.lst [.int 0])) bo (.lst (List.replicate (xs.length : Int).toNat [V.int 0]).flatten)) bo = some (.lst ((List.replicate xs.length (0 : Int)).map V.int)) := by
        rw [upd_same, List.flatten_replicate_singleton, Int.toNat_natCast, List.map_replicate]
      have nbo7 : H7 bo = none := (same_upd hp0).free nbo
      generalize upd (upd H7 p0 (.lst [.int 0])) bo (.lst (List.replicate (xs.length : Int).toNat [V.int 0]).flatten) = H8 at s8 eb ⊢
      refine ⟨.ref f, .ref g, .ref bo, rfl, ?_⟩
      have ex8 := s8 _ _ (s7 _ _ (s6 _ _ ex5))
      have ey8 := s8 _ _ (s7 _ _ (s6 _ _ ey))
      have hF8 := (hF.same s7).same s8
      have hG8 := hG.same s8
      have hp8 := ((hp5.same s6).same s7).same s8
      have sm7 := s6.trans s7
      -- for place, source in enumerate(one): back[source] = place
      refine ⟨.ref one, rfl, one, _, rfl, .inl ⟨SqL.at ex8, ?_⟩⟩
      refine for_it (walk_enum (xs := xs.map V.int)) (fun j σ H' => ∃ (y9 y10 : Option V) (bs : List Int), σ = [some (.ref x), some (.ref d), some (.int (0 + (i : Int))), some (.int (xs.length : Int)), some (.ref one), some (.ref two), some (.ref f), some (.ref g), some (.ref bo), y9, y10, y11, y12, y13, y14] ∧ Same H7 H' ∧ H' bo = some (.lst (bs.map V.int)) ∧ bs.length = xs.length ∧ ∀ (k : Nat) (h : k < xs.length), k < j → bs[xs[k].toNat]? = some (k : Int)) ?g0 ?gG ?gs ?gd
      case g0 => exact ⟨y9, y10, _, rfl, s8, eb, by rw [List.length_replicate], fun k h hk => absurd hk (Nat.not_lt_zero _)⟩
      case gG =>
        rintro j σ H' _ ⟨_, _, _, _, sm, _⟩
        exact SqL.at (sm _ _ (s7 _ _ (s6 _ _ ex5)))
      case gs =>
        rintro j v σ H9 H10 hj ⟨y9, y10, bs, rfl, sm, eb9, lb, hb⟩ ⟨t, x1, x2, rfl, nt, rfl, e1, e2⟩
        cases e1
        rw [List.length_map] at hj
        have e2 : (xs.map V.int)[j]? = some x2 := e2
        rw [List.getElem?_map, List.getElem?_eq_getElem hj] at e2
        cases e2
        have s9 := same_upd (o := .tup [.int (j : Nat), .int xs[j]]) nt
        refine ⟨t, _, rfl, SqT.at upd_same, rfl, _, [.int xs[j]], rfl, .int xs[j], [], rfl, rfl, ?_⟩
        have eb10 := s9 _ _ eb9
        generalize upd H9 t (.tup [.int (j : Nat), .int xs[j]]) = H10 at s9 eb10 ⊢
        have bx := rx.at hj
        refine ⟨_, rfl, _, rfl, _, rfl, bo, bs.map V.int, xs[j], xs[j].toNat, rfl, rfl, eb10, by rw [List.length_map, lb]; exact ixN_nat bx.1 (by omega), ?_⟩
        refine ⟨_, _, bs.set xs[j].toNat (j : Int), rfl, keep_upd (sm.trans s9) nbo7, by rw [upd_same, List.map_set], by rw [List.length_set, lb], fun k h hk => ?_⟩
        by_cases e : k = j
        · subst e
          exact List.getElem?_set_self (by omega)
        · rw [List.getElem?_set_ne]
          · exact hb k h (by omega)
          · intro z
            have bk := rx.at h
            have e3 : xs[j] = xs[k] := by omega
            have := (List.getElem_inj (h₀ := hj) (h₁ := h) rx.nodup).mp e3
            omega
      case gd =>
        rintro σ H9 ⟨y9, y10, bs, rfl, sm, eb9, lb, hb⟩
        rw [List.length_map] at hb
        have ib : InvOf xs bs := ⟨lb, fun j h => hb j h h⟩
        have ex9 := sm _ _ (s7 _ _ (s6 _ _ ex5))
        have ey9 := sm _ _ (s7 _ _ (s6 _ _ ey))
        have hF9 := (hF.same s7).same sm
        have hG9 := hG.same sm
        have hp9 := ((hp5.same s6).same s7).same sm
        clear hp8 hF8 hG8 ex8 ey8 s8 eb hb
        -- (f * g).rows
        obtain ⟨dx, us, _, _, f1, _, f3, _, f5, f6⟩ := id hF9
        obtain ⟨dy, vs, _, _, g1, _, g3, _, g5, g6⟩ := id hG9
        have bdx : ∀ y ∈ ys, 0 ≤ y ∧ y.toNat < xs.length := fun y hy => by
          have := ry.mem.mp hy
          omega
        have bdy : ∀ y ∈ xs, 0 ≤ y ∧ y.toNat < ys.length := fun y hy => by
          have := rx.mem.mp hy
          omega
        refine ⟨.ref f, rfl, .ref g, rfl, f, dx, us, g, dy, vs, rfl, rfl, f1, g1, f, g, _, _, fs, gs, rfl, hF9, hG9, .inl ⟨rfl, reF, reG, by omega, fun r H10 hs hR reH nfH lnH vH s10 => ⟨⟨r, rfl⟩, ?_⟩⟩⟩
        obtain ⟨dz, ws, tr, rr, r1, _, r3, _, r5, r6⟩ := hR
        refine ⟨r, a.C_Runs, dz, _, _, rfl, r1, T.cl_Runs, T.n_Runs_rows, r3, ?_⟩
        refine ⟨_, rfl, _, rfl, two, one, ys, xs, rfl, SqL.at (s10 _ _ ey9), SqL.at (s10 _ _ ex9), bdx, by omega, fun o H11 no eo s11 => ?_⟩
        refine form_ne (SqL.at eo) (by rw [pick_len]; omega) (isRow_pick rx ry ly) (s11 _ _ r5) (r6.same s11) (by rw [pick_len, ly]; exact reH) nfH (vals_pick vF vG ry ly vH) fun H12 s12 => ⟨_, rfl, iteF ?_⟩
        have t12 := s10.trans (s11.trans s12)
        clear r1 r3 r5 r6 reH nfH lnH vH s10 no eo s11 s12
        -- (g * f).rows
        refine ⟨.ref g, rfl, .ref f, rfl, g, dy, vs, f, dx, us, rfl, rfl, t12 _ _ g1, t12 _ _ f1, g, f, _, _, gs, fs, rfl, hG9.same t12, hF9.same t12, .inl ⟨rfl, reG, reF, by omega, fun r H13 hs hR reH nfH lnH vH s13 => ⟨⟨r, rfl⟩, ?_⟩⟩⟩
        obtain ⟨dz, ws, tr, rr, r1, _, r3, _, r5, r6⟩ := hR
        refine ⟨r, a.C_Runs, dz, _, _, rfl, r1, T.cl_Runs, T.n_Runs_rows, r3, ?_⟩
        have t13 := t12.trans s13
        refine ⟨_, rfl, _, rfl, one, two, xs, ys, rfl, SqL.at (t13 _ _ ex9), SqL.at (t13 _ _ ey9), bdy, by omega, fun o H14 no eo s14 => ?_⟩
        refine form_ne (SqL.at eo) (by rw [pick_len]; omega) (isRow_pick ry rx ly.symm) (s14 _ _ r5) (r6.same s14) (by rw [pick_len]; exact reH) nfH (vals_pick vG vF rx ly.symm (by rw [ly]; exact vH)) fun H15 s15 => ⟨_, rfl, iteF ?_⟩
        have t15 := t13.trans (s14.trans s15)
        clear r1 r3 r5 r6 reH nfH lnH vH s13 no eo s14 s15 t13 t12
        -- (~f).rows, f.rows, g.rows
        refine ⟨.ref f, rfl, f, dx, us, rfl, t15 _ _ f1, f, _, fs, rfl, hF9.same t15, reF, by omega, fun r H16 hs hR reH nfH lnH vH1 vH2 s16 => ?_⟩
        obtain ⟨dz, ws, tr, rr, r1, _, r3, _, r5, r6⟩ := hR
        have t16 := t15.trans s16
        refine ⟨r, a.C_Runs, dz, _, _, rfl, r1, T.cl_Runs, T.n_Runs_rows, r3, ?_⟩
        refine ⟨_, rfl, ?_⟩
        refine form_ne (SqL.at (t16 _ _ eb9)) (by omega) (ib.row rx) r5 r6 (by rw [lb]; exact reH) nfH (vals_back vF rx ib vH1) fun H17 s17 => ⟨_, rfl, iteF ?_⟩
        have t17 := t16.trans s17
        clear r1 r3 r5 r6 reH nfH lnH vH1 vH2 s16 s17 t16 t15
        refine ⟨.ref f, rfl, f, a.C_Runs, dx, _, _, rfl, t17 _ _ f1, T.cl_Runs, T.n_Runs_rows, f3, ?_⟩
        refine ⟨_, rfl, ?_⟩
        refine form_ne (SqL.at (t17 _ _ ex9)) (by omega) rx (t17 _ _ f5) (f6.same t17) reF nfF vF fun H18 s18 => ⟨_, rfl, iteF ?_⟩
        have t18 := t17.trans s18
        refine ⟨.ref g, rfl, g, a.C_Runs, dy, _, _, rfl, t18 _ _ g1, T.cl_Runs, T.n_Runs_rows, g3, ?_⟩
        refine ⟨_, rfl, ?_⟩
        refine form_ne (SqL.at (t18 _ _ ey9)) (by omega) ry (t18 _ _ g5) (g6.same t18) (by rw [ly]; exact reG) nfG vG fun H19 s19 => ⟨_, rfl, iteF ?_⟩
        have t19 := t18.trans s19
        have hp19 := hp9.same t19
        have hF19 := hF9.same t19
        clear t17 s18 t18 s19 f1 g1 f3 g3 f5 g5 f6 g6 hp9
        -- other = runs_of_list(_law_row(pen, size + 1 + _law_draw(pen, 3)))
        obtain ⟨_, hd19⟩ := hp19.dict
        refine ⟨_, rfl, _, rfl, _, 1, rfl, rfl, _, rfl, d, c, _, 3, rfl, hp19, by omega, by decide, by decide, fun u H20 u0 u1 hp20 b20 => ⟨_, u, rfl, rfl, ?_⟩⟩
        obtain ⟨l, el, l1, l2⟩ : ∃ l : Nat, (xs.length : Int) + 1 + u = (l : Int) ∧ xs.length < l ∧ l ≤ 100 := ⟨((xs.length : Int) + 1 + u).toNat, by omega, by omega, by omega⟩
        refine ⟨d, c, _, l, by show [V.ref d, V.int ((xs.length : Int) + 1 + u)] = [V.ref d, V.int (l : Int)]; rw [el], hp20, by omega, by omega, fun oo zs H21 rz lz noo eoo hp21 b21 => ?_⟩
        obtain ⟨_, hd20⟩ := hp20.dict
        have hF21 := (hF19.but b20 hd19).but b21 hd20
        refine ⟨oo, _, rfl, rowV_ints (.inl (SqL.at eoo)) (by omega), .inl ⟨zs, rfl, rz, by omega, by omega, fun ot H22 os hO reO nfO lnO vO s22 => ?_⟩⟩
        have hF22 := hF21.same s22
        have hp22 := hp21.same s22
        -- for first, second in [(f, other), (other, f)]
        refine ⟨_, rfl, _, rfl, sz (show 2 ≤ 100000 by decide), fun t1 n1 => ⟨_, rfl, _, rfl, sz (show 2 ≤ 100000 by decide), fun t2 n2 => ⟨sz (show 2 ≤ 100000 by decide), fun ll nll => ?_⟩⟩⟩
        have u1 := same_upd (o := .tup [.ref f, .ref ot]) n1
        have e1 : (upd H22 t1 (.tup [.ref f, .ref ot])) t1 = some (.tup [.ref f, .ref ot]) := upd_same
        generalize upd H22 t1 (.tup [.ref f, .ref ot]) = H23 at u1 e1 n2 nll ⊢
        have u2 := same_upd (o := .tup [.ref ot, .ref f]) n2
        have e2 : (upd H23 t2 (.tup [.ref ot, .ref f])) t2 = some (.tup [.ref ot, .ref f]) := upd_same
        have e12 := u2 _ _ e1
        generalize upd H23 t2 (.tup [.ref ot, .ref f]) = H24 at u2 e2 e12 nll ⊢
        have u3 := same_upd (o := .lst [.ref t1, .ref t2]) nll
        have ell : (upd H24 ll (.lst [.ref t1, .ref t2])) ll = some (.lst [.ref t1, .ref t2]) := upd_same
        have e13 := u3 _ _ e12
        have e23 := u3 _ _ e2
        generalize upd H24 ll (.lst [.ref t1, .ref t2]) = H25 at u3 ell e13 e23 ⊢
        have t25 := u1.trans (u2.trans u3)
        have hF25 := hF22.same t25
        have hO25 := hO.same t25
        have hp25 := hp22.same t25
        refine ⟨ll, rfl, ⟨_, SqL.at ell⟩, ?_⟩
        have nlen : (xs.length : Int) ≠ (zs.length : Int) := by omega
        refine for_it (walk_list (xs := [V.ref t1, V.ref t2])) (fun j σ H' => (∃ (y9 y10 y12 y13 y14 : Option V), σ = [some (.ref x), some (.ref d), some (.int (0 + (i : Int))), some (.int (xs.length : Int)), some (.ref one), some (.ref two), some (.ref f), some (.ref g), some (.ref bo), y9, y10, some (.ref ot), y12, y13, y14]) ∧ Same H25 H') ?k0 ?kG ?ks ?kd
        case k0 => exact ⟨⟨y9, y10, y12, y13, y14, rfl⟩, Same.refl _⟩
        case kG =>
          rintro j σ H' _ ⟨_, sm⟩
          exact SqL.at (sm _ _ ell)
        case ks =>
          rintro j v σ H26 H27 hj ⟨⟨y9, y10, y12, y13, y14, rfl⟩, sm⟩ ⟨rfl, ev⟩
          obtain ⟨t, p1, p2, a1, a2, qs1, qs2, rfl, et, hR1, hR2, ne⟩ : ∃ (t p1 p2 : Addr) (a1 a2 : Int) (qs1 qs2 : List Pc), v = .ref t ∧ H27 t = some (.tup [.ref p1, .ref p2]) ∧ RunsAt a.C_Runs H27 p1 a1 qs1 ∧ RunsAt a.C_Runs H27 p2 a2 qs2 ∧ a1 ≠ a2 := by
            have hj : j < 2 := hj
            match j, hj, ev with
            | 0, _, ev =>
              cases ev
              exact ⟨t1, f, ot, _, _, _, _, rfl, sm _ _ e13, hF25.same sm, hO25.same sm, nlen⟩
            | 1, _, ev =>
              cases ev
              exact ⟨t2, ot, f, _, _, _, _, rfl, sm _ _ e23, hO25.same sm, hF25.same sm, nlen.symm⟩
          obtain ⟨d1, w1, _, _, x1, _⟩ := id hR1
          obtain ⟨d2, w2, _, _, x2, x3, _⟩ := id hR2
          refine ⟨t, _, rfl, SqT.at et, rfl, .ref p1, [.ref p2], rfl, .ref p2, [], rfl, rfl, ?_⟩
          refine ⟨_, rfl, _, rfl, p1, d1, w1, p2, d2, w2, rfl, rfl, x1, x2, p1, p2, a1, a2, qs1, qs2, rfl, hR1, hR2, .inr ⟨ne, fun H28 dd s28 ed => ?_⟩⟩
          refine ⟨true, T.em_BadSize_BadSize, fun _ x hx => ?_, fun q => Bool.noConfusion q⟩
          refine ⟨.ref x, rfl, rfl, rfl, dd, _, _, rfl, ed, rfl, .ref p2, rfl, p2, a.C_Runs, d2, _, _, rfl, s28 _ _ x2, T.cl_Runs, T.n_Runs_size, x3.1, ?_⟩
          refine ⟨rfl, _, rfl, ?_⟩
          rw [decide_eq_true rfl]
          exact iteF ⟨⟨_, _, _, _, _, rfl⟩, sm.trans s28⟩
        case kd =>
          rintro σ H26 ⟨⟨y9, y10, y12, y13, y14, rfl⟩, sm⟩
          exact ⟨⟨_, _, _, _, _, _, _, _, _, _, _, _, _, rfl⟩, (hp25.same sm).up (by omega)⟩
    · rintro σ H2 ⟨⟨y2, y3, y4, y5, y6, y7, y8, y9, y10, y11, y12, y13, y14, rfl⟩, _⟩
      exact q _
end


theorem all_mk {l : PySem.W.OpenLaw} {w : World} {K : PySem.W.Frag} {h : Heap} {mg : Str → Option Value} {fa : Addr} (X : K.In h) (G : h.Ns mainGlobals mg) (hfa : mg "law" = some (.ref fa))
    {f0 : Addr} {od0 an0 : Option Addr} {sl0 : Array (Option Value)} {oc0 kV0 dc0 pm0 cd0 ct0 : Value}
    {f1 : Addr} {od1 an1 : Option Addr} {sl1 : Array (Option Value)} {oc1 kV1 dc1 pm1 cd1 ct1 : Value}
    {f2 : Addr} {od2 an2 : Option Addr} {sl2 : Array (Option Value)} {oc2 kV2 dc2 pm2 cd2 ct2 : Value}
    {f3 : Addr} {od3 an3 : Option Addr} {sl3 : Array (Option Value)} {oc3 kV3 dc3 pm3 cd3 ct3 : Value}
    {f4 : Addr} {od4 an4 : Option Addr} {sl4 : Array (Option Value)} {oc4 kV4 dc4 pm4 cd4 ct4 : Value}
    {f5 : Addr} {od5 an5 : Option Addr} {sl5 : Array (Option Value)} {oc5 kV5 dc5 pm5 cd5 ct5 : Value}
    {f6 : Addr} {od6 an6 : Option Addr} {sl6 : Array (Option Value)} {oc6 kV6 dc6 pm6 cd6 ct6 : Value}
    {f7 : Addr} {od7 an7 : Option Addr} {sl7 : Array (Option Value)} {oc7 kV7 dc7 pm7 cd7 ct7 : Value}
    {f8 : Addr} {od8 an8 : Option Addr} {sl8 : Array (Option Value)} {oc8 kV8 dc8 pm8 cd8 ct8 : Value}
    {f9 : Addr} {od9 an9 : Option Addr} {sl9 : Array (Option Value)} {oc9 kV9 dc9 pm9 cd9 ct9 : Value}
    {f10 : Addr} {od10 an10 : Option Addr} {sl10 : Array (Option Value)} {oc10 kV10 dc10 pm10 cd10 ct10 : Value}
    {f11 : Addr} {od11 an11 : Option Addr} {sl11 : Array (Option Value)} {oc11 kV11 dc11 pm11 cd11 ct11 : Value}
    {f12 : Addr} {od12 an12 : Option Addr} {sl12 : Array (Option Value)} {oc12 kV12 dc12 pm12 cd12 ct12 : Value}
    {f13 : Addr} {od13 an13 : Option Addr} {sl13 : Array (Option Value)} {oc13 kV13 dc13 pm13 cd13 ct13 : Value}
    {f14 : Addr} {od14 an14 : Option Addr} {sl14 : Array (Option Value)} {oc14 kV14 dc14 pm14 cd14 ct14 : Value}
    {f15 : Addr} {od15 an15 : Option Addr} {sl15 : Array (Option Value)} {oc15 kV15 dc15 pm15 cd15 ct15 : Value}
    {f16 : Addr} {od16 an16 : Option Addr} {sl16 : Array (Option Value)} {oc16 kV16 dc16 pm16 cd16 ct16 : Value}
    {f17 : Addr} {od17 an17 : Option Addr} {sl17 : Array (Option Value)} {oc17 kV17 dc17 pm17 cd17 ct17 : Value}
    {f18 : Addr} {od18 an18 : Option Addr} {sl18 : Array (Option Value)} {oc18 kV18 dc18 pm18 cd18 ct18 : Value}
    {f19 : Addr} {od19 an19 : Option Addr} {sl19 : Array (Option Value)} {oc19 kV19 dc19 pm19 cd19 ct19 : Value}
    {f20 : Addr} {od20 an20 : Option Addr} {sl20 : Array (Option Value)} {oc20 kV20 dc20 pm20 cd20 ct20 : Value}
    {f21 : Addr} {od21 an21 : Option Addr} {sl21 : Array (Option Value)} {oc21 kV21 dc21 pm21 cd21 ct21 : Value}
    {f22 : Addr} {od22 an22 : Option Addr} {sl22 : Array (Option Value)} {oc22 kV22 dc22 pm22 cd22 ct22 : Value}
    {f23 : Addr} {od23 an23 : Option Addr} {sl23 : Array (Option Value)} {oc23 kV23 dc23 pm23 cd23 ct23 : Value}
    {f24 : Addr} {od24 an24 : Option Addr} {sl24 : Array (Option Value)} {oc24 kV24 dc24 pm24 cd24 ct24 : Value}
    {f25 : Addr} {od25 an25 : Option Addr} {sl25 : Array (Option Value)} {oc25 kV25 dc25 pm25 cd25 ct25 : Value}
    {f26 : Addr} {od26 an26 : Option Addr} {sl26 : Array (Option Value)} {oc26 kV26 dc26 pm26 cd26 ct26 : Value}
    {f27 : Addr} {od27 an27 : Option Addr} {sl27 : Array (Option Value)} {oc27 kV27 dc27 pm27 cd27 ct27 : Value}
    {C_EveryError : Addr}
    {C_BadSize : Addr}
    {C_BadPlace : Addr}
    {C_BadRow : Addr}
    {C_Runs : Addr}
    {en_BadSize eq_BadSize : Str} {eN_BadSize : Addr} {eb_BadSize em_BadSize : List Value} {es_BadSize : List Str} {eu_BadSize : List Value} {ea_BadSize : Bool} {eo_BadSize : Option Bool} {ed_BadSize : Option Addr} {e0_BadSize e1_BadSize e2_BadSize e3_BadSize e5_BadSize : Option Value}
    {en_BadPlace eq_BadPlace : Str} {eN_BadPlace : Addr} {eb_BadPlace em_BadPlace : List Value} {es_BadPlace : List Str} {eu_BadPlace : List Value} {ea_BadPlace : Bool} {eo_BadPlace : Option Bool} {ed_BadPlace : Option Addr} {e0_BadPlace e1_BadPlace e2_BadPlace e3_BadPlace e5_BadPlace : Option Value}
    {en_BadRow eq_BadRow : Str} {eN_BadRow : Addr} {eb_BadRow em_BadRow : List Value} {es_BadRow : List Str} {eu_BadRow : List Value} {ea_BadRow : Bool} {eo_BadRow : Option Bool} {ed_BadRow : Option Addr} {e0_BadRow e1_BadRow e2_BadRow e3_BadRow e5_BadRow : Option Value}
    {t_MOST_PLACES : Tok}
    {t_FEW : Tok}
    (c_EveryError : PySem.W.nsIn K mainGlobals "EveryError" = some (some (.ref C_EveryError)))
    (c_BadSize : PySem.W.nsIn K mainGlobals "BadSize" = some (some (.ref C_BadSize)))
    (c_BadPlace : PySem.W.nsIn K mainGlobals "BadPlace" = some (some (.ref C_BadPlace)))
    (c_BadRow : PySem.W.nsIn K mainGlobals "BadRow" = some (some (.ref C_BadRow)))
    (c_Runs : PySem.W.nsIn K mainGlobals "Runs" = some (some (.ref C_Runs)))
    (a0 : PySem.W.nsIn K mainGlobals "is_integer" = some (some (.ref f0)))
    (l0 : K.lookup f0 = some ⟨oc0, od0, .func (PySem.W.fnOf "is_integer" "is_integer" (defArgs s_is_integer) (defBody s_is_integer) (defScope s_is_integer) .none kV0 dc0 pm0 an0 cd0 ct0), sl0⟩)
    (e0 : PySem.W.codeIn K cd0 "is_integer" = true)
    (k0 : PySem.W.keepIn K (.ref f0) = true)
    (a1 : PySem.W.nsIn K mainGlobals "is_between" = some (some (.ref f1)))
    (l1 : K.lookup f1 = some ⟨oc1, od1, .func (PySem.W.fnOf "is_between" "is_between" (defArgs s_is_between) (defBody s_is_between) (defScope s_is_between) .none kV1 dc1 pm1 an1 cd1 ct1), sl1⟩)
    (e1 : PySem.W.codeIn K cd1 "is_between" = true)
    (k1 : PySem.W.keepIn K (.ref f1) = true)
    (a2 : PySem.W.nsIn K mainGlobals "first_wrong" = some (some (.ref f2)))
    (l2 : K.lookup f2 = some ⟨oc2, od2, .func (PySem.W.fnOf "first_wrong" "first_wrong" (defArgs s_first_wrong) (defBody s_first_wrong) (defScope s_first_wrong) .none kV2 dc2 pm2 an2 cd2 ct2), sl2⟩)
    (e2 : PySem.W.codeIn K cd2 "first_wrong" = true)
    (k2 : PySem.W.keepIn K (.ref f2) = true)
    (a3 : PySem.W.findIn K (.ref C_BadSize) "__init__" = some (some (.ref f3)))
    (l3 : K.lookup f3 = some ⟨oc3, od3, .func (PySem.W.fnOf "__init__" "BadSize.__init__" (defArgs s_BadSize_init) (defBody s_BadSize_init) (defScope s_BadSize_init) .none kV3 dc3 pm3 an3 cd3 ct3), sl3⟩)
    (e3 : PySem.W.codeIn K cd3 "BadSize.__init__" = true)
    (k3 : PySem.W.keepIn K (.ref f3) = true)
    (a4 : PySem.W.findIn K (.ref C_BadPlace) "__init__" = some (some (.ref f4)))
    (l4 : K.lookup f4 = some ⟨oc4, od4, .func (PySem.W.fnOf "__init__" "BadPlace.__init__" (defArgs s_BadPlace_init) (defBody s_BadPlace_init) (defScope s_BadPlace_init) .none kV4 dc4 pm4 an4 cd4 ct4), sl4⟩)
    (e4 : PySem.W.codeIn K cd4 "BadPlace.__init__" = true)
    (k4 : PySem.W.keepIn K (.ref f4) = true)
    (a5 : PySem.W.findIn K (.ref C_BadRow) "__init__" = some (some (.ref f5)))
    (l5 : K.lookup f5 = some ⟨oc5, od5, .func (PySem.W.fnOf "__init__" "BadRow.__init__" (defArgs s_BadRow_init) (defBody s_BadRow_init) (defScope s_BadRow_init) .none kV5 dc5 pm5 an5 cd5 ct5), sl5⟩)
    (e5 : PySem.W.codeIn K cd5 "BadRow.__init__" = true)
    (k5 : PySem.W.keepIn K (.ref f5) = true)
    (a6 : PySem.W.nsIn K mainGlobals "check_row" = some (some (.ref f6)))
    (l6 : K.lookup f6 = some ⟨oc6, od6, .func (PySem.W.fnOf "check_row" "check_row" (defArgs s_check_row) (defBody s_check_row) (defScope s_check_row) .none kV6 dc6 pm6 an6 cd6 ct6), sl6⟩)
    (e6 : PySem.W.codeIn K cd6 "check_row" = true)
    (k6 : PySem.W.keepIn K (.ref f6) = true)
    (a7 : PySem.W.nsIn K mainGlobals "common_way" = some (some (.ref f7)))
    (l7 : K.lookup f7 = some ⟨oc7, od7, .func (PySem.W.fnOf "common_way" "common_way" (defArgs s_common_way) (defBody s_common_way) (defScope s_common_way) .none kV7 dc7 pm7 an7 cd7 ct7), sl7⟩)
    (e7 : PySem.W.codeIn K cd7 "common_way" = true)
    (k7 : PySem.W.keepIn K (.ref f7) = true)
    (a8 : PySem.W.nsIn K mainGlobals "one_form" = some (some (.ref f8)))
    (l8 : K.lookup f8 = some ⟨oc8, od8, .func (PySem.W.fnOf "one_form" "one_form" (defArgs s_one_form) (defBody s_one_form) (defScope s_one_form) .none kV8 dc8 pm8 an8 cd8 ct8), sl8⟩)
    (e8 : PySem.W.codeIn K cd8 "one_form" = true)
    (k8 : PySem.W.keepIn K (.ref f8) = true)
    (a9 : PySem.W.nsIn K mainGlobals "way_of" = some (some (.ref f9)))
    (l9 : K.lookup f9 = some ⟨oc9, od9, .func (PySem.W.fnOf "way_of" "way_of" (defArgs s_way_of) (defBody s_way_of) (defScope s_way_of) .none kV9 dc9 pm9 an9 cd9 ct9), sl9⟩)
    (e9 : PySem.W.codeIn K cd9 "way_of" = true)
    (k9 : PySem.W.keepIn K (.ref f9) = true)
    (a10 : PySem.W.nsIn K mainGlobals "index_of_run" = some (some (.ref f10)))
    (l10 : K.lookup f10 = some ⟨oc10, od10, .func (PySem.W.fnOf "index_of_run" "index_of_run" (defArgs s_index_of_run) (defBody s_index_of_run) (defScope s_index_of_run) .none kV10 dc10 pm10 an10 cd10 ct10), sl10⟩)
    (e10 : PySem.W.codeIn K cd10 "index_of_run" = true)
    (k10 : PySem.W.keepIn K (.ref f10) = true)
    (a11 : PySem.W.nsIn K mainGlobals "goal_of" = some (some (.ref f11)))
    (l11 : K.lookup f11 = some ⟨oc11, od11, .func (PySem.W.fnOf "goal_of" "goal_of" (defArgs s_goal_of) (defBody s_goal_of) (defScope s_goal_of) .none kV11 dc11 pm11 an11 cd11 ct11), sl11⟩)
    (e11 : PySem.W.codeIn K cd11 "goal_of" = true)
    (k11 : PySem.W.keepIn K (.ref f11) = true)
    (a12 : PySem.W.nsIn K mainGlobals "led_on" = some (some (.ref f12)))
    (l12 : K.lookup f12 = some ⟨oc12, od12, .func (PySem.W.fnOf "led_on" "led_on" (defArgs s_led_on) (defBody s_led_on) (defScope s_led_on) .none kV12 dc12 pm12 an12 cd12 ct12), sl12⟩)
    (e12 : PySem.W.codeIn K cd12 "led_on" = true)
    (k12 : PySem.W.keepIn K (.ref f12) = true)
    (a13 : PySem.W.nsIn K mainGlobals "taken_back" = some (some (.ref f13)))
    (l13 : K.lookup f13 = some ⟨oc13, od13, .func (PySem.W.fnOf "taken_back" "taken_back" (defArgs s_taken_back) (defBody s_taken_back) (defScope s_taken_back) .none kV13 dc13 pm13 an13 cd13 ct13), sl13⟩)
    (e13 : PySem.W.codeIn K cd13 "taken_back" = true)
    (k13 : PySem.W.keepIn K (.ref f13) = true)
    (a14 : PySem.W.findIn K (.ref C_Runs) "__init__" = some (some (.ref f14)))
    (l14 : K.lookup f14 = some ⟨oc14, od14, .func (PySem.W.fnOf "__init__" "Runs.__init__" (defArgs s_Runs_init) (defBody s_Runs_init) (defScope s_Runs_init) .none kV14 dc14 pm14 an14 cd14 ct14), sl14⟩)
    (e14 : PySem.W.codeIn K cd14 "Runs.__init__" = true)
    (k14 : PySem.W.keepIn K (.ref f14) = true)
    (a15 : PySem.W.findIn K (.ref C_Runs) "__eq__" = some (some (.ref f15)))
    (l15 : K.lookup f15 = some ⟨oc15, od15, .func (PySem.W.fnOf "__eq__" "Runs.__eq__" (defArgs s_Runs_eq) (defBody s_Runs_eq) (defScope s_Runs_eq) .none kV15 dc15 pm15 an15 cd15 ct15), sl15⟩)
    (e15 : PySem.W.codeIn K cd15 "Runs.__eq__" = true)
    (k15 : PySem.W.keepIn K (.ref f15) = true)
    (a16 : PySem.W.findIn K (.ref C_Runs) "__mul__" = some (some (.ref f16)))
    (l16 : K.lookup f16 = some ⟨oc16, od16, .func (PySem.W.fnOf "__mul__" "Runs.__mul__" (defArgs s_Runs_mul) (defBody s_Runs_mul) (defScope s_Runs_mul) .none kV16 dc16 pm16 an16 cd16 ct16), sl16⟩)
    (e16 : PySem.W.codeIn K cd16 "Runs.__mul__" = true)
    (k16 : PySem.W.keepIn K (.ref f16) = true)
    (a17 : PySem.W.findIn K (.ref C_Runs) "__invert__" = some (some (.ref f17)))
    (l17 : K.lookup f17 = some ⟨oc17, od17, .func (PySem.W.fnOf "__invert__" "Runs.__invert__" (defArgs s_Runs_invert) (defBody s_Runs_invert) (defScope s_Runs_invert) .none kV17 dc17 pm17 an17 cd17 ct17), sl17⟩)
    (e17 : PySem.W.codeIn K cd17 "Runs.__invert__" = true)
    (k17 : PySem.W.keepIn K (.ref f17) = true)
    (a18 : PySem.W.findIn K (.ref C_Runs) "at" = some (some (.ref f18)))
    (l18 : K.lookup f18 = some ⟨oc18, od18, .func (PySem.W.fnOf "at" "Runs.at" (defArgs s_Runs_at) (defBody s_Runs_at) (defScope s_Runs_at) .none kV18 dc18 pm18 an18 cd18 ct18), sl18⟩)
    (e18 : PySem.W.codeIn K cd18 "Runs.at" = true)
    (k18 : PySem.W.keepIn K (.ref f18) = true)
    (a19 : PySem.W.nsIn K mainGlobals "runs_of_list" = some (some (.ref f19)))
    (l19 : K.lookup f19 = some ⟨oc19, od19, .func (PySem.W.fnOf "runs_of_list" "runs_of_list" (defArgs s_runs_of_list) (defBody s_runs_of_list) (defScope s_runs_of_list) .none kV19 dc19 pm19 an19 cd19 ct19), sl19⟩)
    (e19 : PySem.W.codeIn K cd19 "runs_of_list" = true)
    (k19 : PySem.W.keepIn K (.ref f19) = true)
    (a20 : PySem.W.nsIn K mainGlobals "_law_form" = some (some (.ref f20)))
    (l20 : K.lookup f20 = some ⟨oc20, od20, .func (PySem.W.fnOf "_law_form" "_law_form" (defArgs s__law_form) (defBody s__law_form) (defScope s__law_form) .none kV20 dc20 pm20 an20 cd20 ct20), sl20⟩)
    (e20 : PySem.W.codeIn K cd20 "_law_form" = true)
    (k20 : PySem.W.keepIn K (.ref f20) = true)
    (a21 : PySem.W.nsIn K mainGlobals "_law_blocks" = some (some (.ref f21)))
    (l21 : K.lookup f21 = some ⟨oc21, od21, .func (PySem.W.fnOf "_law_blocks" "_law_blocks" (defArgs s__law_blocks) (defBody s__law_blocks) (defScope s__law_blocks) .none kV21 dc21 pm21 an21 cd21 ct21), sl21⟩)
    (e21 : PySem.W.codeIn K cd21 "_law_blocks" = true)
    (k21 : PySem.W.keepIn K (.ref f21) = true)
    (a22 : PySem.W.nsIn K mainGlobals "_law_pen" = some (some (.ref f22)))
    (l22 : K.lookup f22 = some ⟨oc22, od22, .func (PySem.W.fnOf "_law_pen" "_law_pen" (defArgs s__law_pen) (defBody s__law_pen) (defScope s__law_pen) .none kV22 dc22 pm22 an22 cd22 ct22), sl22⟩)
    (e22 : PySem.W.codeIn K cd22 "_law_pen" = true)
    (k22 : PySem.W.keepIn K (.ref f22) = true)
    (a23 : PySem.W.nsIn K mainGlobals "_law_draw" = some (some (.ref f23)))
    (l23 : K.lookup f23 = some ⟨oc23, od23, .func (PySem.W.fnOf "_law_draw" "_law_draw" (defArgs s__law_draw) (defBody s__law_draw) (defScope s__law_draw) .none kV23 dc23 pm23 an23 cd23 ct23), sl23⟩)
    (e23 : PySem.W.codeIn K cd23 "_law_draw" = true)
    (k23 : PySem.W.keepIn K (.ref f23) = true)
    (a24 : PySem.W.nsIn K mainGlobals "_law_shuffled" = some (some (.ref f24)))
    (l24 : K.lookup f24 = some ⟨oc24, od24, .func (PySem.W.fnOf "_law_shuffled" "_law_shuffled" (defArgs s__law_shuffled) (defBody s__law_shuffled) (defScope s__law_shuffled) .none kV24 dc24 pm24 an24 cd24 ct24), sl24⟩)
    (e24 : PySem.W.codeIn K cd24 "_law_shuffled" = true)
    (k24 : PySem.W.keepIn K (.ref f24) = true)
    (a25 : PySem.W.nsIn K mainGlobals "_law_row" = some (some (.ref f25)))
    (l25 : K.lookup f25 = some ⟨oc25, od25, .func (PySem.W.fnOf "_law_row" "_law_row" (defArgs s__law_row) (defBody s__law_row) (defScope s__law_row) .none kV25 dc25 pm25 an25 cd25 ct25), sl25⟩)
    (e25 : PySem.W.codeIn K cd25 "_law_row" = true)
    (k25 : PySem.W.keepIn K (.ref f25) = true)
    (a26 : PySem.W.nsIn K mainGlobals "_law_after" = some (some (.ref f26)))
    (l26 : K.lookup f26 = some ⟨oc26, od26, .func (PySem.W.fnOf "_law_after" "_law_after" (defArgs s__law_after) (defBody s__law_after) (defScope s__law_after) .none kV26 dc26 pm26 an26 cd26 ct26), sl26⟩)
    (e26 : PySem.W.codeIn K cd26 "_law_after" = true)
    (k26 : PySem.W.keepIn K (.ref f26) = true)
    (a27 : PySem.W.nsIn K mainGlobals "law" = some (some (.ref f27)))
    (l27 : K.lookup f27 = some ⟨oc27, od27, .func (PySem.W.fnOf "law" "law" (defArgs s_law) (defBody s_law) (defScope s_law) .none kV27 dc27 pm27 an27 cd27 ct27), sl27⟩)
    (e27 : PySem.W.codeIn K cd27 "law" = true)
    (k27 : PySem.W.keepIn K (.ref f27) = true)
    (pg_Runs : PySem.W.plainGet K C_Runs Str.empty = true)
    (hd_Runs : PySem.W.hasDictIn K C_Runs = true)
    (po_Runs : PySem.W.plainOver K C_Runs = true)
    (sa_Runs : PySem.W.findIn K (.ref C_Runs) "__setattr__" = some (some (.builtin "object.__setattr__")))
    (mk_Runs : PySem.W.makesIn K C_Runs = true)
    (kc_Runs : PySem.W.keepIn K (.ref C_Runs) = true)
    (n_Runs_size : PySem.W.findIn K (.ref C_Runs) "size" = some none)
    (n_Runs_rows : PySem.W.findIn K (.ref C_Runs) "rows" = some none)
    (n_Runs_way : PySem.W.findIn K (.ref C_Runs) "way" = some none)
    (i_Runs_init : PySem.W.isFn K (.ref f14) = true)
    (i_Runs_eq : PySem.W.isFn K (.ref f15) = true)
    (i_Runs_mul : PySem.W.isFn K (.ref f16) = true)
    (i_Runs_invert : PySem.W.isFn K (.ref f17) = true)
    (i_Runs_at : PySem.W.isFn K (.ref f18) = true)
    (og_Runs : PySem.W.findIn K (.ref C_Runs) "__class__" = some (some (.builtin "object.__class__")))
    (on_Runs : PySem.W.specialIn K (.builtin "object.__class__") "__get__" = some (some (.builtin "getset_descriptor.__get__")))
    (ot_Runs : PySem.W.takesIn K (.builtin "object.__class__") = some true)
    (om_Runs : PySem.W.mroIn K C_Runs (.type "object") = some true)
    (of_Runs : PySem.W.notFirst K C_Runs (.type "str") = true)
    (ok_Runs : PySem.W.kitOne K (.type "str") (.ref C_Runs) = some false)
    (sf_Runs : PySem.W.selfFirst K C_Runs = true)
    (o2a_Runs : PySem.W.findIn K (.ref C_Runs) "__ne__" = some (some (.builtin "object.__ne__")))
    (o2b_Runs : PySem.W.notFirst K C_Runs (.type "int") = true)
    (o2c_Runs : PySem.W.notFirst K C_Runs (.type "tuple") = true)
    (ok_int_Runs : PySem.W.kitOne K (.type "int") (.ref C_Runs) = some false)
    (ok_tup_Runs : PySem.W.kitOne K (.type "tuple") (.ref C_Runs) = some false)
    (xl_BadSize : K.lookup C_BadSize = some (excClassObj en_BadSize eq_BadSize C_BadSize eN_BadSize eb_BadSize em_BadSize true es_BadSize eu_BadSize ea_BadSize eo_BadSize ed_BadSize e0_BadSize e1_BadSize e2_BadSize e3_BadSize e5_BadSize "ValueError.__new__"))
    (xr_BadSize : PySem.HandSPX.refsVE em_BadSize = true)
    (xsa_BadSize : PySem.W.findIn K (.ref C_BadSize) "__setattr__" = some (some (.builtin "object.__setattr__")))
    (xex_BadSize : PySem.W.subIn K (.ref C_BadSize) (.type "BaseException") = some true)
    (xty_BadSize : PySem.W.typeIn K (.ref C_BadSize) = some (.type "type"))
    (xkc_BadSize : PySem.W.keepIn K (.ref C_BadSize) = true)
    (xga_BadSize : PySem.W.findIn K (.ref C_BadSize) "__getattribute__" = some (some (.builtin "BaseException.__getattribute__")))
    (xgg_BadSize : PySem.W.findIn K (.ref C_BadSize) "__getattr__" = some none)
    (xhd_BadSize : PySem.W.hasDictIn K C_BadSize = true)
    (xha_BadSize : PySem.W.findIn K (.ref C_BadSize) "__class__" = some (some (.builtin "object.__class__")))
    (xhm_BadSize : PySem.W.mroIn K C_BadSize (.type "object") = some true)
    (xno_BadSize : PySem.W.findIn K (.ref C_BadSize) "size" = some none)
    (xhn_BadSize : PySem.W.specialIn K (.builtin "object.__class__") "__get__" = some (some (.builtin "getset_descriptor.__get__")))
    (xht_BadSize : PySem.W.takesIn K (.builtin "object.__class__") = some true)
    (xti_BadSize : PySem.W.typeIn K (.ref f3) = some (.type "function"))
    (xs_BadSize_BadSize : PySem.W.subIn K (.ref C_BadSize) (.ref C_BadSize) = some true)
    (xl_BadPlace : K.lookup C_BadPlace = some (excClassObj en_BadPlace eq_BadPlace C_BadPlace eN_BadPlace eb_BadPlace em_BadPlace true es_BadPlace eu_BadPlace ea_BadPlace eo_BadPlace ed_BadPlace e0_BadPlace e1_BadPlace e2_BadPlace e3_BadPlace e5_BadPlace "ValueError.__new__"))
    (xr_BadPlace : PySem.HandSPX.refsVE em_BadPlace = true)
    (xsa_BadPlace : PySem.W.findIn K (.ref C_BadPlace) "__setattr__" = some (some (.builtin "object.__setattr__")))
    (xex_BadPlace : PySem.W.subIn K (.ref C_BadPlace) (.type "BaseException") = some true)
    (xty_BadPlace : PySem.W.typeIn K (.ref C_BadPlace) = some (.type "type"))
    (xkc_BadPlace : PySem.W.keepIn K (.ref C_BadPlace) = true)
    (xga_BadPlace : PySem.W.findIn K (.ref C_BadPlace) "__getattribute__" = some (some (.builtin "BaseException.__getattribute__")))
    (xgg_BadPlace : PySem.W.findIn K (.ref C_BadPlace) "__getattr__" = some none)
    (xhd_BadPlace : PySem.W.hasDictIn K C_BadPlace = true)
    (xha_BadPlace : PySem.W.findIn K (.ref C_BadPlace) "__class__" = some (some (.builtin "object.__class__")))
    (xhm_BadPlace : PySem.W.mroIn K C_BadPlace (.type "object") = some true)
    (xno_BadPlace : PySem.W.findIn K (.ref C_BadPlace) "place" = some none)
    (xhn_BadPlace : PySem.W.specialIn K (.builtin "object.__class__") "__get__" = some (some (.builtin "getset_descriptor.__get__")))
    (xht_BadPlace : PySem.W.takesIn K (.builtin "object.__class__") = some true)
    (xti_BadPlace : PySem.W.typeIn K (.ref f4) = some (.type "function"))
    (xs_BadPlace_BadSize : PySem.W.subIn K (.ref C_BadPlace) (.ref C_BadSize) = some false)
    (xl_BadRow : K.lookup C_BadRow = some (excClassObj en_BadRow eq_BadRow C_BadRow eN_BadRow eb_BadRow em_BadRow true es_BadRow eu_BadRow ea_BadRow eo_BadRow ed_BadRow e0_BadRow e1_BadRow e2_BadRow e3_BadRow e5_BadRow "ValueError.__new__"))
    (xr_BadRow : PySem.HandSPX.refsVE em_BadRow = true)
    (xsa_BadRow : PySem.W.findIn K (.ref C_BadRow) "__setattr__" = some (some (.builtin "object.__setattr__")))
    (xex_BadRow : PySem.W.subIn K (.ref C_BadRow) (.type "BaseException") = some true)
    (xty_BadRow : PySem.W.typeIn K (.ref C_BadRow) = some (.type "type"))
    (xkc_BadRow : PySem.W.keepIn K (.ref C_BadRow) = true)
    (xga_BadRow : PySem.W.findIn K (.ref C_BadRow) "__getattribute__" = some (some (.builtin "BaseException.__getattribute__")))
    (xgg_BadRow : PySem.W.findIn K (.ref C_BadRow) "__getattr__" = some none)
    (xhd_BadRow : PySem.W.hasDictIn K C_BadRow = true)
    (xha_BadRow : PySem.W.findIn K (.ref C_BadRow) "__class__" = some (some (.builtin "object.__class__")))
    (xhm_BadRow : PySem.W.mroIn K C_BadRow (.type "object") = some true)
    (xno_BadRow : PySem.W.findIn K (.ref C_BadRow) "index" = some none)
    (xhn_BadRow : PySem.W.specialIn K (.builtin "object.__class__") "__get__" = some (some (.builtin "getset_descriptor.__get__")))
    (xht_BadRow : PySem.W.takesIn K (.builtin "object.__class__") = some true)
    (xti_BadRow : PySem.W.typeIn K (.ref f5) = some (.type "function"))
    (xs_BadRow_BadSize : PySem.W.subIn K (.ref C_BadRow) (.ref C_BadSize) = some false)
    (z_bool : PySem.W.nsIn K mainGlobals "bool" = some none)
    (z_enumerate : PySem.W.nsIn K mainGlobals "enumerate" = some none)
    (z_int : PySem.W.nsIn K mainGlobals "int" = some none)
    (z_isinstance : PySem.W.nsIn K mainGlobals "isinstance" = some none)
    (z_len : PySem.W.nsIn K mainGlobals "len" = some none)
    (z_list : PySem.W.nsIn K mainGlobals "list" = some none)
    (z_min : PySem.W.nsIn K mainGlobals "min" = some none)
    (z_range : PySem.W.nsIn K mainGlobals "range" = some none)
    (z_sorted : PySem.W.nsIn K mainGlobals "sorted" = some none)
    (z_sum : PySem.W.nsIn K mainGlobals "sum" = some none)
    (z_tuple : PySem.W.nsIn K mainGlobals "tuple" = some none)
    (m_MOST_PLACES : PySem.W.nsIn K mainGlobals "MOST_PLACES" = some (some (.int 1000 t_MOST_PLACES)))
    (m_FEW : PySem.W.nsIn K mainGlobals "FEW" = some (some (.int 100 t_FEW)))
    : ∃ fd : FuncData, (∀ (s : Shared) (v : Value), BindsTo s fd ⟨[v], []⟩ [("script", v)]) ∧ ∀ base : Heap, K.In base → base.Ns mainGlobals mg → FnOk l.prog w K mg base CX0 6 fa fd ["script"] (spLaw K) := by
  have e := hfa.symm.trans (PySem.W.mg_of X G a27)
  cases e
  let a : Ad := ⟨f0, PySem.W.fnOf "is_integer" "is_integer" (defArgs s_is_integer) (defBody s_is_integer) (defScope s_is_integer) .none kV0 dc0 pm0 an0 cd0 ct0, f1, PySem.W.fnOf "is_between" "is_between" (defArgs s_is_between) (defBody s_is_between) (defScope s_is_between) .none kV1 dc1 pm1 an1 cd1 ct1, f2, PySem.W.fnOf "first_wrong" "first_wrong" (defArgs s_first_wrong) (defBody s_first_wrong) (defScope s_first_wrong) .none kV2 dc2 pm2 an2 cd2 ct2, f3, PySem.W.fnOf "__init__" "BadSize.__init__" (defArgs s_BadSize_init) (defBody s_BadSize_init) (defScope s_BadSize_init) .none kV3 dc3 pm3 an3 cd3 ct3, f4, PySem.W.fnOf "__init__" "BadPlace.__init__" (defArgs s_BadPlace_init) (defBody s_BadPlace_init) (defScope s_BadPlace_init) .none kV4 dc4 pm4 an4 cd4 ct4, f5, PySem.W.fnOf "__init__" "BadRow.__init__" (defArgs s_BadRow_init) (defBody s_BadRow_init) (defScope s_BadRow_init) .none kV5 dc5 pm5 an5 cd5 ct5, f6, PySem.W.fnOf "check_row" "check_row" (defArgs s_check_row) (defBody s_check_row) (defScope s_check_row) .none kV6 dc6 pm6 an6 cd6 ct6, f7, PySem.W.fnOf "common_way" "common_way" (defArgs s_common_way) (defBody s_common_way) (defScope s_common_way) .none kV7 dc7 pm7 an7 cd7 ct7, f8, PySem.W.fnOf "one_form" "one_form" (defArgs s_one_form) (defBody s_one_form) (defScope s_one_form) .none kV8 dc8 pm8 an8 cd8 ct8, f9, PySem.W.fnOf "way_of" "way_of" (defArgs s_way_of) (defBody s_way_of) (defScope s_way_of) .none kV9 dc9 pm9 an9 cd9 ct9, f10, PySem.W.fnOf "index_of_run" "index_of_run" (defArgs s_index_of_run) (defBody s_index_of_run) (defScope s_index_of_run) .none kV10 dc10 pm10 an10 cd10 ct10, f11, PySem.W.fnOf "goal_of" "goal_of" (defArgs s_goal_of) (defBody s_goal_of) (defScope s_goal_of) .none kV11 dc11 pm11 an11 cd11 ct11, f12, PySem.W.fnOf "led_on" "led_on" (defArgs s_led_on) (defBody s_led_on) (defScope s_led_on) .none kV12 dc12 pm12 an12 cd12 ct12, f13, PySem.W.fnOf "taken_back" "taken_back" (defArgs s_taken_back) (defBody s_taken_back) (defScope s_taken_back) .none kV13 dc13 pm13 an13 cd13 ct13, f14, PySem.W.fnOf "__init__" "Runs.__init__" (defArgs s_Runs_init) (defBody s_Runs_init) (defScope s_Runs_init) .none kV14 dc14 pm14 an14 cd14 ct14, f15, PySem.W.fnOf "__eq__" "Runs.__eq__" (defArgs s_Runs_eq) (defBody s_Runs_eq) (defScope s_Runs_eq) .none kV15 dc15 pm15 an15 cd15 ct15, f16, PySem.W.fnOf "__mul__" "Runs.__mul__" (defArgs s_Runs_mul) (defBody s_Runs_mul) (defScope s_Runs_mul) .none kV16 dc16 pm16 an16 cd16 ct16, f17, PySem.W.fnOf "__invert__" "Runs.__invert__" (defArgs s_Runs_invert) (defBody s_Runs_invert) (defScope s_Runs_invert) .none kV17 dc17 pm17 an17 cd17 ct17, f18, PySem.W.fnOf "at" "Runs.at" (defArgs s_Runs_at) (defBody s_Runs_at) (defScope s_Runs_at) .none kV18 dc18 pm18 an18 cd18 ct18, f19, PySem.W.fnOf "runs_of_list" "runs_of_list" (defArgs s_runs_of_list) (defBody s_runs_of_list) (defScope s_runs_of_list) .none kV19 dc19 pm19 an19 cd19 ct19, f20, PySem.W.fnOf "_law_form" "_law_form" (defArgs s__law_form) (defBody s__law_form) (defScope s__law_form) .none kV20 dc20 pm20 an20 cd20 ct20, f21, PySem.W.fnOf "_law_blocks" "_law_blocks" (defArgs s__law_blocks) (defBody s__law_blocks) (defScope s__law_blocks) .none kV21 dc21 pm21 an21 cd21 ct21, f22, PySem.W.fnOf "_law_pen" "_law_pen" (defArgs s__law_pen) (defBody s__law_pen) (defScope s__law_pen) .none kV22 dc22 pm22 an22 cd22 ct22, f23, PySem.W.fnOf "_law_draw" "_law_draw" (defArgs s__law_draw) (defBody s__law_draw) (defScope s__law_draw) .none kV23 dc23 pm23 an23 cd23 ct23, f24, PySem.W.fnOf "_law_shuffled" "_law_shuffled" (defArgs s__law_shuffled) (defBody s__law_shuffled) (defScope s__law_shuffled) .none kV24 dc24 pm24 an24 cd24 ct24, f25, PySem.W.fnOf "_law_row" "_law_row" (defArgs s__law_row) (defBody s__law_row) (defScope s__law_row) .none kV25 dc25 pm25 an25 cd25 ct25, f26, PySem.W.fnOf "_law_after" "_law_after" (defArgs s__law_after) (defBody s__law_after) (defScope s__law_after) .none kV26 dc26 pm26 an26 cd26 ct26, fa, PySem.W.fnOf "law" "law" (defArgs s_law) (defBody s_law) (defScope s_law) .none kV27 dc27 pm27 an27 cd27 ct27, C_EveryError, C_BadSize, C_BadPlace, C_BadRow, C_Runs⟩
  have F0 : Fun K "is_integer" "is_integer" s_is_integer a.f_is_integer a.d_is_integer := fun_mk (st := s_is_integer) l0 e0 k0
  have F1 : Fun K "is_between" "is_between" s_is_between a.f_is_between a.d_is_between := fun_mk (st := s_is_between) l1 e1 k1
  have F2 : Fun K "first_wrong" "first_wrong" s_first_wrong a.f_first_wrong a.d_first_wrong := fun_mk (st := s_first_wrong) l2 e2 k2
  have F3 : Fun K "__init__" "BadSize.__init__" s_BadSize_init a.f_BadSize_init a.d_BadSize_init := fun_mk (st := s_BadSize_init) l3 e3 k3
  have F4 : Fun K "__init__" "BadPlace.__init__" s_BadPlace_init a.f_BadPlace_init a.d_BadPlace_init := fun_mk (st := s_BadPlace_init) l4 e4 k4
  have F5 : Fun K "__init__" "BadRow.__init__" s_BadRow_init a.f_BadRow_init a.d_BadRow_init := fun_mk (st := s_BadRow_init) l5 e5 k5
  have F6 : Fun K "check_row" "check_row" s_check_row a.f_check_row a.d_check_row := fun_mk (st := s_check_row) l6 e6 k6
  have F7 : Fun K "common_way" "common_way" s_common_way a.f_common_way a.d_common_way := fun_mk (st := s_common_way) l7 e7 k7
  have F8 : Fun K "one_form" "one_form" s_one_form a.f_one_form a.d_one_form := fun_mk (st := s_one_form) l8 e8 k8
  have F9 : Fun K "way_of" "way_of" s_way_of a.f_way_of a.d_way_of := fun_mk (st := s_way_of) l9 e9 k9
  have F10 : Fun K "index_of_run" "index_of_run" s_index_of_run a.f_index_of_run a.d_index_of_run := fun_mk (st := s_index_of_run) l10 e10 k10
  have F11 : Fun K "goal_of" "goal_of" s_goal_of a.f_goal_of a.d_goal_of := fun_mk (st := s_goal_of) l11 e11 k11
  have F12 : Fun K "led_on" "led_on" s_led_on a.f_led_on a.d_led_on := fun_mk (st := s_led_on) l12 e12 k12
  have F13 : Fun K "taken_back" "taken_back" s_taken_back a.f_taken_back a.d_taken_back := fun_mk (st := s_taken_back) l13 e13 k13
  have F14 : Fun K "__init__" "Runs.__init__" s_Runs_init a.f_Runs_init a.d_Runs_init := fun_mk (st := s_Runs_init) l14 e14 k14
  have F15 : Fun K "__eq__" "Runs.__eq__" s_Runs_eq a.f_Runs_eq a.d_Runs_eq := fun_mk (st := s_Runs_eq) l15 e15 k15
  have F16 : Fun K "__mul__" "Runs.__mul__" s_Runs_mul a.f_Runs_mul a.d_Runs_mul := fun_mk (st := s_Runs_mul) l16 e16 k16
  have F17 : Fun K "__invert__" "Runs.__invert__" s_Runs_invert a.f_Runs_invert a.d_Runs_invert := fun_mk (st := s_Runs_invert) l17 e17 k17
  have F18 : Fun K "at" "Runs.at" s_Runs_at a.f_Runs_at a.d_Runs_at := fun_mk (st := s_Runs_at) l18 e18 k18
  have F19 : Fun K "runs_of_list" "runs_of_list" s_runs_of_list a.f_runs_of_list a.d_runs_of_list := fun_mk (st := s_runs_of_list) l19 e19 k19
  have F20 : Fun K "_law_form" "_law_form" s__law_form a.f__law_form a.d__law_form := fun_mk (st := s__law_form) l20 e20 k20
  have F21 : Fun K "_law_blocks" "_law_blocks" s__law_blocks a.f__law_blocks a.d__law_blocks := fun_mk (st := s__law_blocks) l21 e21 k21
  have F22 : Fun K "_law_pen" "_law_pen" s__law_pen a.f__law_pen a.d__law_pen := fun_mk (st := s__law_pen) l22 e22 k22
  have F23 : Fun K "_law_draw" "_law_draw" s__law_draw a.f__law_draw a.d__law_draw := fun_mk (st := s__law_draw) l23 e23 k23
  have F24 : Fun K "_law_shuffled" "_law_shuffled" s__law_shuffled a.f__law_shuffled a.d__law_shuffled := fun_mk (st := s__law_shuffled) l24 e24 k24
  have F25 : Fun K "_law_row" "_law_row" s__law_row a.f__law_row a.d__law_row := fun_mk (st := s__law_row) l25 e25 k25
  have F26 : Fun K "_law_after" "_law_after" s__law_after a.f__law_after a.d__law_after := fun_mk (st := s__law_after) l26 e26 k26
  have F27 : Fun K "law" "law" s_law a.f_law a.d_law := fun_mk (st := s_law) l27 e27 k27
  have T : Tx w K mg a := ⟨(F0),
    (F0.binds (ps := ["value"]) fun _ _ _ _ _ _ us hl => match us, hl with | [_], _ => rfl),
    (PySem.W.mg_of X G a0),
    (F1),
    (F1.binds (ps := ["value", "low", "high"]) fun _ _ _ _ _ _ us hl => match us, hl with | [_, _, _], _ => rfl),
    (PySem.W.mg_of X G a1),
    (F2),
    (F2.binds (ps := ["row", "size"]) fun _ _ _ _ _ _ us hl => match us, hl with | [_, _], _ => rfl),
    (PySem.W.mg_of X G a2),
    (F3),
    (F3.binds (ps := ["self", "size"]) fun _ _ _ _ _ _ us hl => match us, hl with | [_, _], _ => rfl),
    (F4),
    (F4.binds (ps := ["self", "place"]) fun _ _ _ _ _ _ us hl => match us, hl with | [_, _], _ => rfl),
    (F5),
    (F5.binds (ps := ["self", "index"]) fun _ _ _ _ _ _ us hl => match us, hl with | [_, _], _ => rfl),
    (F6),
    (F6.binds (ps := ["row"]) fun _ _ _ _ _ _ us hl => match us, hl with | [_], _ => rfl),
    (PySem.W.mg_of X G a6),
    (F7),
    (F7.binds (ps := ["run", "other"]) fun _ _ _ _ _ _ us hl => match us, hl with | [_, _], _ => rfl),
    (PySem.W.mg_of X G a7),
    (F8),
    (F8.binds (ps := ["pieces"]) fun _ _ _ _ _ _ us hl => match us, hl with | [_], _ => rfl),
    (PySem.W.mg_of X G a8),
    (F9),
    (F9.binds (ps := ["size", "rows"]) fun _ _ _ _ _ _ us hl => match us, hl with | [_, _], _ => rfl),
    (PySem.W.mg_of X G a9),
    (F10),
    (F10.binds (ps := ["rows", "place"]) fun _ _ _ _ _ _ us hl => match us, hl with | [_, _], _ => rfl),
    (PySem.W.mg_of X G a10),
    (F11),
    (F11.binds (ps := ["run", "place"]) fun _ _ _ _ _ _ us hl => match us, hl with | [_, _], _ => rfl),
    (PySem.W.mg_of X G a11),
    (F12),
    (F12.binds (ps := ["rows", "run"]) fun _ _ _ _ _ _ us hl => match us, hl with | [_, _], _ => rfl),
    (PySem.W.mg_of X G a12),
    (F13),
    (F13.binds (ps := ["run"]) fun _ _ _ _ _ _ us hl => match us, hl with | [_], _ => rfl),
    (PySem.W.mg_of X G a13),
    (F14),
    (F14.binds (ps := ["self", "size", "pieces"]) fun _ _ _ _ _ _ us hl => match us, hl with | [_, _, _], _ => rfl),
    (F15),
    (F15.binds (ps := ["self", "other"]) fun _ _ _ _ _ _ us hl => match us, hl with | [_, _], _ => rfl),
    (F16),
    (F16.binds (ps := ["self", "other"]) fun _ _ _ _ _ _ us hl => match us, hl with | [_, _], _ => rfl),
    (F17),
    (F17.binds (ps := ["self"]) fun _ _ _ _ _ _ us hl => match us, hl with | [_], _ => rfl),
    (F18),
    (F18.binds (ps := ["self", "j"]) fun _ _ _ _ _ _ us hl => match us, hl with | [_, _], _ => rfl),
    (F19),
    (F19.binds (ps := ["row"]) fun _ _ _ _ _ _ us hl => match us, hl with | [_], _ => rfl),
    (PySem.W.mg_of X G a19),
    (F20),
    (F20.binds (ps := ["row"]) fun _ _ _ _ _ _ us hl => match us, hl with | [_], _ => rfl),
    (PySem.W.mg_of X G a20),
    (F21),
    (F21.binds (ps := ["pen", "size"]) fun _ _ _ _ _ _ us hl => match us, hl with | [_, _], _ => rfl),
    (PySem.W.mg_of X G a21),
    (F22),
    (F22.binds (ps := ["script"]) fun _ _ _ _ _ _ us hl => match us, hl with | [_], _ => rfl),
    (PySem.W.mg_of X G a22),
    (F23),
    (F23.binds (ps := ["pen", "many"]) fun _ _ _ _ _ _ us hl => match us, hl with | [_, _], _ => rfl),
    (PySem.W.mg_of X G a23),
    (F24),
    (F24.binds (ps := ["pen", "some"]) fun _ _ _ _ _ _ us hl => match us, hl with | [_, _], _ => rfl),
    (PySem.W.mg_of X G a24),
    (F25),
    (F25.binds (ps := ["pen", "size"]) fun _ _ _ _ _ _ us hl => match us, hl with | [_, _], _ => rfl),
    (PySem.W.mg_of X G a25),
    (F26),
    (F26.binds (ps := ["row", "things"]) fun _ _ _ _ _ _ us hl => match us, hl with | [_, _], _ => rfl),
    (PySem.W.mg_of X G a26),
    (F27),
    (F27.binds (ps := ["script"]) fun _ _ _ _ _ _ us hl => match us, hl with | [_], _ => rfl),
    (PySem.W.mg_of X G a27),
    (PySem.W.mg_of X G c_EveryError),
    (PySem.W.mg_of X G c_BadSize),
    (PySem.W.mg_of X G c_BadPlace),
    (PySem.W.mg_of X G c_BadRow),
    (PySem.W.mg_of X G c_Runs),
    (⟨pg_Runs, hd_Runs, po_Runs, sa_Runs⟩),
    (⟨mk_Runs, a14, i_Runs_init, kc_Runs⟩),
    (n_Runs_size),
    (n_Runs_rows),
    (n_Runs_way),
    (⟨a18, i_Runs_at, k18⟩),
    (⟨a15, i_Runs_eq, og_Runs, on_Runs, ot_Runs, om_Runs, of_Runs, ok_Runs⟩),
    (⟨o2a_Runs, o2b_Runs, o2c_Runs, ok_int_Runs, ok_tup_Runs⟩),
    (⟨sf_Runs, a16, i_Runs_mul⟩),
    (⟨a17, i_Runs_invert⟩),
    (⟨⟨⟨en_BadSize, eq_BadSize, eN_BadSize, eb_BadSize, em_BadSize, es_BadSize, eu_BadSize, ea_BadSize, eo_BadSize, ed_BadSize, e0_BadSize, e1_BadSize, e2_BadSize, e3_BadSize, e5_BadSize, xl_BadSize, xr_BadSize⟩, xsa_BadSize, xex_BadSize, xty_BadSize, xkc_BadSize⟩, a3, xti_BadSize, xno_BadSize, ⟨xga_BadSize, xgg_BadSize, xex_BadSize, xhd_BadSize⟩, ⟨xga_BadSize, xgg_BadSize, xex_BadSize, xhd_BadSize, xha_BadSize, xhn_BadSize, xht_BadSize, xhm_BadSize⟩⟩),
    (exm_ofHd xex_BadSize xhd_BadSize xty_BadSize xs_BadSize_BadSize),
    (⟨⟨⟨en_BadPlace, eq_BadPlace, eN_BadPlace, eb_BadPlace, em_BadPlace, es_BadPlace, eu_BadPlace, ea_BadPlace, eo_BadPlace, ed_BadPlace, e0_BadPlace, e1_BadPlace, e2_BadPlace, e3_BadPlace, e5_BadPlace, xl_BadPlace, xr_BadPlace⟩, xsa_BadPlace, xex_BadPlace, xty_BadPlace, xkc_BadPlace⟩, a4, xti_BadPlace, xno_BadPlace, ⟨xga_BadPlace, xgg_BadPlace, xex_BadPlace, xhd_BadPlace⟩, ⟨xga_BadPlace, xgg_BadPlace, xex_BadPlace, xhd_BadPlace, xha_BadPlace, xhn_BadPlace, xht_BadPlace, xhm_BadPlace⟩⟩),
    (exm_ofHd xex_BadSize xhd_BadSize xty_BadSize xs_BadPlace_BadSize),
    (⟨⟨⟨en_BadRow, eq_BadRow, eN_BadRow, eb_BadRow, em_BadRow, es_BadRow, eu_BadRow, ea_BadRow, eo_BadRow, ed_BadRow, e0_BadRow, e1_BadRow, e2_BadRow, e3_BadRow, e5_BadRow, xl_BadRow, xr_BadRow⟩, xsa_BadRow, xex_BadRow, xty_BadRow, xkc_BadRow⟩, a5, xti_BadRow, xno_BadRow, ⟨xga_BadRow, xgg_BadRow, xex_BadRow, xhd_BadRow⟩, ⟨xga_BadRow, xgg_BadRow, xex_BadRow, xhd_BadRow, xha_BadRow, xhn_BadRow, xht_BadRow, xhm_BadRow⟩⟩),
    (exm_ofHd xex_BadSize xhd_BadSize xty_BadSize xs_BadRow_BadSize),
    (PySem.W.mg_none_of X G z_bool),
    (PySem.W.mg_none_of X G z_enumerate),
    (PySem.W.mg_none_of X G z_int),
    (PySem.W.mg_none_of X G z_isinstance),
    (PySem.W.mg_none_of X G z_len),
    (PySem.W.mg_none_of X G z_list),
    (PySem.W.mg_none_of X G z_min),
    (PySem.W.mg_none_of X G z_range),
    (PySem.W.mg_none_of X G z_sorted),
    (PySem.W.mg_none_of X G z_sum),
    (PySem.W.mg_none_of X G z_tuple),
    (⟨_, PySem.W.mg_of X G m_MOST_PLACES⟩),
    (⟨_, PySem.W.mg_of X G m_FEW⟩)⟩
  exact ⟨a.d_law, fun s v => .of_eq rfl, fun base _ _ => ok_law T⟩
end Pf29
open PySem PySem.W PyProof.Rows
set_option maxRecDepth 100000 in
set_option maxHeartbeats 0 in
theorem PySem.Challenge.cw_everyorder_k29_products_of_runs_holds : PySem.Challenge.rw_everyorder_k29_products_of_runs.Holds := by
  w_on; o_law; k_head; (case hw => w_witness2)
  k_fill
  refine L2.walk_of (l := PySem.Challenge.rw_everyorder_k29_products_of_runs) (n := 63) (k := 6) (x := "script") (CX := fun _ => L2.CX0) (sp := fun w => Pf29.spLaw _) rfl (by decide) rfl ⟨rfl, by decide, by decide⟩ (fun w h Y => PySem.W.kIn_of Y) ?F (fun _ _ a ns hl _ hS => ⟨a, ns, rfl, hS, hl, fun _ => rfl⟩) (fun _ _ _ _ _ h => h)
  case F =>
    intro w mg fa h KX G hmg
    refine' Pf29.all_mk KX G hmg ?c_EveryError ?c_BadSize ?c_BadPlace ?c_BadRow ?c_Runs ?a0 ?l0 ?e0 ?k0 ?a1 ?l1 ?e1 ?k1 ?a2 ?l2 ?e2 ?k2 ?a3 ?l3 ?e3 ?k3 ?a4 ?l4 ?e4 ?k4 ?a5 ?l5 ?e5 ?k5 ?a6 ?l6 ?e6 ?k6 ?a7 ?l7 ?e7 ?k7 ?a8 ?l8 ?e8 ?k8 ?a9 ?l9 ?e9 ?k9 ?a10 ?l10 ?e10 ?k10 ?a11 ?l11 ?e11 ?k11 ?a12 ?l12 ?e12 ?k12 ?a13 ?l13 ?e13 ?k13 ?a14 ?l14 ?e14 ?k14 ?a15 ?l15 ?e15 ?k15 ?a16 ?l16 ?e16 ?k16 ?a17 ?l17 ?e17 ?k17 ?a18 ?l18 ?e18 ?k18 ?a19 ?l19 ?e19 ?k19 ?a20 ?l20 ?e20 ?k20 ?a21 ?l21 ?e21 ?k21 ?a22 ?l22 ?e22 ?k22 ?a23 ?l23 ?e23 ?k23 ?a24 ?l24 ?e24 ?k24 ?a25 ?l25 ?e25 ?k25 ?a26 ?l26 ?e26 ?k26 ?a27 ?l27 ?e27 ?k27 ?pg_Runs ?hd_Runs ?po_Runs ?sa_Runs ?mk_Runs ?kc_Runs ?n_Runs_size ?n_Runs_rows ?n_Runs_way ?i_Runs_init ?i_Runs_eq ?i_Runs_mul ?i_Runs_invert ?i_Runs_at ?og_Runs ?on_Runs ?ot_Runs ?om_Runs ?of_Runs ?ok_Runs ?sf_Runs ?o2a_Runs ?o2b_Runs ?o2c_Runs ?ok_int_Runs ?ok_tup_Runs ?xl_BadSize ?xr_BadSize ?xsa_BadSize ?xex_BadSize ?xty_BadSize ?xkc_BadSize ?xga_BadSize ?xgg_BadSize ?xhd_BadSize ?xha_BadSize ?xhm_BadSize ?xno_BadSize ?xhn_BadSize ?xht_BadSize ?xti_BadSize ?xs_BadSize_BadSize ?xl_BadPlace ?xr_BadPlace ?xsa_BadPlace ?xex_BadPlace ?xty_BadPlace ?xkc_BadPlace ?xga_BadPlace ?xgg_BadPlace ?xhd_BadPlace ?xha_BadPlace ?xhm_BadPlace ?xno_BadPlace ?xhn_BadPlace ?xht_BadPlace ?xti_BadPlace ?xs_BadPlace_BadSize ?xl_BadRow ?xr_BadRow ?xsa_BadRow ?xex_BadRow ?xty_BadRow ?xkc_BadRow ?xga_BadRow ?xgg_BadRow ?xhd_BadRow ?xha_BadRow ?xhm_BadRow ?xno_BadRow ?xhn_BadRow ?xht_BadRow ?xti_BadRow ?xs_BadRow_BadSize ?z_bool ?z_enumerate ?z_int ?z_isinstance ?z_len ?z_list ?z_min ?z_range ?z_sorted ?z_sum ?z_tuple ?m_MOST_PLACES ?m_FEW
    (case c_EveryError => k_is)
    (case c_BadSize => k_is)
    (case c_BadPlace => k_is)
    (case c_BadRow => k_is)
    (case c_Runs => k_is)
    (case a0 => k_is)
    (case l0 => k_is)
    (case e0 => k_is)
    (case k0 => k_is)
    (case a1 => k_is)
    (case l1 => k_is)
    (case e1 => k_is)
    (case k1 => k_is)
    (case a2 => k_is)
    (case l2 => k_is)
    (case e2 => k_is)
    (case k2 => k_is)
    (case a3 => k_is)
    (case l3 => k_is)
    (case e3 => k_is)
    (case k3 => k_is)
    (case a4 => k_is)
    (case l4 => k_is)
    (case e4 => k_is)
    (case k4 => k_is)
    (case a5 => k_is)
    (case l5 => k_is)
    (case e5 => k_is)
    (case k5 => k_is)
    (case a6 => k_is)
    (case l6 => k_is)
    (case e6 => k_is)
    (case k6 => k_is)
    (case a7 => k_is)
    (case l7 => k_is)
    (case e7 => k_is)
    (case k7 => k_is)
    (case a8 => k_is)
    (case l8 => k_is)
    (case e8 => k_is)
    (case k8 => k_is)
    (case a9 => k_is)
    (case l9 => k_is)
    (case e9 => k_is)
    (case k9 => k_is)
    (case a10 => k_is)
    (case l10 => k_is)
    (case e10 => k_is)
    (case k10 => k_is)
    (case a11 => k_is)
    (case l11 => k_is)
    (case e11 => k_is)
    (case k11 => k_is)
    (case a12 => k_is)
    (case l12 => k_is)
    (case e12 => k_is)
    (case k12 => k_is)
    (case a13 => k_is)
    (case l13 => k_is)
    (case e13 => k_is)
    (case k13 => k_is)
    (case a14 => k_is)
    (case l14 => k_is)
    (case e14 => k_is)
    (case k14 => k_is)
    (case a15 => k_is)
    (case l15 => k_is)
    (case e15 => k_is)
    (case k15 => k_is)
    (case a16 => k_is)
    (case l16 => k_is)
    (case e16 => k_is)
    (case k16 => k_is)
    (case a17 => k_is)
    (case l17 => k_is)
    (case e17 => k_is)
    (case k17 => k_is)
    (case a18 => k_is)
    (case l18 => k_is)
    (case e18 => k_is)
    (case k18 => k_is)
    (case a19 => k_is)
    (case l19 => k_is)
    (case e19 => k_is)
    (case k19 => k_is)
    (case a20 => k_is)
    (case l20 => k_is)
    (case e20 => k_is)
    (case k20 => k_is)
    (case a21 => k_is)
    (case l21 => k_is)
    (case e21 => k_is)
    (case k21 => k_is)
    (case a22 => k_is)
    (case l22 => k_is)
    (case e22 => k_is)
    (case k22 => k_is)
    (case a23 => k_is)
    (case l23 => k_is)
    (case e23 => k_is)
    (case k23 => k_is)
    (case a24 => k_is)
    (case l24 => k_is)
    (case e24 => k_is)
    (case k24 => k_is)
    (case a25 => k_is)
    (case l25 => k_is)
    (case e25 => k_is)
    (case k25 => k_is)
    (case a26 => k_is)
    (case l26 => k_is)
    (case e26 => k_is)
    (case k26 => k_is)
    (case a27 => k_is)
    (case l27 => k_is)
    (case e27 => k_is)
    (case k27 => k_is)
    (case pg_Runs => k_is)
    (case hd_Runs => k_is)
    (case po_Runs => k_is)
    (case sa_Runs => k_is)
    (case mk_Runs => k_is)
    (case kc_Runs => k_is)
    (case n_Runs_size => k_is)
    (case n_Runs_rows => k_is)
    (case n_Runs_way => k_is)
    (case i_Runs_init => k_is)
    (case i_Runs_eq => k_is)
    (case i_Runs_mul => k_is)
    (case i_Runs_invert => k_is)
    (case i_Runs_at => k_is)
    (case og_Runs => k_is)
    (case on_Runs => k_is)
    (case ot_Runs => k_is)
    (case om_Runs => k_is)
    (case of_Runs => k_is)
    (case ok_Runs => kit_is)
    (case sf_Runs => k_is)
    (case o2a_Runs => k_is)
    (case o2b_Runs => k_is)
    (case o2c_Runs => k_is)
    (case ok_int_Runs => kit_is)
    (case ok_tup_Runs => kit_is)
    (case xl_BadSize => k_is)
    (case xr_BadSize => first | rfl | decide +kernel)
    (case xsa_BadSize => k_is)
    (case xex_BadSize => k_is)
    (case xty_BadSize => k_is)
    (case xkc_BadSize => k_is)
    (case xga_BadSize => k_is)
    (case xgg_BadSize => k_is)
    (case xhd_BadSize => k_is)
    (case xha_BadSize => k_is)
    (case xhm_BadSize => k_is)
    (case xno_BadSize => k_is)
    (case xhn_BadSize => k_is)
    (case xht_BadSize => k_is)
    (case xti_BadSize => k_is)
    (case xs_BadSize_BadSize => k_is)
    (case xl_BadPlace => k_is)
    (case xr_BadPlace => first | rfl | decide +kernel)
    (case xsa_BadPlace => k_is)
    (case xex_BadPlace => k_is)
    (case xty_BadPlace => k_is)
    (case xkc_BadPlace => k_is)
    (case xga_BadPlace => k_is)
    (case xgg_BadPlace => k_is)
    (case xhd_BadPlace => k_is)
    (case xha_BadPlace => k_is)
    (case xhm_BadPlace => k_is)
    (case xno_BadPlace => k_is)
    (case xhn_BadPlace => k_is)
    (case xht_BadPlace => k_is)
    (case xti_BadPlace => k_is)
    (case xs_BadPlace_BadSize => k_is)
    (case xl_BadRow => k_is)
    (case xr_BadRow => first | rfl | decide +kernel)
    (case xsa_BadRow => k_is)
    (case xex_BadRow => k_is)
    (case xty_BadRow => k_is)
    (case xkc_BadRow => k_is)
    (case xga_BadRow => k_is)
    (case xgg_BadRow => k_is)
    (case xhd_BadRow => k_is)
    (case xha_BadRow => k_is)
    (case xhm_BadRow => k_is)
    (case xno_BadRow => k_is)
    (case xhn_BadRow => k_is)
    (case xht_BadRow => k_is)
    (case xti_BadRow => k_is)
    (case xs_BadRow_BadSize => k_is)
    (case z_bool => k_is)
    (case z_enumerate => k_is)
    (case z_int => k_is)
    (case z_isinstance => k_is)
    (case z_len => k_is)
    (case z_list => k_is)
    (case z_min => k_is)
    (case z_range => k_is)
    (case z_sorted => k_is)
    (case z_sum => k_is)
    (case z_tuple => k_is)
    (case m_MOST_PLACES => k_is)
    (case m_FEW => k_is)
