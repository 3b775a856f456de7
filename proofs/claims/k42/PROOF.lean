import PyProof.Rows.All
import Wide.All
import OpenK.AllK
import Wide.FinOn
import HandS.ForMost
import HandS.Exc
import HandS.ExcOwn
import HandS.ExcField
import HandS.ExcIs
import HandS.ExcInit
import HandS.WordsExc
import HandS.TryMany
import KE.KExcIs
import KE.KIsAll
import KE.RegKIsAll
import HandS.Codes
import HandS.Conv
import HandS.IsInst
import HandS.Style
import HandS.Walk
import HandS.Wide
import KE.GoesEnum
import KE.GoesMore
import HandS.More
import HandS.StrMore
import KE.GoesEnumKw
import PyProof.Rows.CallKwBuiltin
import HandS.Deep
import HandS.Star
import HandS.Text
import HandS.SortInts
import KE.KSortedM
import HandS.Lambda
import HandS.EndTab
import KE.KNestM
import KE.KLam
import HandS.OwnEq
import OpenK.AllK
import PyProof.CallFns
import PySem.Challenge.RW_everyorder_k42_exchanges_and_rolls_of_an
set_option Elab.async false
set_option linter.all false
set_option maxRecDepth 100000
set_option maxHeartbeats 4000000
namespace Pf42
open PySem PySem.Spec PyProof.Rows L2
/-! ### the text by places -/
def topS (i : Nat) : Stmt := PySem.Challenge.pw_everyorder_k42_exchanges_and_rolls_of_an.main.body.getD i (.Pass ⟨0, 0, 0, 0⟩)
abbrev s_is_integer : Stmt := topS 1
abbrev s_is_between : Stmt := topS 2
abbrev s_BadSize_init : Stmt := inClass (topS 5) 0
abbrev s_BadPlace_init : Stmt := inClass (topS 6) 0
abbrev s_common_way : Stmt := topS 10
abbrev s_one_form : Stmt := topS 11
abbrev s_way_of : Stmt := topS 12
abbrev s_index_of_run : Stmt := topS 13
abbrev s_goal_of : Stmt := topS 14
abbrev s_led_on : Stmt := topS 15
abbrev s_taken_back : Stmt := topS 16
abbrev s_Runs_init : Stmt := inClass (topS 17) 0
abbrev s_Runs_eq : Stmt := inClass (topS 17) 1
abbrev s_Runs_mul : Stmt := inClass (topS 17) 2
abbrev s_Runs_invert : Stmt := inClass (topS 17) 3
abbrev s_Runs_at : Stmt := inClass (topS 17) 4
abbrev s_check_far_size : Stmt := topS 18
abbrev s_moved_block : Stmt := topS 19
abbrev s_nothing_runs : Stmt := topS 20
abbrev s_exchange_runs : Stmt := topS 21
abbrev s_roll_runs : Stmt := topS 22
abbrev s__law_great : Stmt := topS 24
abbrev s__law_probes : Stmt := topS 25
abbrev s__law_pen : Stmt := topS 26
abbrev s__law_draw : Stmt := topS 27
abbrev s__law_pick : Stmt := topS 28
abbrev s__law_place : Stmt := topS 29
abbrev s__law_is_refused : Stmt := topS 30
abbrev s_law : Stmt := topS 31
theorem sc_is_integer : FnScope ["value"] ["value"] (defScope s_is_integer) := ⟨rfl, rfl, rfl, by decide +kernel, rfl, by decide +kernel, by decide +kernel⟩
theorem sc_is_between : FnScope ["value", "low", "high"] ["value", "low", "high"] (defScope s_is_between) := ⟨rfl, rfl, rfl, by decide +kernel, rfl, by decide +kernel, by decide +kernel⟩
theorem sc_BadSize_init : FnScope ["self", "size"] ["self", "size"] (defScope s_BadSize_init) := ⟨rfl, rfl, rfl, by decide +kernel, rfl, by decide +kernel, by decide +kernel⟩
theorem sc_BadPlace_init : FnScope ["self", "place"] ["self", "place"] (defScope s_BadPlace_init) := ⟨rfl, rfl, rfl, by decide +kernel, rfl, by decide +kernel, by decide +kernel⟩
theorem sc_common_way : FnScope ["run", "other", "way"] ["run", "other"] (defScope s_common_way) := ⟨rfl, rfl, rfl, by decide +kernel, rfl, by decide +kernel, by decide +kernel⟩
theorem sc_one_form : FnScope ["pieces", "rows", "start", "length", "goal", "way", "piece", "common", "first"] ["pieces"] (defScope s_one_form) := ⟨rfl, rfl, rfl, by decide +kernel, rfl, by decide +kernel, by decide +kernel⟩
theorem sc_way_of : FnScope ["size", "rows", "backward", "_", "length", "way"] ["size", "rows"] (defScope s_way_of) := ⟨rfl, rfl, rfl, by decide +kernel, rfl, by decide +kernel, by decide +kernel⟩
theorem sc_index_of_run : FnScope ["rows", "place", "low", "high", "middle"] ["rows", "place"] (defScope s_index_of_run) := ⟨rfl, rfl, rfl, by decide +kernel, rfl, by decide +kernel, by decide +kernel⟩
theorem sc_goal_of : FnScope ["run", "place"] ["run", "place"] (defScope s_goal_of) := ⟨rfl, rfl, rfl, by decide +kernel, rfl, by decide +kernel, by decide +kernel⟩
theorem sc_led_on : FnScope ["rows", "run", "start", "left", "goal", "way", "pieces", "index", "told", "many"] ["rows", "run"] (defScope s_led_on) := ⟨rfl, rfl, rfl, by decide +kernel, rfl, by decide +kernel, by decide +kernel⟩
theorem sc_taken_back : FnScope ["run", "start", "length", "goal", "way"] ["run"] (defScope s_taken_back) := ⟨rfl, rfl, rfl, by decide +kernel, rfl, by decide +kernel, by decide +kernel⟩
theorem sc_Runs_init : FnScope ["self", "size", "pieces"] ["self", "size", "pieces"] (defScope s_Runs_init) := ⟨rfl, rfl, rfl, by decide +kernel, rfl, by decide +kernel, by decide +kernel⟩
theorem sc_Runs_eq : FnScope ["self", "other"] ["self", "other"] (defScope s_Runs_eq) := ⟨rfl, rfl, rfl, by decide +kernel, rfl, by decide +kernel, by decide +kernel⟩
theorem sc_Runs_mul : FnScope ["self", "other", "run", "piece"] ["self", "other"] (defScope s_Runs_mul) := ⟨rfl, rfl, rfl, by decide +kernel, rfl, by decide +kernel, by decide +kernel⟩
theorem sc_Runs_invert : FnScope ["self", "run"] ["self"] (defScope s_Runs_invert) := ⟨rfl, rfl, rfl, by decide +kernel, rfl, by decide +kernel, by decide +kernel⟩
theorem sc_Runs_at : FnScope ["self", "j"] ["self", "j"] (defScope s_Runs_at) := ⟨rfl, rfl, rfl, by decide +kernel, rfl, by decide +kernel, by decide +kernel⟩
theorem sc_check_far_size : FnScope ["k"] ["k"] (defScope s_check_far_size) := ⟨rfl, rfl, rfl, by decide +kernel, rfl, by decide +kernel, by decide +kernel⟩
theorem sc_moved_block : FnScope ["k", "x", "y", "pieces", "around", "piece"] ["k", "x", "y", "pieces"] (defScope s_moved_block) := ⟨rfl, rfl, rfl, by decide +kernel, rfl, by decide +kernel, by decide +kernel⟩
theorem sc_nothing_runs : FnScope ["k"] ["k"] (defScope s_nothing_runs) := ⟨rfl, rfl, rfl, by decide +kernel, rfl, by decide +kernel, by decide +kernel⟩
theorem sc_exchange_runs : FnScope ["k", "x", "y", "low", "high", "between"] ["k", "x", "y"] (defScope s_exchange_runs) := ⟨rfl, rfl, rfl, by decide +kernel, rfl, by decide +kernel, by decide +kernel⟩
theorem sc_roll_runs : FnScope ["k", "x", "y", "c", "length", "ahead"] ["k", "x", "y", "c"] (defScope s_roll_runs) := ⟨rfl, rfl, rfl, by decide +kernel, rfl, by decide +kernel, by decide +kernel⟩
theorem sc__law_great : FnScope ["pen", "sizes"] ["pen"] (defScope s__law_great) := ⟨rfl, rfl, rfl, by decide +kernel, rfl, by decide +kernel, by decide +kernel⟩
theorem sc__law_probes : FnScope ["pen", "k", "found", "at", "place", "lap"] ["pen", "k"] (defScope s__law_probes) := ⟨rfl, rfl, rfl, by decide +kernel, rfl, by decide +kernel, by decide +kernel⟩
theorem sc__law_pen : FnScope ["script"] ["script"] (defScope s__law_pen) := ⟨rfl, rfl, rfl, by decide +kernel, rfl, by decide +kernel, by decide +kernel⟩
theorem sc__law_draw : FnScope ["pen", "many", "digit", "at", "cell", "mixed"] ["pen", "many"] (defScope s__law_draw) := ⟨rfl, rfl, rfl, by decide +kernel, rfl, by decide +kernel, by decide +kernel⟩
theorem sc__law_pick : FnScope ["pen", "some"] ["pen", "some"] (defScope s__law_pick) := ⟨rfl, rfl, rfl, by decide +kernel, rfl, by decide +kernel, by decide +kernel⟩
theorem sc__law_place : FnScope ["pen", "k", "great", "near"] ["pen", "k"] (defScope s__law_place) := ⟨rfl, rfl, rfl, by decide +kernel, rfl, by decide +kernel, by decide +kernel⟩
theorem sc__law_is_refused : FnScope ["call", "odd", "e"] ["call", "odd"] (defScope s__law_is_refused) := ⟨rfl, rfl, rfl, by decide +kernel, rfl, by decide +kernel, by decide +kernel⟩
theorem sc_law : FnScope ["script", "pen", "lap", "k", "far", "amount", "turn", "roll", "inside", "many", "by", "probes", "place", "due", "odd", "x", "y"] ["script"] (defScope s_law) := ⟨rfl, rfl, rfl, by decide +kernel, rfl, by decide +kernel, by decide +kernel⟩
/-- where the defs and classes stand -/
structure Ad where
  f_is_integer : Addr
  d_is_integer : FuncData
  f_is_between : Addr
  d_is_between : FuncData
  f_BadSize_init : Addr
  d_BadSize_init : FuncData
  f_BadPlace_init : Addr
  d_BadPlace_init : FuncData
  f_common_way : Addr
  d_common_way : FuncData
  f_one_form : Addr
  d_one_form : FuncData
  f_way_of : Addr
  d_way_of : FuncData
  f_index_of_run : Addr
  d_index_of_run : FuncData
  f_goal_of : Addr
  d_goal_of : FuncData
  f_led_on : Addr
  d_led_on : FuncData
  f_taken_back : Addr
  d_taken_back : FuncData
  f_Runs_init : Addr
  d_Runs_init : FuncData
  f_Runs_eq : Addr
  d_Runs_eq : FuncData
  f_Runs_mul : Addr
  d_Runs_mul : FuncData
  f_Runs_invert : Addr
  d_Runs_invert : FuncData
  f_Runs_at : Addr
  d_Runs_at : FuncData
  f_check_far_size : Addr
  d_check_far_size : FuncData
  f_moved_block : Addr
  d_moved_block : FuncData
  f_nothing_runs : Addr
  d_nothing_runs : FuncData
  f_exchange_runs : Addr
  d_exchange_runs : FuncData
  f_roll_runs : Addr
  d_roll_runs : FuncData
  f__law_great : Addr
  d__law_great : FuncData
  f__law_probes : Addr
  d__law_probes : FuncData
  f__law_pen : Addr
  d__law_pen : FuncData
  f__law_draw : Addr
  d__law_draw : FuncData
  f__law_pick : Addr
  d__law_pick : FuncData
  f__law_place : Addr
  d__law_place : FuncData
  f__law_is_refused : Addr
  d__law_is_refused : FuncData
  f_law : Addr
  d_law : FuncData
  C_EveryError : Addr
  C_BadSize : Addr
  C_BadPlace : Addr
  C_Runs : Addr
  c_law : Addr
  p_law : Addr
/-- a def that makes lambdas: its code object stands at c -/
structure FunL (K : PySem.W.Frag) (x qual : Str) (st : Stmt) (f : Addr) (fd : FuncData) (c : Addr) : Prop where
  ex : ∃ (oc : Value) (od : Option Addr) (kV doc pm : Value) (an : Option Addr) (ct : Value) (osl : Array (Option Value)), fd = PySem.W.fnOf x qual (defArgs st) (defBody st) (defScope st) .none kV doc pm an (.ref c) ct ∧ K.lookup f = some ⟨oc, od, .func fd, osl⟩ ∧ PySem.W.codeIn K (.ref c) qual = true
theorem FunL.ok {P : Program} {w : World} {K : PySem.W.Frag} {mg : Str → Option Value} {base : Heap} {x qual : Str} {st : Stmt} {f c : Addr} {fd : FuncData} {N ps : List Str} {k : Nat} {sp : Sp} (F : FunL K x qual st f fd c) (hb : Binds K fd ps []) (S : FnScope N ps (defScope st)) (len : ∀ vs H Q E, sp vs H Q E → vs.length = ps.length)
    (hbody : ∀ (A : Around) (outer : List Env) (s : Shared) (H : Hp) (vs : List V) (Q : VK) (E : XK), Room k (A.deeper (envOfC qual (defScope st) s.heap.objs.size f (.ref c))) → sp vs H Q E → ∃ t, PSs (cxOf C8.CX0 P w K mg base N qual (defScope st) f (.ref c) A outer s H E).nox (defBody st) t ∧ t { nx := fun _ H' => Q .non H', rt := Q } (L2.start N vs) H) :
    FnOk P w K mg base CX0 (k + 1) f fd ps sp := by
  obtain ⟨oc, od, kV, doc, pm, an, ct, osl, e, lk, hcd⟩ := F.ex
  refine ⟨len, fun A outer s H args us vs Q E hr e0 hbt r h => ?_⟩
  rw [e] at lk hbt
  refine LamX.run_ofS lk hcd S hr e0 hbt r (len _ _ _ _ h) fun hr' => ?_
  obtain ⟨t, ht, q⟩ := hbody A outer s H vs Q E hr' h
  exact ⟨t, ht.nox, q⟩
/-- the table of a code object -/
def tabAddr (K : PySem.W.Frag) (c : Addr) : Addr := match K.lookup c with
  | some ⟨_, _, .fields vs, _⟩ => (match (vs[11]? : Option Value) with | some (.ref P) => P | _ => 0)
  | _ => 0
theorem tabs_at {h : Heap} {ts : List Addr} {p : Addr} (hts : ∀ P ∈ ts, h.get? P = some (PySem.W.tabObj #[])) (e : ts.contains p = true) : h.get? p = some { cls := .none, data := .fields #[] } := hts p (List.contains_iff_mem.mp e)
theorem tabs_nil {T : List (Addr × Str)} {cs : List (Addr × Addr)} {H : Hp} (e : T.map (·.1) = cs.map (·.2)) (hT : ∀ p ∈ cs, H p.2 = some (.tbl #[])) : LamX.Tabs T H := fun p hp => by
  have m : p.1 ∈ cs.map (·.2) := by
    rw [← e]
    exact List.mem_map.mpr ⟨p, hp, rfl⟩
  obtain ⟨q, hq, eq⟩ := List.mem_map.mp m
  refine LamX.TabS.nil ?_
  rw [← eq]
  exact hT q hq
/-- a class with its own ==: what its instances answer -/
structure OwnC (K : PySem.W.Frag) (C f : Addr) : Prop where
  eq : PySem.W.findIn K (.ref C) "__eq__" = some (some (.ref f))
  fn : PySem.W.isFn K (.ref f) = true
  cls : PySem.W.findIn K (.ref C) "__class__" = some (some (.builtin "object.__class__"))
  get : PySem.W.specialIn K (.builtin "object.__class__") "__get__" = some (some (.builtin "getset_descriptor.__get__"))
  tak : PySem.W.takesIn K (.builtin "object.__class__") = some true
  mro : PySem.W.mroIn K C (.type "object") = some true
  fst : PySem.W.notFirst K C (.type "str") = true
  kit : PySem.W.kitOne K (.type "str") (.ref C) = some false
/-- the same class beside numbers and tuples, and its != -/
structure OwnC2 (K : PySem.W.Frag) (C : Addr) : Prop where
  ne : PySem.W.findIn K (.ref C) "__ne__" = some (some (.builtin "object.__ne__"))
  fsi : PySem.W.notFirst K C (.type "int") = true
  fst : PySem.W.notFirst K C (.type "tuple") = true
  kti : PySem.W.kitOne K (.type "int") (.ref C) = some false
  ktt : PySem.W.kitOne K (.type "tuple") (.ref C) = some false
/-- isinstance of a caught error that has its own dict -/
structure ExcD (K : PySem.W.Frag) (D : Addr) : Prop where
  hg : PySem.W.findIn K (.ref D) "__getattribute__" = some (some (.builtin "BaseException.__getattribute__"))
  hk : PySem.W.findIn K (.ref D) "__getattr__" = some none
  hs : PySem.W.subIn K (.ref D) (.type "BaseException") = some true
  hd : PySem.W.hasDictIn K D = true
  ha : PySem.W.findIn K (.ref D) "__class__" = some (some (.builtin "object.__class__"))
  hn : PySem.W.specialIn K (.builtin "object.__class__") "__get__" = some (some (.builtin "getset_descriptor.__get__"))
  ht : PySem.W.takesIn K (.builtin "object.__class__") = some true
  hm : PySem.W.mroIn K D (.type "object") = some true
/-- an own error class: made, its field read, asked by isinstance -/
structure ErrC (K : PySem.W.Frag) (C fI : Addr) (f : Str) : Prop where
  o : OexC K C
  ini : PySem.W.findIn K (.ref C) "__init__" = some (some (.ref fI))
  tin : PySem.W.typeIn K (.ref fI) = some (.type "function")
  no : PySem.W.findIn K (.ref C) f = some none
  x : XfC K C
  i : ExcD K C
/-- an own error class without own __init__ -/
structure ErrZ (K : PySem.W.Frag) (C : Addr) : Prop where
  x : PySem.W.excIn K C [.type "ValueError", .type "Exception", .type "BaseException", .type "object"] "ValueError.__new__" = true
  k : PySem.W.keepIn K (.ref C) = true
  i : ExcD K C
/-- what the top has written -/
structure Tx (w : World) (K : PySem.W.Frag) (mg : Str → Option Value) (a : Ad) : Prop where
  F_is_integer : Fun K "is_integer" "is_integer" s_is_integer a.f_is_integer a.d_is_integer
  b_is_integer : Binds K a.d_is_integer ["value"] []
  m_is_integer : mg "is_integer" = some (.ref a.f_is_integer)
  F_is_between : Fun K "is_between" "is_between" s_is_between a.f_is_between a.d_is_between
  b_is_between : Binds K a.d_is_between ["value", "low", "high"] []
  m_is_between : mg "is_between" = some (.ref a.f_is_between)
  F_BadSize_init : Fun K "__init__" "BadSize.__init__" s_BadSize_init a.f_BadSize_init a.d_BadSize_init
  b_BadSize_init : Binds K a.d_BadSize_init ["self", "size"] []
  F_BadPlace_init : Fun K "__init__" "BadPlace.__init__" s_BadPlace_init a.f_BadPlace_init a.d_BadPlace_init
  b_BadPlace_init : Binds K a.d_BadPlace_init ["self", "place"] []
  F_common_way : Fun K "common_way" "common_way" s_common_way a.f_common_way a.d_common_way
  b_common_way : Binds K a.d_common_way ["run", "other"] []
  m_common_way : mg "common_way" = some (.ref a.f_common_way)
  F_one_form : Fun K "one_form" "one_form" s_one_form a.f_one_form a.d_one_form
  b_one_form : Binds K a.d_one_form ["pieces"] []
  m_one_form : mg "one_form" = some (.ref a.f_one_form)
  F_way_of : Fun K "way_of" "way_of" s_way_of a.f_way_of a.d_way_of
  b_way_of : Binds K a.d_way_of ["size", "rows"] []
  m_way_of : mg "way_of" = some (.ref a.f_way_of)
  F_index_of_run : Fun K "index_of_run" "index_of_run" s_index_of_run a.f_index_of_run a.d_index_of_run
  b_index_of_run : Binds K a.d_index_of_run ["rows", "place"] []
  m_index_of_run : mg "index_of_run" = some (.ref a.f_index_of_run)
  F_goal_of : Fun K "goal_of" "goal_of" s_goal_of a.f_goal_of a.d_goal_of
  b_goal_of : Binds K a.d_goal_of ["run", "place"] []
  m_goal_of : mg "goal_of" = some (.ref a.f_goal_of)
  F_led_on : Fun K "led_on" "led_on" s_led_on a.f_led_on a.d_led_on
  b_led_on : Binds K a.d_led_on ["rows", "run"] []
  m_led_on : mg "led_on" = some (.ref a.f_led_on)
  F_taken_back : Fun K "taken_back" "taken_back" s_taken_back a.f_taken_back a.d_taken_back
  b_taken_back : Binds K a.d_taken_back ["run"] []
  m_taken_back : mg "taken_back" = some (.ref a.f_taken_back)
  F_Runs_init : Fun K "__init__" "Runs.__init__" s_Runs_init a.f_Runs_init a.d_Runs_init
  b_Runs_init : Binds K a.d_Runs_init ["self", "size", "pieces"] []
  F_Runs_eq : Fun K "__eq__" "Runs.__eq__" s_Runs_eq a.f_Runs_eq a.d_Runs_eq
  b_Runs_eq : Binds K a.d_Runs_eq ["self", "other"] []
  F_Runs_mul : Fun K "__mul__" "Runs.__mul__" s_Runs_mul a.f_Runs_mul a.d_Runs_mul
  b_Runs_mul : Binds K a.d_Runs_mul ["self", "other"] []
  F_Runs_invert : Fun K "__invert__" "Runs.__invert__" s_Runs_invert a.f_Runs_invert a.d_Runs_invert
  b_Runs_invert : Binds K a.d_Runs_invert ["self"] []
  F_Runs_at : Fun K "at" "Runs.at" s_Runs_at a.f_Runs_at a.d_Runs_at
  b_Runs_at : Binds K a.d_Runs_at ["self", "j"] []
  F_check_far_size : Fun K "check_far_size" "check_far_size" s_check_far_size a.f_check_far_size a.d_check_far_size
  b_check_far_size : Binds K a.d_check_far_size ["k"] []
  m_check_far_size : mg "check_far_size" = some (.ref a.f_check_far_size)
  F_moved_block : Fun K "moved_block" "moved_block" s_moved_block a.f_moved_block a.d_moved_block
  b_moved_block : Binds K a.d_moved_block ["k", "x", "y", "pieces"] []
  m_moved_block : mg "moved_block" = some (.ref a.f_moved_block)
  F_nothing_runs : Fun K "nothing_runs" "nothing_runs" s_nothing_runs a.f_nothing_runs a.d_nothing_runs
  b_nothing_runs : Binds K a.d_nothing_runs ["k"] []
  m_nothing_runs : mg "nothing_runs" = some (.ref a.f_nothing_runs)
  F_exchange_runs : Fun K "exchange_runs" "exchange_runs" s_exchange_runs a.f_exchange_runs a.d_exchange_runs
  b_exchange_runs : Binds K a.d_exchange_runs ["k", "x", "y"] []
  m_exchange_runs : mg "exchange_runs" = some (.ref a.f_exchange_runs)
  F_roll_runs : Fun K "roll_runs" "roll_runs" s_roll_runs a.f_roll_runs a.d_roll_runs
  b_roll_runs : Binds K a.d_roll_runs ["k", "x", "y", "c"] []
  m_roll_runs : mg "roll_runs" = some (.ref a.f_roll_runs)
  F__law_great : Fun K "_law_great" "_law_great" s__law_great a.f__law_great a.d__law_great
  b__law_great : Binds K a.d__law_great ["pen"] []
  m__law_great : mg "_law_great" = some (.ref a.f__law_great)
  F__law_probes : Fun K "_law_probes" "_law_probes" s__law_probes a.f__law_probes a.d__law_probes
  b__law_probes : Binds K a.d__law_probes ["pen", "k"] []
  m__law_probes : mg "_law_probes" = some (.ref a.f__law_probes)
  F__law_pen : Fun K "_law_pen" "_law_pen" s__law_pen a.f__law_pen a.d__law_pen
  b__law_pen : Binds K a.d__law_pen ["script"] []
  m__law_pen : mg "_law_pen" = some (.ref a.f__law_pen)
  F__law_draw : Fun K "_law_draw" "_law_draw" s__law_draw a.f__law_draw a.d__law_draw
  b__law_draw : Binds K a.d__law_draw ["pen", "many"] []
  m__law_draw : mg "_law_draw" = some (.ref a.f__law_draw)
  F__law_pick : Fun K "_law_pick" "_law_pick" s__law_pick a.f__law_pick a.d__law_pick
  b__law_pick : Binds K a.d__law_pick ["pen", "some"] []
  m__law_pick : mg "_law_pick" = some (.ref a.f__law_pick)
  F__law_place : Fun K "_law_place" "_law_place" s__law_place a.f__law_place a.d__law_place
  b__law_place : Binds K a.d__law_place ["pen", "k"] []
  m__law_place : mg "_law_place" = some (.ref a.f__law_place)
  F__law_is_refused : Fun K "_law_is_refused" "_law_is_refused" s__law_is_refused a.f__law_is_refused a.d__law_is_refused
  b__law_is_refused : Binds K a.d__law_is_refused ["call", "odd"] []
  m__law_is_refused : mg "_law_is_refused" = some (.ref a.f__law_is_refused)
  F_law : Fun K "law" "law" s_law a.f_law a.d_law
  L_law : FunL K "law" "law" s_law a.f_law a.d_law a.c_law
  b_law : Binds K a.d_law ["script"] []
  m_law : mg "law" = some (.ref a.f_law)
  c_EveryError : mg "EveryError" = some (.ref a.C_EveryError)
  c_BadSize : mg "BadSize" = some (.ref a.C_BadSize)
  c_BadPlace : mg "BadPlace" = some (.ref a.C_BadPlace)
  c_Runs : mg "Runs" = some (.ref a.C_Runs)
  cl_Runs : Cls K a.C_Runs
  mk_Runs : Mk K a.C_Runs a.f_Runs_init
  n_Runs_size : NoAttr K a.C_Runs "size"
  n_Runs_rows : NoAttr K a.C_Runs "rows"
  n_Runs_way : NoAttr K a.C_Runs "way"
  me_Runs_at : Meth K a.C_Runs "at" a.f_Runs_at
  ow_Runs : OwnC K a.C_Runs a.f_Runs_eq
  ow2_Runs : OwnC2 K a.C_Runs
  ox_BadSize : ErrC K a.C_BadSize a.f_BadSize_init "size"
  em_BadSize_BadSize : PySem.W.exmOne K (.ref a.C_BadSize) (.ref a.C_BadSize) = some true
  ox_BadPlace : ErrC K a.C_BadPlace a.f_BadPlace_init "place"
  em_BadPlace_BadSize : PySem.W.exmOne K (.ref a.C_BadPlace) (.ref a.C_BadSize) = some false
  z_bool : mg "bool" = none
  z_int : mg "int" = none
  z_isinstance : mg "isinstance" = none
  z_len : mg "len" = none
  z_list : mg "list" = none
  z_max : mg "max" = none
  z_min : mg "min" = none
  z_range : mg "range" = none
  z_repr : mg "repr" = none
  z_sorted : mg "sorted" = none
  z_sum : mg "sum" = none
  z_tuple : mg "tuple" = none
  m_MOST_SIZE : ∃ t, mg "MOST_SIZE" = some (.int 1000000000000000000000000000000 t)
  m_FEW : ∃ t, mg "FEW" = some (.int 100 t)
def tabsOf (a : Ad) : List (Addr × Str) := [(a.p_law, (("law" : Str) ++ ".<locals>." ++ "<lambda>"))]
/-- the tables of the code objects of lambdas -/
structure Tb (base : Heap) (mg : Str → Option Value) (a : Ad) : Prop where
  tb_law : LamX.TabB base mg a.c_law a.p_law
  hu_law : ∀ p ∈ tabsOf a, p.1 = a.p_law → p.2 = (("law" : Str) ++ ".<locals>." ++ "<lambda>")



/-! ### several clauses `except X as n` -/
/-- what such clauses wish of an exception of the body, one after the other: class, slot of the name, suite -/
def wManyAs (K : PySem.W.Frag) (Wout : WX) (D : Ends) : List (Value × Nat × (Addr → Value → Option Addr → TS)) → WX
  | [] => Wout
  | (c, i, ts) :: r => fun cls d σ H => ∃ b, PySem.W.exmOne K cls c = some b ∧
      (b = true → ∀ a, H a = none → ts a cls d { nx := fun σ' H' => D.nx (σ'.set i none) H', rt := D.rt, bk := fun σ' H' => D.bk (σ'.set i none) H', ct := fun σ' H' => D.ct (σ'.set i none) H' } (σ.set i (some (.ref a))) H) ∧
      (b = false → wManyAs K Wout D r cls d σ H)
inductive HdsAs (X : Cx) : List ExceptHandler → List (Value × Nat × (Addr → Value → Option Addr → TS)) → Prop
  | nil : HdsAs X [] []
  | cons {x n : Str} {c : Value} {i : Nat} {ts : Addr → Value → Option Addr → TS} {b₀ : Stmt} {suite : List Stmt} {np pos' : Pos} {hds : List ExceptHandler} {l : List (Value × Nat × (Addr → Value → Option Addr → TS))}
      (hi : X.N[i]? = some n) (hln : X.env.kindOf n = some .local) (hc : Names X x c)
      (hsu : ∀ (a : Addr) (oe : Obj) (cls : Value) (d : Option Addr) (pn : List (Addr × Obj)), Zc cls d oe → (∃ vs, oe.data = .fields vs) → PSs (X.suite a ((a, oe) :: pn)) (b₀ :: suite) (ts a cls d)) (r : HdsAs X hds l) :
      HdsAs X (.ExceptHandler (some (.Name x np)) (some n) (b₀ :: suite) pos' :: hds) ((c, i, ts) :: l)
section
variable {X : Cx} {body : List Stmt} {h₀ : ExceptHandler} {hds : List ExceptHandler} {l : List (Value × Nat × (Addr → Value → Option Addr → TS))} {pos : Pos} {tb : WX → TS} {Wout : WX}
theorem ps_try_manyAs (hs : X.stack = X.env :: X.outer) (hf : X.env.frame = some X.env.locals) (hN : X.N.Nodup) (tk : Takes X Wout)
    (hb : ∀ (W : WX) (pn : List (Addr × Obj)) (xe : Value → Shared → Prop), Takes (X.tr pn xe) W → PassesOwn (model X.prog X.w) X.A X.env xe → PSs (X.tr pn xe) body (tb W))
    (hh : HdsAs X (h₀ :: hds) l) : PS X (.Try body (h₀ :: hds) [] [] pos) (fun D σ H => tb (wManyAs X.K Wout D l) D σ H) := by
  refine ⟨fun pins s σ H D I h => ?_⟩
  have ok := I.ok
  have hfr : X.A.frames = some (X.env :: X.outer) := by rw [ok.frames, hs]
  refine wpAny_Try_except ?_
  refine wpAny_mono ((hb (wManyAs X.K Wout D l) (X.pn ++ pins) (fun e s₁ => wpAny (model X.prog X.w) X.A (noteFrame e X.env) (fun _ s₂ => wpAny (model X.prog X.w) X.A (setFlight e none) (fun _ s₃ =>
    wpAny (model X.prog X.w) X.A (handleBy e X.env (h₀ :: hds)) (SP X pins D) X.xe s₃) X.xe s₂) X.xe s₁) (fun u s' xx => ?_) PassesOwn.looking).run [] s σ H D (I.toTry _) h) (fun f s1 hsp => ?_) (fun e s1 he => he)
  · -- an exception arrives
    obtain ⟨a, B, sI, pins', σ', H', cls, d, rfl, J', nb, up, sky, na, os, ag, want⟩ := xx
    have J : Inv X pins σ' H' sI := J'.ofTry ok
    show wpAny (model X.prog X.w) X.A (noteFrame (.ref a) X.env) _ _ _
    refine Sky.land Zc.steady hfr hf (show Sky B (X.env :: X.outer) a (Zc cls d) X.env.locals s'.heap by rw [← hs]; exact sky) fun h3 fl3 up3 => ?_
    have J3 : Inv X pins σ' H' { s' with heap := h3 } := J.landed nb fl3.1 (up.trans up3) os ag
    obtain ⟨oe3, vs3, he3, hz3, hd3⟩ := fl3.there
    have nfr : a ∉ frs (X.env :: X.outer) := fun hm => by
      obtain ⟨_, o', e', hnf⟩ := fl3.2.2.1.mem hm
      rw [he3] at e'
      cases e'
      exact hnf _ hd3
    have nL : a ≠ X.env.locals := fun z => nfr (List.mem_filterMap.mpr ⟨X.env, List.mem_cons_self, by rw [hf, z]⟩)
    have nF : a ∉ X.fs := fun hm => by
      obtain ⟨e, he, q⟩ := List.mem_filterMap.mp hm
      exact nfr (List.mem_filterMap.mpr ⟨e, List.mem_cons_of_mem _ he, q⟩)
    have S3 := J3.suite he3 hd3 na nL nF
    have LT : PySem.W.Looks (model X.prog X.w) h3 (typeOf (.ref a)) cls := fun A Q E s k q => wpAny_typeOf_ref (k _ _ he3) (by rw [hz3.1]; exact q)
    have each : ∀ {hds' : List ExceptHandler} {l' : List (Value × Nat × (Addr → Value → Option Addr → TS))}, HdsAs X hds' l' → wManyAs X.K Wout D l' cls d σ' H' →
        wpAny (model X.prog X.w) X.A (handleBy (.ref a) X.env hds') (SP X pins D) X.xe { s' with heap := h3 } := by
      intro hds' l' hk
      induction hk with
      | nil =>
        intro w
        refine wpAny_handleBy_nil ?_
        obtain ⟨_, _, _, oe, vs, T, oT, ts', he, hz, hd, h1, hr⟩ := id fl3
        unfold PySem.passOn
        refine wpAny_bind (wpAny_field he hd h1 ?_)
        rw [if_neg (show ¬ ((Value.ref T == Value.none) = true) from by simp)]
        have fin : wpAny (model X.prog X.w) X.A (setFlight (.ref a) X.env.frame) (fun _ s4 => wpAny (model X.prog X.w) X.A (throw (.ref a) : Sem Flow) (SP X pins D) X.xe s4) X.xe { s' with heap := h3 } := by
          rw [hf]
          exact HandSPX.setFlight_upZ fl3 fun h4 hh4 up4 => wpAny_throw (tk _ _ ⟨a, B, sI, pins, σ', H', cls, d, rfl, J, nb, (up.trans up3).trans up4, .inr (.inr (by rw [hs]; exact hh4)), na, os, ag, w⟩)
        first
          | exact wpAny_bind (wpAny_pure (wpAny_bind fin))
          | exact wpAny_bind fin
      | @cons x n c i ts b₀ suite np pos' hds2 l2 hi hln hc hsu r ih =>
        rintro ⟨b, hb1, hyes, hno⟩
        refine wpAny_handleBy_cons (codeAny_handlers_test ?_) (by intro q; cases q)
        have named : ∀ {Q : Value → Shared → Prop} {E : Value → Shared → Prop}, Q c { s' with heap := h3 } → wpAny (model X.prog X.w) (X.A.mark (some (.ref a))) (eval (.Name x np) X.env) Q E { s' with heap := h3 } := fun {Q E} q => by
          obtain ⟨hg, hdbg, hm | ⟨hm, hv, hnn⟩⟩ := hc
          · exact ld_glob (X := X.suite a ((a, oe3) :: (X.pn ++ pins))) S3 hg hm q hdbg
          · exact ld_blt (X := X.suite a ((a, oe3) :: (X.pn ++ pins))) S3 hg hm hv q hnn hdbg
        refine named ((PySem.W.exm_one (M := model X.prog X.w) (J3.kIn) LT hb1).here ?_)
        cases b with
        | false =>
          show wpAny _ X.A (handleBy (.ref a) X.env hds2) _ _ _
          exact ih (hno rfl)
        | true =>
          refine codeAny_handlers_suite_as ?_
          refine HandSPX.lands_againZ fl3 fun h4 fl4 up4 => ?_
          have J4 : Inv X pins σ' H' { s' with heap := h4 } := J.landed nb fl4.1 ((up.trans up3).trans up4) os ag
          obtain ⟨oe4, vs4, he4, hz4, hd4⟩ := fl4.there
          refine store_ok (X := X.suite a ((a, oe4) :: (X.pn ++ pins))) (v := .ref a) (J4.suite he4 hd4 na nL nF) hN hi (.inl hln) rfl (fun s5 S5 => ?_) (.inr hln)
          refine wpAny_mono ((hsu a oe4 cls d (X.pn ++ pins) hz4 ⟨_, hd4⟩).run [] s5 _ H' _ S5 (hyes rfl a na)) (fun f s6 hsp => ?_) (fun _ _ z => False.elim z)
          have gone : ∀ {σ6 : L2.St} {H6 : Hp} {Q : Shared → Prop}, Inv (X.suite a ((a, oe4) :: (X.pn ++ pins))) [] σ6 H6 s6 → (∀ s7, Inv X pins (σ6.set i none) H6 s7 → Q s7) →
              wpAny (model X.prog X.w) X.A (do bindName X.env n .none; unbindBehindTheSuite X.env n pos') (fun _ s7 => Q s7) X.xe s6 := fun {σ6 H6 Q} S6 hq => gone_ok (S6.unsuite ok) hN hi hln hq
          cases f with
          | next =>
            obtain ⟨σ6, H6, S6, q6⟩ := hsp
            exact gone S6 fun s7 J7 => ⟨_, _, J7, q6⟩
          | brk =>
            obtain ⟨σ6, H6, S6, q6⟩ := hsp
            exact gone S6 fun s7 J7 => ⟨_, _, J7, q6⟩
          | cont =>
            obtain ⟨σ6, H6, S6, q6⟩ := hsp
            exact gone S6 fun s7 J7 => ⟨_, _, J7, q6⟩
          | ret u =>
            obtain ⟨v6, σ6, H6, S6, r6, q6⟩ := hsp
            exact gone S6 fun s7 J7 => ⟨_, _, _, J7, r6, q6⟩
    exact each hh want
  · cases f with
    | next =>
      obtain ⟨σ', H', J', q⟩ := hsp
      exact wpAny_execs_nil ⟨σ', H', J'.ofTry ok, q⟩
    | brk =>
      obtain ⟨σ', H', J', q⟩ := hsp
      exact ⟨σ', H', J'.ofTry ok, q⟩
    | cont =>
      obtain ⟨σ', H', J', q⟩ := hsp
      exact ⟨σ', H', J'.ofTry ok, q⟩
    | ret u =>
      obtain ⟨v, σ', H', J', r, q⟩ := hsp
      exact ⟨v, σ', H', J'.ofTry ok, r, q⟩
end
/-! ### isinstance of a caught error with fields -/
theorem clsIn_of {K : PySem.W.Frag} {D : Addr} (h : PySem.W.hasDictIn K D = true) : (PySem.W.clsIn K D).isSome = true := by
  obtain ⟨cd, hc, _⟩ := PySem.W.any_some h
  rw [hc]
  rfl
theorem exm_ofHd {K : PySem.W.Frag} {C : Addr} {cls : Value} {b : Bool} (h1 : PySem.W.subIn K (.ref C) (.type "BaseException") = some true) (hd : PySem.W.hasDictIn K C = true) (ht : PySem.W.typeIn K (.ref C) = some (.type "type")) (h4 : PySem.W.subIn K cls (.ref C) = some b) :
    PySem.W.exmOne K cls (.ref C) = some b := PySem.W.exm_ref h1 hd ht h4
def rIsD (K : PySem.W.Frag) (D a : Addr) (cls : Value) (d : Option Addr) : List V → Hp → VK → Prop := fun xs H Q => ∃ (dd : Addr) (fs : List (Str × V)) (c : V) (cv : Value) (b : Bool), cls = .ref D ∧ d = some dd ∧ H dd = some (.xd fs) ∧ xs = [.ref a, c] ∧ (∀ u, RelV c u → u = cv) ∧ PySem.W.kitOne K (.ref D) cv = some b ∧ Q (.bl b) H
theorem call_isD {X : Cx} {a D : Addr} {oe : Obj} {cls : Value} {d : Option Addr} {pn : List (Addr × Obj)} (C : ExcD X.K D) (hz : Zc cls d oe) (hf : ∃ vs, oe.data = .fields vs) : CallR (X.suite a ((a, oe) :: pn)) (.builtin "isinstance") (rIsD X.K D a cls d) := by
  intro pins s σ H xs us Q I r h
  obtain ⟨dd, fs, c, cv, b, rfl, rfl, ea, rfl, hcv, e, q⟩ := h
  obtain ⟨u1, u2, rfl, r1, r2⟩ := vals2 r
  cases (show u1 = Value.ref a from r1)
  obtain rfl := hcv _ r2
  obtain ⟨hget, _⟩ := I.pin (a, oe) (List.mem_append.mpr (.inl List.mem_cons_self))
  obtain ⟨vs, hv⟩ := hf
  obtain ⟨mA, hns, hr⟩ := (show ObjOk X.prog X.w H s.heap dd (.xd fs) from I.hok dd _ ea)
  obtain ⟨od, ho, hl⟩ := lookIn_ns hns
  have J : PySem.W.InstAt s.heap a oe D (some od) := ⟨hget, hz.1, by unfold PySem.W.notCls; rw [hv] <;> rfl, by rw [hz.2]; exact ho⟩
  exact PySem.W.kia_one (PySem.W.kitx_exc (clsIn_of C.hd) C.hg C.hk C.hs C.ha C.hn C.ht C.hm) I.kIn J e (fun z => nomatch z) fun tk => ⟨.bl b, H, I.tok tk, rfl, q⟩

/-! ### an instance made, a method called, where what is raised is wished for at the caller's slots -/
def tMakeS (C : Addr) (sp : Sp) (dvs : List V) (E : L2.St → XK) (t : TA) : TE := fun σ H Q => t σ H fun vs H1 => ∀ x dx, H1 x = none → H1 dx = none → dx ≠ x →
  sp (.ref x :: (vs ++ dvs)) (upd (upd H1 dx (.own x)) x (.ins C dx [])) (fun v H2 => v = .non ∧ Q (.ref x) H2) (E σ)
section
variable {X : Cx} {k : Nat} {f C : Addr} {fd : FuncData} {ps : List Str} {sp : Sp} {W : WX} {x m : Str} {p pos apos : Pos} {e o : Expr} {es : List Expr} {ta : TE} {t : TA} {ds : List Value} {dvs : List V}
theorem run_makeS {pins : List (Addr × Obj)} {σ : L2.St} {H : Hp} {s : Shared} {Q : VK} {us : List Value} {vs : List V} (M : Mk X.K C f) (F : FnOk X.prog X.w X.K X.mg X.base (L2.CX X.prog X.w) k f fd ps sp) (hr : Room (k + 1) X.A) (hb : Binds X.K fd ps ds) (hd : Vals dvs ds)
    (tk : Takes X W) (I : Inv X pins σ H s) (r : Vals vs us)
    (h : ∀ x dx, H x = none → H dx = none → dx ≠ x → sp (.ref x :: (vs ++ dvs)) (upd (upd H dx (.own x)) x (.ins C dx [])) (fun v H2 => v = .non ∧ Q (.ref x) H2) (WE W σ)) :
    wpAny (model X.prog X.w) X.A (call (.ref C) us) (EP X pins σ Q) X.xe s := by
  have hq := h (s.heap.objs.size + 1) s.heap.objs.size (I.hok.fresh (Nat.le_succ _)) (I.hok.fresh (Nat.le_refl _)) (Nat.ne_of_lt (Nat.lt_succ_self _))
  have I2 := Inv.made (C := C) I
  have r2 : Vals (V.ref (s.heap.objs.size + 1) :: (vs ++ dvs)) (Value.ref (s.heap.objs.size + 1) :: (us ++ ds)) := .cons rfl (r.append hd)
  have hl : (Value.ref (s.heap.objs.size + 1) :: us ++ ds).length = ps.length := by
    have e := r2.length
    rw [F.len _ _ _ _ hq] at e
    exact e.symm
  refine wpAny_call (make_map (f := f) I.kIn M.makes M.init (beq_iff_eq.mp M.fn) (codeAny_mono (F.run _ X.stack _ _ ⟨Value.ref (s.heap.objs.size + 1) :: us, []⟩ (Value.ref (s.heap.objs.size + 1) :: (us ++ ds)) _ _ (WE W σ) (hr.make C us [])
    (I2.env0.make C us []) (hb _ (Value.ref (s.heap.objs.size + 1) :: us) I2.kIn hl) r2 hq) fun r s' hq' => ?_))
  cases r with
  | error e => exact passAt tk σ pins _ _ e s' I2 hq'
  | ok fl =>
    cases fl with
    | ret u =>
      obtain ⟨v, H', I3, rv, ev, q3⟩ := I2.after hq'
      subst ev
      exact ⟨rv, ⟨V.ref (s.heap.objs.size + 1), H', I3, rfl, q3⟩⟩
    | next => exact False.elim hq'
    | brk => exact False.elim hq'
    | cont => exact False.elim hq'
theorem pe_makeS (M : Mk X.K C f) (F : FnOk X.prog X.w X.K X.mg X.base (L2.CX X.prog X.w) k f fd ps sp) (hr : Room (k + 1) X.A) (hg : Gl X x) (hm : X.mg x = some (.ref C)) (hb : Binds X.K fd ps ds) (hd : Vals dvs ds) (tk : Takes X W)
    (ha : PA X (e :: es) t) (hdb : (x == ("__debug__" : Str)) = false := by decide) (he : starEach (e :: es) X.env = (false, eval e X.env) :: starEach es X.env := by rfl) (hpl : (backTo pos (starEach es X.env)).any (·.1) = false := by rfl) :
    PE X (.Call (.Name x p) (e :: es) [] pos) (tMakeS C sp dvs (WE W) t) := by
  refine ⟨fun pins s σ H Q I h => ?_⟩
  refine wpAny_Call_Name_kw (ld_glob I hg hm ?_ hdb)
  refine PySem.W.callWith_K (h₀ := X.base) I.ok.mod.kin M.kp (thn (ha.run pos pins s σ H _ I h) fun us s1 ⟨vs, H1, I1, r, q⟩ => ⟨I1.kIn, ?_⟩) he hpl
  exact run_makeS M F hr hb hd tk I1 r q
def tMethS (C : Addr) (m : Str) (sp : Sp) (E : L2.St → XK) (ta : TE) (t : TA) : TE := fun σ H Q => ta σ H fun x H1 => ∃ a dx fs, x = .ref a ∧ H1 a = some (.ins C dx fs) ∧ fs.lookup m = none ∧
  t σ H1 fun vs H2 => sp (x :: vs) H2 Q (E σ)
/-- o.m(e, ..) -/
theorem pe_methS {pl : Sem Bool} (he : PE X o ta) (c : Cls X.K C) (hm : Meth X.K C m f) (F : FnOk X.prog X.w X.K X.mg X.base (L2.CX X.prog X.w) k f fd ps sp) (hr : Room k X.A) (hb : Binds X.K fd ps []) (tk : Takes X W) (ha : PA X (e :: es) t)
    (hst : starEach (e :: es) X.env = (false, eval e X.env) :: starEach es X.env := by rfl) (hpl : (backTo pos (starEach es X.env)).any (·.1) = false := by rfl)
    (ht : eval (.Call (.Attribute o m apos) (e :: es) [] pos) X.env = (do
      let ov ← eval o X.env
      standAt apos.atName
      let (f, first) ← holding [ov] (getMethod ov m pl)
      callWith pos f first (backTo pos (starEach (e :: es) X.env)) (backToKw pos (keywordEach [] X.env))) := by rfl) :
    PE X (.Call (.Attribute o m apos) (e :: es) [] pos) (tMethS C m sp (WE W) ta t) := by
  refine ⟨fun pins s σ H Q I h => ?_⟩
  refine PySem.W.methodCall_KW (pl := pl) (thn (he.run pins s σ H _ I h) fun u s1 ⟨x, H1, I1, rx, a, dx, fs, ex, ea, l, q⟩ => ?_) ht
  subst ex
  obtain rfl : u = Value.ref a := rx
  refine getmeth_ok I1 ea c hm l ?_
  refine PySem.W.callWith_K (first := [.ref a]) (h₀ := X.base) I.ok.mod.kin hm.kp (thn (ha.run pos pins s1 σ H1 _ I1 q) fun us s2 ⟨vs, H2, I2, r, q2⟩ => ⟨I2.kIn, ?_⟩) hst hpl
  exact run_fnS (us := .ref a :: us) (vs := .ref a :: vs) F hr hb (passAt tk σ) I2 (.cons rfl r) q2
end

/-! ### heaps -/
/-- all but what stands at d is as it was -/
def But (d : Addr) (H H' : Hp) : Prop := ∀ b o, H b = some o → b ≠ d → H' b = some o
theorem But.refl {d : Addr} {H : Hp} : But d H H := fun _ _ h _ => h
theorem But.trans {d : Addr} {H H1 H2 : Hp} (x : But d H H1) (y : But d H1 H2) : But d H H2 := fun b o h n => y b o (x b o h n) n
theorem but_same {d : Addr} {H H' : Hp} (h : Same H H') : But d H H' := fun b o e _ => h b o e
theorem same_upd {H : Hp} {p : Addr} {o : HO} (h : H p = none) : Same H (upd H p o) := fun b x e => by
  rw [upd_ne (ne_of_none e h)]
  exact e
theorem but_upd {d : Addr} {H : Hp} {o : HO} : But d H (upd H d o) := fun b x e n => by
  rw [upd_ne n]
  exact e
theorem But.list {d : Addr} {H H' : Hp} {kvs : List (Key × V)} {l : Addr} {xs : List V} (x : But d H H') (hd : H d = some (.dK kvs)) (h : H l = some (.lst xs)) : H' l = some (.lst xs) :=
  x l _ h (ne_of h hd (by intro z; cases z))
theorem But.tup {d : Addr} {H H' : Hp} {kvs : List (Key × V)} {l : Addr} {xs : List V} (x : But d H H') (hd : H d = some (.dK kvs)) (h : H l = some (.tup xs)) : H' l = some (.tup xs) :=
  x l _ h (ne_of h hd (by intro z; cases z))
theorem But.seq {K : PySem.W.Frag} {d : Addr} {H H' : Hp} {kvs : List (Key × V)} {l : Addr} {xs : List V} (x : But d H H') (hd : H d = some (.dK kvs)) (h : SqL K H l xs) : SqL K H' l xs := by
  rcases h with (h | ⟨o, h⟩) | h
  · exact .inl (.inl (x l _ h (ne_of h hd (by intro z; cases z))))
  · exact .inl (.inr ⟨o, x l _ h (ne_of h hd (by intro z; cases z))⟩)
  · exact .inr h
/-- a list changes where none of what is known stood -/
theorem keep_upd {H H' : Hp} {l : Addr} {o : HO} (h : Same H H') (n : H l = none) : Same H (upd H' l o) := fun b u e => by
  rw [upd_ne (ne_of_none e n)]
  exact h b u e
theorem free_of {H H' : Hp} {p : Addr} (e : Same H H') (h : H' p = none) : H p = none := e.free h
theorem SqL.at {K : PySem.W.Frag} {H : Hp} {a : Addr} {xs : List V} (h : H a = some (.lst xs)) : SqL K H a xs := .inl (.inl h)
theorem SqT.at {K : PySem.W.Frag} {H : Hp} {a : Addr} {xs : List V} (h : H a = some (.tup xs)) : SqT K H a xs := .inl (.inl h)
theorem sz {n : Nat} (h : n ≤ 100000) : n ≤ sizeLine := Nat.le_trans h (by decide)
theorem szlt {n : Nat} (h : n ≤ 100000) : n < sizeLine := Nat.lt_of_le_of_lt h (by decide)
/-! ### data: lists of ints -/
def iD (ns : List Int) : PyData := .list (ns.map PyData.int)
theorem dp_all {K : PySem.W.Frag} {H : Hp} : ∀ ns : List Int, DpAll K H (ns.map V.int) (ns.map PyData.int)
  | [] => .nil
  | _ :: r => .cons (.int _) (dp_all r)
theorem dp_ints {K : PySem.W.Frag} {H : Hp} {p : Addr} {ns : List Int} (h : SqL K H p (ns.map V.int)) : Dp K H (.ref p) (iD ns) := .lst h (dp_all ns)
theorem dp_tints {K : PySem.W.Frag} {H : Hp} {p : Addr} {ns : List Int} (h : SqT K H p (ns.map V.int)) : Dp K H (.ref p) (.tuple (ns.map PyData.int)) := .tup h (dp_all ns)
theorem lay_ints : ∀ ns : List Int, PyData.canLayAll0 (ns.map PyData.int) = true
  | [] => by simp [PyData.canLayAll0]
  | _ :: r => by simp [PyData.canLayAll0, PyData.canLay0, lay_ints r]
theorem eqv_all_ints : ∀ ns ms : List Int, PyData.eqvAll (ns.map PyData.int) (ms.map PyData.int) = decide (ns = ms)
  | [], [] => by simp [PyData.eqvAll]
  | [], _ :: _ => by simp [PyData.eqvAll]
  | _ :: _, [] => by simp [PyData.eqvAll]
  | x :: r, y :: u => by
    simp only [List.map_cons, PyData.eqvAll, PyData.eqv, eqv_all_ints r u, List.cons.injEq]
    by_cases h1 : x = y <;> by_cases h2 : r = u <;> simp [h1, h2]
theorem eqv_ints (ns ms : List Int) : PyData.eqv (iD ns) (iD ms) = decide (ns = ms) := by
  unfold iD
  rw [PyData.eqv]
  exact eqv_all_ints ns ms
theorem deep_ints : ∀ ns : List Int, PyData.depthAll (ns.map PyData.int) ≤ 1
  | [] => by simp [PyData.depthAll]
  | _ :: r => by
    have := deep_ints r
    simp only [List.map_cons, PyData.depthAll, PyData.depth]
    omega
theorem shaped_ints {ns : List Int} : SeqAt.shaped (iD ns) = true := by
  unfold SeqAt.shaped iD
  rw [Bool.and_eq_true, decide_eq_true_eq]
  refine ⟨by rw [PyData.canLay0]; exact lay_ints ns, ?_⟩
  have := deep_ints ns
  rw [PyData.depth]
  omega
theorem atI_ints {ns : List Int} {i : Int} (h0 : 0 ≤ i) (h1 : i.toNat < ns.length) : atI (ns.map V.int) i = some (.int (ns[i.toNat]'h1)) := by
  have e : (i.toNat : Int) = i := by omega
  have z : atI (ns.map V.int) (i.toNat : Int) = some (.int (ns[i.toNat]'h1)) := by
    refine atI_nat ?_
    rw [List.getElem?_map, List.getElem?_eq_getElem h1]
    rfl
  rw [e] at z
  exact z
theorem ixN_nat {n : Nat} {i : Int} (h0 : 0 ≤ i) (h1 : i < (n : Int)) : ixN n i = some i.toNat := by
  unfold ixN
  rw [if_pos h0, if_pos h1]
theorem getD_get {ts : List Int} {i : Nat} (h : i < ts.length) : ts.getD i 0 = ts[i] := by
  rw [List.getD_eq_getElem?_getD, List.getElem?_eq_getElem h]
  rfl
theorem inV_ints {x : Int} : ∀ {xs : List Int}, inV (.int x) (xs.map V.int) = decide (x ∈ xs)
  | [] => rfl
  | y :: r => by
    have ih := inV_ints (x := x) (xs := r)
    unfold inV at ih ⊢
    rw [List.map_cons, List.any_cons, ih]
    have e : eqV (.int y) (.int x) = decide (y = x) := rfl
    rw [e]
    by_cases h : y = x
    · subst h
      simp
    · have h2 : ¬ x = y := fun z => h z.symm
      simp [h, h2]
theorem flat_ints (xs : List Int) : (xs.map V.int).all flatV = true := by
  rw [List.all_eq_true]
  intro x hx
  obtain ⟨i, _, rfl⟩ := List.mem_map.mp hx
  rfl

/-! ### the pen: a dict of the script's cells and two ints -/
def penD (c : Addr) (t l : Int) : HO := .dK [((.inr "cells" : Key), V.ref c), ((.inr "at" : Key), V.int t), ((.inr "left" : Key), V.int l)]
structure PenAt (H : Hp) (d c : Addr) (ns : List Int) (t l : Int) : Prop where
  dc : H d = some (penD c t l)
  cs : H c = some (.lst (ns.map V.int))
  len : ns.length ≤ 63
  t0 : 0 ≤ t
/-- a pen with which at most n draws were made -/
def Pen (H : Hp) (d c : Addr) (n : Nat) : Prop := ∃ ns t l, PenAt H d c ns t l ∧ t ≤ n
theorem k1 : ¬ (("cells" : Str) = "at") := by decide +kernel
theorem k2 : ¬ (("cells" : Str) = "left") := by decide +kernel
theorem k3 : ¬ (("at" : Str) = "left") := by decide +kernel
theorem kk {x y : Str} (h : ¬ x = y) : ¬ ((Sum.inr x : Key) = Sum.inr y) := fun z => h (Sum.inr.inj z)
theorem pen_valC {c : Addr} {t l : Int} : valV [((.inr "cells" : Key), V.ref c), ((.inr "at" : Key), V.int t), ((.inr "left" : Key), V.int l)] (.inr "cells") = some (.ref c) := by
  simp [valV, List.find?]
theorem pen_valA {c : Addr} {t l : Int} : valV [((.inr "cells" : Key), V.ref c), ((.inr "at" : Key), V.int t), ((.inr "left" : Key), V.int l)] (.inr "at") = some (.int t) := by
  simp [valV, List.find?, k1]
theorem pen_valL {c : Addr} {t l : Int} : valV [((.inr "cells" : Key), V.ref c), ((.inr "at" : Key), V.int t), ((.inr "left" : Key), V.int l)] (.inr "left") = some (.int l) := by
  simp [valV, List.find?, k2, k3]
theorem pen_C {H : Hp} {d c : Addr} {t l : Int} (h : H d = some (penD c t l)) : DGet H d (.str "cells") (some (.ref c)) := by
  have e := DGet.k (k := Sum.inr "cells") h
  rw [pen_valC] at e
  exact e
theorem pen_A {H : Hp} {d c : Addr} {t l : Int} (h : H d = some (penD c t l)) : DGet H d (.str "at") (some (.int t)) := by
  have e := DGet.k (k := Sum.inr "at") h
  rw [pen_valA] at e
  exact e
theorem pen_L {H : Hp} {d c : Addr} {t l : Int} (h : H d = some (penD c t l)) : DGet H d (.str "left") (some (.int l)) := by
  have e := DGet.k (k := Sum.inr "left") h
  rw [pen_valL] at e
  exact e
theorem pen_putA {c : Addr} {t l u : Int} : putK [((.inr "cells" : Key), V.ref c), ((.inr "at" : Key), V.int t), ((.inr "left" : Key), V.int l)] (.inr "at") (.int u) = [((.inr "cells" : Key), V.ref c), ((.inr "at" : Key), V.int u), ((.inr "left" : Key), V.int l)] := by
  simp [putK, k1, k3, show ¬ (("left" : Str) = "at") from fun h => k3 h.symm]
theorem pen_putL {c : Addr} {t l u : Int} : putK [((.inr "cells" : Key), V.ref c), ((.inr "at" : Key), V.int t), ((.inr "left" : Key), V.int l)] (.inr "left") (.int u) = [((.inr "cells" : Key), V.ref c), ((.inr "at" : Key), V.int t), ((.inr "left" : Key), V.int u)] := by
  simp [putK, k2, k3]
theorem pen_setA {H : Hp} {d c : Addr} {t l u : Int} (h : H d = some (penD c t l)) : DPut H d (.str "at") (.int u) (upd H d (penD c u l)) := by
  have e := DPut.k (k := Sum.inr "at") (v := .int u) h (by show 3 < sizeLine; exact szlt (by decide))
  rw [pen_putA] at e
  exact e
theorem pen_setL {H : Hp} {d c : Addr} {t l u : Int} (h : H d = some (penD c t l)) : DPut H d (.str "left") (.int u) (upd H d (penD c t u)) := by
  have e := DPut.k (k := Sum.inr "left") (v := .int u) h (by show 3 < sizeLine; exact szlt (by decide))
  rw [pen_putL] at e
  exact e
theorem pen_mk {l : Addr} : mergeK [] [((.inr "cells" : Key), V.ref l), ((.inr "at" : Key), V.int 0), ((.inr "left" : Key), V.int 0)] = [((.inr "cells" : Key), V.ref l), ((.inr "at" : Key), V.int 0), ((.inr "left" : Key), V.int 0)] := by
  simp [mergeK, putK, k1, k2, k3]
theorem Pen.same {H H' : Hp} {d c : Addr} {n : Nat} (p : Pen H d c n) (h : Same H H') : Pen H' d c n := by
  obtain ⟨ns, t, l, q, e⟩ := p
  exact ⟨ns, t, l, ⟨h _ _ q.dc, h _ _ q.cs, q.len, q.t0⟩, e⟩
theorem Pen.up {H : Hp} {d c : Addr} {n m : Nat} (p : Pen H d c n) (h : n ≤ m) : Pen H d c m := by
  obtain ⟨ns, t, l, q, e⟩ := p
  exact ⟨ns, t, l, q, by omega⟩
theorem Pen.dict {H : Hp} {d c : Addr} {n : Nat} (p : Pen H d c n) : ∃ kvs, H d = some (.dK kvs) := by
  obtain ⟨ns, t, l, q, e⟩ := p
  exact ⟨_, q.dc⟩
theorem Pen.cells {H : Hp} {d c : Addr} {n : Nat} (p : Pen H d c n) : ∃ o, H c = some o := by
  obtain ⟨ns, t, l, q, e⟩ := p
  exact ⟨_, q.cs⟩
/-- a list that is not the pen's changes -/
theorem Pen.mut {H : Hp} {d c l : Addr} {n : Nat} {o : HO} (p : Pen H d c n) (hd : d ≠ l) (hc : c ≠ l) : Pen (upd H l o) d c n := by
  obtain ⟨ns, t, u, q, e⟩ := p
  exact ⟨ns, t, u, ⟨by rw [upd_ne hd]; exact q.dc, by rw [upd_ne hc]; exact q.cs, q.len, q.t0⟩, e⟩
/-- what stands where nothing stood may change -/
theorem But.mut {d l : Addr} {H H' : Hp} {o : HO} (b : But d H H') (h : H l = none) : But d H (upd H' l o) := fun x u e n => by
  rw [upd_ne (ne_of_none e h)]
  exact b x u e n
theorem cut63 (ns : List Int) : cutV (ns.map V.int) none (some 63) = (ns.take 63).map V.int := by
  unfold cutV
  rw [show HT.sIx (ns.map V.int).length (ns.map V.int).length (some 63) = min 63 (ns.map V.int).length from HT.sIx_nat _ _ 63, HT.sIx_none, List.drop_zero, Nat.sub_zero, List.map_take, List.take_eq_take_iff]
  omega
section
variable {P : Program} {w : World} {K : PySem.W.Frag} {mg : Str → Option Value} {base : Heap} {a : Ad}
def spPen (K : PySem.W.Frag) : Sp := fun vs H Q _ => ∃ (s : Addr) (ns : List Int), vs = [.ref s] ∧ SqL K H s (ns.map V.int) ∧ ns.length ≤ 63 ∧
  ∀ d c H', H d = none → H c = none → Pen H' d c 0 → Same H H' → Q (.ref d) H'
theorem ok__law_pen (T : Tx w K mg a) : FnOk P w K mg base CX0 1 a.f__law_pen a.d__law_pen ["script"] (spPen K) := by
  refine T.F__law_pen.ok sc__law_pen (fun vs H Q E h => ?_) (fun cdv A outer s H vs Q E hr h => ?_)
  · obtain ⟨s, ns, rfl, _⟩ := h
    rfl
  · obtain ⟨x, ns, rfl, hS, hlen, q⟩ := h
    have hu := hu_of hr
    refine ⟨_, 
(pss_one (ps_ret (pe_disp (pps_cons pe_str (pe_callTy call_list_of (by rfl) T.z_list (by decide +kernel) (pa_cons (pe_slice sl_list (pv 0) po_none (po_some pe_int)) pa_nil)) (pps_cons pe_str pe_int (pps_cons pe_str pe_int pps_nil))) (by rfl) (by rfl) (fun z => by cases z) (by decide)))), ?_⟩
    intro d hd
    have s1 : Same H (upd H d (.dK [])) := same_upd hd
    refine ⟨.ref x, rfl, 63, rfl, x, ns.map V.int, rfl, s1.seq hS, fun p hp => ?_⟩
    have s2 : Same (upd H d (.dK [])) (upd (upd H d (.dK [])) p (.lst (cutV (ns.map V.int) none (some 63)))) := same_upd hp
    refine ⟨p, _, rfl, .inl (SqL.at upd_same), fun l hl => ?_⟩
    have s3 := same_upd (o := .lst (cutV (ns.map V.int) none (some 63))) hl
    have hd3 := s3 _ _ (s2 _ _ (upd_same (H := H) (a := d) (o := .dK [])))
    have hl3 : (upd (upd (upd H d (.dK [])) p (.lst (cutV (ns.map V.int) none (some 63)))) l (.lst (cutV (ns.map V.int) none (some 63)))) l = _ := upd_same
    have ndl : l ≠ d := ne_of hl3 hd3 (by intro z; cases z)
    refine ⟨hd3, [((.inr "cells" : Key), V.ref l), ((.inr "at" : Key), V.int 0), ((.inr "left" : Key), V.int 0)], rfl, (by show 3 ≤ 15; decide), ?_⟩
    rw [pen_mk]
    refine q d l _ hd (s1.free (s2.free hl)) ⟨ns.take 63, 0, 0, ⟨upd_same, ?_, ?_, by decide⟩, by decide⟩ ?_
    · rw [upd_ne ndl, hl3, cut63]
    · rw [List.length_take]
      omega
    · intro b o e
      rw [upd_ne (ne_of_none e hd)]
      exact s3 _ _ (s2 _ _ (s1 _ _ e))
/-- a draw: any int from 0 on that is less than the second argument; the pen alone changes -/
def spDraw : Sp := fun vs H Q _ => ∃ (d c : Addr) (n : Nat) (m : Int), vs = [.ref d, .int m] ∧ Pen H d c n ∧ n < 2 ^ 40 ∧ 0 < m ∧ m < 2 ^ 200 ∧
  ∀ v H', 0 ≤ v → v < m → Pen H' d c (n + 1) → But d H H' → Q (.int v) H'
theorem ok__law_draw (T : Tx w K mg a) : FnOk P w K mg base CX0 1 a.f__law_draw a.d__law_draw ["pen", "many"] spDraw := by
  refine T.F__law_draw.ok sc__law_draw (fun vs H Q E h => ?_) (fun cdv A outer s H vs Q E hr h => ?_)
  · obtain ⟨d, c, n, m, rfl, _⟩ := h
    rfl
  · obtain ⟨d, c, n, m, rfl, ⟨ns, t, l, ⟨hd, hc, hlen, t0⟩, htn⟩, hn, m0, mb, q⟩ := h
    have hu := hu_of hr
    have hmne : m ≠ 0 := by omega
    have hdiv : ∀ x : Int, CDivW x m := fun x => wide_div m0 (b := 200) (by omega) (by decide) (by decide)
    have f0 : ∀ x : Int, 0 ≤ Int.fmod x m := fun x => Int.fmod_nonneg_of_pos x m0
    have f1 : ∀ x : Int, Int.fmod x m < m := fun x => Int.fmod_lt_of_pos x m0
    refine ⟨_, 
(pss_cons (ps_if (pt_cmpR op_ge (pe_dget hu (pv 0) pe_str (fun _ _ => rfl)) (pv 1) (nomark _))
  (pss_cons (ps_set (i := 2) sc__law_draw.nd rfl (.inl rfl) (pe_op op_modN (pe_callTy call_int1 (by rfl) T.z_int (by decide +kernel) (pa_cons (pe_dget hu (pv 0) pe_str (fun _ _ => rfl)) pa_nil)) (pv 1)))
  (pss_cons (ps_dput hu (pv 0) pe_str (pe_op op_fdivW (pe_dget hu (pv 0) pe_str (fun _ _ => rfl)) (pv 1)) rfl)
  (pss_one (ps_ret (pv 2)))))
  pss_nil)
  (pss_cons (ps_set (i := 3) sc__law_draw.nd rfl (.inl rfl) (pe_dget hu (pv 0) pe_str (fun _ _ => rfl)))
  (pss_cons (ps_dput hu (pv 0) pe_str (pe_op op_add (pv 3) pe_int) rfl)
  (pss_cons (ps_set (i := 4) sc__law_draw.nd rfl (.inl rfl) (pe_op op_add (pe_op op_mul pe_int (pv 3)) pe_int))
  (C8.pss_cut (ps_if (pt_cmpR (op_neD hr.units) (pe_dget hu (pv 0) pe_str (fun _ _ => rfl)) (pe_lst pa_nil) (nomark _))
  (pss_one (ps_set (i := 4) sc__law_draw.nd rfl (.inl rfl) (pe_ix ix_list (pe_dget hu (pv 0) pe_str (fun _ _ => rfl)) (pe_op op_modN (pe_callTy call_int1 (by rfl) T.z_int (by decide +kernel) (pa_cons (pv 3) pa_nil)) (pe_callB call_len_seq (by rfl) T.z_len PySem.boot_len (pa_cons (pe_dget hu (pv 0) pe_str (fun _ _ => rfl)) pa_nil))) (fun _ _ => rfl))))
  pss_nil)
  (C8.pss_cut (ps_if (PW.pt (pw_and (pt_cmpR op_lt (pv 3) (pe_callB call_len_seq (by rfl) T.z_len PySem.boot_len (pa_cons (pe_dget hu (pv 0) pe_str (fun _ _ => rfl)) pa_nil)) (nomark _)) (pw_and1 (pt_cmpR op_ge (pv 4) (pe_op op_pow pe_int pe_int) (nomark _)))))
  (pss_cons (ps_dput hu (pv 0) pe_str (pe_op op_fdivW (pe_op op_sub (pv 4) (pe_op op_pow pe_int pe_int)) (pv 1)) rfl)
  (pss_one (ps_ret (pe_op op_modN (pe_callTy call_int1 (by rfl) T.z_int (by decide +kernel) (pa_cons (pe_op op_sub (pv 4) (pe_op op_pow pe_int pe_int)) pa_nil)) (pv 1)))))
  pss_nil)
  (pss_cons (ps_set (i := 5) sc__law_draw.nd rfl (.inl rfl) (pe_op op_add (pe_op op_add (pe_op op_add (pe_op op_mul (pe_op op_modN (pe_callTy call_int1 (by rfl) T.z_int (by decide +kernel) (pa_cons (pv 4) pa_nil)) pe_int) pe_int) (pe_op op_mul (pe_op op_mul pe_int (pv 3)) (pv 3))) (pe_op op_mul pe_int (pv 3))) pe_int))
  (pss_cons (ps_set (i := 5) sc__law_draw.nd rfl (.inl rfl) (pe_op op_modN (pe_callTy call_int1 (by rfl) T.z_int (by decide +kernel) (pa_cons (pv 5) pa_nil)) pe_int))
  (pss_cons (ps_set (i := 5) sc__law_draw.nd rfl (.inl rfl) (pe_op op_modN (pe_callTy call_int1 (by rfl) T.z_int (by decide +kernel) (pa_cons (pe_op op_mul (pv 5) (pe_op op_add (pv 5) pe_int)) pa_nil)) pe_int))
  (pss_one (ps_ret (pe_op op_modN (pe_callTy call_int1 (by rfl) T.z_int (by decide +kernel) (pa_cons (pe_op op_fdivN (pe_op op_modN (pe_callTy call_int1 (by rfl) T.z_int (by decide +kernel) (pa_cons (pe_op op_mul (pv 5) (pv 5)) pa_nil)) pe_int) pe_int) pa_nil)) (pv 1))))))))))))), ?_⟩
    -- if pen['left'] >= many
    refine ⟨.ref d, rfl, d, .int l, rfl, pen_L hd, .int m, rfl, l, m, rfl, rfl, _, rfl, ite2 (fun e => ?_) (fun e => ?_)⟩
    · -- digit = int(pen['left']) % many; pen['left'] = pen['left'] // many; return digit
      refine ⟨.ref d, rfl, d, .int l, rfl, pen_L hd, .inl ⟨l, rfl, .int m, rfl, l, m, rfl, rfl, hmne, ?_⟩⟩
      refine ⟨.ref d, rfl, d, .int l, rfl, pen_L hd, .int m, rfl, l, m, rfl, rfl, hdiv l, .ref d, rfl, d, _, rfl, pen_setL hd, ?_⟩
      exact ⟨_, rfl, q _ _ (f0 l) (f1 l) ⟨ns, t, _, ⟨upd_same, by rw [upd_ne (ne_of hc hd (by intro z; cases z))]; exact hc, hlen, t0⟩, by omega⟩ but_upd⟩
    · -- at = pen['at']; pen['at'] = at + 1; cell = 41 * at + 13
      refine ⟨.ref d, rfl, d, .int t, rfl, pen_A hd, ?_⟩
      refine ⟨.int t, rfl, t, 1, rfl, rfl, .ref d, rfl, d, _, rfl, pen_setA hd, ?_⟩
      refine ⟨.int t, rfl, 41, t, rfl, rfl, .inl ⟨by decide, by decide⟩, 41 * t, 13, rfl, rfl, ?_⟩
      have hd1 : (upd H d (penD c (t + 1) l)) d = some (penD c (t + 1) l) := upd_same
      have hc1 : (upd H d (penD c (t + 1) l)) c = some (.lst (ns.map V.int)) := by
        rw [upd_ne (ne_of hc hd (by intro z; cases z))]
        exact hc
      have b1 : But d H (upd H d (penD c (t + 1) l)) := but_upd
      generalize upd H d (penD c (t + 1) l) = H1 at hd1 hc1 b1 ⊢
      -- if pen['cells'] != []: cell = pen['cells'][int(at) % len(pen['cells'])]
      refine ⟨fun σ' H' => ∃ cell : Int, σ' = [some (.ref d), some (.int m), none, some (.int t), some (.int cell), none] ∧ H' d = some (penD c (t + 1) l) ∧ H' c = some (.lst (ns.map V.int)) ∧ But d H H', ?_, fun σ'' H'' hM => ?_⟩
      · refine ⟨.ref d, rfl, d, .ref c, rfl, pen_C hd1, Nat.zero_le _, fun p hp => ?_⟩
        have s2 : Same H1 (upd H1 p (.lst [])) := same_upd hp
        have hp2 : (upd H1 p (.lst [])) p = some (.lst []) := upd_same
        have hd2 := s2 _ _ hd1
        have hc2 := s2 _ _ hc1
        have b2 : But d H (upd H1 p (.lst [])) := b1.trans (but_same s2)
        generalize upd H1 p (.lst []) = H2 at hd2 hc2 hp2 b2 ⊢
        refine ⟨_, _, dp_ints (SqL.at hc2), dp_ints (ns := []) (SqL.at hp2), shaped_ints, shaped_ints, _, rfl, ?_⟩
        rw [eqv_ints]
        refine ite2 (fun e => ?_) (fun e => ?_)
        · have hns : ns ≠ [] := by
            intro z
            subst z
            simp at e
          have hpos : 0 < ns.length := List.length_pos_iff.mpr hns
          have g0 : (0 : Int) ≤ Int.fmod t (ns.length : Int) := Int.fmod_nonneg_of_pos _ (by omega)
          have g1 : Int.fmod t (ns.length : Int) < (ns.length : Int) := Int.fmod_lt_of_pos _ (by omega)
          refine ⟨.ref d, rfl, d, .ref c, rfl, pen_C hd2, .int t, rfl, .inl ⟨t, rfl, .ref d, rfl, d, .ref c, rfl, pen_C hd2, c, _, rfl, .inl (SqL.at hc2), t, _, rfl, rfl, ?_, c, _, _, .int (ns[(Int.fmod t (ns.length : Int)).toNat]'(by omega)), rfl, rfl, SqL.at hc2, ?_, ?_⟩⟩
          · rw [List.length_map]
            omega
          · rw [List.length_map]
            exact atI_ints g0 (by omega)
          · exact ⟨_, rfl, hd2, hc2, b2⟩
        · exact ⟨_, rfl, hd2, hc2, b2⟩
      · obtain ⟨cell, rfl, hd3, hc3, b3⟩ := hM
        have hlen' : (ns.map V.int).length ≤ 63 := by
          rw [List.length_map]
          exact hlen
        -- if at < len(pen['cells']) and cell >= 10 ** 18
        refine ⟨fun σ' H' => σ' = [some (.ref d), some (.int m), none, some (.int t), some (.int cell), none] ∧ H' = H'', ?_, fun σ' H' hM => ?_⟩
        · refine ⟨.int t, rfl, .ref d, rfl, d, .ref c, rfl, pen_C hd3, c, _, rfl, .inl (SqL.at hc3), t, _, rfl, rfl, _, rfl, ite2 (fun e1 => ?_) (fun e1 => iteF ⟨rfl, rfl⟩)⟩
          refine ⟨.int cell, rfl, 10, 18, rfl, rfl, ⟨by decide, by decide, by decide⟩, cell, _, rfl, rfl, _, rfl, ite2 (fun e2 => ?_) (fun e2 => ⟨rfl, rfl⟩)⟩
          refine ⟨.int cell, rfl, 10, 18, rfl, rfl, ⟨by decide, by decide, by decide⟩, cell, _, rfl, rfl, .int m, rfl, _, m, rfl, rfl, hdiv _, .ref d, rfl, d, _, rfl, pen_setL hd3, ?_⟩
          refine ⟨.int cell, rfl, 10, 18, rfl, rfl, ⟨by decide, by decide, by decide⟩, cell, _, rfl, rfl, .inl ⟨_, rfl, .int m, rfl, _, m, rfl, rfl, hmne, ?_⟩⟩
          exact q _ _ (f0 _) (f1 _) ⟨ns, t + 1, _, ⟨upd_same, by rw [upd_ne (ne_of hc3 hd3 (by intro z; cases z))]; exact hc3, hlen, by omega⟩, by omega⟩ (b3.trans but_upd)
        · obtain ⟨rfl, rfl⟩ := hM
          have g : ∀ x y : Int, 0 < y → 0 ≤ Int.fmod x y ∧ Int.fmod x y < y := fun x y hy => ⟨Int.fmod_nonneg_of_pos x hy, Int.fmod_lt_of_pos x hy⟩
          have g1 := g cell 2147483629 (by decide)
          have z1 : (2147483629 : Int) ≠ 0 := by decide
          have z2 : (2147483647 : Int) ≠ 0 := by decide
          have z3 : (2147483587 : Int) ≠ 0 := by decide
          have z4 : (2147483563 : Int) ≠ 0 := by decide
          have y1 : -(2 ^ 64) < Int.fmod cell 2147483629 ∧ Int.fmod cell 2147483629 < 2 ^ 64 := by omega
          have y2 : -(2 ^ 64) < t ∧ t < 2 ^ 64 := by omega
          refine ⟨.int cell, rfl, .inl ⟨cell, rfl, cell, 2147483629, rfl, rfl, z1, _, 48271, rfl, rfl, .inl y1, .int t, rfl, 69621, t, rfl, rfl, .inr y2, .int t, rfl, _, t, rfl, rfl, .inr y2, _, _, rfl, rfl, .int t, rfl, 59, t, rfl, rfl, .inr y2, _, _, rfl, rfl, _, 11, rfl, rfl, ?_⟩⟩
          have g2 := g (Int.fmod cell 2147483629 * 48271 + 69621 * t * t + 59 * t + 11) 2147483647 (by decide)
          refine ⟨_, rfl, .inl ⟨_, rfl, _, 2147483647, rfl, rfl, z2, ?_⟩⟩
          have y3 : -(2 ^ 64) < Int.fmod (Int.fmod cell 2147483629 * 48271 + 69621 * t * t + 59 * t + 11) 2147483647 ∧ Int.fmod (Int.fmod cell 2147483629 * 48271 + 69621 * t * t + 59 * t + 11) 2147483647 < 2 ^ 64 := by omega
          refine ⟨_, rfl, _, rfl, _, 40014, rfl, rfl, _, _, rfl, rfl, .inl y3, .inl ⟨_, rfl, _, 2147483587, rfl, rfl, z3, ?_⟩⟩
          have g3 := fun x => g x 2147483587 (by decide)
          have y4 : ∀ x, -(2 ^ 64) < Int.fmod x 2147483587 ∧ Int.fmod x 2147483587 < 2 ^ 64 := fun x => by
            have := g3 x
            omega
          refine ⟨_, rfl, _, rfl, _, _, rfl, rfl, .inl (y4 _), .inl ⟨_, rfl, _, 2147483563, rfl, rfl, z4, _, 64, rfl, rfl, ⟨by decide, by decide⟩, .inl ⟨_, rfl, .int m, rfl, _, m, rfl, rfl, hmne, ?_⟩⟩⟩
          exact q _ _ (f0 _) (f1 _) ⟨ns, t + 1, l, ⟨hd3, hc3, hlen, by omega⟩, by omega⟩ b3
end

section
variable {P : Program} {w : World} {K : PySem.W.Frag} {mg : Str → Option Value} {base : Heap} {a : Ad}
/-- a pick: some item of the list -/
def spPick (K : PySem.W.Frag) : Sp := fun vs H Q _ => ∃ (d c s : Addr) (n : Nat) (xs : List V), vs = [.ref d, .ref s] ∧ Pen H d c n ∧ n < 2 ^ 40 ∧ SqL K H s xs ∧ 0 < xs.length ∧ xs.length ≤ 100000 ∧
  ∀ v H', v ∈ xs → Pen H' d c (n + 1) → But d H H' → Q v H'
theorem ok__law_pick (T : Tx w K mg a) : FnOk P w K mg base CX0 2 a.f__law_pick a.d__law_pick ["pen", "some"] (spPick K) := by
  refine T.F__law_pick.ok sc__law_pick (fun vs H Q E h => ?_) (fun cdv A outer s H vs Q E hr h => ?_)
  · obtain ⟨d, c, s, n, xs, rfl, _⟩ := h
    rfl
  · obtain ⟨d, c, s, n, xs, rfl, hp, hn, hs, h0, h1, q⟩ := h
    obtain ⟨kvs, hd⟩ := hp.dict
    refine ⟨_, 
(pss_one (ps_ret (pe_ix ix_list (pv 1) (pe_call (ok__law_draw T) hr (by rfl) T.m__law_draw T.F__law_draw.kp T.b__law_draw .nil pass0 (pa_cons (pv 0) (pa_cons (pe_callB call_len_seq (by rfl) T.z_len PySem.boot_len (pa_cons (pv 1) pa_nil)) pa_nil))) (fun _ _ => rfl)))), ?_⟩
    refine ⟨.ref s, rfl, .ref d, rfl, .ref s, rfl, s, _, rfl, .inl hs, d, c, n, _, rfl, hp, hn, by omega, ?_, fun v H' v0 v1 hp' hb => ?_⟩
    · have : ((100000 : Nat) : Int) < 2 ^ 200 := by decide
      omega
    · refine ⟨s, xs, v, xs[v.toNat]'(by omega), rfl, rfl, hb.seq hd hs, ?_, q _ _ (List.getElem_mem _) hp' hb⟩
      have e : (v.toNat : Int) = v := by omega
      have z : atI xs (v.toNat : Int) = some (xs[v.toNat]'(by omega)) := atI_nat (List.getElem?_eq_getElem (by omega))
      rw [e] at z
      exact z
end

/-! ### a list or a tuple: walked, enumerated -/
def SqA (K : PySem.W.Frag) (H : Hp) (p : Addr) (xs : List V) : Prop := SqL K H p xs ∨ SqT K H p xs
theorem SqA.len {K : PySem.W.Frag} {H : Hp} {p : Addr} {xs : List V} (h : SqA K H p xs) : SqL K H p xs ∨ SqT K H p xs := h
theorem Same.seqT {K : PySem.W.Frag} {H H' : Hp} {p : Addr} {xs : List V} (e : Same H H') (h : SqT K H p xs) : SqT K H' p xs := by
  rcases h with (h | ⟨o, h⟩) | h
  · exact .inl (.inl (e _ _ h))
  · exact .inl (.inr ⟨o, e _ _ h⟩)
  · exact .inr h
theorem SqA.same {K : PySem.W.Frag} {H H' : Hp} {p : Addr} {xs : List V} (h : SqA K H p xs) (e : Same H H') : SqA K H' p xs := h.elim (fun q => .inl (e.seq q)) fun q => .inr (Same.seqT e q)
def iSeq (K : PySem.W.Frag) (tl : TE) : TI := fun σ H R => tl σ H fun x H1 => ∃ p xs, x = .ref p ∧ ((SqL K H1 p xs ∧ R (Itl K p) H1) ∨ (SqT K H1 p xs ∧ R (Itt K p) H1))
theorem pi_seq {X : Cx} {tg l : Expr} {tl : TE} (hl : PE X l tl) : PI X tg l (iSeq X.K tl) := by
  constructor
  intro pins s σ H R I h
  apply thn (hl.run pins s σ H _ I h)
  rintro v s1 ⟨x, H1, I1, r1, p, xs, rfl, hq⟩
  cases r1
  rcases hq with ⟨hq, q⟩ | ⟨hq, q⟩
  · obtain ⟨its, _, z, _⟩ := I1.list hq
    exact wpAny_pyIter_list z.isList (pi_one (tk := s1.toks) I1 _ (turn_list p _) ⟨_, Heap.get?_push_size _ rfl, rfl, rfl⟩ q)
  · obtain ⟨its, _, z, _⟩ := I1.tuple hq
    exact wpAny_pyIter_tuple (show s1.heap.IsTuple p its.toArray from z) (pi_one (tk := s1.toks) I1 _ (turn_tuple p _) ⟨_, Heap.get?_push_size _ rfl, rfl, rfl⟩ q)
/-- enumerate over a tuple -/
def IteT (K : PySem.W.Frag) (p : Addr) : It where
  go := fun i H => ∃ (xs : List V) (x : V), SqT K H p xs ∧ xs[i]? = some x
  yld := fun i H v H' => ∃ q x, v = .ref q ∧ H q = none ∧ H' = upd H q (.tup [.int (i : Nat), x]) ∧ ∀ xs, SqT K H p xs → xs[i]? = some x
  stop := fun i H => ∃ xs : List V, SqT K H p xs ∧ xs.length = i
theorem turn_enumT {P : Program} {w : World} {K : PySem.W.Frag} {elts : List Expr} {kk : Nat} {tpos : Pos} (p e it : Addr) :
    Turn P w K (.Tuple elts kk tpos) (IteT K p) [e, it] e (fun i h => (∃ old, IsEnum h e it ((i : Nat) : Int) old) ∧ h.IsTupleIter it p i ∧ e ≠ it) where
  mem := List.mem_cons_self ..
  obj := by
    rintro i h ⟨⟨old, he⟩, ⟨o, ho, hc, hd⟩, _⟩ b hb
    simp only [List.mem_cons, List.not_mem_nil, or_false] at hb
    rcases hb with rfl | rfl
    · exact ⟨_, he, fun v q => nomatch q⟩
    · exact ⟨o, ho, fun v q => by rw [hd] at q; cases q⟩
  keep := by
    rintro i h h' ⟨⟨old, he⟩, hi, hne⟩ k
    exact ⟨⟨old, k e (by simp) _ he⟩, hi.at fun o q => k it (by simp) o q, hne⟩
  item := by
    rintro X rfl rfl rfl hc i pins s σ H E I hf ⟨⟨old, he⟩, hit, hne⟩ ⟨xs, x, hq, hx⟩
    obtain ⟨its, rv, z, hz⟩ := I.tuple hq
    obtain ⟨u, hu, ru⟩ := rv.get hx
    have hel : e < s.heap.objs.size := Heap.lt_size he
    have hil : it < s.heap.objs.size := by
      obtain ⟨_, q, _⟩ := hit
      exact Heap.lt_size q
    have hpe : e ≠ p := fun q => by
      obtain ⟨o, ho, hc1, _⟩ := (show s.heap.IsTuple p its.toArray from z)
      rw [← q] at ho
      rw [Option.some.inj (ho.symm.trans he)] at hc1
      injection hc1 with hc1
      exact absurd hc1 (by decide)
    have hpi : p ≠ it := fun q => by
      obtain ⟨o, ho, hc1, _⟩ := (show s.heap.IsTuple p its.toArray from z)
      obtain ⟨o2, ho2, hc2, _⟩ := hit
      rw [q] at ho
      rw [Option.some.inj (ho.symm.trans ho2), hc2] at hc1
      injection hc1 with hc1
      exact absurd hc1 (by decide)
    have D := Draws.tuple (prog := X.prog) (w := X.w) (A := X.A.in1) (I.ok.hd hc) it p hpi its.toArray
    have hlt : i < its.toArray.size := by
      have := (List.getElem?_eq_some_iff.mp hu).1
      simpa using this
    refine wpAny_pyNext_enum_itemD (i := i) D he ⟨hit, z⟩ hlt hne (by simp [hne, hpe]) ?_
    intro v h' tk hv ho hst' hT hsz hk
    have ev : v = u := by
      have h1 : its[i]? = some v := by simpa using hv
      exact Option.some.inj (h1.symm.trans hu)
    subst ev
    refine ⟨_, rfl, wpAny_letOwnedTupleGo_enum (s := { s with heap := h', toks := tk + 1 }) ho ?_⟩
    intro h'' he' sb
    have hT2 : h''.get? s.heap.objs.size = some { cls := .type "tuple", data := .seq #[.int i tk, v] } := (sb.2 _ (Nat.ne_of_gt hel)).trans hT
    have new : ObjOk X.prog X.w (upd H s.heap.objs.size (.tup [.int (i : Nat), x])) h'' s.heap.objs.size (.tup [.int (i : Nat), x]) :=
      ⟨(by decide : 2 ≤ sizeLine), [.int i tk, v], .cons ⟨_, rfl⟩ (.cons ru .nil), _, hT2, rfl, _, rfl⟩
    have I1 : Inv X pins σ (upd H s.heap.objs.size (.tup [.int (i : Nat), x])) { s with heap := h'', toks := tk + 1 } := by
      refine I.turnedNew (ch := [e, it]) (fun b ob hb q => ?_) hf (Nat.le_refl _) new
      have n1 : b ≠ e := fun y => hb (by simp [y])
      have n2 : b ≠ it := fun y => hb (by simp [y])
      exact (sb.2 b n1).trans (hk b ob n1 n2 q)
    refine ⟨.ref s.heap.objs.size, _, I1, rfl, ⟨_, x, rfl, I.hok.fresh (Nat.le_refl _), rfl, fun ys hy => ?_⟩, ⟨⟨v, ?_⟩, hst'.1.at fun o q => (sb.2 it hne.symm).trans q, hne⟩, fun b hb => ?_⟩
    · rw [I.tuple_inj hy hq]
      exact hx
    · rw [show ((i + 1 : Nat) : Int) = (i : Int) + 1 by omega]
      exact he'
    · have hb' : b < s.heap.objs.size := by
        simp only [List.mem_cons, List.not_mem_nil, or_false] at hb
        rcases hb with rfl | rfl
        · exact hel
        · exact hil
      rw [upd_ne (Nat.ne_of_lt hb')]
      exact (hf b hb).1
  done := by
    rintro X rfl rfl rfl hc i pins s σ H E I hf ⟨⟨old, he⟩, hit, hne⟩ ⟨xs, hq, hx⟩
    obtain ⟨its, rv, z, hz⟩ := I.tuple hq
    obtain ⟨f0, f1, f2, f3, f4, f5⟩ := hf it (by simp)
    have hl := rv.length
    have hpi : p ≠ it := fun q => by
      obtain ⟨o, ho, hc1, _⟩ := (show s.heap.IsTuple p its.toArray from z)
      obtain ⟨o2, ho2, hc2, _⟩ := hit
      rw [q] at ho
      rw [Option.some.inj (ho.symm.trans ho2), hc2] at hc1
      injection hc1 with hc1
      exact absurd hc1 (by decide)
    have D := Draws.tuple (prog := X.prog) (w := X.w) (A := X.A.in1) (I.ok.hd hc) it p hpi its.toArray
    have ei : i = its.toArray.size := by
      simp only [List.size_toArray]
      omega
    subst ei
    exact wpAny_pyNext_enum_endD D he ⟨hit, z⟩ fun h' eb => ⟨rfl, I.turned (t' := s.toks) (fun b o hb e => eb b o hb e) f0 f1 f3 f4 f5⟩
  self := by
    rintro A i s Q E ⟨⟨_, he⟩, _⟩ h
    exact wpAny_pyIter_enum he h
theorem meets_enum0 {v : Value} {o : Obj} {Hh : Heap → Prop} (B : Begins v o Hh) :
    Meets (Builtin.«enumerate.__new__» ⟨[.type "enumerate", v], []⟩) (fun _ R s => Hh s.heap ∧
      R (.ok (.ret (.ref (s.heap.push o).objs.size))) { s with heap := (s.heap.push o).push { cls := .type "enumerate", data := .fields #[.none, .bool false, .ref s.heap.objs.size, rawInt 0, .none, .none] } }) := by
  refine .of_wp ?_
  rintro prog w A R ⟨hp, g, d, tk, os⟩ ⟨h1, h⟩
  have hsb := sub_enumerate
  have q1 : ∀ {A' : Around} {E : Value → Shared → Prop} {Q : Value → Shared → Prop}, Q (.ref hp.objs.size) ⟨hp.push o, g, d, tk, os⟩ → wpAny (model prog w) A' (pyIter v) Q E ⟨hp, g, d, tk, os⟩ := by
    intro A' E Q q
    exact B.iter prog w _ _ ⟨hp, g, d, tk, os⟩ _ h1 q
  wp_walk using q1
  refine wpAny_stack_any fun st => wpAny_pure ?_
  split
  · rename_i c _ _ _ _ _
    cases (c == Value.type "enumerate") <;> (wp_walk using q1; exact ⟨_, rfl, h⟩)
  · wp_walk using q1
    exact ⟨_, rfl, h⟩
theorem call_enum0 {prog : Program} {w : World} {A : Around} {E : Value → Shared → Prop} {s : Shared} {v : Value} {o : Obj} {Hh : Heap → Prop} {Q : Value → Shared → Prop} (B : Begins v o Hh) (h1 : Hh s.heap)
    (h : ∀ h', IsEnum h' (s.heap.objs.size + 1) s.heap.objs.size 0 .none → h'.get? s.heap.objs.size = some o → h'.objs.size = s.heap.objs.size + 2 → (∀ b u, s.heap.get? b = some u → h'.get? b = some u) → Q (.ref (s.heap.objs.size + 1)) { s with heap := h' }) :
    wpAny (model prog w) A (call (.type "enumerate") [v]) Q E s := by
  have hz : (s.heap.push o).objs.size = s.heap.objs.size + 1 := by rw [Heap.size_push]
  refine callType_new F.called_enumerate (by decide) (F.typeCall_enumerate_1 _) (F.newCall_enumerate_1 _) (fun obj => F.args_object_init_2 obj _) F.entry_enumerate_new (meets_enum0 B) ⟨h1, ?_⟩
  have key : IsEnum ((s.heap.push o).push { cls := .type "enumerate", data := .fields #[.none, .bool false, .ref s.heap.objs.size, rawInt 0, .none, .none] }) (s.heap.push o).objs.size s.heap.objs.size 0 .none := Heap.get?_push_size _ rfl
  show _ ∧ _
  rw [hz] at key ⊢
  exact ⟨⟨_, key, rfl⟩, h _ key (Heap.get?_push_of_some _ (Heap.get?_push_size _ B.free)) (by rw [Heap.size_push, hz]) fun b u x => Heap.get?_push_of_some _ (Heap.get?_push_of_some _ x)⟩
def iEnS (K : PySem.W.Frag) (ta : TA) : TI := fun σ H R => ta σ H fun vs H1 => ∃ p xs, vs = [.ref p] ∧ ((SqL K H1 p xs ∧ R (Ite K p) H1) ∨ (SqT K H1 p xs ∧ R (IteT K p) H1))
theorem pi_enumS {X : Cx} {e : Expr} {ta : TA} {p pos tpos : Pos} {elts : List Expr} {kk : Nat} (hg : Gl X "enumerate") (hm : X.mg "enumerate" = none) (ha : PA X [e] ta) (hs : starEach [e] X.env = [(false, eval e X.env)] := by rfl) :
    PI X (.Tuple elts kk tpos) (.Call (.Name "enumerate" p) [e] [] pos) (iEnS X.K ta) := by
  constructor
  intro pins s σ H R I h
  refine Call_ (ld_blt I hg hm boot_enumerate (PyProof.Rows.callWith_type1 (thn (ha.run pos pins s σ H _ I h) ?_) hs rfl))
  rintro us s1 ⟨vs, H1, I1, r1, q0, xs, rfl, hq⟩
  cases r1 with
  | cons r rr =>
    cases rr
    cases r
    have fp : ∀ b ∈ [s1.heap.objs.size + 1, s1.heap.objs.size], FpOk X pins H1 b := by
      intro b hb
      simp only [List.mem_cons, List.not_mem_nil, or_false] at hb
      have hle : s1.heap.objs.size ≤ b := by
        rcases hb with rfl | rfl
        · exact Nat.le_add_right _ _
        · exact Nat.le_refl _
      exact I1.fpOk hle (I1.hok.fresh hle)
    rcases hq with ⟨hq, q⟩ | ⟨hq, q⟩
    · obtain ⟨its, _, z, _⟩ := I1.list hq
      refine call_enumerate_list z.isList ?_
      intro h' he hit hsz hk
      exact wpAny_pyIter_enum he ⟨s1.heap.objs.size + 1, [s1.heap.objs.size + 1, s1.heap.objs.size], _, _, H1, rfl, I1.kept (t' := s1.toks) hk, turn_enum q0 (s1.heap.objs.size + 1) s1.heap.objs.size, ⟨⟨.none, he⟩, hit, Nat.succ_ne_self _⟩, fp, q⟩
    · obtain ⟨its, _, z, _⟩ := I1.tuple hq
      refine call_enum0 (begins_tuple q0 its.toArray) z ?_
      intro h' he hit hsz hk
      exact wpAny_pyIter_enum he ⟨s1.heap.objs.size + 1, [s1.heap.objs.size + 1, s1.heap.objs.size], _, _, H1, rfl, I1.kept (t' := s1.toks) hk, turn_enumT q0 (s1.heap.objs.size + 1) s1.heap.objs.size, ⟨⟨.none, he⟩, ⟨_, hit, rfl, rfl⟩, Nat.succ_ne_self _⟩, fp, q⟩
theorem walk_enumT {K : PySem.W.Frag} {p : Addr} {xs : List V} : Walk (IteT K p) xs.length (fun H => SqT K H p xs) (YPair (fun i => some (.int (i : Nat))) (fun i => xs[i]?)) where
  goes := fun i H hi h => ⟨xs, xs[i], h, List.getElem?_eq_getElem hi⟩
  stops := fun H h => ⟨xs, h, rfl⟩
  yields := by
    rintro i H v H' hi h ⟨q, x, rfl, hn, rfl, hx⟩
    exact ⟨q, _, x, rfl, hn, rfl, rfl, hx xs h⟩

/-- tuple(x), its reading with K by name -/
def rTupOf (K : PySem.W.Frag) : List V → Hp → VK → Prop := fun xs H Q => ∃ p ys, xs = [V.ref p] ∧ ((SqL K H p ys ∧ ∀ (l : Addr), H l = none → Q (V.ref l) (upd H l (HO.tup ys))) ∨ SqT K H p ys ∧ Q (V.ref p) H)
theorem call_tuple_ofK {X : Cx} {K : PySem.W.Frag} (hK : X.K = K) : CallR X (.type "tuple") (rTupOf K) := by
  subst hK
  exact call_tuple_of
/-- list(x), its reading with K by name -/
def rListOf (K : PySem.W.Frag) : List V → Hp → VK → Prop := fun xs H Q => ∃ p ys, xs = [V.ref p] ∧ (SqL K H p ys ∨ SqT K H p ys) ∧ ∀ (l : Addr), H l = none → Q (V.ref l) (upd H l (HO.lst ys))
theorem call_list_ofK {X : Cx} {K : PySem.W.Frag} (hK : X.K = K) : CallR X (.type "list") (rListOf K) := by
  subst hK
  exact call_list_of
/-- len(x), its reading with K by name -/
def rLenS (K : PySem.W.Frag) : List V → Hp → VK → Prop := fun xs H Q => ∃ p ys, xs = [V.ref p] ∧ (SqL K H p ys ∨ SqT K H p ys) ∧ Q (.int ys.length) H
theorem call_len_seqK {X : Cx} {K : PySem.W.Frag} (hK : X.K = K) : CallR X (.builtin "len") (rLenS K) := by
  subst hK
  exact call_len_seq

/-! ### questions about values -/
/-- whether a value is an int that is no bool, as isinstance tells it -/
inductive IsI (H : Hp) : V → Bool → Prop where
  | int (i : Int) : IsI H (.int i) true
  | non : IsI H .non false
  | bl (b : Bool) : IsI H (.bl b) false
  | str (z : Str) : IsI H (.str z) false
  | tup {p : Addr} {xs : List V} (e : H p = some (.tup xs)) : IsI H (.ref p) false
  | lst {p : Addr} {xs : List V} (e : H p = some (.lst xs)) : IsI H (.ref p) false
theorem IsI.same {H H' : Hp} {x : V} {b : Bool} (h : IsI H x b) (e : Same H H') : IsI H' x b := by
  cases h with
  | int i => exact .int i
  | non => exact .non
  | bl b => exact .bl b
  | str z => exact .str z
  | tup q => exact .tup (e _ _ q)
  | lst q => exact .lst (e _ _ q)
section
variable {P : Program} {w : World} {K : PySem.W.Frag} {mg : Str → Option Value} {base : Heap} {a : Ad}
def spIsInteger : Sp := fun vs H Q _ => ∃ x b, vs = [x] ∧ IsI H x b ∧ Q (.bl b) H
theorem ok_is_integer (T : Tx w K mg a) : FnOk P w K mg base CX0 1 a.f_is_integer a.d_is_integer ["value"] spIsInteger := by
  refine T.F_is_integer.ok sc_is_integer (fun vs H Q E h => ?_) (fun cdv A outer s H vs Q E hr h => ?_)
  · obtain ⟨x, b, rfl, _⟩ := h
    rfl
  · obtain ⟨x, b, rfl, hb, q⟩ := h
    refine ⟨_, 
(pss_one (ps_ret (pe_and (pe_callB call_isi (by rfl) T.z_isinstance (by decide +kernel) (pa_cons (pv 0) (pa_cons (pe_bltn (v := .ty "int") (by rfl) T.z_int (by decide +kernel) rfl) pa_nil))) (pe_one (pe_not (pe_callB call_isi (by rfl) T.z_isinstance (by decide +kernel) (pa_cons (pv 0) (pa_cons (pe_bltn (v := .ty "bool") (by rfl) T.z_bool (by decide +kernel) rfl) pa_nil)))))))), ?_⟩
    refine ⟨x, rfl, ?_⟩
    cases hb with
    | int i => exact ⟨_, _, _, _, true, rfl, .ty "int", .base (.int i), kit_ty (by decide +kernel), true, rfl, iteT ⟨_, rfl, _, _, _, _, false, rfl, .ty "bool", .base (.int i), kit_ty (by decide +kernel), _, rfl, q⟩⟩
    | non => exact ⟨_, _, _, _, false, rfl, .ty "int", .base .non, kit_ty (by decide +kernel), false, rfl, iteF q⟩
    | str z => exact ⟨_, _, _, _, false, rfl, .ty "int", .base (.str z), kit_ty (by decide +kernel), false, rfl, iteF q⟩
    | tup e => exact ⟨_, _, _, _, false, rfl, .ty "int", .base (.tup e), kit_ty (by decide +kernel), false, rfl, iteF q⟩
    | lst e => exact ⟨_, _, _, _, false, rfl, .ty "int", .base (.lst e), kit_ty (by decide +kernel), false, rfl, iteF q⟩
    | bl b => exact ⟨_, _, _, _, true, rfl, .ty "int", .base (.bl b), kit_ty (by decide +kernel), true, rfl, iteT ⟨_, rfl, _, _, _, _, true, rfl, .ty "bool", .base (.bl b), kit_ty (by decide +kernel), _, rfl, q⟩⟩
def btM (lo hi : Int) : V → Bool
  | .int i => decide (lo ≤ i) && decide (i ≤ hi)
  | _ => false
def spIsBetween : Sp := fun vs H Q _ => ∃ x b lo hi, vs = [x, .int lo, .int hi] ∧ IsI H x b ∧ Q (.bl (btM lo hi x)) H
theorem ok_is_between (T : Tx w K mg a) : FnOk P w K mg base CX0 2 a.f_is_between a.d_is_between ["value", "low", "high"] spIsBetween := by
  refine T.F_is_between.ok sc_is_between (fun vs H Q E h => ?_) (fun cdv A outer s H vs Q E hr h => ?_)
  · obtain ⟨x, b, lo, hi, rfl, _⟩ := h
    rfl
  · obtain ⟨x, b, lo, hi, rfl, hb, q⟩ := h
    refine ⟨_, 
(pss_one (ps_ret (pe_and (pe_call (ok_is_integer T) hr (by rfl) T.m_is_integer T.F_is_integer.kp T.b_is_integer .nil pass0 (pa_cons (pv 0) pa_nil)) (pe_one (pe_chain op_le op_le (pv 1) (pv 0) (pv 2)))))), ?_⟩
    refine ⟨x, rfl, x, b, rfl, hb, b, rfl, ?_⟩
    cases hb with
    | int i =>
      refine iteT ⟨_, rfl, _, rfl, lo, i, rfl, rfl, _, rfl, ?_⟩
      by_cases h1 : lo ≤ i
      · rw [decide_eq_true h1]
        refine iteT ⟨_, rfl, i, hi, rfl, rfl, ?_⟩
        have e : btM lo hi (.int i) = decide (i ≤ hi) := by simp [btM, h1]
        rw [e] at q
        exact q
      · rw [decide_eq_false h1]
        have e : btM lo hi (.int i) = false := by simp [btM, h1]
        rw [e] at q
        exact iteF q
    | non => exact iteF q
    | str z => exact iteF q
    | tup e => exact iteF q
    | lst e => exact iteF q
    | bl b => exact iteF q
end

section
variable {P : Program} {w : World} {K : PySem.W.Frag} {mg : Str → Option Value} {base : Heap} {a : Ad}
def spErrInit (C : Addr) (f : Str) : Sp := fun vs H Q _ => ∃ (x : Addr) (v : V), vs = [.ref x, v] ∧ H x = some (exo x C none) ∧ ∀ dx, H dx = none → dx ≠ x → Q .non (upd (upd H dx (exd dx [(f, v)])) x (exo x C (some dx)))
theorem ok_BadSize_init (T : Tx w K mg a) : FnOk P w K mg base CX0 1 a.f_BadSize_init a.d_BadSize_init ["self", "size"] (spErrInit a.C_BadSize "size") := by
  refine T.F_BadSize_init.ok sc_BadSize_init (fun vs H Q E h => ?_) (fun cdv A outer s H vs Q E hr h => ?_)
  · obtain ⟨x, v, rfl, _⟩ := h
    rfl
  · obtain ⟨x, v, rfl, hx, q⟩ := h
    refine ⟨_, 
(pss_one (ps_ost (pv 0) (pv 1))), ?_⟩
    exact ⟨v, rfl, .ref x, rfl, x, a.C_BadSize, rfl, T.ox_BadSize.o, T.ox_BadSize.no, .inl ⟨hx, fun dx n ne => q dx n ne⟩⟩
theorem ok_BadPlace_init (T : Tx w K mg a) : FnOk P w K mg base CX0 1 a.f_BadPlace_init a.d_BadPlace_init ["self", "place"] (spErrInit a.C_BadPlace "place") := by
  refine T.F_BadPlace_init.ok sc_BadPlace_init (fun vs H Q E h => ?_) (fun cdv A outer s H vs Q E hr h => ?_)
  · obtain ⟨x, v, rfl, _⟩ := h
    rfl
  · obtain ⟨x, v, rfl, hx, q⟩ := h
    refine ⟨_, 
(pss_one (ps_ost (pv 0) (pv 1))), ?_⟩
    exact ⟨v, rfl, .ref x, rfl, x, a.C_BadPlace, rfl, T.ox_BadPlace.o, T.ox_BadPlace.no, .inl ⟨hx, fun dx n ne => q dx n ne⟩⟩
theorem made_same {H H1 : Hp} {x dx C : Addr} {f : Str} {v : V} (s : Same H H1) (hx : H1 x = none) (hd : H1 dx = none) : Same H (upd (del (upd (upd (upd H1 x (exo x C none)) dx (exd dx [(f, v)])) x (exo x C (some dx))) x) dx (.xd [(f, v)])) := fun b o e => by
  have e1 := s b o e
  have nx := ne_of_none e1 hx
  have nd := ne_of_none e1 hd
  rw [upd_ne nd, del_ne nx, upd_ne nx, upd_ne nd, upd_ne nx]
  exact e1
theorem err_end {H H1 : Hp} {C : Addr} {f : Str} {v : V} {E : XK} (s1 : Same H H1) (hE : ∀ H' d, Same H H' → H' d = some (.xd [(f, v)]) → E (.ref C) (some d) H') : ∀ x, H1 x = none →
    spErrInit C f [.ref x, v] (upd H1 x (exo x C none)) (fun u H2 => u = .non ∧ ∃ (d : Addr) (fs : List (Str × V)), H2 x = some (exo x C (some d)) ∧ H2 d = some (exd d fs) ∧ H1 d = none ∧ E (.ref C) (some d) (upd (del H2 x) d (.xd fs))) (fun _ _ _ => False) := by
  intro x hx
  refine ⟨x, v, rfl, upd_same, fun dx hd ne => ⟨rfl, dx, [(f, v)], upd_same, ?_, ?_, ?_⟩⟩
  · rw [upd_ne ne]
    exact upd_same
  · rw [upd_ne ne] at hd
    exact hd
  · have hd1 : H1 dx = none := by
      rw [upd_ne ne] at hd
      exact hd
    exact hE _ dx (made_same s1 hx hd1) upd_same
end

/-! ### == by an own __eq__, with both answers; the other value a text or an instance -/
inductive EqTy (H : Hp) : V → Value → Prop where
  | str (y : Str) : EqTy H (.str y) (.type "str")
  | ins {p C : Addr} {dx : Addr} {fs : List (Str × V)} (e : H p = some (.ins C dx fs)) : EqTy H (.ref p) (.ref C)
def rEqOwn (K : PySem.W.Frag) (C : Addr) (sp : Sp) (E : XK) : R2 := fun x y H Q => ∃ (p dx : Addr) (fs : List (Str × V)) (tb : Value), x = .ref p ∧ H p = some (.ins C dx fs) ∧ EqTy H y tb ∧ PySem.W.notFirst K C tb = true ∧ sp [x, y] H (fun v H' => (∃ b, v = .bl b) ∧ Q v H') E
theorem op_eq_own {X : Cx} {n : Nat} {CX : CXT} {C f : Addr} {fd : FuncData} {ps : List Str} {sp : Sp} {E : XK} (F : FnOk X.prog X.w X.K X.mg X.base CX n f fd ps sp) (hr : Room n X.A)
    (hs : PySem.W.findIn X.K (.ref C) "__eq__" = some (some (.ref f))) (hf : PySem.W.isFn X.K (.ref f) = true) (hb : Binds X.K fd ps []) (hx : Passes CX X E) : OpR X (compareOp .Eq) (rEqOwn X.K C sp E) := by
  rintro pins s σ H x y v u Q I rx ry ⟨p, dx, fs, tb, rfl, hp, ty, hn, hsp⟩
  cases rx
  obtain ⟨mA, J, _⟩ := ins_get I.hok hp
  obtain ⟨od, J, _⟩ := J.look
  obtain ⟨m, hF⟩ := I.fr
  have hT : PySem.W.Looks (model X.prog X.w) s.heap (typeOf u) tb := by
    cases ty with
    | str z =>
      obtain ⟨t, q⟩ := (show ∃ t, u = Value.str z t from ry)
      cases q
      exact .now
    | @ins b C' dy gs e =>
      cases (show u = Value.ref b from ry)
      obtain ⟨mB, J', _⟩ := ins_get I.hok e
      obtain ⟨od', J', _⟩ := J'.look
      exact J'.type
  show wpAny (model X.prog X.w) X.A (richCompare .Eq (.ref p) u) (EP X pins σ Q) X.xe s
  refine PySem.W.cmp_K (op := .Eq) (tb := tb) hr.units0 hF I.ok.mod.kin J hT hn hs hf ?_
  refine wpAny_mono (run_fn F hr hb .nil hx I (show Vals [V.ref p, y] [Value.ref p, u] from .cons rfl (.cons ry .nil)) hsp) (fun w s' z => ?_) fun _ _ h => h
  obtain ⟨z, H', I', rz, ⟨b, ez⟩, q⟩ := z
  subst ez
  cases (show w = Value.bool b from rz)
  exact ⟨.bl b, H', I', rfl, q⟩

/-! ### lambdas as values: made, tracked, called -/
open LamX hiding takes0
/-- a function made by a lambda stands at f -/
def lamO (q : Str) (ar : Arguments) (bo : Expr) (sc : Scope) (cl : List (Str × Addr)) (f c : Addr) : HO := .ext fun h => ∃ pm cv : Value, h.get? f = some (PySem.W.kla_obj "<lambda>" q ar bo sc cl pm c cv)
theorem lamO_ne {q : Str} {ar : Arguments} {bo : Expr} {sc : Scope} {cl : List (Str × Addr)} {f c : Addr} (ps : Array Value) : lamO q ar bo sc cl f c ≠ .tbl ps := fun z => by
  unfold lamO at z
  cases z
theorem lamO_at {P : Program} {w : World} {H : Hp} {h : Heap} {q : Str} {ar : Arguments} {bo : Expr} {sc : Scope} {cl : List (Str × Addr)} {f c : Addr} (k : HOk P w H h) (e : H f = some (lamO q ar bo sc cl f c)) : ∃ pm cv : Value, h.get? f = some (PySem.W.kla_obj "<lambda>" q ar bo sc cl pm c cv) := (k f _ e).1
section
variable {X : Cx} {pins : List (Addr × Obj)} {σ : L2.St} {H : Hp} {s : Shared}
/-- the lambda is made and tracked -/
theorem lam_new {T : List (Addr × Str)} {c P : Addr} {ar : Arguments} {bo : Expr} {sc : Scope} {pos : Pos} {E Q : Value → Shared → Prop} (I : Inv X pins σ H s) (TB : TabB X.base X.mg c P) (hcode : X.env.code = .ref c)
    (hm : (P, X.env.qual ++ "<lambda>") ∈ T) (hu : ∀ p ∈ T, p.1 = P → p.2 = X.env.qual ++ "<lambda>") (hT : Tabs T H) (hdef : defaultsOf ar X.env = ([], [])) (hfree : ∀ y ∈ sc.names, y.2 = .free → ∃ c, X.env.cells.lookup y.1 = some c)
    (h : ∀ (f c' : Addr) (H1 : Hp) (s' : Shared), Inv X pins σ H1 s' → ExtN H H1 → (∀ b, H1 b = none → H b = none) → Tabs T H1 → H f = none →
      H1 f = some (lamO (X.env.qual ++ "<lambda>") ar bo sc (cloFrom X.env.cells sc.names []) f c') → H1 c' = some (CodeO c' (X.env.qual ++ "<lambda>")) → Q (.ref f) s') :
    wpAny (model X.prog X.w) X.A (eval (.Lambda ar bo sc pos) X.env) Q E s := by
  obtain ⟨tb, hP, ht, ha⟩ := hT _ hm
  refine PySem.W.kla_eval hdef ?_
  have gP : s.heap.get? P = some { cls := .none, data := .fields tb } := I.hok P _ hP
  have kbm : s.heap.BuiltinsAt X.mg P := TB.bm.keeps I.bk
  -- what stands at the end, from the heap in which the code object is known
  have fin : ∀ (c' : Addr) (cv : Value) (g : Heap) (tk : Nat) (H1 : Hp), Inv X pins σ H1 { s with heap := g, toks := tk } → s.heap.objs.size ≤ g.objs.size → ExtN H H1 → (∀ b, H1 b = none → H b = none) → Tabs T H1 → H1 c' = some (CodeO c' (X.env.qual ++ "<lambda>")) →
      Q (.ref g.objs.size) { s with heap := g.push (PySem.W.kla_obj "<lambda>" (X.env.qual ++ "<lambda>") ar bo sc (cloFrom X.env.cells sc.names []) ((X.mg "__name__").getD .none) c' cv), toks := tk } := by
    intro c' cv g tk H1 I1 hz eN fr T1 hc
    have nf : H1 g.objs.size = none := I1.hok.fresh (Nat.le_refl _)
    have I2 := I1.laid (a := g.objs.size) (o := lamO (X.env.qual ++ "<lambda>") ar bo sc (cloFrom X.env.cells sc.names []) g.objs.size c') (t' := tk)
      (h' := g.push (PySem.W.kla_obj "<lambda>" (X.env.qual ++ "<lambda>") ar bo sc (cloFrom X.env.cells sc.names []) ((X.mg "__name__").getD .none) c' cv)) (fun b u e => Heap.get?_push_of_some _ e) (Nat.le_refl _)
      ⟨⟨_, _, Heap.get?_push_size _ rfl⟩, ⟨_, Heap.get?_push_size _ rfl⟩, fun h1 h2 ⟨pm, cw, e⟩ st => ⟨pm, cw, st _ e⟩⟩
    have kp : ∀ b o, H1 b = some o → upd H1 g.objs.size (lamO (X.env.qual ++ "<lambda>") ar bo sc (cloFrom X.env.cells sc.names []) g.objs.size c') b = some o := fun b o e => by
      rw [upd_ne (ne_of_none e nf)]
      exact e
    refine h _ c' _ _ I2 (eN.trans (ExtN.of kp)) (fun b e => fr b ?_) (T1.ext kp) (I.hok.fresh hz) upd_same (kp _ _ hc)
    by_cases hb : b = g.objs.size
    · rw [hb]
      exact nf
    · rw [upd_ne hb] at e
      exact e
  cases hc : codeAmong pos tb.toList with
  | some cv =>
    obtain ⟨c', rfl, hco⟩ := ha pos cv hc
    refine PySem.W.kla_makeFunctionHit (mg := X.mg) (c := c) (P := P) (ps := tb) (closure_ok hfree) I.ok.glob (I.mod.glob.keeps I.bk) hcode (TB.code.keeps I.bk) gP ht hc kbm fun cw g tk kp hz => ?_
    exact fin c' cw g tk H (I.kept kp) hz (ExtN.refl H) (fun _ e => e) hT hco
  | none =>
    refine PySem.W.kla_makeFunction (mg := X.mg) (c := c) (P := P) (ps := tb) (closure_ok hfree) I.ok.glob (I.mod.glob.keeps I.bk) hcode (TB.code.keeps I.bk) gP ht hc TB.gP kbm fun c' cw g tk hx hge hlt hrec htb => ?_
    obtain ⟨c2, oc, vs, t, e2, hoc, hd, hv⟩ := hrec
    cases e2
    have nC : H c' = none := I.hok.fresh hge
    have I1 := inv_table (t' := tk) (more := #[rawInt pos.line, rawInt pos.col, .ref c']) (q := X.env.qual ++ "<lambda>") I hP hx htb hge ⟨oc, vs, t, hoc, hd, hv⟩
    have eN : ExtN H (upd (upd H P (.tbl (tb ++ #[rawInt pos.line, rawInt pos.col, .ref c']))) c' (CodeO c' (X.env.qual ++ "<lambda>"))) := fun b o e n => by
      have n1 : b ≠ P := fun z => n tb (Option.some.inj (e.symm.trans (z ▸ hP)))
      rw [upd_ne (ne_of_none e nC), upd_ne n1]
      exact e
    refine fin c' cw g tk _ I1 (Nat.le_trans hge (Nat.le_of_lt hlt)) eN (fun b e => ?_) (fun p hp => ?_) upd_same
    · by_cases hb : b = c'
      · rw [hb]
        exact nC
      · by_cases hb2 : b = P
        · rw [upd_ne hb, hb2, upd_same] at e
          cases e
        · rw [upd_ne hb, upd_ne hb2] at e
          exact e
    · by_cases hb : p.1 = P
      · rw [hu p hp hb, hb]
        have el : (tb ++ #[rawInt pos.line, rawInt pos.col, .ref c']).toList = tb.toList ++ [rawInt pos.line, rawInt pos.col, .ref c'] := by simp
        refine ⟨_, by rw [upd_ne (ne_of_none hP nC)]; exact upd_same, by rw [el]; exact PySem.TriplesOk_snoc _ _ _ _ ht, fun p' cv hcv => ?_⟩
        rw [el] at hcv
        rcases among_app _ ht hcv with z | z
        · obtain ⟨c0, e1, e2⟩ := ha p' cv z
          exact ⟨c0, e1, eN _ _ e2 codeO_ne⟩
        · exact ⟨c', z, upd_same⟩
      · obtain ⟨tb', a1, a2, a3⟩ := hT p hp
        refine ⟨tb', by rw [upd_ne (ne_of_none a1 nC), upd_ne hb]; exact a1, a2, fun p' cv hcv => ?_⟩
        obtain ⟨c0, e1, e2⟩ := a3 p' cv hcv
        exact ⟨c0, e1, eN _ _ e2 codeO_ne⟩
end
/-! ### cells held as they are, let go, held again -/
def celF (o : Obj) : HO := .frz o (.ext fun _ => True)
/-- the cells that an environment names -/
def csOf (cl : List (Str × Addr)) : List Addr := cl.filterMap fun p => cl.lookup p.1
theorem mem_csOf {cl : List (Str × Addr)} {c : Addr} : c ∈ csOf cl ↔ ∃ x, cl.lookup x = some c := by
  unfold csOf
  rw [List.mem_filterMap]
  refine ⟨fun ⟨p, _, e⟩ => ⟨p.1, e⟩, fun ⟨x, e⟩ => ⟨(x, c), PySem.mem_of_lookup e, e⟩⟩
def heldH (cs : List Addr) (h : Heap) (H : Hp) : Hp := fun b => if b ∈ cs then (h.get? b).map celF else H b
def freedH (cs : List Addr) (H : Hp) : Hp := fun b => if b ∈ cs then none else H b
def againH (cs : List Addr) (G H : Hp) : Hp := fun b => if b ∈ cs then G b else H b
theorem heldH_ne {cs : List Addr} {h : Heap} {H : Hp} {b : Addr} (n : b ∉ cs) : heldH cs h H b = H b := if_neg n
theorem freedH_ne {cs : List Addr} {H : Hp} {b : Addr} (n : b ∉ cs) : freedH cs H b = H b := if_neg n
theorem freedH_in {cs : List Addr} {H : Hp} {b : Addr} (n : b ∈ cs) : freedH cs H b = none := if_pos n
theorem againH_ne {cs : List Addr} {G H : Hp} {b : Addr} (n : b ∉ cs) : againH cs G H b = H b := if_neg n
theorem againH_in {cs : List Addr} {G H : Hp} {b : Addr} (n : b ∈ cs) : againH cs G H b = G b := if_pos n
theorem freed_some {cs : List Addr} {H : Hp} {b : Addr} {o : HO} (e : freedH cs H b = some o) : b ∉ cs ∧ H b = some o := by
  by_cases n : b ∈ cs
  · rw [freedH_in n] at e
    cases e
  · exact ⟨n, by rw [freedH_ne n] at e; exact e⟩
/-- what is known behind a run for which the cells cs were let go -/
structure Und (cs : List Addr) (G H : Hp) : Prop where
  off : ∀ b ∈ cs, H b = none
  frz : ∀ b o u, freedH cs G b = some (.frz o u) → H b = some (.frz o u)
/-- the cells cs stand held in H -/
def CellsF (cs : List Addr) (H : Hp) : Prop := ∀ b ∈ cs, ∃ o, H b = some (celF o)
section
variable {P : Program} {w : World} {H H1 H2 : Hp} {h h' : Heap} {cs : List Addr}
theorem hok_freed (k : HOk P w H h) (C : CellsF cs H) : HOk P w (freedH cs H) h := fun b o e => by
  obtain ⟨n, e⟩ := freed_some e
  refine (k b o e).stay (fun _ _ _ q => q) (fun d q => ?_) fun d xs q => ?_
  · rw [freedH_ne fun z => ?_]
    · exact q
    · obtain ⟨o', e'⟩ := C d z
      rw [q] at e'
      cases e'
  · rw [freedH_ne fun z => ?_]
    · exact q
    · obtain ⟨o', e'⟩ := C d z
      rw [q] at e'
      cases e'
theorem hok_again (k : HOk P w H2 h') (C : CellsF cs H) (n : ∀ b ∈ cs, H2 b = none) (st : ∀ b ∈ cs, ∀ o, H b = some (celF o) → h'.get? b = some o) : HOk P w (againH cs H H2) h' := fun b o e => by
  by_cases hb : b ∈ cs
  · rw [againH_in hb] at e
    obtain ⟨ob, e'⟩ := C b hb
    rw [e] at e'
    cases e'
    exact ⟨st b hb ob e, trivial, ⟨ob, st b hb ob e⟩, fun _ _ _ _ => trivial⟩
  · rw [againH_ne hb] at e
    refine (k b o e).stay (fun _ _ _ q => q) (fun d q => ?_) fun d xs q => ?_
    · rw [againH_ne fun z => ?_]
      · exact q
      · rw [n d z] at q
        cases q
    · rw [againH_ne fun z => ?_]
      · exact q
      · rw [n d z] at q
        cases q
/-- the state of a call, the cells let go -/
theorem env0_freed {K : PySem.W.Frag} {mg : Str → Option Value} {base : Heap} {A : Around} {outer : List Env} {s : Shared} (e : Env0 P w K mg base A outer s H) (C : CellsF cs H) : Env0 P w K mg base A outer s (freedH cs H) :=
  ⟨e.frames, e.mod, fun b o q => ⟨(e.bs b o q).1, by
    by_cases n : b ∈ cs
    · exact freedH_in n
    · rw [freedH_ne n]
      exact (e.bs b o q).2⟩, e.bsz, e.funs, fun b hb => by
    by_cases n : b ∈ cs
    · exact freedH_in n
    · rw [freedH_ne n]
      exact e.frf b hb, hok_freed e.hok C, e.bare⟩
theorem un_again {fs : List Addr} (u : Un fs [] (freedH cs H) H2 h h') (C : CellsF cs H) : Un fs [] H (againH cs H H2) h h' := by
  have nin : ∀ {b : Addr}, H b = none → b ∉ cs := fun {b} e z => by
    obtain ⟨o, e'⟩ := C b z
    rw [e] at e'
    cases e'
  have thru : ∀ {b : Addr} {o : HO}, H b = some o → (∀ ob, o ≠ celF ob) → b ∉ cs ∧ freedH cs H b = some o := fun {b o} e ne => by
    have nb : b ∉ cs := fun z => by
      obtain ⟨ob, e'⟩ := C b z
      rw [e] at e'
      exact ne ob (Option.some.inj e')
    exact ⟨nb, by rw [freedH_ne nb]; exact e⟩
  refine ⟨fun b o e n hb hx => u.keep b o e (by rw [freedH_ne (nin n)]; exact n) hb hx, fun b o e n hb hx => u.slot b o e (by rw [freedH_ne (nin n)]; exact n) hb hx, fun b o e n hx => ?_, u.there, fun b xs e => ?_, fun b o v e => ?_, fun b ps e => ?_⟩
  · rw [againH_ne (nin n)]
    exact u.free b o e (by rw [freedH_ne (nin n)]; exact n) hx
  · obtain ⟨n, e'⟩ := thru e fun _ z => by cases z
    rw [againH_ne n]
    exact u.tups b xs e'
  · by_cases n : b ∈ cs
    · rw [againH_in n]
      exact e
    · rw [againH_ne n]
      exact u.frzs b o v (by rw [freedH_ne n]; exact e)
  · obtain ⟨n, e'⟩ := thru e fun _ z => by cases z
    obtain ⟨more, e2⟩ := u.tbls b ps e'
    exact ⟨more, by rw [againH_ne n]; exact e2⟩
/-- what a call that was made with the cells let go has come to -/
theorem CE_again {K : PySem.W.Frag} {mg : Str → Option Value} {base : Heap} {A : Around} {outer : List Env} {s s' : Shared} {Q : VK} {u : Value} (e0 : Env0 P w K mg base A outer s H) (C : CellsF cs H)
    (q : CE outer P w (freedH cs H) s (fun v H' => Und cs H H' → Q v (againH cs H H')) u s') : CE outer P w H s Q u s' := by
  obtain ⟨v, H2, os, bare, un, hok, r, qq⟩ := q
  have no : ∀ b ∈ cs, ∀ o, H b = some (celF o) → s'.heap.get? b = some o ∧ H2 b = none := fun b hb o e => by
    have h1 := (e0.hok b _ e).1
    have nf : b ∉ frs outer := fun z => by
      rw [e0.frf b z] at e
      cases e
    exact ⟨un.keep b o h1 (freedH_in hb) nf (by simp), un.free b o h1 (freedH_in hb) (by simp)⟩
  have off : ∀ b ∈ cs, H2 b = none := fun b hb => by
    obtain ⟨o, e⟩ := C b hb
    exact (no b hb o e).2
  exact ⟨v, againH cs H H2, os, bare, un_again un C, hok_again hok C off (fun b hb o e => (no b hb o e).1), r, qq ⟨off, un.frzs⟩⟩
theorem CX_again {K : PySem.W.Frag} {mg : Str → Option Value} {base : Heap} {A : Around} {outer : List Env} {s s' : Shared} {E : XK} {u : Value} (e0 : Env0 P w K mg base A outer s H) (C : CellsF cs H)
    (q : L2.CX P w outer (freedH cs H) s (fun cls d H' => Und cs H H' → E cls d (againH cs H H')) u s') : L2.CX P w outer H s E u s' := by
  obtain ⟨a, B, H2, cls, d, ea, fl, hok, ub, na, os, bare, qq⟩ := q
  have no : ∀ b ∈ cs, ∀ o, H b = some (celF o) → B.get? b = some o ∧ H2 b = none := fun b hb o e => by
    have h1 := (e0.hok b _ e).1
    have nf : b ∉ frs outer := fun z => by
      rw [e0.frf b z] at e
      cases e
    exact ⟨ub.keep b o h1 (freedH_in hb) nf, ub.free b o h1 (freedH_in hb)⟩
  have nin : ∀ {b : Addr}, H b = none → b ∉ cs := fun {b} e z => by
    obtain ⟨o, e'⟩ := C b z
    rw [e] at e'
    cases e'
  have thru : ∀ {b : Addr} {o : HO}, H b = some o → (∀ ob, o ≠ celF ob) → b ∉ cs ∧ freedH cs H b = some o := fun {b o} e ne => by
    have nb : b ∉ cs := fun z => by
      obtain ⟨ob, e'⟩ := C b z
      rw [e] at e'
      exact ne ob (Option.some.inj e')
    exact ⟨nb, by rw [freedH_ne nb]; exact e⟩
  have off : ∀ b ∈ cs, H2 b = none := fun b hb => by
    obtain ⟨o, e⟩ := C b hb
    exact (no b hb o e).2
  refine ⟨a, B, againH cs H H2, cls, d, ea, fl, hok_again hok C off (fun b hb o e => (no b hb o e).1), ⟨fun b o e n hb => ub.keep b o e (by rw [freedH_ne (nin n)]; exact n) hb, ub.slot, fun b o e n => ?_, ub.there, fun b xs e => ?_, fun b o v e => ?_, fun b ps e => ?_⟩, ?_, os, bare, qq ⟨off, ub.frzs⟩⟩
  · rw [againH_ne (nin n)]
    exact ub.free b o e (by rw [freedH_ne (nin n)]; exact n)
  · obtain ⟨n, e'⟩ := thru e fun _ z => by cases z
    rw [againH_ne n]
    exact ub.tups b xs e'
  · by_cases n : b ∈ cs
    · rw [againH_in n]
      exact e
    · rw [againH_ne n]
      exact ub.frzs b o v (by rw [freedH_ne n]; exact e)
  · obtain ⟨n, e'⟩ := thru e fun _ z => by cases z
    obtain ⟨more, e2⟩ := ub.tbls b ps e'
    exact ⟨more, by rw [againH_ne n]; exact e2⟩
  · by_cases n : a ∈ cs
    · obtain ⟨o, e⟩ := C a n
      have z := (no a n o e).1
      rw [fl.2.1] at z
      cases z
    · rw [againH_ne n]
      exact na
end
/-! ### thunks -/
def Firm (o : HO) : Prop := (∃ ob u, o = .frz ob u) ∨ ∃ φ, o = .ext φ
/-- at f stands what may be called without arguments, and then keeps sp -/
def Thk (P : Program) (w : World) (K : PySem.W.Frag) (mg : Str → Option Value) (base : Heap) (k : Nat) (H : Hp) (f : Addr) (sp : Hp → VK → XK → Prop) : Prop :=
  ∃ fs : List Addr, (∀ b ∈ fs, ∃ o, H b = some o ∧ Firm o) ∧ ∀ (A : Around) (outer : List Env) (s : Shared) (G : Hp), (∀ b ∈ fs, G b = H b) → Env0 P w K mg base A outer s G → PySem.W.FnAt f s.heap ∧ ∀ (Q : VK) (E : XK), Room k A → sp G Q E →
    codeAny (model P w) A (.call (.ref f) ⟨[], []⟩) (CR (L2.CX P w) outer P w G s Q E) s
theorem Thk.keep {P : Program} {w : World} {K : PySem.W.Frag} {mg : Str → Option Value} {base : Heap} {k : Nat} {H G : Hp} {f : Addr} {sp : Hp → VK → XK → Prop} (t : Thk P w K mg base k H f sp) (e : ∀ b o, H b = some o → Firm o → G b = some o) : Thk P w K mg base k G f sp := by
  obtain ⟨fs, h1, h2⟩ := t
  have q : ∀ b ∈ fs, G b = H b := fun b hb => by
    obtain ⟨o, ho, fo⟩ := h1 b hb
    rw [ho]
    exact e b o ho fo
  refine ⟨fs, fun b hb => ?_, fun A outer s G' hb => h2 A outer s G' fun b z => (hb b z).trans (q b z)⟩
  rw [q b hb]
  exact h1 b hb
theorem Thk.mono {P : Program} {w : World} {K : PySem.W.Frag} {mg : Str → Option Value} {base : Heap} {j k : Nat} {H : Hp} {f : Addr} {sp : Hp → VK → XK → Prop} (t : Thk P w K mg base j H f sp) (h : j ≤ k) : Thk P w K mg base k H f sp := by
  obtain ⟨fs, h1, h2⟩ := t
  exact ⟨fs, h1, fun A outer s G hb e0 => ⟨(h2 A outer s G hb e0).1, fun Q E hr => (h2 A outer s G hb e0).2 Q E (hr.mono h)⟩⟩
theorem Thk.imp {P : Program} {w : World} {K : PySem.W.Frag} {mg : Str → Option Value} {base : Heap} {k : Nat} {H : Hp} {f : Addr} {sp sp' : Hp → VK → XK → Prop} (t : Thk P w K mg base k H f sp) (h : ∀ G Q E, sp' G Q E → sp G Q E) : Thk P w K mg base k H f sp' := by
  obtain ⟨fs, h1, h2⟩ := t
  exact ⟨fs, h1, fun A outer s G hb e0 => ⟨(h2 A outer s G hb e0).1, fun Q E hr q => (h2 A outer s G hb e0).2 Q E hr (h G Q E q)⟩⟩
theorem Thk.imp2 {P : Program} {w : World} {K : PySem.W.Frag} {mg : Str → Option Value} {base : Heap} {k : Nat} {H : Hp} {f : Addr} {sp sp' : Hp → VK → XK → Prop} {cs : List Addr} (t : Thk P w K mg base k H f sp) (hc : ∀ b ∈ cs, ∃ o, H b = some o ∧ Firm o) (h : ∀ G Q E, (∀ b ∈ cs, G b = H b) → sp' G Q E → sp G Q E) : Thk P w K mg base k H f sp' := by
  obtain ⟨fs, h1, h2⟩ := t
  refine ⟨fs ++ cs, fun b hb => (List.mem_append.mp hb).elim (h1 b) (hc b), fun A outer s G hb e0 => ?_⟩
  obtain ⟨a1, a2⟩ := h2 A outer s G (fun b z => hb b (List.mem_append_left _ z)) e0
  exact ⟨a1, fun Q E hr q => a2 Q E hr (h G Q E (fun b z => hb b (List.mem_append_right _ z)) q)⟩
/-- what a lambda of the def of X keeps -/
structure LamOk (X : Cx) (k : Nat) (ar : Arguments) (bo : Expr) (sc : Scope) (t : XK → TE) : Prop where
  L : LamS X.env.scope sc
  bind : ∀ (q : Str) (cl : List (Str × Addr)) (pm cv ctv : Value), bindArgs (PySem.W.kla_fn "<lambda>" q ar bo sc cl pm cv ctv) ⟨[], []⟩ = pure []
  body : ∀ (A : Around) (outer : List Env) (s : Shared) (H : Hp) (E : XK) (f c' : Addr), Room k (A.deeper (lamEnv X sc s.heap.objs.size f c')) → PE (lamCx X A outer s H E sc f c') bo (t E)
/-- the captured cells, held -/
structure CapsAt (X : Cx) (sc : Scope) (σ : L2.St) (H : Hp) : Prop where
  inj : ∀ x y c, X.env.cells.lookup x = some c → X.env.cells.lookup y = some c → x = y
  at_ : ∀ y ∈ sc.names, y.2 = .free → ∃ (c : Addr) (o : Obj) (u : Option Value), X.env.cells.lookup y.1 = some c ∧ H c = some (celF o) ∧ o.data = .cell u ∧ ∀ (i : Nat) (v : V), X.N[i]? = some y.1 → σ[i]? = some (some v) → ∃ u', u = some u' ∧ RelV v u'
  len : σ.length = X.N.length
def capCs (X : Cx) (sc : Scope) : List Addr := csOf (cloFrom X.env.cells sc.names [])
theorem clo_in {X : Cx} {sc : Scope} (hfree : ∀ y ∈ sc.names, y.2 = .free → ∃ c, X.env.cells.lookup y.1 = some c) {x : Str} {c : Addr} (e : (cloFrom X.env.cells sc.names []).lookup x = some c) : (x, NameKind.free) ∈ sc.names ∧ X.env.cells.lookup x = some c := by
  rcases cloFrom_mem (PySem.mem_of_lookup e) with hm | ⟨h1, h2⟩
  · cases hm
  · obtain ⟨c1, hc⟩ := hfree _ h1 rfl
    have hc : X.env.cells.lookup x = some c1 := hc
    have e2 : c = c1 := by
      rw [h2, hc] <;> rfl
    rw [e2]
    exact ⟨h1, hc⟩
theorem clo_at {X : Cx} {sc : Scope} (hfree : ∀ y ∈ sc.names, y.2 = .free → ∃ c, X.env.cells.lookup y.1 = some c) {x : Str} (h : (x, NameKind.free) ∈ sc.names) : ∃ c, (cloFrom X.env.cells sc.names []).lookup x = some c :=
  mem_lookup (cloFrom_has (cells := X.env.cells) (acc := []) h)
/-- the lambda's body begins: its cells are let go -/
theorem lam_begin {X : Cx} {A : Around} {outer : List Env} {E : XK} {sc : Scope} {f c' : Addr} {σ : L2.St} {s : Shared} {H : Hp} {h1 : Heap} {tk : Nat} (L : LamS X.env.scope sc) (e0 : Env0 X.prog X.w X.K X.mg X.base A outer s H) (hd : A.handled = none)
    (C : CapsAt X sc σ H) (CF : CellsF (capCs X sc) H) (hns : h1.Ns s.heap.objs.size fun y => ([] : List (Str × Value)).reverse.lookup y) (kp : ∀ b o, s.heap.get? b = some o → h1.get? b = some o) :
    Inv (lamCx X A outer s (freedH (capCs X sc) H) E sc f c') [] σ (freedH (capCs X sc) H) { s with heap := h1, toks := tk } := by
  have ef := env0_freed e0 CF
  have hfree : ∀ y ∈ sc.names, y.2 = .free → ∃ c, X.env.cells.lookup y.1 = some c := fun y hy hk => by
    obtain ⟨c, _, _, e, _⟩ := C.at_ y hy hk
    exact ⟨c, e⟩
  have noA : ∀ b : Addr, b ∉ (lamCx X A outer s (freedH (capCs X sc) H) E sc f c').ex := fun b z => absurd (show b ∈ ([] : List Addr) from z) (by simp)
  have isC : ∀ {x : Str} {c : Addr}, (cloFrom X.env.cells sc.names []).lookup x = some c → ∃ (o : Obj) (u : Option Value), h1.get? c = some o ∧ o.data = .cell u ∧ ∀ (i : Nat) (v : V), X.N[i]? = some x → σ[i]? = some (some v) → ∃ u', u = some u' ∧ RelV v u' := fun {x c} e => by
    obtain ⟨hy, hc⟩ := clo_in hfree e
    obtain ⟨c2, o, u, e2, e3, e4, e5⟩ := C.at_ _ hy rfl
    have e2 : X.env.cells.lookup x = some c2 := e2
    rw [hc] at e2
    cases e2
    exact ⟨o, u, kp _ _ (e0.hok _ _ e3).1, e4, e5⟩
  refine ⟨⟨e0.mod, L.kind, rfl, rfl, Nat.le_refl _, fun y z c e1 e2 => C.inj y z c (clo_in hfree e1).2 (clo_in hfree e2).2, fun y hy => ?_, fun y c z _ => ?_, fun _ => hd, Around.frames_deeper e0.frames, .inr ⟨rfl, rfl⟩, fun b z => absurd z (noA b), ef.bs, e0.bsz,
      fun b _ _ => noA b, fun b z => absurd z (noA b), e0.funs, ef.frf⟩, rfl, e0.bare, Un.kept kp, ⟨_, hns, fun i y v e1 e2 e3 => ?_⟩, fun y c e => ?_, ef.hok.fresh (Nat.le_refl _), fun y c e => ?_, fun q hq => absurd (show q ∈ ([] : List (Addr × Obj)) ++ [] from hq) (by simp), ?_, C.len⟩
  · have hy : sc.names.lookup y = some .cell ∨ sc.names.lookup y = some .free := hy
    rcases hy with hy | hy
    · exact absurd rfl (L.own _ (PySem.mem_of_lookup hy)).2
    · exact clo_at hfree (PySem.mem_of_lookup hy)
  · have z : false = true := z
    cases z
  · have e3 : Vis sc y := e3
    rcases e3 with k | k | k
    · exact absurd rfl (L.own _ (PySem.mem_of_lookup k)).1
    · exact absurd rfl (L.own _ (PySem.mem_of_lookup k)).2
    · obtain ⟨c, hc⟩ := clo_at hfree (PySem.mem_of_lookup k)
      obtain ⟨o, u, g1, g2, g3⟩ := isC hc
      obtain ⟨u', eu, r⟩ := g3 i v e1 e2
      exact ⟨u', r, .inr ⟨.inr k, c, hc, o, g1, by rw [g2, eu]⟩⟩
  · obtain ⟨o, u, g1, g2, _⟩ := isC e
    exact ⟨u, o, g1, g2⟩
  · exact freedH_in (mem_csOf.mpr ⟨y, e⟩)
  · intro b o q
    exact (ef.hok b o q).stay (fun c v _ r => kp c v r) (fun _ r => r) fun _ _ r => r
theorem caps_cells {X : Cx} {sc : Scope} {σ : L2.St} {H : Hp} (C : CapsAt X sc σ H) : CellsF (capCs X sc) H := fun b hb => by
  obtain ⟨x, e⟩ := mem_csOf.mp hb
  have hfree : ∀ y ∈ sc.names, y.2 = .free → ∃ c, X.env.cells.lookup y.1 = some c := fun y hy hk => by
    obtain ⟨c, _, _, e, _⟩ := C.at_ y hy hk
    exact ⟨c, e⟩
  obtain ⟨hy, hc⟩ := clo_in hfree e
  obtain ⟨c2, o, u, e2, e3, _⟩ := C.at_ _ hy rfl
  have e2 : X.env.cells.lookup x = some c2 := e2
  rw [hc] at e2
  cases e2
  exact ⟨o, e3⟩
/-- how a thunk made of a lambda is read: its body, with the cells let go -/
def spLam (X : Cx) (sc : Scope) (σ : L2.St) (t : XK → TE) : Hp → VK → XK → Prop := fun H Q E =>
  t (fun cls d H' => Und (capCs X sc) H H' → E cls d (againH (capCs X sc) H H')) σ (freedH (capCs X sc) H) fun v H' => Und (capCs X sc) H H' → Q v (againH (capCs X sc) H H')
theorem thk_of {X : Cx} {k : Nat} {ar : Arguments} {bo : Expr} {sc : Scope} {t : XK → TE} {σ : L2.St} {H : Hp} {f c' : Addr} (O : LamOk X k ar bo sc t) (hf : H f = some (lamO (X.env.qual ++ "<lambda>") ar bo sc (cloFrom X.env.cells sc.names []) f c'))
    (hc : H c' = some (CodeO c' (X.env.qual ++ "<lambda>"))) (C : CapsAt X sc σ H) : Thk X.prog X.w X.K X.mg X.base (k + 1) H f (spLam X sc σ t) := by
  refine ⟨f :: c' :: capCs X sc, fun b hb => ?_, fun A outer s G hb e0 => ?_⟩
  · rcases List.mem_cons.mp hb with rfl | hb
    · exact ⟨_, hf, .inr ⟨_, rfl⟩⟩
    rcases List.mem_cons.mp hb with rfl | hb
    · exact ⟨_, hc, .inr ⟨_, rfl⟩⟩
    obtain ⟨o, e⟩ := caps_cells C b hb
    exact ⟨_, e, .inl ⟨_, _, rfl⟩⟩
  have hf' := (hb f List.mem_cons_self).trans hf
  have hc' := (hb c' (List.mem_cons_of_mem _ List.mem_cons_self)).trans hc
  have hfree : ∀ y ∈ sc.names, y.2 = .free → ∃ c, X.env.cells.lookup y.1 = some c := fun y hy hk => by
    obtain ⟨c, _, _, e, _⟩ := C.at_ y hy hk
    exact ⟨c, e⟩
  have C' : CapsAt X sc σ G := ⟨C.inj, fun y hy hk => by
    obtain ⟨c, o, u, e1, e2, e3, e4⟩ := C.at_ y hy hk
    obtain ⟨c1, h1⟩ := clo_at hfree (x := y.1) (sc := sc) (by rw [← hk]; exact hy)
    have h2 := (clo_in hfree h1).2
    rw [e1] at h2
    cases h2
    exact ⟨c, o, u, e1, (hb c (List.mem_cons_of_mem _ (List.mem_cons_of_mem _ (mem_csOf.mpr ⟨_, h1⟩)))).trans e2, e3, e4⟩, C.len⟩
  obtain ⟨pm, cv, of⟩ := lamO_at e0.hok hf'
  obtain ⟨⟨oc, vs, tt, hoc, hdc, hvc⟩, _, _⟩ := e0.hok c' _ hc'
  have lim : s.heap.NoLimit := e0.mod.nolimit.keeps fun b o e => (e0.bs b o e).1
  refine ⟨⟨_, _, _, _, of⟩, fun Q E hr q => ?_⟩
  refine PySem.W.kla_callFunE hr.depth of rfl O.L.co O.L.gen rfl ⟨c', oc, vs, tt, rfl, hoc, hdc, hvc⟩ ?_
  rw [O.bind]
  refine wpAny_pure (wpAny_newFunctionEnv (fun y hy => (O.L.own y hy).2) (fun y hy => absurd hy (by simp)) (fun h1 hns hsb => ⟨lim.fresh _ hsb, ?_⟩) O.L.kind)
  show codeAny _ _ (.expr bo (lamEnv X sc s.heap.objs.size f c')) _ _
  have kp : ∀ b o, s.heap.get? b = some o → h1.get? b = some o := fun b o e => hsb.extBut b o (Nat.ne_of_lt (Heap.lt_size e)) (Heap.get?_push_of_some _ e)
  have J := lam_begin (E := fun cls d H' => Und (capCs X sc) G H' → E cls d (againH (capCs X sc) G H')) (f := f) (c' := c') (tk := s.toks + ([] : List (Str × Value)).length) O.L e0 hr.hd C' (caps_cells C') hns kp
  refine PySem.W.kla_codeExpr (wpAny_mono ((O.body A outer s _ _ f c' (hr.deeper _)).run [] _ σ _ (fun v H' => Und (capCs X sc) G H' → Q v (againH (capCs X sc) G H')) J q) (fun v s' hq => ?_) fun e s' hq => ?_)
  · obtain ⟨v', H', J', rv, qq⟩ := hq
    exact CE_again e0 (caps_cells C') ⟨v', H', J'.os, J'.bare, J'.base, J'.hok, rv, qq⟩
  · exact wpAny_mono (show wpAny _ _ (leaving (lamEnv X sc s.heap.objs.size f c') e) _ _ s' from hq) (fun _ s2 z => CX_again e0 (caps_cells C') z) fun e2 s2 z => CX_again e0 (caps_cells C') z
/-! ### the rules: a lambda as a value, a thunk called, a def called while the cells are held -/
/-- a lambda of the def of X stands at f -/
def LamAt (X : Cx) (k : Nat) (H : Hp) (f : Addr) (t : XK → TE) : Prop := ∃ ar bo sc c', H f = some (lamO (X.env.qual ++ "<lambda>") ar bo sc (cloFrom X.env.cells sc.names []) f c') ∧ H c' = some (CodeO c' (X.env.qual ++ "<lambda>")) ∧ LamOk X k ar bo sc t
theorem LamAt.keep {X : Cx} {k : Nat} {H G : Hp} {f : Addr} {t : XK → TE} (l : LamAt X k H f t) (e : ∀ b o, H b = some o → Firm o → G b = some o) : LamAt X k G f t := by
  obtain ⟨ar, bo, sc, c', h1, h2, h3⟩ := l
  exact ⟨ar, bo, sc, c', e _ _ h1 (.inr ⟨_, rfl⟩), e _ _ h2 (.inr ⟨_, rfl⟩), h3⟩
def tLamV (X : Cx) (k : Nat) (T : List (Addr × Str)) (t : XK → TE) : TE := fun σ H Q => Tabs T H ∧ ∀ (f : Addr) (H1 : Hp), ExtN H H1 → (∀ b, H1 b = none → H b = none) → Tabs T H1 → H f = none → LamAt X k H1 f t → Q (.ref f) H1
theorem pe_lam {X : Cx} {k : Nat} {T : List (Addr × Str)} {c P : Addr} {ar : Arguments} {bo : Expr} {sc : Scope} {pos : Pos} {t : XK → TE} (TB : TabB X.base X.mg c P) (hcode : X.env.code = .ref c) (hm : (P, X.env.qual ++ "<lambda>") ∈ T) (hu : ∀ p ∈ T, p.1 = P → p.2 = X.env.qual ++ "<lambda>")
    (hdef : defaultsOf ar X.env = ([], [])) (O : LamOk X k ar bo sc t) : PE X (.Lambda ar bo sc pos) (tLamV X k T t) := by
  refine ⟨fun pins s σ H Q I h => ?_⟩
  obtain ⟨hT, h⟩ := h
  exact lam_new I TB hcode hm hu hT hdef (O.L.has I.ok) fun f c' H1 s' I1 eN fr T1 nf hf hc => ⟨.ref f, H1, I1, rfl, h f H1 eN fr T1 nf ⟨_, _, _, _, hf, hc, O⟩⟩
/-- how a call of a thunk is read -/
def rThk (P : Program) (w : World) (K : PySem.W.Frag) (mg : Str → Option Value) (base : Heap) (k i : Nat) (W : WX) : TE := fun σ H Q => ∃ f sp, σ[i]? = some (some (.ref f)) ∧ Thk P w K mg base k H f sp ∧ sp H Q (WE W σ)
/-- a(), a thunk held by a name -/
theorem pe_thk {X : Cx} {k i : Nat} {a : Str} {W : WX} {p1 p2 : Pos} (hN : X.N[i]? = some a) (hv : Vis X.env.scope a) (hr : Room k X.A) (tk : Takes X W) (hd : (a == ("__debug__" : Str)) = false := by decide) (hcd : (a == ("__classdict__" : Str)) = false := by decide) :
    PE X (.Call (.Name a p1) [] [] p2) (rThk X.prog X.w X.K X.mg X.base k i W) := by
  refine ⟨fun pins s σ H Q I h => ?_⟩
  obtain ⟨f, sp, hs, ht, q⟩ := h
  refine wpAny_Call_Name_kw (thn ((pe_var (pos := p1) (i := i) hN hv hd hcd).run pins s σ H (fun v H1 => v = .ref f ∧ H1 = H) I ⟨.ref f, hs, rfl, rfl⟩) fun u s1 ⟨v, H1, I1, r1, ev, eH⟩ => ?_)
  subst ev
  rw [eH] at I1
  obtain rfl : u = Value.ref f := r1
  obtain ⟨fs, _, h2⟩ := ht
  obtain ⟨fa, run⟩ := h2 X.A X.stack s1 H (fun _ _ => rfl) I1.env0
  refine PySem.W.callWith_F0 fa (wpAny_call (codeAny_mono (run Q (WE W σ) hr q) fun r s' hq => ?_))
  cases r with
  | error e => exact passAt tk σ pins H s1 e s' I1 hq
  | ok fl =>
    cases fl with
    | ret u => exact I1.after hq
    | next => exact False.elim hq
    | brk => exact False.elim hq
    | cont => exact False.elim hq
/-- the cells of X's frame as they stand in h -/
structure HeldAt (X : Cx) (σ : L2.St) (H : Hp) (h : Heap) : Prop where
  off : ∀ c ∈ csOf X.env.cells, H c = none
  inj : ∀ x y c, X.env.cells.lookup x = some c → X.env.cells.lookup y = some c → x = y
  at_ : ∀ x c, X.env.cells.lookup x = some c → ∃ (o : Obj) (u : Option Value), h.get? c = some o ∧ o.data = .cell u ∧ ∀ (i : Nat) (v : V), X.N[i]? = some x → σ[i]? = some (some v) → (X.env.scope.names.lookup x = some .cell ∨ X.env.scope.names.lookup x = some .free) → ∃ u', u = some u' ∧ RelV v u'
  has : ∀ x, (X.env.scope.names.lookup x = some .cell ∨ X.env.scope.names.lookup x = some .free) → ∃ c, X.env.cells.lookup x = some c
  len : σ.length = X.N.length
theorem held_of {X : Cx} {pins : List (Addr × Obj)} {σ : L2.St} {H : Hp} {s : Shared} (I : Inv X pins σ H s) : HeldAt X σ H s.heap := by
  refine ⟨fun c hc => ?_, I.ok.inj, fun x c e => ?_, I.ok.has, I.len⟩
  · obtain ⟨x, e⟩ := mem_csOf.mp hc
    exact I.freeC x c e
  · obtain ⟨u, o, ho, hd⟩ := I.cell x c e
    refine ⟨o, u, ho, hd, fun i v e1 e2 e3 => ?_⟩
    obtain ⟨m, _, hl⟩ := I.loc
    obtain ⟨u', r, q⟩ := hl i x v e1 e2 (.inr e3)
    rcases q with ⟨k, _⟩ | ⟨_, c2, e4, o2, ho2, hd2⟩
    · exfalso
      have k : X.env.scope.names.lookup x = some .local := k
      rcases e3 with z | z <;> rw [k] at z <;> cases z
    · rw [e] at e4
      cases e4
      rw [ho] at ho2
      cases ho2
      rw [hd] at hd2
      cases hd2
      exact ⟨u', rfl, r⟩
section
variable {X : Cx} {σ : L2.St} {H : Hp} {h : Heap}
theorem HeldAt.celF (hh : HeldAt X σ H h) : CellsF (csOf X.env.cells) (heldH (csOf X.env.cells) h H) := fun b hb => by
  obtain ⟨x, e⟩ := mem_csOf.mp hb
  obtain ⟨o, u, ho, _⟩ := hh.at_ x b e
  exact ⟨o, by unfold heldH; rw [if_pos hb, ho]; rfl⟩
theorem HeldAt.same (hh : HeldAt X σ H h) : Same H (heldH (csOf X.env.cells) h H) := fun b o e => by
  rw [heldH_ne fun z => ?_]
  · exact e
  · rw [hh.off b z] at e
    cases e
theorem HeldAt.caps (hh : HeldAt X σ H h) {sc : Scope} (L : LamS X.env.scope sc) : CapsAt X sc σ (heldH (csOf X.env.cells) h H) := by
  refine ⟨hh.inj, fun y hy e => ?_, hh.len⟩
  have k := L.free y hy e
  obtain ⟨c, hc⟩ := hh.has _ k
  obtain ⟨o, u, h1, h2, h3⟩ := hh.at_ _ _ hc
  refine ⟨c, o, u, hc, ?_, h2, fun i v e1 e2 => h3 i v e1 e2 k⟩
  unfold heldH
  rw [if_pos (mem_csOf.mpr ⟨_, hc⟩), h1]
  rfl
theorem capCs_sub {sc : Scope} (hh : HeldAt X σ H h) (L : LamS X.env.scope sc) : ∀ b ∈ capCs X sc, b ∈ csOf X.env.cells := fun b hb => by
  obtain ⟨x, e⟩ := mem_csOf.mp hb
  exact mem_csOf.mpr ⟨x, (clo_in (fun y hy k => hh.has _ (L.free y hy k)) e).2⟩
/-- G is H' where the cells cs are held -/
structure Back (cs : List Addr) (H' G : Hp) : Prop where
  ne : ∀ b, b ∉ cs → G b = H' b
  cel : ∀ b ∈ cs, ∃ o, G b = some (celF o)
  off : ∀ b o, H' b = some o → (∀ ob, o ≠ celF ob) → b ∉ cs
/-- a lambda of a def that runs, as a thunk, while the cells are held -/
theorem LamAt.thk {k : Nat} {f : Addr} {t : XK → TE} (l : LamAt X k H f t) (hh : HeldAt X σ H h) : ∃ sp, Thk X.prog X.w X.K X.mg X.base (k + 1) (heldH (csOf X.env.cells) h H) f sp ∧
    ∀ (Q : VK) (E : XK), (∀ (H0 : Hp) (R : (Hp → Prop) → Hp → Prop), Same H H0 → (∀ b, H0 b = none → H b = none) → (∀ (C : Hp → Prop) (H' : Hp), (∀ G, Back (csOf X.env.cells) H' G → C G) → R C H') →
      t (fun cls d H' => R (E cls d) H') σ H0 fun v H' => R (Q v) H') → sp (heldH (csOf X.env.cells) h H) Q E := by
  obtain ⟨ar, bo, sc, c', h1, h2, O⟩ := l
  have hs := hh.same
  refine ⟨_, thk_of O (hs _ _ h1) (hs _ _ h2) (hh.caps O.L), fun Q E q => ?_⟩
  have sub := capCs_sub hh O.L
  have cf := hh.celF
  have bk : ∀ H', Und (capCs X sc) (heldH (csOf X.env.cells) h H) H' → Back (csOf X.env.cells) H' (againH (capCs X sc) (heldH (csOf X.env.cells) h H) H') := fun H' u => by
    have hcel : ∀ b ∈ csOf X.env.cells, b ∉ capCs X sc → ∃ o, H' b = some (celF o) := fun b hb n => by
      obtain ⟨o, e⟩ := cf b hb
      exact ⟨o, u.frz b o _ (by rw [freedH_ne n]; exact e)⟩
    refine ⟨fun b n => againH_ne fun z => n (sub b z), fun b hb => ?_, fun b o e ne hb => ?_⟩
    · by_cases n : b ∈ capCs X sc
      · rw [againH_in n]
        exact cf b hb
      · rw [againH_ne n]
        exact hcel b hb n
    · by_cases n : b ∈ capCs X sc
      · rw [u.off b n] at e
        cases e
      · obtain ⟨o', e'⟩ := hcel b hb n
        rw [e] at e'
        exact ne o' (Option.some.inj e')
  refine q (freedH (capCs X sc) (heldH (csOf X.env.cells) h H)) (fun C H' => Und (capCs X sc) (heldH (csOf X.env.cells) h H) H' → C (againH (capCs X sc) (heldH (csOf X.env.cells) h H) H')) (fun b o e => ?_) (fun b e => ?_) fun C H' z u => z _ (bk H' u)
  · rw [freedH_ne fun z => ?_]
    · exact hs b o e
    · rw [hh.off b (sub b z)] at e
      cases e
  · by_cases n : b ∈ csOf X.env.cells
    · exact hh.off b n
    · rw [freedH_ne (fun z => n (sub b z)), heldH_ne n] at e
      exact e
end
/-! ### a def called while the cells of the caller's frame are held -/
section
variable {X : Cx} {pins : List (Addr × Obj)} {σ : L2.St} {H : Hp} {s s' : Shared}
theorem env0_held (I : Inv X pins σ H s) (hfn : ∀ x, X.fn x = true) : Env0 X.prog X.w X.K X.mg X.base X.A X.stack s (heldH (csOf X.env.cells) s.heap H) := by
  have e0 := I.env0
  have hh := held_of I
  have ge : ∀ c ∈ csOf X.env.cells, X.s_0.heap.objs.size ≤ c := fun c hc => by
    obtain ⟨x, e⟩ := mem_csOf.mp hc
    exact I.ok.cab x c (hfn x) e
  refine ⟨e0.frames, e0.mod, fun b o q => ⟨(e0.bs b o q).1, ?_⟩, e0.bsz, e0.funs, fun b hb => ?_, fun b o e => ?_, e0.bare⟩
  · rw [heldH_ne fun z => ?_]
    · exact (e0.bs b o q).2
    · exact absurd (Nat.lt_of_lt_of_le (Heap.lt_size q) (Nat.le_trans I.ok.bsz (ge b z))) (Nat.lt_irrefl _)
  · rw [heldH_ne fun z => ?_]
    · exact e0.frf b hb
    · rcases List.mem_cons.mp (I.stkSub b hb) with e | hb
      · obtain ⟨x, q⟩ := mem_csOf.mp z
        exact I.cne x b q e
      · obtain ⟨_, o, ho, _⟩ := I.ok.funs.mem hb
        exact absurd (Nat.lt_of_lt_of_le (Heap.lt_size ho) (ge b z)) (Nat.lt_irrefl _)
  · by_cases hb : b ∈ csOf X.env.cells
    · obtain ⟨x, q⟩ := mem_csOf.mp hb
      obtain ⟨ob, u, ho, _⟩ := hh.at_ x b q
      unfold heldH at e
      rw [if_pos hb, ho] at e
      cases e
      exact ⟨ho, trivial, ⟨ob, ho⟩, fun _ _ _ _ => trivial⟩
    · rw [heldH_ne hb] at e
      refine (e0.hok b o e).stay (fun _ _ _ q => q) (fun d q => hh.same d _ q) fun d xs q => hh.same d _ q
/-- behind such a call -/
theorem ce_held {Q : VK} {u : Value} (I : Inv X pins σ H s) (hfn : ∀ x, X.fn x = true) (q : CE X.stack X.prog X.w (heldH (csOf X.env.cells) s.heap H) s (fun v G => CellsF (csOf X.env.cells) G → Q v (freedH (csOf X.env.cells) G)) u s') : CE X.stack X.prog X.w H s Q u s' := by
  obtain ⟨v, G, os, bare, un, hok, r, qq⟩ := q
  have hh := held_of I
  have cf : CellsF (csOf X.env.cells) G := fun b hb => by
    obtain ⟨o, e⟩ := hh.celF b hb
    exact ⟨o, un.frzs b o _ e⟩
  refine ⟨v, freedH (csOf X.env.cells) G, os, bare, ⟨fun b o e n hb hx => ?_, fun b o e n hb hx => ?_, fun b o e n hx => ?_, fun b o e hx => un.there b o e hx, fun b xs e => ?_, fun b o v e => ?_, fun b ps e => ?_⟩, hok_freed hok cf, r, qq cf⟩
  · by_cases z : b ∈ csOf X.env.cells
    · obtain ⟨ob, e2⟩ := hh.celF b z
      have h1 := ((env0_held I hfn).hok b _ e2).1
      rw [e] at h1
      cases h1
      exact (hok b _ (un.frzs b _ _ e2)).1
    · exact un.keep b o e (by rw [heldH_ne z]; exact n) hb hx
  · by_cases z : b ∈ csOf X.env.cells
    · obtain ⟨ob, e2⟩ := hh.celF b z
      have h1 := ((env0_held I hfn).hok b _ e2).1
      rw [e] at h1
      cases h1
      exact ⟨o.slots, (hok b _ (un.frzs b _ _ e2)).1⟩
    · exact un.slot b o e (by rw [heldH_ne z]; exact n) hb hx
  · by_cases z : b ∈ csOf X.env.cells
    · exact freedH_in z
    · rw [freedH_ne z]
      exact un.free b o e (by rw [heldH_ne z]; exact n) hx
  · have z : b ∉ csOf X.env.cells := fun z => by
      rw [hh.off b z] at e
      cases e
    rw [freedH_ne z]
    exact un.tups b xs (by rw [heldH_ne z]; exact e)
  · have z : b ∉ csOf X.env.cells := fun z => by
      rw [hh.off b z] at e
      cases e
    rw [freedH_ne z]
    exact un.frzs b o v (by rw [heldH_ne z]; exact e)
  · have z : b ∉ csOf X.env.cells := fun z => by
      rw [hh.off b z] at e
      cases e
    obtain ⟨more, q⟩ := un.tbls b ps (by rw [heldH_ne z]; exact e)
    exact ⟨more, by rw [freedH_ne z]; exact q⟩
end
/-- what is wanted behind a call while the cells are held -/
def HeldQ (X : Cx) (Q : VK) : VK := fun v G => CellsF (csOf X.env.cells) G → Q v (freedH (csOf X.env.cells) G)
def tCallH (X : Cx) (sp : Sp) (t : TA) : TE := fun σ H Q => t σ H fun vs H1 => ∀ h : Heap, HeldAt X σ H1 h → sp vs (heldH (csOf X.env.cells) h H1) (HeldQ X Q) L2.E0
/-- x(e, ..), the cells of X's frame held meanwhile -/
theorem pe_callH {X : Cx} {k : Nat} {f : Addr} {fd : FuncData} {ps : List Str} {sp : Sp} {x : Str} {p pos : Pos} {e : Expr} {es : List Expr} {t : TA} (F : FnOk X.prog X.w X.K X.mg X.base L2.CX0 k f fd ps sp) (hr : Room k X.A) (hg : Gl X x) (hm : X.mg x = some (.ref f)) (hk : PySem.W.keepIn X.K (.ref f) = true) (hb : Binds X.K fd ps [])
    (ha : PA X (e :: es) t) (hfn : ∀ x, X.fn x = true := by intro _; rfl) (hdb : (x == ("__debug__" : Str)) = false := by decide) (he : starEach (e :: es) X.env = (false, eval e X.env) :: starEach es X.env := by rfl) (hpl : (backTo pos (starEach es X.env)).any (·.1) = false := by rfl) :
    PE X (.Call (.Name x p) (e :: es) [] pos) (tCallH X sp t) := by
  refine ⟨fun pins s σ H Q I h => ?_⟩
  refine wpAny_Call_Name_kw (ld_glob I hg hm ?_ hdb)
  refine PySem.W.callWith_K (h₀ := X.base) I.ok.mod.kin hk (thn (ha.run pos pins s σ H _ I h) fun us s1 ⟨vs, H1, I1, r, q⟩ => ⟨I1.kIn, ?_⟩) he hpl
  have q := q s1.heap (held_of I1)
  have hl : us.length = ps.length := by
    rw [← r.length]
    exact F.len _ _ _ _ q
  have hl : (us ++ []).length = ps.length := by rw [List.append_nil]; exact hl
  have r2 : Vals vs (us ++ []) := by rw [List.append_nil]; exact r
  refine wpAny_call (codeAny_mono (F.run X.A X.stack s1 _ ⟨us, []⟩ (us ++ []) vs _ _ hr (env0_held I1 hfn) (hb s1 us I1.kIn hl) r2 q) fun r s' hq => ?_)
  cases r with
  | error e => exact False.elim hq
  | ok fl =>
    cases fl with
    | ret u => exact I1.after (ce_held I1 hfn hq)
    | next => exact False.elim hq
    | brk => exact False.elim hq
    | cont => exact False.elim hq
/-- what a tuple that was made while cells were held looks like behind -/
theorem freed_made {cs : List Addr} {H' G : Hp} {p : Addr} {o : HO} (bk : Back cs H' G) (np : G p = none) : p ∉ cs ∧ freedH cs (upd G p o) = upd (freedH cs H') p o := by
  have n : p ∉ cs := fun z => by
    obtain ⟨ob, e⟩ := bk.cel p z
    rw [np] at e
    cases e
  refine ⟨n, funext fun b => ?_⟩
  by_cases hb : b ∈ cs
  · rw [freedH_in hb, upd_ne (fun (z : b = p) => n (z ▸ hb)), freedH_in hb]
  · rw [freedH_ne hb]
    by_cases hp : b = p
    · rw [hp, upd_same, upd_same]
    · rw [upd_ne hp, upd_ne hp, freedH_ne hb, bk.ne b hb]

/-! ### defs that hand out lambdas: their cells are held from then on -/
/-- the end of a body: what is handed back, the cells held -/
def SPR (X : Cx) (R : VK) (f : Flow) (s' : Shared) : Prop := match f with
  | .ret u => ∃ (pins : List (Addr × Obj)) (v : V) (σ' : L2.St) (H' : Hp), Inv X pins σ' H' s' ∧ RelV v u ∧ R v (heldH (csOf X.env.cells) s'.heap H')
  | _ => False
structure PSr (X : Cx) (st : List Stmt) (t : VK → L2.St → Hp → Prop) : Prop where
  run : ∀ (pins : List (Addr × Obj)) (s : Shared) (σ : L2.St) (H : Hp) (R : VK), Inv X pins σ H s → t R σ H → wpAny (model X.prog X.w) X.A (execs st X.env) (SPR X R) X.xe s
def endR (u : L2.St → Hp → Prop) : Ends := { nx := u, rt := fun _ _ => False }
section
variable {X : Cx} {st : Stmt} {rest : List Stmt} {t : TS} {u : VK → L2.St → Hp → Prop} {e c : Expr} {te : TE} {tc : TT} {pos : Pos}
theorem psr_cons (h1 : PS X st t) (h2 : PSr X rest u) : PSr X (st :: rest) (fun R σ H => t (endR (u R)) σ H) := by
  refine ⟨fun pins s σ H R I h => wpAny_execs_cons (thn (h1.run pins s σ H (endR (u R)) I h) fun f s1 q => ?_)⟩
  cases f with
  | next =>
    obtain ⟨σ', H', I', q⟩ := q
    exact h2.run pins s1 σ' H' R I' q
  | ret v =>
    obtain ⟨_, _, _, _, _, z⟩ := q
    exact False.elim z
  | brk =>
    obtain ⟨_, _, _, z⟩ := q
    exact False.elim z
  | cont =>
    obtain ⟨_, _, _, z⟩ := q
    exact False.elim z
theorem psr_ret (he : PE X e te) : PSr X [.Return (some e) pos] (fun R σ H => te σ H fun v H1 => ∀ h, HeldAt X σ H1 h → R v (heldH (csOf X.env.cells) h H1)) := by
  refine ⟨fun pins s σ H R I h => wpAny_execs_cons (wpAny_Return_some (thn (he.run pins s σ H _ I h) fun v s1 q => ?_))⟩
  obtain ⟨x, H1, I1, r, q⟩ := q
  exact ⟨pins, x, σ, H1, I1, r, q s1.heap (held_of I1)⟩
theorem psr_if {a b : List Stmt} {ta tb : VK → L2.St → Hp → Prop} (hc : PT X c tc) (ha : PSr X a ta) (hb : PSr X b tb) : PSr X [.If c a b pos] (fun R σ H => tc σ H fun d H1 => if d = true then ta R σ H1 else tb R σ H1) := by
  refine ⟨fun pins s σ H R I h => wpAny_execs_cons (thn (wpAny_If (Q := SPR X R) (thn (hc.run pins s σ H _ I h) fun d s1 ⟨H1, I1, q1⟩ => ?_)) fun f s1 q => ?_)⟩
  · cases d with
    | true => exact ha.run pins s1 σ H1 R I1 q1
    | false => exact hb.run pins s1 σ H1 R I1 q1
  · cases f with
    | next => exact False.elim q
    | ret v => exact q
    | brk => exact q
    | cont => exact q
/-- if c: a; rest, where a hands something back -/
theorem psr_ifr {a : List Stmt} {ta : VK → L2.St → Hp → Prop} (hc : PT X c tc) (ha : PSr X a ta) (hb : PSr X rest u) : PSr X (.If c a [] pos :: rest) (fun R σ H => tc σ H fun d H1 => if d = true then ta R σ H1 else u R σ H1) := by
  refine ⟨fun pins s σ H R I h => wpAny_execs_cons (thn (wpAny_If (Q := fun f s' => match f with | .next => wpAny (model X.prog X.w) X.A (execs rest X.env) (SPR X R) X.xe s' | f => SPR X R f s') (thn (hc.run pins s σ H _ I h) fun d s1 ⟨H1, I1, q1⟩ => ?_)) fun f s1 q => ?_)⟩
  · cases d with
    | true =>
      refine thn (ha.run pins s1 σ H1 R I1 q1) fun f s2 q => ?_
      cases f with
      | next => exact False.elim q
      | ret v => exact q
      | brk => exact q
      | cont => exact q
    | false => exact wpAny_execs_nil (hb.run pins s1 σ H1 R I1 q1)
  · cases f with
    | next => exact q
    | ret v => exact q
    | brk => exact q
    | cont => exact q
end
/-- THE RULE for such a def -/
theorem FunL.okD {P : Program} {w : World} {K : PySem.W.Frag} {mg : Str → Option Value} {base : Heap} {x qual : Str} {st : Stmt} {f c : Addr} {fd : FuncData} {N ps : List Str} {k : Nat} {sp : Sp} (F : FunL K x qual st f fd c) (S : FnScope N ps (defScope st)) (len : ∀ vs H Q E, sp vs H Q E → vs.length = ps.length)
    (hbody : ∀ (A : Around) (outer : List Env) (s : Shared) (H : Hp) (vs : List V) (Q : VK) (E : XK), Room k (A.deeper (envOfC qual (defScope st) s.heap.objs.size f (.ref c))) → sp vs H Q E → ∃ t, PSr (cxOf C8.CX0 P w K mg base N qual (defScope st) f (.ref c) A outer s H E) (defBody st) t ∧ t Q (L2.start N vs) H) :
    FnOk P w K mg base CX0 (k + 1) f fd ps sp := by
  obtain ⟨oc, od, kV, doc, pm, an, ct, osl, e, lk, hcd⟩ := F.ex
  refine ⟨len, fun A outer s H args us vs Q E hr e0 hbt r h => ?_⟩
  rw [e] at lk hbt
  have hl := len _ _ _ _ h
  have keep : ∀ b o, base.get? b = some o → s.heap.get? b = some o := fun b o e => (e0.bs b o e).1
  have par : ∀ y ∈ ps.zip us, (defScope st).names.lookup y.1 = some .local ∨ ((defScope st).names.lookup y.1 = some .cell ∧ ((cellsFrom (s.heap.objs.size + 1) (defScope st).names []).lookup y.1).isSome = true) := fun ⟨n, v⟩ hy => by
    rcases S.par n (List.of_mem_zip hy).1 with q | q
    · exact .inl q
    · exact .inr ⟨q, PySem.W.cellsFrom_some _ _ _ (.inl q)⟩
  refine codeAny_call_function hr.depth ((e0.mod.kin.keeps keep) _ _ lk) rfl S.co S.gen rfl (PySem.W.codeRec_of (e0.mod.kin.keeps keep) hcd) (hbt _ _ _ _ ?_)
  refine wpAny_newFunctionEnv_cells S.kind par fun env he s1 z => ?_
  subst he
  refine ⟨(e0.mod.nolimit.keeps keep).keeps z.toInCall.keep, codeAny_func ?_⟩
  obtain ⟨t, ht, hq⟩ := hbody A outer s H vs Q E (hr.deeper _) h
  have I := inv_start (CX := C8.CX0) (E := E) (f := f) (cd := Value.ref c) S hr.hd e0 hl r z
  refine wpAny_mono (ht.run [] s1 (L2.start N vs) H Q I hq) (fun fl s' hs => ?_) fun e s' hs => hs
  cases fl with
  | next => exact False.elim hs
  | brk => exact False.elim hs
  | cont => exact False.elim hs
  | ret u =>
    obtain ⟨pins, v, σ', H', J, rv, q⟩ := hs
    have hh := held_of J
    have ge : ∀ b ∈ csOf (cxOf C8.CX0 P w K mg base N qual (defScope st) f (.ref c) A outer s H E).env.cells, s.heap.objs.size ≤ b := fun b hb => by
      obtain ⟨y, q⟩ := mem_csOf.mp hb
      exact J.ok.cab y b rfl q
    have nin : ∀ {b : Addr} {o : HO}, H' b = some o → b ∉ csOf (cxOf C8.CX0 P w K mg base N qual (defScope st) f (.ref c) A outer s H E).env.cells := fun {b o} e z => by
      rw [hh.off b z] at e
      cases e
    refine ⟨v, _, J.os, J.bare, ⟨J.base.keep, J.base.slot, fun b o e n hx => ?_, J.base.there, fun b xs e => ?_, fun b o y e => ?_, fun b ts e => ?_⟩, (env0_held J (fun _ => rfl)).hok, rv, q⟩
    · rw [heldH_ne fun z => ?_]
      · exact J.base.free b o e n hx
      · exact absurd (Nat.lt_of_lt_of_le (Heap.lt_size e) (ge b z)) (Nat.lt_irrefl _)
    · have e' := J.base.tups b xs e
      rw [heldH_ne (nin e')]
      exact e'
    · have e' := J.base.frzs b o y e
      rw [heldH_ne (nin e')]
      exact e'
    · obtain ⟨more, e'⟩ := J.base.tbls b ts e
      exact ⟨more, by rw [heldH_ne (nin e')]; exact e'⟩
/-- how a thunk is read whose cells are held for good -/
def spD (t : XK → TE) (σ : L2.St) : Hp → VK → XK → Prop := fun G Q E => ∀ (H0 : Hp) (R : (Hp → Prop) → Hp → Prop), (∀ b o, G b = some o → (∀ ob, o ≠ celF ob) → H0 b = some o) →
  (∀ (C : Hp → Prop) (H' : Hp), Same H0 H' → (∀ G', Same G G' → (∀ b o, H' b = some o → G' b = some o) → C G') → R C H') → t (fun cls d H' => R (E cls d) H') σ H0 fun v H' => R (Q v) H'
theorem LamAt.thkD {X : Cx} {σ : L2.St} {H : Hp} {h : Heap} {k : Nat} {f : Addr} {t : XK → TE} (l : LamAt X k H f t) (hh : HeldAt X σ H h) : Thk X.prog X.w X.K X.mg X.base (k + 1) (heldH (csOf X.env.cells) h H) f (spD t σ) := by
  obtain ⟨ar, bo, sc, c', h1, h2, O⟩ := l
  have hs := hh.same
  have sub := capCs_sub hh O.L
  refine (thk_of O (hs _ _ h1) (hs _ _ h2) (hh.caps O.L)).imp2 (cs := capCs X sc) (fun b hb => ?_) fun G Q E hG q => ?_
  · obtain ⟨o, e⟩ := hh.celF b (sub b hb)
    exact ⟨_, e, .inl ⟨_, _, rfl⟩⟩
  · refine q (freedH (capCs X sc) G) (fun C H' => Und (capCs X sc) G H' → C (againH (capCs X sc) G H')) (fun b o e ne => ?_) fun C H' s0 z u => z _ (fun b o e => ?_) fun b o e => ?_
    · rw [freedH_ne fun z => ?_]
      · exact e
      · obtain ⟨ob, e2⟩ := hh.celF b (sub b z)
        rw [hG b z, e2] at e
        exact ne ob (Option.some.inj e).symm
    · by_cases n : b ∈ capCs X sc
      · rw [againH_in n]
        exact e
      · rw [againH_ne n]
        exact s0 b o (by rw [freedH_ne n]; exact e)
    · rw [againH_ne fun n => ?_]
      · exact e
      · rw [u.off b n] at e
        cases e

/-! ### what a call comes to, as a law asks it: ('told', value) or the error's tuple -/
/-- an error of one of these classes has come: the tuple is made -/
def MetX (rs : List (Addr × Str × Str)) (Q : VK) : XK := fun cls d H' => ∃ (C : Addr) (tag fld : Str) (dd : Addr) (v : V), (C, tag, fld) ∈ rs ∧ cls = .ref C ∧ d = some dd ∧ H' dd = some (.xd [(fld, v)]) ∧ ∀ o, H' o = none → Q (.ref o) (upd H' o (.tup [.str tag, v, .bl true]))
def spMet (P : Program) (w : World) (K : PySem.W.Frag) (mg : Str → Option Value) (base : Heap) (k : Nat) (rs : List (Addr × Str × Str)) : Sp := fun vs H Q _ => ∃ (f : Addr) (sp : Hp → VK → XK → Prop), vs = [.ref f] ∧ Thk P w K mg base k H f sp ∧
  ∀ (Q' : VK) (E' : XK), (∀ v H', (∀ p, H' p = none → Q (.ref p) (upd H' p (.tup [.str "told", v]))) → Q' v H') → (∀ cls d H', MetX rs Q cls d H' → E' cls d H') → sp H Q' E'
/-- what has been made while the cells were held is there when they are let go -/
def Over (H' G : Hp) : Prop := ∀ b o, H' b = some o → (∀ ob, o ≠ celF ob) → G b = some o
/-- asked of a lambda that is made on the spot -/
theorem met_live {X : Cx} {σ : L2.St} {H1 : Hp} {h : Heap} {k kk : Nat} {t : XK → TE} {f : Addr} {rs : List (Addr × Str × Str)} {Q : VK} {E : XK} (hh : HeldAt X σ H1 h) (l : LamAt X k H1 f t) (hk : k + 1 ≤ kk)
    (q : ∀ (H0 : Hp) (told : VK) (err : XK), Same H1 H0 → (∀ b, H0 b = none → H1 b = none) →
      (∀ v H', Same H0 H' → (∀ p Hf, Same H1 Hf → Over H' Hf → Hf p = some (.tup [.str "told", v]) → Q (.ref p) Hf) → told v H') →
      (∀ C tag fld dd v H', (C, tag, fld) ∈ rs → Same H0 H' → H' dd = some (.xd [(fld, v)]) → (∀ p Hf, Same H1 Hf → Hf p = some (.tup [.str tag, v, .bl true]) → Q (.ref p) Hf) → err (.ref C) (some dd) H') →
      t err σ H0 told) :
    spMet X.prog X.w X.K X.mg X.base kk rs [.ref f] (heldH (csOf X.env.cells) h H1) (HeldQ X Q) E := by
  obtain ⟨sp, th, run⟩ := l.thk hh
  refine ⟨f, sp, rfl, th.mono hk, fun Q' E' hQ hE => run Q' E' fun H0 R s1 fr hR => ?_⟩
  have fin : ∀ {H' G : Hp} {p : Addr} {o : HO}, Same H0 H' → Back (csOf X.env.cells) H' G → G p = none → (∀ ob, o ≠ celF ob) →
      (Same H1 (freedH (csOf X.env.cells) (upd G p o)) ∧ Over H' (freedH (csOf X.env.cells) (upd G p o))) ∧ freedH (csOf X.env.cells) (upd G p o) p = some o := fun {H' G p o} s' bk np ne => by
    obtain ⟨n, e⟩ := freed_made (o := o) bk np
    rw [e]
    have up : ∀ b u, b ∉ csOf X.env.cells → H' b = some u → upd (freedH (csOf X.env.cells) H') p o b = some u := fun b u nb hb => by
      have nbp : b ≠ p := fun z => by
        rw [← z, bk.ne b nb, hb] at np
        cases np
      rw [upd_ne nbp, freedH_ne nb]
      exact hb
    refine ⟨⟨fun b u hb => up b u (fun z => ?_) (s' b u (s1 b u hb)), fun b u hb nu => up b u (bk.off b u hb nu) hb⟩, upd_same⟩
    rw [hh.off b z] at hb
    cases hb
  refine q H0 (fun v H' => R (Q' v) H') (fun cls d H' => R (E' cls d) H') s1 fr (fun v H' s' qq => hR _ _ fun G bk => hQ v G fun p np _ => ?_) (fun C tag fld dd v H' hm s' hd qq => hR _ _ fun G bk => hE _ _ _ ?_)
  · obtain ⟨⟨a1, a2⟩, a3⟩ := fin (o := .tup [.str "told", v]) s' bk np (fun ob z => by cases z)
    exact qq p _ a1 a2 a3
  · refine ⟨C, tag, fld, dd, v, hm, rfl, rfl, ?_, fun p np _ => ?_⟩
    · rw [bk.ne dd (bk.off dd _ hd fun ob z => by cases z)]
      exact hd
    · obtain ⟨⟨a1, _⟩, a3⟩ := fin (o := .tup [.str tag, v, .bl true]) s' bk np (fun ob z => by cases z)
      exact qq p _ a1 a3

/-! ### what stands behind draws, lambdas and calls -/
/-- lists and tuples stand as they stood -/
def KLT (H H' : Hp) : Prop := ∀ b o, H b = some o → (∃ xs, o = .lst xs ∨ o = .tup xs) → H' b = some o
theorem KLT.refl {H : Hp} : KLT H H := fun _ _ e _ => e
theorem KLT.trans {H H1 H2 : Hp} (x : KLT H H1) (y : KLT H1 H2) : KLT H H2 := fun b o e h => y b o (x b o e h) h
theorem klt_same {H H' : Hp} (s : Same H H') : KLT H H' := fun b o e _ => s b o e
theorem klt_but {d : Addr} {kvs : List (Key × V)} {H H' : Hp} (s : But d H H') (hd : H d = some (.dK kvs)) : KLT H H' := fun b o e ⟨xs, h⟩ => s b o e (ne_of e hd (by rcases h with rfl | rfl <;> intro z <;> cases z))
theorem klt_ext {H H' : Hp} (s : LamX.ExtN H H') : KLT H H' := fun b o e ⟨xs, h⟩ => s b o e fun ps z => by rcases h with rfl | rfl <;> cases z
theorem KLT.lst {H H' : Hp} (k : KLT H H') {b : Addr} {xs : List V} (e : H b = some (.lst xs)) : H' b = some (.lst xs) := k _ _ e ⟨_, .inl rfl⟩
theorem KLT.tup {H H' : Hp} (k : KLT H H') {b : Addr} {xs : List V} (e : H b = some (.tup xs)) : H' b = some (.tup xs) := k _ _ e ⟨_, .inr rfl⟩
theorem Pen.ext {H H' : Hp} {d c : Addr} {n : Nat} (p : Pen H d c n) (s : LamX.ExtN H H') : Pen H' d c n := by
  obtain ⟨ns, t, l, q, e⟩ := p
  exact ⟨ns, t, l, ⟨s _ _ q.dc (fun ps z => by unfold penD at z; cases z), s _ _ q.cs (fun ps z => by cases z), q.len, q.t0⟩, e⟩
theorem tabs_but {TT : List (Addr × Str)} {d : Addr} {kvs : List (Key × V)} {H H' : Hp} (h : LamX.Tabs TT H) (s : But d H H') (hd : H d = some (.dK kvs)) : LamX.Tabs TT H' := fun p hp => by
  obtain ⟨ps, h1, h2, h3⟩ := h p hp
  refine ⟨ps, s _ _ h1 (ne_of h1 hd (by intro z; cases z)), h2, fun pos cv hc => ?_⟩
  obtain ⟨c, e1, e2⟩ := h3 pos cv hc
  exact ⟨c, e1, s _ _ e2 (ne_of e2 hd (by intro z; unfold LamX.CodeO at z; cases z))⟩
/-- a pen, and the tables of code objects -/
structure PT2 (TT : List (Addr × Str)) (H : Hp) (d c : Addr) (n : Nat) : Prop where
  pen : Pen H d c n
  tabs : LamX.Tabs TT H
theorem PT2.same {TT : List (Addr × Str)} {H H' : Hp} {d c : Addr} {n : Nat} (p : PT2 TT H d c n) (s : Same H H') : PT2 TT H' d c n := ⟨p.pen.same s, p.tabs.ext s⟩
theorem PT2.but {TT : List (Addr × Str)} {H H' : Hp} {d c : Addr} {n m : Nat} (p : PT2 TT H d c n) (q : Pen H' d c m) (s : But d H H') : PT2 TT H' d c m ∧ KLT H H' := by
  obtain ⟨_, hd⟩ := p.pen.dict
  exact ⟨⟨q, tabs_but p.tabs s hd⟩, klt_but s hd⟩
theorem PT2.up {TT : List (Addr × Str)} {H : Hp} {d c : Addr} {n m : Nat} (p : PT2 TT H d c n) (h : n ≤ m) : PT2 TT H d c m := ⟨p.pen.up h, p.tabs⟩

/-! ### != by an own __eq__ (object.__ne__ turns its answer round), own == beside ints and tuples -/
inductive EqTy2 (H : Hp) : V → Value → Prop where
  | str (y : Str) : EqTy2 H (.str y) (.type "str")
  | int (i : Int) : EqTy2 H (.int i) (.type "int")
  | ins {p C : Addr} {dx : Addr} {fs : List (Str × V)} (e : H p = some (.ins C dx fs)) : EqTy2 H (.ref p) (.ref C)
  | tup {p : Addr} {xs : List V} (e : H p = some (.tup xs)) : EqTy2 H (.ref p) (.type "tuple")
theorem eqTy2_looks {X : Cx} {pins : List (Addr × Obj)} {σ : L2.St} {H : Hp} {s : Shared} {y : V} {u tb : Value} (I : Inv X pins σ H s) (ty : EqTy2 H y tb) (ry : RelV y u) : PySem.W.Looks (model X.prog X.w) s.heap (typeOf u) tb := by
  cases ty with
  | str z =>
    obtain ⟨t, q⟩ := (show ∃ t, u = Value.str z t from ry)
    cases q
    exact .now
  | int i =>
    obtain ⟨t, q⟩ := (show ∃ t, u = Value.int i t from ry)
    cases q
    exact .now
  | @ins b C' dy gs e =>
    cases (show u = Value.ref b from ry)
    obtain ⟨mB, J', _⟩ := ins_get I.hok e
    obtain ⟨od', J', _⟩ := J'.look
    exact J'.type
  | @tup b xs e =>
    cases (show u = Value.ref b from ry)
    obtain ⟨_, its, _, ob, ho, hc, _⟩ := I.hok b _ e
    rw [← hc]
    exact (PySem.W.Looks.ld ho).andThen .now
def rEqOwn2 (K : PySem.W.Frag) (C : Addr) (sp : Sp) : R2 := fun x y H Q => ∃ (p dx : Addr) (fs : List (Str × V)) (tb : Value), x = .ref p ∧ H p = some (.ins C dx fs) ∧ EqTy2 H y tb ∧ PySem.W.notFirst K C tb = true ∧ sp [x, y] H (fun v H' => (∃ b, v = .bl b) ∧ Q v H') L2.E0
def rNeOwn2 (K : PySem.W.Frag) (C : Addr) (sp : Sp) : R2 := fun x y H Q => ∃ (p dx : Addr) (fs : List (Str × V)) (tb : Value), x = .ref p ∧ H p = some (.ins C dx fs) ∧ EqTy2 H y tb ∧ PySem.W.notFirst K C tb = true ∧ sp [x, y] H (fun v H' => ∃ b, v = .bl b ∧ Q (.bl (!b)) H') L2.E0
theorem op_eq_own2 {X : Cx} {n : Nat} {C f : Addr} {fd : FuncData} {ps : List Str} {sp : Sp} (F : FnOk X.prog X.w X.K X.mg X.base L2.CX0 n f fd ps sp) (hr : Room n X.A)
    (hs : PySem.W.findIn X.K (.ref C) "__eq__" = some (some (.ref f))) (hf : PySem.W.isFn X.K (.ref f) = true) (hb : Binds X.K fd ps []) : OpR X (compareOp .Eq) (rEqOwn2 X.K C sp) := by
  rintro pins s σ H x y v u Q I rx ry ⟨p, dx, fs, tb, rfl, hp, ty, hn, hsp⟩
  cases rx
  obtain ⟨mA, J, _⟩ := ins_get I.hok hp
  obtain ⟨od, J, _⟩ := J.look
  obtain ⟨m, hF⟩ := I.fr
  have hT := eqTy2_looks I ty ry
  show wpAny (model X.prog X.w) X.A (richCompare .Eq (.ref p) u) (EP X pins σ Q) X.xe s
  refine PySem.W.cmp_K (op := .Eq) (tb := tb) hr.units0 hF I.ok.mod.kin J hT hn hs hf ?_
  refine wpAny_mono (run_fn F hr hb .nil pass0 I (show Vals [V.ref p, y] [Value.ref p, u] from .cons rfl (.cons ry .nil)) hsp) (fun w s' z => ?_) fun _ _ h => h
  obtain ⟨z, H', I', rz, ⟨b, ez⟩, q⟩ := z
  subst ez
  cases (show w = Value.bool b from rz)
  exact ⟨.bl b, H', I', rfl, q⟩
theorem op_ne_own2 {X : Cx} {n : Nat} {C f : Addr} {fd : FuncData} {ps : List Str} {sp : Sp} (F : FnOk X.prog X.w X.K X.mg X.base L2.CX0 n f fd ps sp) (hr : Room (n + 1) X.A)
    (hs : PySem.W.findIn X.K (.ref C) "__eq__" = some (some (.ref f))) (hne : PySem.W.findIn X.K (.ref C) "__ne__" = some (some (.builtin "object.__ne__"))) (hob : PySem.W.mroIn X.K C (.type "object") = some true) (hf : PySem.W.isFn X.K (.ref f) = true) (hb : Binds X.K fd ps []) : OpR X (compareOp .NotEq) (rNeOwn2 X.K C sp) := by
  rintro pins s σ H x y v u Q I rx ry ⟨p, dx, fs, tb, rfl, hp, ty, hn, hsp⟩
  cases rx
  obtain ⟨mA, J, _⟩ := ins_get I.hok hp
  obtain ⟨od, J, _⟩ := J.look
  have hT := eqTy2_looks I ty ry
  have kX := I.kIn
  have r2 : Vals [V.ref p, y] [Value.ref p, u] := .cons rfl (.cons ry .nil)
  have hl : [Value.ref p, u].length = ps.length := by
    have e := F.len _ _ _ _ hsp
    exact e
  -- the own == is asked by object.__ne__
  have run : codeAny (model X.prog X.w) X.A (.call (.builtin "object.__ne__") ⟨[.ref p, u], []⟩) (fun r s' => ∃ b : Bool, r = .ok (.ret (.bool (!b))) ∧ ∃ H', Inv X pins σ H' s' ∧ Q (.bl (!b)) H') s := by
    have sub : PySem.W.Looks (model X.prog X.w) s.heap (isInstance (.ref p) (.type "object")) true := J.type.andThen (PySem.W.looks_mroIn kX hob)
    refine codeAny_call_builtin PySem.F.cmp_object.ne.plain PySem.F.cmpEntry_ne (PySem.W.check_slot PySem.F.cmpKind_ne PySem.F.cmpSplit_ne sub (PySem.F.cmpArgs_ne _ _) ?_)
    unfold Builtin.«object.__ne__»
    have hu1 : X.A.in1.units < cLine := (hr.in1).units0
    rw [show slotArgs "__ne__" 1 ⟨[.ref p, u], []⟩ = pure (.ref p, [u]) from rfl]
    refine wpAny_bind (wpAny_pure (wpAny_bind (wpAny_cRoomFor hu1 (wpAny_bind (PySem.W.ifBound_K kX J hs hf ?_)))))
    have inner : wpAny (model X.prog X.w) X.A.in1 (call (.ref f) [.ref p, u]) (fun w s' => ∃ b, w = .bool b ∧ ∃ H', Inv X pins σ H' s' ∧ Q (.bl (!b)) H') (fun e s' => ∃ b : Bool, (Except.error e : Result) = .ok (.ret (.bool (!b))) ∧ ∃ H', Inv X pins σ H' s' ∧ Q (.bl (!b)) H') s := by
      refine wpAny_call (codeAny_mono (F.run X.A.in1 X.stack s H ⟨[.ref p, u], []⟩ [.ref p, u] [V.ref p, y] _ _ hr.in1 I.env0.in1 (hb s [.ref p, u] kX hl) r2 hsp) fun r s' hq => ?_)
      cases r with
      | error e => exact False.elim hq
      | ok fl =>
        cases fl with
        | ret w =>
          obtain ⟨v', H', I', rz, b, ez, q⟩ := I.after hq
          subst ez
          exact ⟨b, rz, H', I', q⟩
        | next => exact False.elim hq
        | brk => exact False.elim hq
        | cont => exact False.elim hq
    refine wpAny_mono inner (fun w s' hq => ?_) fun _ _ h => h
    obtain ⟨b, rfl, H', I', q⟩ := hq
    refine wpAny_bind (wpAny_truthy_bool ?_)
    exact wpAny_pure ⟨b, rfl, H', I', q⟩
  have one : wpAny (model X.prog X.w) X.A (tryCompare (.ref p) "__ne__" u) (fun r s' => ∃ v, r = some v ∧ EP X pins σ Q v s') X.xe s := by
    unfold tryCompare
    simp only [callSpecialIfBound?, bindSpecialIfBound?]
    refine wpAny_bind (wpAny_holding (wpAny_bind (wpAny_bind (wpAny_bind (J.type.here ((PySem.W.looks_findIn kX hne).here ?_))))))
    simp only [PySem.F.cmp_object.ne.bind]
    have fin : wpAny (model X.prog X.w) X.A (call (.builtin "object.__ne__") [.ref p, u]) (fun v s' => ∃ b : Bool, v = .bool (!b) ∧ ∃ H', Inv X pins σ H' s' ∧ Q (.bl (!b)) H') X.xe s := wpAny_call (codeAny_mono run fun r s' hq => by
      obtain ⟨b, rfl, hq⟩ := hq
      exact ⟨b, rfl, hq⟩)
    refine wpAny_bind (wpAny_askSetting (wpAny_ite ?_))
    split
    · refine wpAny_bind (wpAny_pure (wpAny_pure ?_))
      show wpAny _ _ (call (.builtin "object.__ne__") ([.ref p] ++ [u]) >>= fun v => pure (some v)) _ _ _
      refine wpAny_bind (wpAny_mono fin (fun v s' hq => ?_) fun _ _ h => h)
      obtain ⟨b, rfl, H', I', q⟩ := hq
      exact wpAny_pure (wpAny_pure ⟨_, rfl, .bl (!b), H', I', rfl, q⟩)
    · refine wpAny_tryCatch (wpAny_bind (wpAny_pure (wpAny_pure ?_)))
      show wpAny _ _ (call (.builtin "object.__ne__") ([.ref p] ++ [u]) >>= fun v => pure (some v)) _ _ _
      refine wpAny_bind (wpAny_mono fin (fun v s' hq => ?_) fun _ _ h => h)
      obtain ⟨b, rfl, H', I', q⟩ := hq
      exact wpAny_pure (wpAny_pure ⟨_, rfl, .bl (!b), H', I', rfl, q⟩)
  show wpAny (model X.prog X.w) X.A (richCompare .NotEq (.ref p) u) (EP X pins σ Q) X.xe s
  unfold richCompare
  simp only [oneThing_ref]
  refine wpAny_holding (wpAny_bind (wpAny_cRoomFor hr.units0 ?_))
  refine wpAny_bind (J.type.here (wpAny_bind (hT.here ?_)))
  split
  · rename_i q
    have e : PySem.W.subIn X.K tb (.ref C) = some false := by
      rcases Bool.or_eq_true_iff.mp hn with e | e
      · rw [beq_iff_eq.mp e] at q
        simp at q
      · exact beq_iff_eq.mp e
    refine wpAny_bind ((PySem.W.looks_subIn kX e).here ?_)
    simp only [Bool.false_eq_true, if_false]
    refine wpAny_bind (wpAny_mono one (fun r s' z => ?_) fun _ _ e => e)
    obtain ⟨v, rfl, hq⟩ := z
    exact wpAny_pure hq
  · refine wpAny_bind (wpAny_pure ?_)
    simp only [Bool.false_eq_true, if_false]
    refine wpAny_bind (wpAny_mono one (fun r s' z => ?_) fun _ _ e => e)
    obtain ⟨v, rfl, hq⟩ := z
    exact wpAny_pure hq

/-! ### a list comprehension whose element may know what its block began with -/
section
variable {X : Cx}
/-- PE X e t, where the block's beginning is known to be a state of the def -/
theorem pe_lcG {elt tg iter : Expr} {scope : Scope} {own : List (Str × Nat)} {pos : Pos} {wi : TI} {g : TG} {te : L2.St → TE} (calm : X.calm = true) (nod : X.N.Nodup) (hi : PI X tg iter wi) (bk : BlkOk X.N X.env.scope scope own)
    (hg : ∀ (z : Shared) (G : Hp) (C : Addr) (cl : List (Str × Addr)) (fp : List Addr), PG (X.blk z G scope (compEnvC scope cl C X.env) fp) tg g)
    (he : ∀ (pins : List (Addr × Obj)) (σ : L2.St) (z : Shared) (G : Hp) (C : Addr) (cl : List (Str × Addr)) (fp : List Addr), Inv X pins σ G z → (∀ b ∈ fp, FpOk X pins G b) → PE (X.blk z G scope (compEnvC scope cl C X.env) fp) elt (te σ))
    (hs : ∀ x, foldedSetIterable iter X.env x = pure x := by intro _; rfl) :
    PE X (.ListComp elt [⟨tg, iter, [], 0⟩] scope pos) (fun σ H Q => tLc wi g tYes (te σ) (own.map (·.2)) σ H Q) := by
  refine ⟨fun pins s σ H Q I h => ?_⟩
  rw [eval_ListComp]
  have fr : ∀ y ∈ scope.names, y.2 = .free → ∃ c, X.env.cells.lookup y.1 = some c := fun y hy e => (bk.free y hy e).elim (fun k => I.ok.has _ (.inl k)) fun k => I.ok.has _ (.inr k)
  refine wpAny_comprehension_free (use := none) rfl hs (closure_ok fr) bk.kind (fun y hy e => (bk.uniq y hy).trans (congrArg some e)) (thn (hi.run pins s σ H _ I h) fun _ _ ha => thn ha fun _ a hb => ?_)
  obtain ⟨it, fp, tn, J, H2, rfl, I2, T, t0, f0, ask⟩ := hb
  refine wpAny_newObj_type (newEnv_comp ?_) (show 0 ≤ sizeLine by decide)
  -- the new list stands at D
  obtain ⟨D, hD⟩ : ∃ D, D = a.heap.objs.size := ⟨_, rfl⟩
  rw [← hD]
  obtain ⟨W, ⟨m0, w0⟩, turn⟩ := ask D (I2.hok.fresh (Nat.le_of_eq hD.symm))
  obtain ⟨b, hb⟩ : ∃ b : Shared, b = { a with heap := a.heap.push { cls := .type "list", data := .seq ([] : List Value).toArray } } := ⟨_, rfl⟩
  rw [← hb]
  have bh : b.heap = a.heap.push { cls := .type "list", data := .seq ([] : List Value).toArray } := by rw [hb]
  have pushes : ∀ c o, a.heap.get? c = some o → b.heap.get? c = some o := fun c o e => by
    rw [bh]
    exact Heap.get?_push_of_some _ e
  have I3 : Inv X pins σ (upd H2 D (.lst [])) b := by
    rw [hb]
    refine I2.laid (t' := a.toks) (fun _ _ e => Heap.get?_push_of_some _ e) (Nat.le_of_eq hD.symm) ⟨Nat.zero_le _, [], 0, .nil, ?_⟩
    rw [hD]
    exact Heap.get?_push_size _ rfl
  have lt : ∀ c ∈ fp, c < a.heap.objs.size := fun c hc => by
    obtain ⟨o, e, _⟩ := T.obj _ _ t0 c hc
    exact Heap.lt_size e
  have f1 : ∀ c ∈ fp, FpOk X pins (upd H2 D (.lst [])) c ∧ c < b.heap.objs.size := fun c hc => by
    have l := lt c hc
    refine ⟨⟨?_, (f0 c hc).2⟩, ?_⟩
    · rw [upd_ne (by rw [hD]; exact Nat.ne_of_lt l)]
      exact (f0 c hc).1
    · rw [bh, Heap.size_push]
      exact Nat.lt_succ_of_lt l
  have t1 : tn 0 b.heap := T.keep _ _ _ t0 fun c _ o e => pushes c o e
  have I4 := block_start I3 bk nod f1
  have off1 : ∀ c ∈ fp, (upd H2 D (.lst [])) c = none := fun c hc => (f1 c hc).1.1
  obtain ⟨G, hG⟩ : ∃ G, G = upd H2 D (.lst []) := ⟨_, rfl⟩
  rw [← hG] at I3 I4 f1 w0 off1
  have pg := hg b G b.heap.objs.size (cellsFrom (b.heap.objs.size + 1) scope.names (cloFrom X.env.cells scope.names [])) fp
  have pe := he pins σ b G b.heap.objs.size (cellsFrom (b.heap.objs.size + 1) scope.names (cloFrom X.env.cells scope.names [])) fp I3 fun c hc => (f1 c hc).1
  obtain ⟨ce, hce⟩ : ∃ ce, ce = compEnvC scope (cellsFrom (b.heap.objs.size + 1) scope.names (cloFrom X.env.cells scope.names [])) b.heap.objs.size X.env := ⟨_, rfl⟩
  rw [← hce] at I4 pg pe
  have cL : ce.locals = b.heap.objs.size := by rw [hce]; rfl
  obtain ⟨d, hd⟩ : ∃ d : Shared, d = { b with heap := pushCells (b.heap.push { cls := .type "dict", data := .dict #[] }) scope.names } := ⟨_, rfl⟩
  rw [← hd] at I4
  have t2 : tn 0 d.heap := T.keep _ _ _ t1 fun c _ o e => by
    rw [hd]
    exact pushCells_keeps _ _ _ _ (Heap.get?_push_of_some _ e)
  have rec_ : ∀ {σ' : L2.St} {H' : Hp} {s' : Shared}, Inv (X.blk b G scope ce fp) [] σ' H' s' → (∀ c ∈ fp, H' c = none) → ∀ c ∈ fp, FpOk (X.blk b G scope ce fp) [] H' c := fun {σ' H' s'} I' n c hc =>
    ⟨n c hc, (I'.ok.exf c hc).1, I'.ok.exfs c hc, .inl hc, fun x k e => (I'.ok.exf c hc).2 x k e, fun p hp => absurd (show p ∈ ([] : List (Addr × Obj)) ++ [] from hp) (by simp)⟩
  have loop : codeAny (model X.prog X.w) X.A (.compLoop (.ListComp elt [⟨tg, iter, [], 0⟩] scope pos) 0 (.ref it) (.ref D) ce) (compPost (model X.prog X.w) X.A X.xe none (EP X pins σ Q) (.ref D) b.heap.objs.size) d := by
    refine compLoop_any (fun n z => ∃ i K, Inv (X.blk b G scope ce fp) [] (wipe σ (own.map (·.2))) K z ∧ tn i z.heap ∧ (∀ c ∈ fp, K c = none) ∧ W i n K) ?_ m0 ⟨0, G, I4, t2, off1, w0⟩
    rintro n z ⟨i, K, IK, tK, nK, wK⟩
    rcases turn i n K wK with ⟨stop, fin⟩ | ⟨go, Nx, hNx, step⟩
    · refine thnF (T.done (X.blk b G scope ce fp) rfl rfl rfl calm i [] z _ K (fun _ _ => False) IK (rec_ IK nK) tK stop) fun r y ⟨hr, Iy⟩ => ?_
      subst hr
      have back : Inv X pins σ K y := I3.call' (ch := fp) Iy.os Iy.base Iy.hok Iy.bare fun c hc => ⟨(f1 c hc).1.2.2.2.1, (f1 c hc).1.2.1, (f1 c hc).1.2.2.2.2.1, (f1 c hc).1.2.2.2.2.2⟩
      have nL : K b.heap.objs.size = none := by
        have q : K ce.locals = none := Iy.free
        rw [cL] at q
        exact q
      obtain ⟨m, hn, _⟩ := Iy.loc
      have hn : y.heap.Ns ce.locals m := hn
      rw [cL] at hn
      refine ⟨m, hn, fun h'' sb => ?_⟩
      obtain ⟨_, g1, _, g3, g4, g5⟩ := I3.fpOk (H' := K) (Nat.le_refl _) nL
      exact ⟨.ref D, K, back.turned (t' := y.toks) (fun c o hc e => (sb.2 c hc).trans e) nL g1 g3 g4 g5, rfl, fin⟩
    · refine thnF (T.item (X.blk b G scope ce fp) rfl rfl rfl calm i [] z _ K (fun _ _ => False) IK (rec_ IK nK) tK go) fun r y ⟨u, hr, hy⟩ => ?_
      subst hr
      refine thnF hy fun _ y2 ⟨x, K2, I5, r5, yl, t5, n5⟩ => ?_
      refine thnF (pg.run _ y2 _ K2 x u _ (I5.pinned (rec_ I5 n5) (T.obj _ _ t5)) r5 (step x K2 yl)) fun _ y3 ⟨σ3, K3, I6, hw, q6⟩ => ?_
      refine wpAny_pure ?_
      simp only [if_true]
      have q6 : te σ σ3 K3 _ := q6
      refine thnF (pe.run _ y3 σ3 K3 _ I6 q6) fun v y4 ⟨yv, K4, I7, r7, acc, hDa, hz, nx⟩ => app_ok (X := X.blk b G scope ce fp) I7 hDa hz r7 fun y5 I8 => ?_
      obtain ⟨m', hm, w'⟩ := hNx _ nx
      have pin : ∀ c ∈ fp, ∀ o, y2.heap.get? c = some o → y5.heap.get? c = some o ∧ (upd K4 D (.lst (acc ++ [yv]))) c = none := fun c hc o e =>
        let q := I8.pin (c, o) (List.mem_append_right _ (List.mem_append_right _ (mem_pinsAt hc e)))
        ⟨q.1, q.2.1⟩
      refine ⟨m', hm, i + 1, _, (I8.unpinned (pins := [])).weak (by rw [← hw, wipe_length]) (fun j v e => ?_), T.keep _ _ _ t5 fun c hc o e => (pin c hc o e).1, fun c hc => ?_, w'⟩
      · rw [← hw] at e
        exact (wipe_some e).1
      · obtain ⟨o, e, _⟩ := T.obj _ _ t5 c hc
        exact (pin c hc o e).2
  have whole : codeAny (model X.prog X.w) X.A (.compStart (.ListComp elt [⟨tg, iter, [], 0⟩] scope pos) 0 (.ref it) (.ref D) ce) (compPost (model X.prog X.w) X.A X.xe none (EP X pins σ Q) (.ref D) b.heap.objs.size) d :=
    codeAny_compStart_list loop (T.self X.A 0 _ _ _ t2 loop)
  rw [hce, hd] at whole
  exact whole
end

/-! ### calls while the cells of a frame are held, also out of a block of its def -/
structure Hold (base : Heap) (fr : List Addr) (cs : List Addr) (H : Hp) (h : Heap) : Prop where
  off : ∀ c ∈ cs, H c = none
  cel : ∀ c ∈ cs, ∃ o, h.get? c = some o
  bas : ∀ c ∈ cs, base.objs.size ≤ c
  frm : ∀ c ∈ cs, c ∉ fr
section
variable {base : Heap} {fr cs : List Addr} {H : Hp} {h : Heap}
theorem Hold.celF (x : Hold base fr cs H h) : CellsF cs (heldH cs h H) := fun b hb => by
  obtain ⟨o, e⟩ := x.cel b hb
  exact ⟨o, by unfold heldH; rw [if_pos hb, e]; rfl⟩
theorem Hold.same (x : Hold base fr cs H h) : Same H (heldH cs h H) := fun b o e => by
  rw [heldH_ne fun z => ?_]
  · exact e
  · rw [x.off b z] at e
    cases e
end
section
variable {P : Program} {w : World} {K : PySem.W.Frag} {mg : Str → Option Value} {base : Heap} {A : Around} {outer : List Env} {s s' : Shared} {H : Hp} {cs : List Addr}
theorem env0_hold (e0 : Env0 P w K mg base A outer s H) (x : Hold base (frs outer) cs H s.heap) : Env0 P w K mg base A outer s (heldH cs s.heap H) := by
  refine ⟨e0.frames, e0.mod, fun b o q => ⟨(e0.bs b o q).1, ?_⟩, e0.bsz, e0.funs, fun b hb => ?_, fun b o e => ?_, e0.bare⟩
  · rw [heldH_ne fun z => ?_]
    · exact (e0.bs b o q).2
    · exact absurd (Nat.lt_of_lt_of_le (Heap.lt_size q) (x.bas b z)) (Nat.lt_irrefl _)
  · rw [heldH_ne fun z => x.frm b z hb]
    exact e0.frf b hb
  · by_cases hb : b ∈ cs
    · obtain ⟨ob, ho⟩ := x.cel b hb
      unfold heldH at e
      rw [if_pos hb, ho] at e
      cases e
      exact ⟨ho, trivial, ⟨ob, ho⟩, fun _ _ _ _ => trivial⟩
    · rw [heldH_ne hb] at e
      refine (e0.hok b o e).stay (fun _ _ _ q => q) (fun d q => x.same d _ q) fun d xs q => x.same d _ q
theorem ce_hold {Q : VK} {u : Value} (e0 : Env0 P w K mg base A outer s H) (x : Hold base (frs outer) cs H s.heap) (q : CE outer P w (heldH cs s.heap H) s (fun v G => CellsF cs G → Q v (freedH cs G)) u s') : CE outer P w H s Q u s' := by
  obtain ⟨v, G, os, bare, un, hok, r, qq⟩ := q
  have cf : CellsF cs G := fun b hb => by
    obtain ⟨o, e⟩ := x.celF b hb
    exact ⟨o, un.frzs b o _ e⟩
  have stands : ∀ b ∈ cs, ∀ o, s.heap.get? b = some o → s'.heap.get? b = some o := fun b z o e => by
    obtain ⟨ob, e2⟩ := x.celF b z
    have h1 := ((env0_hold e0 x).hok b _ e2).1
    rw [e] at h1
    cases h1
    exact (hok b _ (un.frzs b _ _ e2)).1
  refine ⟨v, freedH cs G, os, bare, ⟨fun b o e n hb hx => ?_, fun b o e n hb hx => ?_, fun b o e n hx => ?_, fun b o e hx => un.there b o e hx, fun b xs e => ?_, fun b o v e => ?_, fun b ps e => ?_⟩, hok_freed hok cf, r, qq cf⟩
  · by_cases z : b ∈ cs
    · exact stands b z o e
    · exact un.keep b o e (by rw [heldH_ne z]; exact n) hb hx
  · by_cases z : b ∈ cs
    · exact ⟨o.slots, stands b z o e⟩
    · exact un.slot b o e (by rw [heldH_ne z]; exact n) hb hx
  · by_cases z : b ∈ cs
    · exact freedH_in z
    · rw [freedH_ne z]
      exact un.free b o e (by rw [heldH_ne z]; exact n) hx
  · have z : b ∉ cs := fun z => by
      rw [x.off b z] at e
      cases e
    rw [freedH_ne z]
    exact un.tups b xs (by rw [heldH_ne z]; exact e)
  · have z : b ∉ cs := fun z => by
      rw [x.off b z] at e
      cases e
    rw [freedH_ne z]
    exact un.frzs b o v (by rw [heldH_ne z]; exact e)
  · have z : b ∉ cs := fun z => by
      rw [x.off b z] at e
      cases e
    obtain ⟨more, q⟩ := un.tbls b ps (by rw [heldH_ne z]; exact e)
    exact ⟨more, by rw [freedH_ne z]; exact q⟩
end
section
variable {X : Cx} {pins : List (Addr × Obj)} {σ : L2.St} {G : Hp} {b : Shared} {scope : Scope} {ce : Env} {fp : List Addr}
/-- in a block of X's def that began at b: X's cells stand there as they stood -/
theorem blk_cells {q : List (Addr × Obj)} {τ : L2.St} {H : Hp} {s : Shared} (I0 : Inv X pins σ G b) (hfn : ∀ x, X.fn x = true) (f0 : ∀ c ∈ fp, FpOk X pins G c) (I : Inv (X.blk b G scope ce fp) q τ H s) :
    HeldAt X σ H s.heap ∧ Hold X.base (frs X.stack) (csOf X.env.cells) H s.heap := by
  have fr : ∀ x c, X.env.cells.lookup x = some c → c ∉ frs X.stack := fun x c e z => by
    rcases List.mem_cons.mp (I0.stkSub c z) with k | k
    · exact I0.cne x c e k
    · obtain ⟨_, o, ho, _⟩ := I0.ok.funs.mem k
      exact absurd (Nat.lt_of_lt_of_le (Heap.lt_size ho) (I0.ok.cab x c (hfn x) e)) (Nat.lt_irrefl _)
  have nfp : ∀ x c, X.env.cells.lookup x = some c → c ∉ fp := fun x c e z => (f0 c z).2.2.2.2.1 x c e rfl
  have st : ∀ x c, X.env.cells.lookup x = some c → ∀ o, b.heap.get? c = some o → s.heap.get? c = some o := fun x c e o ho =>
    I.base.keep c o ho (I0.freeC x c e) (fr x c e) (nfp x c e)
  have off : ∀ x c, X.env.cells.lookup x = some c → H c = none := fun x c e => by
    obtain ⟨u, o, ho, _⟩ := I0.cell x c e
    exact I.base.free c o ho (I0.freeC x c e) (nfp x c e)
  have h0 := held_of I0
  refine ⟨⟨fun c hc => ?_, h0.inj, fun x c e => ?_, h0.has, h0.len⟩, ⟨fun c hc => ?_, fun c hc => ?_, fun c hc => ?_, fun c hc => ?_⟩⟩
  · obtain ⟨x, e⟩ := mem_csOf.mp hc
    exact off x c e
  · obtain ⟨o, u, h1, h2, h3⟩ := h0.at_ x c e
    exact ⟨o, u, st x c e o h1, h2, h3⟩
  · obtain ⟨x, e⟩ := mem_csOf.mp hc
    exact off x c e
  · obtain ⟨x, e⟩ := mem_csOf.mp hc
    obtain ⟨u, o, ho, _⟩ := I0.cell x c e
    exact ⟨o, st x c e o ho⟩
  · obtain ⟨x, e⟩ := mem_csOf.mp hc
    exact Nat.le_trans I0.ok.bsz (I0.ok.cab x c (hfn x) e)
  · obtain ⟨x, e⟩ := mem_csOf.mp hc
    exact fr x c e
def tCallB (X : Cx) (sp : Sp) (t : TA) (σ : L2.St) : TE := fun τ H Q => t τ H fun vs H1 => ∀ h : Heap, HeldAt X σ H1 h → sp vs (heldH (csOf X.env.cells) h H1) (HeldQ X Q) L2.E0
/-- x(e, ..) in a block, the cells of the def's frame held meanwhile -/
theorem pe_callBk (I0 : Inv X pins σ G b) (f0 : ∀ c ∈ fp, FpOk X pins G c) {k : Nat} {f : Addr} {fd : FuncData} {ps : List Str} {sp : Sp} {x : Str} {p pos : Pos} {e : Expr} {es : List Expr} {t : TA} (F : FnOk X.prog X.w X.K X.mg X.base L2.CX0 k f fd ps sp) (hr : Room k X.A) (hg : Gl (X.blk b G scope ce fp) x) (hm : X.mg x = some (.ref f)) (hk : PySem.W.keepIn X.K (.ref f) = true) (hb : Binds X.K fd ps [])
    (ha : PA (X.blk b G scope ce fp) (e :: es) t) (hfn : ∀ x, X.fn x = true := by intro _; rfl) (hdb : (x == ("__debug__" : Str)) = false := by decide) (he : starEach (e :: es) ce = (false, eval e ce) :: starEach es ce := by rfl) (hpl : (backTo pos (starEach es ce)).any (·.1) = false := by rfl) :
    PE (X.blk b G scope ce fp) (.Call (.Name x p) (e :: es) [] pos) (tCallB X sp t σ) := by
  refine ⟨fun pins' s τ H Q I h => ?_⟩
  refine wpAny_Call_Name_kw (ld_glob I hg hm ?_ hdb)
  refine PySem.W.callWith_K (h₀ := X.base) I.ok.mod.kin hk (thn (ha.run pos pins' s τ H _ I h) fun us s1 ⟨vs, H1, I1, r, q⟩ => ⟨I1.kIn, ?_⟩) he hpl
  obtain ⟨hh, hd⟩ := blk_cells I0 hfn f0 I1
  have q := q s1.heap hh
  have e0 : Env0 X.prog X.w X.K X.mg X.base X.A X.stack s1 H1 := I1.env0
  have hl : us.length = ps.length := by
    rw [← r.length]
    exact F.len _ _ _ _ q
  have hl : (us ++ []).length = ps.length := by rw [List.append_nil]; exact hl
  have r2 : Vals vs (us ++ []) := by rw [List.append_nil]; exact r
  refine wpAny_call (codeAny_mono (F.run X.A X.stack s1 _ ⟨us, []⟩ (us ++ []) vs _ _ hr (env0_hold e0 hd) (hb s1 us I1.kIn hl) r2 q) fun r s' hq => ?_)
  cases r with
  | error e => exact False.elim hq
  | ok fl =>
    cases fl with
    | ret u => exact I1.after (ce_hold e0 hd hq)
    | next => exact False.elim hq
    | brk => exact False.elim hq
    | cont => exact False.elim hq
end

/-! ### pieces of rearrangements that are told by runs -/
structure Pc where
  s : Int
  l : Int
  g : Int
  w : Int
/-- the pieces stand one behind the other, from lo to hi -/
def Chain : Int → Int → List Pc → Prop
  | lo, hi, [] => lo = hi
  | lo, hi, p :: r => p.s = lo ∧ 1 ≤ p.l ∧ (p.w = 1 ∨ p.w = -1) ∧ Chain (lo + p.l) hi r
/-- where place j comes from -/
def valP : List Pc → Int → Int
  | [], j => j
  | p :: r, j => if j < p.s + p.l then p.g + p.w * (j - p.s) else valP r j
theorem Chain.le : ∀ {r : List Pc} {lo hi : Int}, Chain lo hi r → lo ≤ hi
  | [], _, _, h => by
    have h : _ = _ := h
    omega
  | p :: r, _, _, h => by
    obtain ⟨_, h2, _, h4⟩ := h
    have := h4.le
    omega
theorem Chain.append : ∀ {r q : List Pc} {lo mi hi : Int}, Chain lo mi r → Chain mi hi q → Chain lo hi (r ++ q)
  | [], _, _, _, _, h, k => by
    have h : _ = _ := h
    subst h
    exact k
  | p :: r, q, _, _, _, ⟨h1, h2, h3, h4⟩, k => ⟨h1, h2, h3, h4.append k⟩
theorem Chain.split : ∀ {r q : List Pc} {lo hi : Int}, Chain lo hi (r ++ q) → ∃ mi, Chain lo mi r ∧ Chain mi hi q
  | [], _, _, _, h => ⟨_, rfl, h⟩
  | p :: r, q, _, _, ⟨h1, h2, h3, h4⟩ => by
    obtain ⟨mi, k1, k2⟩ := Chain.split (r := r) h4
    exact ⟨mi, ⟨h1, h2, h3, k1⟩, k2⟩
theorem val_left : ∀ {r q : List Pc} {lo mi : Int} {j : Int}, Chain lo mi r → j < mi → lo ≤ j → valP (r ++ q) j = valP r j
  | [], _, _, _, _, h, k1, k2 => by
    have h : _ = _ := h
    omega
  | p :: r, q, _, _, j, ⟨h1, h2, h3, h4⟩, k1, k2 => by
    show (if j < p.s + p.l then _ else valP (r ++ q) j) = if j < p.s + p.l then _ else valP r j
    split
    · rfl
    · exact val_left h4 k1 (by omega)
theorem val_right : ∀ {r q : List Pc} {lo mi : Int} {j : Int}, Chain lo mi r → mi ≤ j → valP (r ++ q) j = valP q j
  | [], _, _, _, _, _, _ => rfl
  | p :: r, q, _, _, j, ⟨h1, h2, h3, h4⟩, k => by
    have := h4.le
    show (if j < p.s + p.l then _ else valP (r ++ q) j) = _
    rw [if_neg (by omega)]
    exact val_right h4 k
/-- the way in which `other` goes on behind `run`, or 0 -/
def okW (p : Pc) (w : Int) : Bool := decide (p.l = 1) || decide (p.w = w)
def cwF (p q : Pc) : Int :=
  if (okW p 1 && okW q 1) = true ∧ q.g = p.g + 1 * p.l then 1
  else if (okW p (-1) && okW q (-1)) = true ∧ q.g = p.g + -1 * p.l then -1 else 0
def norm (p : Pc) : Pc := ⟨p.s, p.l, p.g, if p.l = 1 then 1 else p.w⟩
def addP (rows : List Pc) (p : Pc) : List Pc := match rows.getLast? with
  | none => rows ++ [norm p]
  | some q => if cwF q (norm p) = 0 then rows ++ [norm p] else rows.dropLast ++ [⟨q.s, q.l + p.l, q.g, cwF q (norm p)⟩]
def oneF (ps : List Pc) : List Pc := ps.foldl addP []
theorem add_none {p : Pc} : addP [] p = [norm p] := rfl
theorem add_some {rows : List Pc} {q p : Pc} : addP (rows ++ [q]) p = if cwF q (norm p) = 0 then rows ++ [q] ++ [norm p] else rows ++ [⟨q.s, q.l + p.l, q.g, cwF q (norm p)⟩] := by
  unfold addP
  rw [List.getLast?_concat]
  dsimp only
  rw [List.dropLast_concat]
theorem norm_val {p : Pc} {j : Int} (h1 : p.s ≤ j) (h2 : j < p.s + p.l) : (norm p).g + (norm p).w * (j - (norm p).s) = p.g + p.w * (j - p.s) := by
  show p.g + (if p.l = 1 then 1 else p.w) * (j - p.s) = _
  split
  · rename_i h
    have : j - p.s = 0 := by omega
    rw [this]
    omega
  · rfl
theorem norm_way {p : Pc} (h : p.w = 1 ∨ p.w = -1) : (norm p).w = 1 ∨ (norm p).w = -1 := by
  show (if p.l = 1 then (1 : Int) else p.w) = 1 ∨ (if p.l = 1 then (1 : Int) else p.w) = -1
  split
  · exact .inl rfl
  · exact h
theorem cw_cases (p q : Pc) : cwF p q = 0 ∨ ((cwF p q = 1 ∨ cwF p q = -1) ∧ (p.l = 1 ∨ p.w = cwF p q) ∧ (q.l = 1 ∨ q.w = cwF p q) ∧ q.g = p.g + cwF p q * p.l) := by
  unfold cwF
  split
  · rename_i h
    obtain ⟨h1, h2⟩ := h
    simp only [okW, Bool.and_eq_true, Bool.or_eq_true, decide_eq_true_eq] at h1
    exact .inr ⟨.inl rfl, h1.1, h1.2, h2⟩
  · split
    · rename_i h
      obtain ⟨h1, h2⟩ := h
      simp only [okW, Bool.and_eq_true, Bool.or_eq_true, decide_eq_true_eq] at h1
      exact .inr ⟨.inr rfl, h1.1, h1.2, h2⟩
    · exact .inl rfl
theorem single {lo hi : Int} {p : Pc} (h : Chain lo hi [p]) : p.s = lo ∧ 1 ≤ p.l ∧ (p.w = 1 ∨ p.w = -1) ∧ lo + p.l = hi := h
theorem add_ok {rows : List Pc} {lo mi : Int} {p : Pc} (h : Chain lo mi rows) (hp : p.s = mi) (hl : 1 ≤ p.l) (hw : p.w = 1 ∨ p.w = -1) :
    Chain lo (mi + p.l) (addP rows p) ∧ ∀ j, lo ≤ j → j < mi + p.l → valP (addP rows p) j = valP (rows ++ [p]) j := by
  have one : Chain mi (mi + p.l) [norm p] := ⟨hp, hl, norm_way hw, rfl⟩
  have vone : ∀ j, mi ≤ j → j < mi + p.l → valP [norm p] j = valP [p] j := fun j h1 h2 => by
    show (if j < p.s + p.l then _ else j) = if j < p.s + p.l then _ else j
    rw [if_pos (by omega), if_pos (by omega)]
    exact norm_val (by omega) (by omega)
  have plain : Chain lo (mi + p.l) (rows ++ [norm p]) ∧ ∀ j, lo ≤ j → j < mi + p.l → valP (rows ++ [norm p]) j = valP (rows ++ [p]) j := by
    refine ⟨h.append one, fun j h1 h2 => ?_⟩
    by_cases c : j < mi
    · rw [val_left h c h1, val_left h c h1]
    · rw [val_right h (by omega), val_right h (by omega)]
      exact vone j (by omega) h2
  rcases List.eq_nil_or_concat rows with rfl | ⟨rs, q, rfl⟩
  · exact plain
  · rw [List.concat_eq_append] at h plain ⊢
    rw [add_some]
    rcases cw_cases q (norm p) with c | ⟨c1, c2, c3, c4⟩
    · rw [if_pos c]
      exact plain
    · have c0 : cwF q (norm p) ≠ 0 := by rcases c1 with c | c <;> omega
      rw [if_neg c0]
      generalize cwF q (norm p) = cw at c0 c1 c2 c3 c4 ⊢
      obtain ⟨k, h1, h2⟩ := h.split
      obtain ⟨q1, q2, q3, q4⟩ := single h2
      have c4 : p.g = q.g + cw * q.l := c4
      have c3 : p.l = 1 ∨ (if p.l = 1 then (1 : Int) else p.w) = cw := c3
      have nw : Chain k (mi + p.l) [⟨q.s, q.l + p.l, q.g, cw⟩] := ⟨q1, by show 1 ≤ q.l + p.l; omega, c1, by show k + (q.l + p.l) = _; omega⟩
      refine ⟨h1.append nw, fun j j1 j2 => ?_⟩
      rw [List.append_assoc]
      by_cases c : j < k
      · rw [val_left h1 c j1, val_left h1 c j1]
      · rw [val_right h1 (by omega), val_right h1 (by omega)]
        show (if j < q.s + (q.l + p.l) then q.g + cw * (j - q.s) else j) = if j < q.s + q.l then q.g + q.w * (j - q.s) else (if j < p.s + p.l then p.g + p.w * (j - p.s) else j)
        rw [if_pos (by omega)]
        by_cases d : j < q.s + q.l
        · rw [if_pos d]
          rcases c2 with c2 | c2
          · have : j - q.s = 0 := by omega
            rw [this, Int.mul_zero, Int.mul_zero]
          · rw [c2]
        · rw [if_neg d, if_pos (by omega), c4]
          have e : cw * (j - q.s) = cw * q.l + cw * (j - p.s) := by
            rw [← Int.mul_add]
            congr 1
            omega
          rw [e]
          rcases c3 with c3 | c3
          · have : j - p.s = 0 := by omega
            rw [this, Int.mul_zero, Int.mul_zero]
            omega
          · by_cases l1 : p.l = 1
            · have : j - p.s = 0 := by omega
              rw [this, Int.mul_zero, Int.mul_zero]
              omega
            · rw [if_neg l1] at c3
              rw [c3]
              omega
theorem fold_ok : ∀ {ps : List Pc} {rows : List Pc} {lo mi hi : Int}, Chain lo mi rows → Chain mi hi ps → Chain lo hi (ps.foldl addP rows) ∧ ∀ j, lo ≤ j → j < hi → valP (ps.foldl addP rows) j = valP (rows ++ ps) j
  | [], rows, lo, mi, hi, h, k => by
    have k : mi = hi := k
    subst k
    rw [List.append_nil]
    exact ⟨h, fun _ _ _ => rfl⟩
  | p :: r, rows, lo, mi, hi, h, ⟨k1, k2, k3, k4⟩ => by
    obtain ⟨a1, a2⟩ := add_ok h k1 k2 k3
    obtain ⟨b1, b2⟩ := fold_ok a1 k4
    refine ⟨b1, fun j j1 j2 => ?_⟩
    show valP (r.foldl addP (addP rows p)) j = _
    rw [b2 j j1 j2]
    have hc : Chain mi (mi + p.l) [p] := ⟨k1, k2, k3, rfl⟩
    by_cases c : j < mi + p.l
    · rw [val_left a1 c j1, a2 j j1 c, show rows ++ p :: r = (rows ++ [p]) ++ r by simp, val_left (h.append hc) c j1]
    · rw [val_right a1 (by omega), show rows ++ p :: r = (rows ++ [p]) ++ r by simp, val_right (h.append hc) (by omega)]
theorem oneF_ok {ps : List Pc} {n : Int} (h : Chain 0 n ps) : Chain 0 n (oneF ps) ∧ ∀ j, 0 ≤ j → j < n → valP (oneF ps) j = valP ps j := by
  obtain ⟨a, b⟩ := fold_ok (rows := []) (lo := 0) (mi := 0) rfl h
  exact ⟨a, b⟩
theorem add_len (rows : List Pc) (p : Pc) : (addP rows p).length ≤ rows.length + 1 := by
  rcases List.eq_nil_or_concat rows with rfl | ⟨rs, q, rfl⟩
  · exact Nat.le_refl 1
  · rw [List.concat_eq_append, add_some]
    split <;> simp
theorem fold_len : ∀ (ps rows : List Pc), (ps.foldl addP rows).length ≤ rows.length + ps.length
  | [], rows => Nat.le_refl _
  | p :: r, rows => by
    have h1 := add_len rows p
    have h2 := fold_len r (addP rows p)
    show (r.foldl addP (addP rows p)).length ≤ rows.length + (r.length + 1)
    omega
/-- the piece with a place is found by halving -/
theorem chain_sorted : ∀ {r : List Pc} {lo hi : Int}, Chain lo hi r → ∀ {i k : Nat} {p q : Pc}, r[i]? = some p → r[k]? = some q → i < k → p.s + p.l ≤ q.s
  | p :: r, lo, hi, ⟨h1, h2, h3, h4⟩, 0, k + 1, x, y, hx, hy, _ => by
    cases hx
    have ge : ∀ {r : List Pc} {lo hi : Int}, Chain lo hi r → ∀ {k : Nat} {y : Pc}, r[k]? = some y → lo ≤ y.s := fun {r} => by
      induction r with
      | nil => intro lo hi _ k y hy; simp at hy
      | cons a b ih =>
        rintro lo hi ⟨g1, g2, g3, g4⟩ k y hy
        cases k with
        | zero =>
          cases hy
          omega
        | succ k =>
          have := ih g4 (k := k) (y := y) (by simpa using hy)
          omega
    have := ge h4 (k := k) (y := y) (by simpa using hy)
    omega
  | p :: r, lo, hi, ⟨h1, h2, h3, h4⟩, i + 1, k + 1, x, y, hx, hy, hik => chain_sorted h4 (i := i) (k := k) (by simpa using hx) (by simpa using hy) (by omega)
theorem val_at : ∀ {r : List Pc} {lo hi : Int}, Chain lo hi r → ∀ {i : Nat} {p : Pc} {j : Int}, r[i]? = some p → p.s ≤ j → (∀ q, r[i + 1]? = some q → j < q.s) → j < hi → valP r j = p.g + p.w * (j - p.s)
  | p :: r, lo, hi, ⟨h1, h2, h3, h4⟩, 0, x, j, hx, k1, k2, k3 => by
    cases hx
    show (if j < p.s + p.l then _ else valP r j) = _
    rw [if_pos]
    cases r with
    | nil =>
      have h4 : lo + p.l = hi := h4
      omega
    | cons q r =>
      have := k2 q rfl
      have := h4.1
      omega
  | p :: r, lo, hi, h, i + 1, x, j, hx, k1, k2, k3 => by
    have := chain_sorted h (i := 0) (k := i + 1) rfl hx (by omega)
    show (if j < p.s + p.l then _ else valP r j) = _
    rw [if_neg (by omega)]
    exact val_at h.2.2.2 (i := i) (by simpa using hx) k1 (fun q hq => k2 q (by simpa using hq)) k3
theorem chain_way : ∀ {r : List Pc} {lo hi : Int}, Chain lo hi r → ∀ {i : Nat} {p : Pc}, r[i]? = some p → p.w = 1 ∨ p.w = -1
  | q :: r, lo, hi, h, 0, x, hx => by
    cases hx
    exact h.2.2.1
  | q :: r, lo, hi, h, i + 1, x, hx => chain_way h.2.2.2 (i := i) (by simpa using hx)
/-- pieces that may be empty -/
def WCh : Int → Int → List Pc → Prop
  | lo, hi, [] => lo = hi
  | lo, hi, p :: r => p.s = lo ∧ 0 ≤ p.l ∧ (p.w = 1 ∨ p.w = -1) ∧ WCh (lo + p.l) hi r
theorem filt_ok : ∀ {r : List Pc} {lo hi : Int}, WCh lo hi r → Chain lo hi (r.filter fun p => decide (0 < p.l)) ∧ ∀ j, lo ≤ j → valP (r.filter fun p => decide (0 < p.l)) j = valP r j
  | [], lo, hi, h => ⟨h, fun _ _ => rfl⟩
  | p :: r, lo, hi, ⟨h1, h2, h3, h4⟩ => by
    obtain ⟨a, b⟩ := filt_ok h4
    by_cases c : 0 < p.l
    · rw [List.filter_cons_of_pos (by simpa using c)]
      refine ⟨⟨h1, by omega, h3, a⟩, fun j hj => ?_⟩
      show (if j < p.s + p.l then _ else valP (r.filter _) j) = if j < p.s + p.l then _ else valP r j
      split
      · rfl
      · exact b j (by omega)
    · rw [List.filter_cons_of_neg (by simpa using c)]
      have l0 : p.l = 0 := by omega
      rw [l0, Int.add_zero] at a b
      refine ⟨a, fun j hj => ?_⟩
      show valP (r.filter _) j = if j < p.s + p.l then _ else valP r j
      rw [if_neg (by omega)]
      exact b j hj

/-! ### pieces in the heap; the way, the form, the place of a run -/
def pcV (p : Pc) : List V := [.int p.s, .int p.l, .int p.g, .int p.w]
def PcsH (H : Hp) : List Addr → List Pc → Prop
  | [], [] => True
  | r :: rs, p :: ps => H r = some (.tup (pcV p)) ∧ PcsH H rs ps
  | _, _ => False
theorem PcsH.len {H : Hp} : ∀ {rs : List Addr} {ps : List Pc}, PcsH H rs ps → rs.length = ps.length
  | [], [], _ => rfl
  | _ :: _, _ :: _, h => congrArg (· + 1) h.2.len
theorem PcsH.mono {H H' : Hp} (e : ∀ b o, H b = some o → (∃ xs, o = .tup xs) → H' b = some o) : ∀ {rs : List Addr} {ps : List Pc}, PcsH H rs ps → PcsH H' rs ps
  | [], [], _ => trivial
  | _ :: _, _ :: _, h => ⟨e _ _ h.1 ⟨_, rfl⟩, PcsH.mono e h.2⟩
theorem PcsH.same {H H' : Hp} {rs : List Addr} {ps : List Pc} (h : PcsH H rs ps) (e : Same H H') : PcsH H' rs ps := h.mono fun b o x _ => e b o x
theorem PcsH.snoc {H : Hp} {r : Addr} {p : Pc} (e : H r = some (.tup (pcV p))) : ∀ {rs : List Addr} {ps : List Pc}, PcsH H rs ps → PcsH H (rs ++ [r]) (ps ++ [p])
  | [], [], _ => ⟨e, trivial⟩
  | _ :: _, _ :: _, h => ⟨h.1, PcsH.snoc e h.2⟩
theorem PcsH.get {H : Hp} : ∀ {rs : List Addr} {ps : List Pc}, PcsH H rs ps → ∀ {i : Nat} {p : Pc}, ps[i]? = some p → ∃ r, rs[i]? = some r ∧ H r = some (.tup (pcV p))
  | [], [], _, i, p, h => by simp at h
  | r :: rs, q :: ps, hh, 0, p, h => by
    cases h
    exact ⟨r, rfl, hh.1⟩
  | r :: rs, q :: ps, hh, i + 1, p, h => by
    obtain ⟨x, hx, hy⟩ := PcsH.get hh.2 (i := i) (p := p) (by simpa using h)
    exact ⟨x, by simpa using hx, hy⟩
theorem PcsH.unsnoc {H : Hp} : ∀ {rs : List Addr} {ps : List Pc} {q : Pc}, PcsH H rs (ps ++ [q]) → ∃ rs' r, rs = rs' ++ [r] ∧ PcsH H rs' ps ∧ H r = some (.tup (pcV q))
  | [], [], q, h => h.elim
  | [], p :: ps, q, h => h.elim
  | r :: rs, [], q, h => by
    obtain ⟨h1, h2⟩ := h
    cases rs with
    | nil => exact ⟨[], r, rfl, trivial, h1⟩
    | cons a b => exact h2.elim
  | r :: rs, p :: ps, q, h => by
    obtain ⟨h1, h2⟩ := h
    obtain ⟨rs', r', rfl, a, b⟩ := PcsH.unsnoc (ps := ps) h2
    exact ⟨r :: rs', r', rfl, ⟨h1, a⟩, b⟩
section
variable {P : Program} {w : World} {K : PySem.W.Frag} {mg : Str → Option Value} {base : Heap} {a : Ad}
def spGoalOf : Sp := fun vs H Q _ => ∃ (r : Addr) (p : Pc) (j : Int), vs = [.ref r, .int j] ∧ H r = some (.tup (pcV p)) ∧ (p.w = 1 ∨ p.w = -1) ∧ Q (.int (p.g + p.w * (j - p.s))) H
theorem ok_goal_of (T : Tx w K mg a) : FnOk P w K mg base CX0 1 a.f_goal_of a.d_goal_of ["run", "place"] spGoalOf := by
  refine T.F_goal_of.ok sc_goal_of (fun vs H Q E h => ?_) (fun cdv A outer s H vs Q E hr h => ?_)
  · obtain ⟨r, p, j, rfl, _⟩ := h
    rfl
  · obtain ⟨r, p, j, rfl, hr, hw, q⟩ := h
    refine ⟨_, 
(pss_one (ps_ret (pe_op op_add (pe_ix ix_tup (pv 0) pe_int (fun _ _ => rfl)) (pe_op op_mul (pe_ix ix_tup (pv 0) pe_int (fun _ _ => rfl)) (pe_op op_sub (pv 1) (pe_ix ix_tup (pv 0) pe_int (fun _ _ => rfl))))))), ?_⟩
    refine ⟨_, rfl, r, pcV p, 2, _, rfl, rfl, SqT.at hr, rfl, _, rfl, r, pcV p, 3, _, rfl, rfl, SqT.at hr, rfl, _, rfl, _, rfl, r, pcV p, 0, _, rfl, rfl, SqT.at hr, rfl, _, _, rfl, rfl, _, _, rfl, rfl, .inl ?_, _, _, rfl, rfl, q⟩
    rcases hw with h | h <;> rw [h] <;> decide
def spCommonWay : Sp := fun vs H Q _ => ∃ (r o : Addr) (p q : Pc), vs = [.ref r, .ref o] ∧ H r = some (.tup (pcV p)) ∧ H o = some (.tup (pcV q)) ∧ ∀ H', Same H H' → Q (.int (cwF p q)) H'
theorem ok_common_way (T : Tx w K mg a) : FnOk P w K mg base CX0 1 a.f_common_way a.d_common_way ["run", "other"] spCommonWay := by
  refine T.F_common_way.ok sc_common_way (fun vs H Q E h => ?_) (fun cdv A outer s H vs Q E hr h => ?_)
  · obtain ⟨r, o, p, q, rfl, _⟩ := h
    rfl
  · obtain ⟨r, o, p, q, rfl, hr, ho, k⟩ := h
    refine ⟨_, 
(pss_cons (ps_for PassesOwn.never rfl (pi_tup (pe_tup (pa_cons pe_int (pa_cons (pe_un un_neg pe_int) pa_nil)))) (pg_name (i := 2) sc_common_way.nd rfl (.inl rfl))
  (pss_one (ps_if (PW.pt (pw_and (PW.pt (pw_or (pt_cmpR op_eq (pe_ix ix_tup (pv 0) pe_int (fun _ _ => rfl)) pe_int (nomark _)) (pw_or1 (pt_cmpR op_eq (pe_ix ix_tup (pv 0) pe_int (fun _ _ => rfl)) (pv 2) (nomark _))))) (pw_and1 (PW.pt (pw_or (pt_cmpR op_eq (pe_ix ix_tup (pv 1) pe_int (fun _ _ => rfl)) pe_int (nomark _)) (pw_or1 (pt_cmpR op_eq (pe_ix ix_tup (pv 1) pe_int (fun _ _ => rfl)) (pv 2) (nomark _))))))))
  (pss_one (ps_if (pt_cmpR op_eq (pe_ix ix_tup (pv 1) pe_int (fun _ _ => rfl)) (pe_op op_add (pe_ix ix_tup (pv 0) pe_int (fun _ _ => rfl)) (pe_op op_mul (pv 2) (pe_ix ix_tup (pv 0) pe_int (fun _ _ => rfl)))) (nomark _))
  (pss_one (ps_ret (pv 2)))
  pss_nil))
  pss_nil)))
  (pss_one (ps_ret pe_int))), ?_⟩
    refine ⟨1, rfl, sz (show 2 ≤ 100000 by decide), fun t nt => ?_⟩
    have s1 := same_upd (o := .tup [.int 1, .int (-1)]) nt
    have e1 : (upd H t (.tup [.int 1, .int (-1)])) t = some (.tup [.int 1, .int (-1)]) := upd_same
    refine ⟨t, rfl, ⟨_, SqT.at e1⟩, ?_⟩
    change ∃ W : Nat → Nat → L2.St → Hp → Prop, (∃ m, W 0 m _ (upd H t (.tup [.int 1, .int (-1)]))) ∧ _
    generalize upd H t (.tup [.int 1, .int (-1)]) = H1 at s1 e1 ⊢
    have orT : ∀ (v : Int) (i : Nat) (x : Addr) (u : Pc) (σ : L2.St) (H' : Hp) (Qb : Bool → Hp → Prop), σ[i]? = some (some (.ref x)) → σ[2]? = some (some (.int v)) → H' x = some (.tup (pcV u)) → Qb (okW u v) H' →
        tOr (tTest (tOp rEq (tOp (rIxT K) (tVar i) (tC (.int 1))) (tC (.int 1)))) (tTest (tOp rEq (tOp (rIxT K) (tVar i) (tC (.int 3))) (tVar 2))) σ H' Qb := fun v i x u σ H' Qb e2 e3 e4 k => by
      refine ⟨_, e2, x, pcV u, 1, _, rfl, rfl, SqT.at e4, rfl, rfl, _, rfl, ?_⟩
      by_cases h1 : u.l = 1
      · rw [decide_eq_true (show V.int u.l = V.int 1 by rw [h1])]
        have : okW u v = true := by
          unfold okW
          rw [decide_eq_true h1]
          rfl
        rw [this] at k
        exact iteT k
      · rw [decide_eq_false (show ¬ V.int u.l = V.int 1 from fun z => h1 (V.int.inj z))]
        refine iteF ⟨_, e2, x, pcV u, 3, _, rfl, rfl, SqT.at e4, rfl, _, e3, rfl, _, rfl, ?_⟩
        have : okW u v = decide (V.int u.w = V.int v) := by
          unfold okW
          rw [decide_eq_false h1, Bool.false_or]
          exact decide_eq_decide.mpr ⟨fun h => by rw [h], fun h => V.int.inj h⟩
        rw [this] at k
        exact k
    refine for_it (walk_tup (xs := [V.int 1, .int (-1)])) (fun j σ H' => ∃ y2, σ = [some (.ref r), some (.ref o), y2] ∧ Same H1 H' ∧ (0 < j → ¬ ((okW p 1 && okW q 1) = true ∧ q.g = p.g + 1 * p.l)) ∧ (1 < j → ¬ ((okW p (-1) && okW q (-1)) = true ∧ q.g = p.g + -1 * p.l))) ?g0 ?gG ?gs ?gd
    case g0 => exact ⟨none, rfl, Same.refl _, fun h => absurd h (by decide), fun h => absurd h (by decide)⟩
    case gG =>
      rintro j σ H' _ ⟨_, _, sm, _⟩
      exact (SqT.at (sm _ _ e1))
    case gs =>
      rintro j y σ H3 H4 hj ⟨y2, rfl, sm, n1, n2⟩ ⟨rfl, ex⟩
      obtain ⟨v, rfl, hv1, hy, hn⟩ : ∃ v : Int, y = .int v ∧ (v = 1 ∨ v = -1) ∧ (((okW p v && okW q v) = true ∧ q.g = p.g + v * p.l) → cwF p q = v) ∧ (¬ ((okW p v && okW q v) = true ∧ q.g = p.g + v * p.l) → (0 < j + 1 → ¬ ((okW p 1 && okW q 1) = true ∧ q.g = p.g + 1 * p.l)) ∧ (1 < j + 1 → ¬ ((okW p (-1) && okW q (-1)) = true ∧ q.g = p.g + -1 * p.l))) := by
        have hj : j < 2 := hj
        match j, hj, ex, n1, n2 with
        | 0, _, ex, _, _ =>
          cases ex
          refine ⟨1, rfl, .inl rfl, fun h => ?_, fun h => ⟨fun _ => h, fun z => absurd z (by decide)⟩⟩
          unfold cwF
          rw [if_pos h]
        | 1, _, ex, n1, _ =>
          cases ex
          refine ⟨-1, rfl, .inr rfl, fun h => ?_, fun h => ⟨fun _ => n1 (by decide), fun _ => h⟩⟩
          unfold cwF
          rw [if_neg (n1 (by decide)), if_pos h]
      have hr4 := sm _ _ (s1 _ _ hr)
      have ho4 := sm _ _ (s1 _ _ ho)
      refine orT v 0 r p _ _ _ rfl rfl hr4 ?_
      cases hA : okW p v with
      | false => exact iteF (iteF ⟨_, rfl, sm, hn (by rw [hA]; exact fun z => Bool.noConfusion z.1)⟩)
      | true =>
        refine iteT (orT v 1 o q _ _ _ rfl rfl ho4 ?_)
        cases hB : okW q v with
        | false => exact iteF ⟨_, rfl, sm, hn (by rw [hA, hB]; exact fun z => Bool.noConfusion z.1)⟩
        | true =>
          refine iteT ⟨_, rfl, o, pcV q, 2, _, rfl, rfl, SqT.at ho4, rfl, _, rfl, r, pcV p, 2, _, rfl, rfl, SqT.at hr4, rfl, _, rfl, _, rfl, r, pcV p, 1, _, rfl, rfl, SqT.at hr4, rfl, _, _, rfl, rfl, .inl (by rcases hv1 with h | h <;> rw [h] <;> decide), _, _, rfl, rfl, rfl, _, rfl, ?_⟩
          by_cases hg : q.g = p.g + v * p.l
          · rw [decide_eq_true (show V.int q.g = V.int (p.g + v * p.l) by rw [← hg])]
            have e := hy ⟨by rw [hA, hB]; rfl, hg⟩
            have z := k _ (s1.trans sm)
            rw [e] at z
            exact iteT ⟨_, rfl, z⟩
          · rw [decide_eq_false (show ¬ V.int q.g = V.int (p.g + v * p.l) from fun z => hg (V.int.inj z))]
            exact iteF ⟨_, rfl, sm, hn fun z => hg z.2⟩
    case gd =>
      rintro σ H' ⟨y2, rfl, sm, n1, n2⟩
      have e : cwF p q = 0 := by
        unfold cwF
        rw [if_neg (n1 (show 0 < 2 by decide)), if_neg (n2 (show 1 < 2 by decide))]
      have := k H' (s1.trans sm)
      rw [e] at this
      exact this
end
section
variable {P : Program} {w : World} {K : PySem.W.Frag} {mg : Str → Option Value} {base : Heap} {a : Ad}
def spIndexOf : Sp := fun vs H Q _ => ∃ (t : Addr) (rs : List Addr) (ps : List Pc) (n j : Int), vs = [.ref t, .int j] ∧ H t = some (.tup (rs.map V.ref)) ∧ PcsH H rs ps ∧ Chain 0 n ps ∧ 0 ≤ j ∧ j < n ∧ ps.length ≤ 100000 ∧
  ∀ (i : Nat) (p : Pc), ps[i]? = some p → p.s ≤ j → (∀ q, ps[i + 1]? = some q → j < q.s) → Q (.int (i : Int)) H
theorem ok_index_of_run (T : Tx w K mg a) : FnOk P w K mg base CX0 1 a.f_index_of_run a.d_index_of_run ["rows", "place"] spIndexOf := by
  refine T.F_index_of_run.ok sc_index_of_run (fun vs H Q E h => ?_) (fun cdv A outer s H vs Q E hr h => ?_)
  · obtain ⟨t, rs, ps, n, j, rfl, _⟩ := h
    rfl
  · obtain ⟨t, rs, ps, n, j, rfl, ht, hps, hc, j0, jn, hl, k⟩ := h
    refine ⟨_, 
(pss_cons (ps_set (i := 2) sc_index_of_run.nd rfl (.inl rfl) pe_int)
  (pss_cons (ps_set (i := 3) sc_index_of_run.nd rfl (.inl rfl) (pe_op op_sub (pe_callB call_len_seq (by rfl) T.z_len PySem.boot_len (pa_cons (pv 0) pa_nil)) pe_int))
  (pss_cons (ps_while PassesOwn.never (pt_cmpR op_lt (pv 2) (pv 3) (nomark _))
  (pss_cons (ps_set (i := 4) sc_index_of_run.nd rfl (.inl rfl) (pe_op op_fdivN (pe_op op_add (pe_op op_add (pv 2) (pv 3)) pe_int) pe_int))
  (pss_one (ps_if (pt_cmpR op_le (pe_ix ix_tup (pe_ix ix_tup (pv 0) (pv 4) (fun _ _ => rfl)) pe_int (fun _ _ => rfl)) (pv 1) (nomark _))
  (pss_one (ps_set (i := 2) sc_index_of_run.nd rfl (.inl rfl) (pv 4)))
  (pss_one (ps_set (i := 3) sc_index_of_run.nd rfl (.inl rfl) (pe_op op_sub (pv 4) pe_int)))))))
  (pss_one (ps_ret (pv 2)))))), ?_⟩
    have rl : rs.length = ps.length := hps.len
    have pl : 0 < ps.length := by
      cases ps with
      | nil =>
        have hc : (0 : Int) = n := hc
        omega
      | cons p r => exact Nat.zero_lt_succ _
    refine ⟨_, rfl, t, rs.map V.ref, rfl, .inr (SqT.at ht), _, 1, rfl, rfl, ?_⟩
    rw [List.length_map, rl]
    refine ⟨fun m σ H' => ∃ (lo hi : Nat) (y4 : Option V), σ = [some (.ref t), some (.int j), some (.int (lo : Int)), some (.int (hi : Int)), y4] ∧ H' = H ∧ m = hi - lo ∧ lo ≤ hi ∧ hi < ps.length ∧ (∀ p, ps[lo]? = some p → p.s ≤ j) ∧ (∀ q, ps[hi + 1]? = some q → j < q.s), ⟨ps.length - 1, 0, ps.length - 1, none, ?_, rfl, rfl, Nat.zero_le _, by omega, fun p hp => ?_, fun q hq => ?_⟩, ?_⟩
    · have : V.int ((ps.length : Int) - 1) = V.int ((ps.length - 1 : Nat) : Int) := by rw [show (ps.length : Int) - 1 = ((ps.length - 1 : Nat) : Int) by omega]
      exact congrArg (fun z => [some (V.ref t), some (V.int j), some (V.int 0), some z, none]) this
    · cases ps with
      | nil => cases hp
      | cons p' r =>
        cases hp
        have := hc.1
        omega
    · rw [List.getElem?_eq_none (by omega)] at hq
      cases hq
    rintro m σ H' ⟨lo, hi, y4, rfl, rfl, rfl, h1, h2, h3, h4⟩
    refine ⟨_, rfl, _, rfl, _, _, rfl, rfl, _, rfl, ?_⟩
    by_cases c : lo < hi
    rotate_left
    · rw [decide_eq_false (show ¬ (lo : Int) < (hi : Int) by omega)]
      have : lo = hi := by omega
      subst this
      exact iteF ⟨_, rfl, k lo (ps[lo]'h2) (List.getElem?_eq_getElem h2) (h3 _ (List.getElem?_eq_getElem h2)) h4⟩
    rw [decide_eq_true (show (lo : Int) < (hi : Int) by omega)]
    refine iteT ⟨fun σ' H'' => ∃ m', m' < hi - lo ∧ ∃ (lo hi : Nat) (y4 : Option V), σ' = [some (.ref t), some (.int j), some (.int (lo : Int)), some (.int (hi : Int)), y4] ∧ H'' = H' ∧ m' = hi - lo ∧ lo ≤ hi ∧ hi < ps.length ∧ (∀ p, ps[lo]? = some p → p.s ≤ j) ∧ (∀ q, ps[hi + 1]? = some q → j < q.s), fun _ _ h => h, ?_⟩
    -- middle = (low + high + 1) // 2
    refine ⟨_, rfl, _, rfl, _, _, rfl, rfl, _, 1, rfl, rfl, ?_⟩
    have hm : Int.fdiv ((lo : Int) + (hi : Int) + 1) 2 = (((lo + hi + 1) / 2 : Nat) : Int) := by
      rw [Int.fdiv_eq_ediv_of_nonneg _ (by decide)]
      omega
    refine ⟨_, 2, rfl, rfl, (by unfold CDivN; omega), ?_⟩
    obtain ⟨mid, hmid⟩ : ∃ mid, (lo + hi + 1) / 2 = mid := ⟨_, rfl⟩
    have m1 : lo < mid := by omega
    have m2 : mid ≤ hi := by omega
    change gName 4 (V.int (Int.fdiv ((lo : Int) + (hi : Int) + 1) 2)) _ _ _
    rw [hm, hmid]
    have gm := List.getElem?_eq_getElem (show mid < ps.length by omega)
    obtain ⟨r, hr1, hr2⟩ := hps.get gm
    have g : atI (rs.map V.ref) ((mid : Nat) : Int) = some (.ref r) := atI_nat (by rw [List.getElem?_map, hr1]; rfl)
    refine ⟨_, rfl, _, rfl, t, rs.map V.ref, (mid : Int), _, rfl, rfl, SqT.at ht, g, r, pcV (ps[mid]'(by omega)), 0, _, rfl, rfl, SqT.at hr2, rfl, _, rfl, _, _, rfl, rfl, _, rfl, ?_⟩
    by_cases hle : (ps[mid]'(by omega)).s ≤ j
    · rw [decide_eq_true hle]
      refine iteT ⟨_, rfl, hi - mid, by omega, mid, hi, _, rfl, rfl, rfl, m2, h2, fun p hp => ?_, h4⟩
      rw [gm] at hp
      cases hp
      exact hle
    · rw [decide_eq_false hle]
      refine iteF ⟨_, rfl, _, 1, rfl, rfl, mid - 1 - lo, by omega, lo, mid - 1, some (.int (mid : Int)), ?_, rfl, rfl, by omega, by omega, h3, fun q hq => ?_⟩
      · have : V.int ((mid : Int) - 1) = V.int ((mid - 1 : Nat) : Int) := by rw [show (mid : Int) - 1 = ((mid - 1 : Nat) : Int) by omega]
        exact congrArg (fun z => [some (V.ref t), some (V.int j), some (V.int (lo : Int)), some z, some (V.int (mid : Int))]) this
      · rw [show mid - 1 + 1 = mid by omega, gm] at hq
        cases hq
        omega
end

theorem ixN_last (n : Nat) : ixN (n + 1) (-1) = some n := by
  unfold ixN
  rw [if_neg (by decide), if_pos (by omega)]
  congr 1
  omega
theorem atI_last {xs : List V} {x : V} : atI (xs ++ [x]) (-1) = some x := by
  unfold atI
  rw [List.length_append]
  show (ixN (xs.length + 1) (-1)).bind _ = _
  rw [ixN_last]
  show (xs ++ [x])[xs.length]? = some x
  rw [List.getElem?_append_right (Nat.le_refl _), Nat.sub_self]
  rfl
theorem set_last {xs : List V} {x y : V} : (xs ++ [x]).set xs.length y = xs ++ [y] := by
  rw [List.set_append_right _ _ (Nat.le_refl _), Nat.sub_self]
  rfl
section
variable {P : Program} {w : World} {K : PySem.W.Frag} {mg : Str → Option Value} {base : Heap} {a : Ad}
def spOneForm : Sp := fun vs H Q _ => ∃ (x : Addr) (rs : List Addr) (ps : List Pc), vs = [.ref x] ∧ H x = some (.lst (rs.map V.ref)) ∧ PcsH H rs ps ∧ ps.length ≤ 1000 ∧ ∀ t rs' H', H t = none → H' t = some (.tup (rs'.map V.ref)) → PcsH H' rs' (oneF ps) → Same H H' → Q (.ref t) H'
theorem ok_one_form (T : Tx w K mg a) : FnOk P w K mg base CX0 2 a.f_one_form a.d_one_form ["pieces"] spOneForm := by
  refine T.F_one_form.ok sc_one_form (fun vs H Q E h => ?_) (fun cdv A outer s H vs Q E hr h => ?_)
  · obtain ⟨x, rs, ps, rfl, _⟩ := h
    rfl
  · obtain ⟨x, rs, ps, rfl, hx, hps, hl, k⟩ := h
    refine ⟨_, 
(pss_cons (ps_set (i := 1) sc_one_form.nd rfl (.inl rfl) (pe_lst pa_nil))
  (pss_cons (ps_for PassesOwn.never rfl (pi_list (pv 0)) (pg_tup rfl (pgs_cons (pg_name (i := 2) sc_one_form.nd rfl (.inl rfl)) (pgs_cons (pg_name (i := 3) sc_one_form.nd rfl (.inl rfl)) (pgs_cons (pg_name (i := 4) sc_one_form.nd rfl (.inl rfl)) (pgs_cons (pg_name (i := 5) sc_one_form.nd rfl (.inl rfl)) pgs_nil)))))
  (C8.pss_cut (ps_set (i := 6) sc_one_form.nd rfl (.inl rfl) (pe_tup (pa_cons (pv 2) (pa_cons (pv 3) (pa_cons (pv 4) (pa_cons (pe_ifExp (pt_cmpR op_eq (pv 3) pe_int (nomark _)) pe_int (pv 5)) pa_nil))))))
  (C8.pss_cut (ps_set (i := 7) sc_one_form.nd rfl (.inl rfl) (pe_ifExp (pt_truth (pv 1) (fun _ => rfl)) (pe_call (ok_common_way T) hr (by rfl) T.m_common_way T.F_common_way.kp T.b_common_way .nil pass0 (pa_cons (pe_ix ix_list (pv 1) (pe_un un_neg pe_int) (fun _ _ => rfl)) (pa_cons (pv 6) pa_nil))) pe_int))
  (pss_one (ps_if (pt_cmpR op_eq (pv 7) pe_int (nomark _))
  (pss_one (ps_expr (pe_bm PySem.F.plainAttrs_list PySem.F.slot_list_append PySem.F.type_list_append mt_append (pv 1) (pa_cons (pv 6) pa_nil))))
  (pss_cons (ps_set (i := 8) sc_one_form.nd rfl (.inl rfl) (pe_ix ix_list (pv 1) (pe_un un_neg pe_int) (fun _ _ => rfl)))
  (pss_one (ps_asg (pe_tup (pa_cons (pe_ix ix_tup (pv 8) pe_int (fun _ _ => rfl)) (pa_cons (pe_op op_add (pe_ix ix_tup (pv 8) pe_int (fun _ _ => rfl)) (pv 3)) (pa_cons (pe_ix ix_tup (pv 8) pe_int (fun _ _ => rfl)) (pa_cons (pv 7) pa_nil))))) (pg_sub (pv 1) (pe_un un_neg pe_int) set_list)))))))))
  (pss_one (ps_ret (pe_callTy call_tuple_of (by rfl) T.z_tuple (by decide +kernel) (pa_cons (pv 1) pa_nil)))))), ?_⟩
    have rl := hps.len
    refine ⟨sz (show 0 ≤ 100000 by decide), fun L nL => ?_⟩
    have s1 := same_upd (o := .lst []) nL
    have eL : (upd H L (.lst [])) L = some (.lst []) := upd_same
    change gName 1 (V.ref L) _ (upd H L (.lst [])) _
    generalize upd H L (.lst []) = H1 at s1 eL ⊢
    have nx : x ≠ L := ne_of_none hx nL
    refine ⟨_, rfl, x, rfl, ⟨_, SqL.at (s1 _ _ hx)⟩, ?_⟩
    refine for_it (walk_list (xs := rs.map V.ref)) (fun j σ H' => ∃ (y2 y3 y4 y5 y6 y7 y8 : Option V) (us : List Addr), σ = [some (.ref x), some (.ref L), y2, y3, y4, y5, y6, y7, y8] ∧ Same H H' ∧ H' L = some (.lst (us.map V.ref)) ∧ PcsH H' us ((ps.take j).foldl addP [])) ?g0 ?gG ?gs ?gd
    case g0 => exact ⟨none, none, none, none, none, none, none, [], rfl, s1, eL, trivial⟩
    case gG =>
      rintro j σ H' _ ⟨_, _, _, _, _, _, _, _, _, sm, _⟩
      exact sm.seq (SqL.at hx)
    case gs =>
      rintro j y σ H3 H4 hj ⟨y2, y3, y4, y5, y6, y7, y8, us, rfl, sm, eu, hu⟩ ⟨rfl, ex⟩
      have hj : j < rs.length := by
        rw [List.length_map] at hj
        exact hj
      have hjp : j < ps.length := by omega
      obtain ⟨r, hr1, hr2⟩ := hps.get (List.getElem?_eq_getElem hjp)
      rw [List.getElem?_map, hr1] at ex
      cases ex
      have hr4 := sm _ _ hr2
      have htk : (ps.take (j + 1)).foldl addP [] = addP ((ps.take j).foldl addP []) (ps[j]'hjp) := by
        rw [List.take_succ, List.getElem?_eq_getElem hjp]
        show (ps.take j ++ [ps[j]]).foldl addP [] = _
        rw [List.foldl_append]
        rfl
      rw [htk]
      have ul := hu.len
      have ul2 : us.length ≤ 1000 := by
        have := fold_len (ps.take j) []
        rw [List.length_take] at this
        simp only [List.length_nil] at this
        omega
      generalize (ps.take j).foldl addP [] = rows at hu ul ⊢
      generalize ps[j]'hjp = p at hr4 ⊢
      clear htk hr2 hr1
      refine ⟨r, pcV p, rfl, SqT.at hr4, rfl, .int p.s, [.int p.l, .int p.g, .int p.w], rfl, .int p.l, [.int p.g, .int p.w], rfl, .int p.g, [.int p.w], rfl, .int p.w, [], rfl, rfl, ?_⟩
      -- piece = (start, length, goal, 1 if length == 1 else way)
      refine ⟨fun σ' H' => ∃ pc : Addr, σ' = [some (.ref x), some (.ref L), some (.int p.s), some (.int p.l), some (.int p.g), some (.int p.w), some (.ref pc), y7, y8] ∧ H' pc = some (.tup (pcV (norm p))) ∧ Same H4 H', ?_, ?_⟩
      · refine ⟨_, rfl, _, rfl, _, rfl, _, rfl, rfl, _, rfl, ?_⟩
        by_cases h1 : p.l = 1
        · rw [decide_eq_true (show V.int p.l = V.int 1 by rw [h1])]
          refine iteT ⟨sz (show 4 ≤ 100000 by decide), fun pc npc => ⟨pc, rfl, ?_, same_upd npc⟩⟩
          rw [upd_same]
          show _ = some (HO.tup [.int p.s, .int p.l, .int p.g, .int (if p.l = 1 then 1 else p.w)])
          rw [if_pos h1]
        · rw [decide_eq_false (show ¬ V.int p.l = V.int 1 from fun z => h1 (V.int.inj z))]
          refine iteF ⟨_, rfl, sz (show 4 ≤ 100000 by decide), fun pc npc => ⟨pc, rfl, ?_, same_upd npc⟩⟩
          rw [upd_same]
          show _ = some (HO.tup [.int p.s, .int p.l, .int p.g, .int (if p.l = 1 then 1 else p.w)])
          rw [if_neg h1]
      rintro σ' H5 ⟨pc, rfl, epc, s5⟩
      have eu5 := s5 _ _ eu
      have hu5 := hu.same s5
      have sm5 := sm.trans s5
      -- common = common_way(rows[-1], piece) if rows else 0
      refine ⟨fun σ' H' => ∃ c : Int, σ' = [some (.ref x), some (.ref L), some (.int p.s), some (.int p.l), some (.int p.g), some (.int p.w), some (.ref pc), some (.int c), y8] ∧ Same H5 H' ∧ (c = 0 → addP rows p = rows ++ [norm p]) ∧ (c ≠ 0 → ∃ rs q, rows = rs ++ [q] ∧ addP rows p = rs ++ [⟨q.s, q.l + p.l, q.g, c⟩]), ?_, ?_⟩
      · rcases List.eq_nil_or_concat rows with rfl | ⟨rs2, q, rfl⟩
        · cases us with
          | cons u r => exact hu5.elim
          | nil => exact ⟨_, rfl, false, .inl ⟨_, SqL.at eu5, rfl⟩, iteF ⟨0, rfl, Same.refl _, fun _ => rfl, fun h => absurd rfl h⟩⟩
        · rw [List.concat_eq_append] at hu5 ⊢
          obtain ⟨us2, uq, rfl, hu7, equ⟩ := hu5.unsnoc
          rw [List.map_append] at eu5
          refine ⟨_, rfl, true, .inl ⟨_, SqL.at eu5, by simp⟩, iteT ⟨_, rfl, 1, rfl, L, _, -1, .ref uq, rfl, rfl, SqL.at eu5, atI_last, _, rfl, uq, pc, q, norm p, rfl, equ, epc, fun H6 s6 => ⟨cwF q (norm p), rfl, s6, fun h => ?_, fun h => ⟨rs2, q, rfl, ?_⟩⟩⟩⟩
          · rw [add_some, if_pos h]
          · rw [add_some, if_neg h]
      rintro σ' H6 ⟨c, rfl, s6, hc0, hc1⟩
      have eu6 := s6 _ _ eu5
      have hu6 := hu5.same s6
      have sm6 := sm5.trans s6
      have epc6 := s6 _ _ epc
      -- if common == 0
      refine ⟨_, rfl, rfl, _, rfl, ?_⟩
      by_cases hc : c = 0
      · rw [decide_eq_true (show V.int c = V.int 0 by rw [hc])]
        refine iteT ⟨_, rfl, .inl ⟨rfl, _, SqL.at eu6⟩, _, rfl, L, us.map V.ref, .ref pc, rfl, rfl, eu6, szlt (by rw [List.length_map]; omega), ?_⟩
        refine ⟨_, _, _, _, _, _, _, us ++ [pc], rfl, keep_upd sm6 nL, by rw [upd_same, List.map_append]; rfl, ?_⟩
        rw [hc0 hc]
        have nL6 : ∀ b xs, H6 b = some (.tup xs) → b ≠ L := fun b xs e z => by
          rw [z, eu6] at e
          cases e
        refine PcsH.snoc ?_ (hu6.mono fun b o e ⟨xs, h⟩ => ?_)
        · rw [upd_ne (nL6 _ _ epc6)]
          exact epc6
        · subst h
          rw [upd_ne (nL6 _ _ e)]
          exact e
      · rw [decide_eq_false (show ¬ V.int c = V.int 0 from fun z => hc (V.int.inj z))]
        obtain ⟨rs2, q, rfl, hadd⟩ := hc1 hc
        rw [hadd]
        obtain ⟨us2, uq, rfl, hu7, equ⟩ := hu6.unsnoc
        refine iteF ?_
        -- first = rows[-1]
        rw [List.map_append] at eu6
        refine ⟨_, rfl, 1, rfl, L, us2.map V.ref ++ [.ref uq], -1, .ref uq, rfl, rfl, SqL.at eu6, atI_last, ?_⟩
        refine ⟨_, rfl, uq, pcV q, 0, _, rfl, rfl, SqT.at equ, rfl, _, rfl, uq, pcV q, 1, _, rfl, rfl, SqT.at equ, rfl, _, rfl, _, _, rfl, rfl, _, rfl, uq, pcV q, 2, _, rfl, rfl, SqT.at equ, rfl, _, rfl, sz (show 4 ≤ 100000 by decide), fun nt nnt => ?_⟩
        have s7 := same_upd (o := .tup [.int q.s, .int (q.l + p.l), .int q.g, .int c]) nnt
        have ent : (upd H6 nt (.tup [.int q.s, .int (q.l + p.l), .int q.g, .int c])) nt = some (.tup [.int q.s, .int (q.l + p.l), .int q.g, .int c]) := upd_same
        generalize upd H6 nt (.tup [.int q.s, .int (q.l + p.l), .int q.g, .int c]) = H7 at s7 ent ⊢
        have eu7 := s7 _ _ eu6
        have hu8 := hu7.same s7
        refine ⟨_, rfl, 1, rfl, L, us2.map V.ref ++ [.ref uq], -1, us2.length, rfl, rfl, eu7, ?_, ?_⟩
        · rw [List.length_append, List.length_map]
          exact ixN_last _
        have nL7 : ∀ b xs, H7 b = some (.tup xs) → b ≠ L := fun b xs e z => by
          rw [z, eu7] at e
          cases e
        refine ⟨_, _, _, _, _, _, _, us2 ++ [nt], rfl, keep_upd (sm6.trans s7) nL, ?_, PcsH.snoc ?_ (hu8.mono fun b o e ⟨xs, h⟩ => ?_)⟩
        · rw [upd_same, List.map_append]
          have := set_last (xs := us2.map V.ref) (x := .ref uq) (y := .ref nt)
          rw [List.length_map] at this
          rw [this]
          rfl
        · rw [upd_ne (nL7 _ _ ent)]
          exact ent
        · subst h
          rw [upd_ne (nL7 _ _ e)]
          exact e
    case gd =>
      rintro σ H' ⟨y2, y3, y4, y5, y6, y7, y8, us, rfl, sm, eu, hu⟩
      rw [List.length_map, rl, List.take_length] at hu
      refine ⟨_, rfl, L, _, rfl, .inl ⟨SqL.at eu, fun t nt => k t us _ (sm.free nt) upd_same (hu.same (same_upd nt)) (sm.trans (same_upd nt))⟩⟩
end

/-! ### runs as instances -/
/-- a Runs of size n with the pieces ps stands at p -/
def RunsAt (C : Addr) (H : Hp) (p : Addr) (n : Int) (ps : List Pc) : Prop := ∃ dx fs t rs, H p = some (.ins C dx fs) ∧ fs.lookup ("size" : Str) = some (.int n) ∧ fs.lookup ("rows" : Str) = some (.ref t) ∧ fs.lookup ("at" : Str) = none ∧ H t = some (.tup (rs.map V.ref)) ∧ PcsH H rs ps
theorem RunsAt.mono {C : Addr} {H H' : Hp} {p : Addr} {n : Int} {ps : List Pc} (h : RunsAt C H p n ps) (e : ∀ b o, H b = some o → (∃ xs, o = .lst xs ∨ o = .tup xs) ∨ (∃ C dx fs, o = .ins C dx fs) → H' b = some o) : RunsAt C H' p n ps := by
  obtain ⟨dx, fs, t, rs, h1, h2, h3, h4, h5, h6⟩ := h
  exact ⟨dx, fs, t, rs, e _ _ h1 (.inr ⟨_, _, _, rfl⟩), h2, h3, h4, e _ _ h5 (.inl ⟨_, .inr rfl⟩), h6.mono fun b o x ⟨xs, q⟩ => e b o x (.inl ⟨xs, .inr q⟩)⟩
theorem RunsAt.same {C : Addr} {H H' : Hp} {p : Addr} {n : Int} {ps : List Pc} (h : RunsAt C H p n ps) (e : Same H H') : RunsAt C H' p n ps := h.mono fun b o x _ => e b o x
theorem rkN {f g : Str} {v r : V} {fs : List (Str × V)} (h : fs.lookup f = some r) (ne : f ≠ g) : (putF g v fs).lookup f = some r := by
  rw [lookup_putF, if_neg ne]
  exact h
theorem rkP {f : Str} {v : V} {fs : List (Str × V)} : (putF f v fs).lookup f = some v := by
  rw [lookup_putF, if_pos rfl]
theorem rkO {f g : Str} {v : V} {fs : List (Str × V)} (h : fs.lookup f = none) (ne : f ≠ g) : (putF g v fs).lookup f = none := by
  rw [lookup_putF, if_neg ne]
  exact h
theorem putL (f : Str) (v : V) : ∀ fs : List (Str × V), (putF f v fs).length ≤ fs.length + 1
  | [] => Nat.le_refl _
  | (g, u) :: r => by
    unfold putF
    split
    · exact Nat.le_succ _
    · have := putL f v r
      show (putF f v r).length + 1 ≤ r.length + 1 + 1
      omega
theorem szF1 (f : Str) (v : V) : (putF f v []).length < 1000 := by
  have := putL f v []
  simp only [List.length_nil] at this
  omega
theorem szF2 (f g : Str) (v u : V) : (putF g u (putF f v [])).length < 1000 := by
  have h1 := putL f v []
  have h2 := putL g u (putF f v [])
  simp only [List.length_nil] at h1
  omega
section
variable {P : Program} {w : World} {K : PySem.W.Frag} {mg : Str → Option Value} {base : Heap} {a : Ad}
def spWayOf : Sp := fun vs H Q _ => ∃ (n : Int) (t : Addr) (rs : List Addr) (ps : List Pc), vs = [.int n, .ref t] ∧ H t = some (.tup (rs.map V.ref)) ∧ PcsH H rs ps ∧ ps.length ≤ 1000 ∧ ∀ (u : Int) H', Same H H' → Q (.int u) H'
theorem ok_way_of (T : Tx w K mg a) : FnOk P w K mg base CX0 1 a.f_way_of a.d_way_of ["size", "rows"] spWayOf := by
  refine T.F_way_of.ok sc_way_of (fun vs H Q E h => ?_) (fun cdv A outer s H vs Q E hr h => ?_)
  · obtain ⟨n, t, rs, ps, rfl, _⟩ := h
    rfl
  · obtain ⟨n, t, rs, ps, rfl, ht, hps, hl, k⟩ := h
    refine ⟨_, 
(pss_cons (ps_set (i := 2) sc_way_of.nd rfl (.inl rfl) (pe_callB (cr_sum rfl) (by rfl) T.z_sum (by decide +kernel) (pa_cons (pe_lc (own := [("_", 3), ("length", 4), ("way", 5)]) (g := gTup K 4 (gCons (gName 3) (gCons (gName 4) (gCons (gName 3) (gCons (gName 5) gNil))))) rfl sc_way_of.nd (pi_tup (pv 1)) (blkOk_by (own := [("_", 3), ("length", 4), ("way", 5)]) (N := ["size", "rows", "backward", "_", "length", "way"]) (sc := defScope s_way_of) (by decide +kernel)) (fun _ _ _ _ _ => pg_tup rfl (pgs_cons (pg_name (i := 3) sc_way_of.nd rfl (Or.inl rfl)) (pgs_cons (pg_name (i := 4) sc_way_of.nd rfl (Or.inl rfl)) (pgs_cons (pg_name (i := 3) sc_way_of.nd rfl (Or.inl rfl)) (pgs_cons (pg_name (i := 5) sc_way_of.nd rfl (Or.inl rfl)) pgs_nil))))) (fun _ _ _ _ _ => (pts_one (pt_cmpR op_eq (pv 5) (pe_un un_neg pe_int) (nomark _)))) (fun _ _ _ _ _ => (pv 4))) pa_nil)))
  (pss_cons (ps_if (pt_cmpR op_le (pv 2) (pe_glob (v := .int 100) (by rfl) T.m_FEW.choose_spec ⟨_, rfl⟩) (nomark _))
  (pss_one (ps_ret pe_int))
  pss_nil)
  (pss_one (ps_ret (pe_ifExp (pt_cmpR op_le (pe_op op_sub (pv 0) (pv 2)) (pe_glob (v := .int 100) (by rfl) T.m_FEW.choose_spec ⟨_, rfl⟩) (nomark _)) (pe_un un_neg pe_int) pe_int))))), ?_⟩
    have rl := hps.len
    refine ⟨_, rfl, t, rfl, ⟨_, SqT.at ht⟩, fun D hD => ?_⟩
    refine lc_it (walk_tup (xs := rs.map V.ref)) (fun j H' => Same H H' ∧ ∃ ns : List Int, ns.length ≤ j ∧ H' D = some (.lst (ns.map V.int))) ?h0 ?hG ?hs ?hd
    case h0 => exact ⟨same_upd hD, [], Nat.le_refl _, upd_same⟩
    case hG =>
      rintro j H' _ ⟨sm, _⟩
      exact SqT.at (sm _ _ ht)
    case hs =>
      rintro j y H3 H4 hj ⟨sm, ns, hn, eD⟩ ⟨rfl, ex⟩
      rw [List.length_map] at hj
      obtain ⟨r, hr1, hr2⟩ := hps.get (List.getElem?_eq_getElem (show j < ps.length by omega))
      rw [List.getElem?_map, hr1] at ex
      cases ex
      generalize ps[j]'(by omega) = p at hr2
      refine ⟨r, pcV p, rfl, SqT.at (sm _ _ hr2), rfl, .int p.s, [.int p.l, .int p.g, .int p.w], rfl, .int p.l, [.int p.g, .int p.w], rfl, .int p.g, [.int p.w], rfl, .int p.w, [], rfl, rfl, rfl, ?_⟩
      refine ⟨_, rfl, 1, rfl, rfl, _, rfl, ite2 (fun _ => ⟨_, rfl, ns.map V.int, eD, szlt (by rw [List.length_map]; omega), keep_upd sm hD, ns ++ [p.l], ?_, ?_⟩) (fun _ => ⟨sm, ns, by omega, eD⟩)⟩
      · rw [List.length_append]
        show ns.length + 1 ≤ j + 1
        omega
      · rw [upd_same, List.map_append]
        rfl
    case hd =>
      rintro H3 ⟨sm, ns, hn, eD⟩
      refine ⟨D, ns, rfl, SqL.at eD, ?_⟩
      refine ⟨_, rfl, _, _, rfl, rfl, _, rfl, ite2 (fun _ => k 1 _ sm) (fun _ => ?_)⟩
      exact ⟨_, rfl, _, rfl, _, _, rfl, rfl, _, _, rfl, rfl, _, rfl, ite2 (fun _ => ⟨1, rfl, k (-1) _ sm⟩) (fun _ => k 0 _ sm)⟩
def spRunsInit (C : Addr) : Sp := fun vs H Q _ => ∃ (p dx x : Addr) (n : Int) (rs : List Addr) (ps : List Pc), vs = [.ref p, .int n, .ref x] ∧ H p = some (.ins C dx []) ∧ H x = some (.lst (rs.map V.ref)) ∧ PcsH H rs ps ∧ ps.length ≤ 1000 ∧
  ∀ H', RunsAt C H' p n (oneF ps) → (∀ b o, H b = some o → b ≠ p → H' b = some o) → Q .non H'
theorem ok_Runs_init (T : Tx w K mg a) : FnOk P w K mg base CX0 3 a.f_Runs_init a.d_Runs_init ["self", "size", "pieces"] (spRunsInit a.C_Runs) := by
  refine T.F_Runs_init.ok sc_Runs_init (fun vs H Q E h => ?_) (fun cdv A outer s H vs Q E hr h => ?_)
  · obtain ⟨p, dx, x, n, rs, ps, rfl, _⟩ := h
    rfl
  · obtain ⟨p, dx, x, n, rs, ps, rfl, hp, hx, hps, hl, k⟩ := h
    refine ⟨_, 
(pss_cons (ps_fld (pv 0) (pv 1) rfl)
  (pss_cons (ps_fld (pv 0) (pe_call (ok_one_form T) hr (by rfl) T.m_one_form T.F_one_form.kp T.b_one_form .nil pass0 (pa_cons (pv 2) pa_nil)) rfl)
  (pss_one (ps_fld (pv 0) (pe_call (ok_way_of T) (hr.mono (by decide)) (by rfl) T.m_way_of T.F_way_of.kp T.b_way_of .nil pass0 (pa_cons (pv 1) (pa_cons (pe_fld (pv 0) rfl) pa_nil))) rfl)))), ?_⟩
    have ne : ("rows" : Str) ≠ "size" := by decide +kernel
    have ne2 : ("size" : Str) ≠ "rows" := by decide +kernel
    have ne3 : ("size" : Str) ≠ "way" := by decide +kernel
    have ne4 : ("rows" : Str) ≠ "way" := by decide +kernel
    have ne5 : ("at" : Str) ≠ "way" ∧ ("at" : Str) ≠ "rows" ∧ ("at" : Str) ≠ "size" := by decide +kernel
    -- self.size = size
    refine ⟨_, rfl, .ref p, rfl, p, a.C_Runs, dx, [], rfl, hp, T.cl_Runs, T.n_Runs_size, (show 0 < 1000 by decide), ?_⟩
    have e1 : (upd H p (.ins a.C_Runs dx (putF "size" (.int n) []))) p = some (.ins a.C_Runs dx (putF "size" (.int n) [])) := upd_same
    have q1 : ∀ b o, H b = some o → b ≠ p → (upd H p (.ins a.C_Runs dx (putF "size" (.int n) []))) b = some o := fun b o e z => by
      rw [upd_ne z]
      exact e
    have px : x ≠ p := ne_of hx hp (by intro z; cases z)
    generalize upd H p (.ins a.C_Runs dx (putF "size" (.int n) [])) = H1 at e1 q1 ⊢
    have hps1 : PcsH H1 rs ps := hps.mono fun b o e ⟨xs, h⟩ => q1 b o e (ne_of e hp (by rw [h]; intro z; cases z))
    -- self.rows = one_form(pieces)
    refine ⟨_, rfl, x, rs, ps, rfl, q1 _ _ hx px, hps1, hl, fun t rs' H2 nt et hrs s2 => ?_⟩
    have e2 := s2 _ _ e1
    refine ⟨.ref p, rfl, p, a.C_Runs, dx, _, rfl, e2, T.cl_Runs, T.n_Runs_rows, szF1 _ _, ?_⟩
    have e3 : (upd H2 p (.ins a.C_Runs dx (putF "rows" (.ref t) (putF "size" (.int n) [])))) p = some (.ins a.C_Runs dx (putF "rows" (.ref t) (putF "size" (.int n) []))) := upd_same
    have q3 : ∀ b o, H2 b = some o → b ≠ p → (upd H2 p (.ins a.C_Runs dx (putF "rows" (.ref t) (putF "size" (.int n) [])))) b = some o := fun b o e z => by
      rw [upd_ne z]
      exact e
    have et3 := q3 _ _ et (ne_of et e2 (by intro z; cases z))
    have hrs3 : PcsH (upd H2 p (.ins a.C_Runs dx (putF "rows" (.ref t) (putF "size" (.int n) [])))) rs' (oneF ps) := hrs.mono fun b o e ⟨xs, h⟩ => q3 b o e (ne_of e e2 (by rw [h]; intro z; cases z))
    generalize upd H2 p (.ins a.C_Runs dx (putF "rows" (.ref t) (putF "size" (.int n) []))) = H3 at e3 q3 et3 hrs3 ⊢
    have ol : (oneF ps).length ≤ 1000 := by
      have := fold_len ps []
      simp only [List.length_nil] at this
      show (ps.foldl addP []).length ≤ 1000
      omega
    -- self.way = way_of(size, self.rows)
    refine ⟨_, rfl, .ref p, rfl, p, a.C_Runs, dx, _, _, rfl, e3, T.cl_Runs, T.n_Runs_rows, rkP, n, t, rs', oneF ps, rfl, et3, hrs3, ol, fun u H4 s4 => ?_⟩
    have e4 := s4 _ _ e3
    refine ⟨.ref p, rfl, p, a.C_Runs, dx, _, rfl, e4, T.cl_Runs, T.n_Runs_way, szF2 _ _ _ _, ?_⟩
    have q5 : ∀ b o, H4 b = some o → b ≠ p → (upd H4 p (.ins a.C_Runs dx (putF "way" (.int u) (putF "rows" (.ref t) (putF "size" (.int n) []))))) b = some o := fun b o e z => by
      rw [upd_ne z]
      exact e
    refine k _ ⟨dx, _, t, rs', upd_same, rkN (rkN rkP ne2) ne3, rkN rkP ne4, rkO (rkO (rkO rfl ne5.2.2) ne5.2.1) ne5.1, q5 _ _ (s4 _ _ et3) (ne_of (s4 _ _ et3) e4 (by intro z; cases z)), ?_⟩ fun b o e z => q5 b o (s4 _ _ (q3 b o (s2 _ _ (q1 b o e z)) z)) z
    exact (hrs3.same s4).mono fun b o e ⟨xs, h⟩ => q5 b o e (ne_of e e4 (by rw [h]; intro z; cases z))
end

theorem madeR {H : Hp} {x dx C : Addr} (hx : H x = none) (hd : H dx = none) (ne : dx ≠ x) : Same H (upd (upd H dx (.own x)) x (.ins C dx [])) ∧ (upd (upd H dx (.own x)) x (.ins C dx [])) x = some (.ins C dx []) :=
  ⟨(same_upd hd).trans (same_upd (by rw [upd_ne ne.symm]; exact hx)), upd_same⟩
def pcD (p : Pc) : PyData := .tuple [.int p.s, .int p.l, .int p.g, .int p.w]
def rsD (ps : List Pc) : PyData := .tuple (ps.map pcD)
theorem dp_pcs {K : PySem.W.Frag} {H : Hp} : ∀ {rs : List Addr} {ps : List Pc}, PcsH H rs ps → DpAll K H (rs.map V.ref) (ps.map pcD)
  | [], [], _ => .nil
  | _ :: _, _ :: _, h => .cons (.tup (SqT.at h.1) (.cons (.int _) (.cons (.int _) (.cons (.int _) (.cons (.int _) .nil))))) (dp_pcs h.2)
theorem shaped_rs (ps : List Pc) : SeqAt.shaped (rsD ps) = true := by
  have a1 : ∀ ps : List Pc, PyData.canLayAll0 (ps.map pcD) = true := fun ps => by
    induction ps with
    | nil => simp [PyData.canLayAll0]
    | cons p r ih => simp [pcD, PyData.canLay0, PyData.canLayAll0, ih]
  have a2 : ∀ ps : List Pc, PyData.depthAll (ps.map pcD) ≤ 2 := fun ps => by
    induction ps with
    | nil => simp [PyData.depthAll]
    | cons p r ih =>
      simp only [List.map_cons, PyData.depthAll, pcD, PyData.depth]
      omega
  unfold SeqAt.shaped rsD
  rw [Bool.and_eq_true, decide_eq_true_eq]
  refine ⟨by rw [PyData.canLay0]; exact a1 ps, ?_⟩
  have := a2 ps
  rw [PyData.depth]
  omega
def fullP (k x y : Int) (ps : List Pc) : List Pc := ((⟨0, x, 0, 1⟩ : Pc) :: (ps ++ [(⟨y + 1, k - y - 1, y + 1, 1⟩ : Pc)])).filter fun p => decide (0 < p.l)
section
variable {P : Program} {w : World} {K : PySem.W.Frag} {mg : Str → Option Value} {base : Heap} {a : Ad}
def spRunsEq (C : Addr) : Sp := fun vs H Q _ => ∃ (p q : Addr) (n m : Int) (ps : List Pc), vs = [.ref p, .ref q] ∧ RunsAt C H p n ps ∧ RunsAt C H q m ps ∧ Q (.bl true) H
theorem ok_Runs_eq (T : Tx w K mg a) : FnOk P w K mg base CX0 3 a.f_Runs_eq a.d_Runs_eq ["self", "other"] (spRunsEq a.C_Runs) := by
  refine T.F_Runs_eq.ok sc_Runs_eq (fun vs H Q E h => ?_) (fun cdv A outer s H vs Q E hr h => ?_)
  · obtain ⟨p, q, n, m, ps, rfl, _⟩ := h
    rfl
  · obtain ⟨p, q, n, m, ps, rfl, ⟨dx, fs, t, rs, p1, p2, p3, p4, p5, p6⟩, ⟨dy, gs, u, rq, q1, q2, q3, q4, q5, q6⟩, k⟩ := h
    refine ⟨_, 
(pss_one (ps_ret (pe_and (pe_callB call_isi (by rfl) T.z_isinstance (by decide +kernel) (pa_cons (pv 1) (pa_cons (pe_glob (v := .ref a.C_Runs) (by rfl) T.c_Runs rfl) pa_nil))) (pe_one (pe_cmpR (op_eqD hr.units) (pe_fld (pv 0) rfl) (pe_fld (pv 1) rfl) (nomark _)))))), ?_⟩
    refine ⟨.ref q, rfl, .ref q, .ref a.C_Runs, .ref a.C_Runs, .ref a.C_Runs, true, rfl, .own _, .base (.ins q1 T.cl_Runs T.ow_Runs.cls T.ow_Runs.get T.ow_Runs.tak T.ow_Runs.mro), ?_, ?_⟩
    · unfold PySem.W.kitOne
      rw [if_pos (by simp)]
    refine ⟨true, rfl, iteT ⟨.ref p, rfl, p, a.C_Runs, dx, _, _, rfl, p1, T.cl_Runs, T.n_Runs_rows, p3, .ref q, rfl, q, a.C_Runs, dy, _, _, rfl, q1, T.cl_Runs, T.n_Runs_rows, q3, ?_⟩⟩
    refine ⟨rsD ps, rsD ps, .tup (SqT.at p5) (dp_pcs p6), .tup (SqT.at q5) (dp_pcs q6), shaped_rs ps, shaped_rs ps, ?_⟩
    rw [SeqAt.eqv_refl _ (SeqAt.canLay_of_shaped (shaped_rs ps))]
    exact k
def spRunsAt (C : Addr) : Sp := fun vs H Q _ => ∃ (p : Addr) (n j : Int) (ps : List Pc), vs = [.ref p, .int j] ∧ RunsAt C H p n ps ∧ Chain 0 n ps ∧ 0 ≤ j ∧ j < n ∧ ps.length ≤ 1000 ∧ Q (.int (valP ps j)) H
theorem ok_Runs_at (T : Tx w K mg a) : FnOk P w K mg base (L2.CX P w) 3 a.f_Runs_at a.d_Runs_at ["self", "j"] (spRunsAt a.C_Runs) := by
  refine T.F_Runs_at.okX sc_Runs_at (fun vs H Q E h => ?_) (fun cdv A outer s H vs Q E hr h => ?_)
  · obtain ⟨p, n, j, ps, rfl, _⟩ := h
    rfl
  · obtain ⟨p, n, j, ps, rfl, ⟨dx, fs, t, rs, p1, p2, p3, p4, p5, p6⟩, hc, j0, jn, hl, k⟩ := h
    refine ⟨_, 
(pss_cons (ps_if (pt_not (pt_val (pe_call (ok_is_between T) hr (by rfl) T.m_is_between T.F_is_between.kp T.b_is_between .nil pass0 (pa_cons (pv 1) (pa_cons pe_int (pa_cons (pe_op op_sub (pe_fld (pv 0) rfl) pe_int) pa_nil))))))
  (pss_one (ps_raise rfl (takes_of rfl rfl rfl rfl) (pmk_oex T.ox_BadPlace.o T.ox_BadPlace.ini T.ox_BadPlace.tin (ok_BadPlace_init T) hr T.b_BadPlace_init .nil pass0 (by rfl) T.c_BadPlace (pa_cons (pv 1) pa_nil))))
  pss_nil)
  (pss_one (ps_ret (pe_call (ok_goal_of T) (hr.mono (by decide)) (by rfl) T.m_goal_of T.F_goal_of.kp T.b_goal_of .nil pass0 (pa_cons (pe_ix ix_tup (pe_fld (pv 0) rfl) (pe_call (ok_index_of_run T) (hr.mono (by decide)) (by rfl) T.m_index_of_run T.F_index_of_run.kp T.b_index_of_run .nil pass0 (pa_cons (pe_fld (pv 0) rfl) (pa_cons (pv 1) pa_nil))) (fun _ _ => rfl)) (pa_cons (pv 1) pa_nil)))))), ?_⟩
    refine ⟨_, rfl, .ref p, rfl, p, a.C_Runs, dx, _, _, rfl, p1, T.cl_Runs, T.n_Runs_size, p2, _, 1, rfl, rfl, .int j, true, 0, n - 1, rfl, .int _, _, rfl, ?_⟩
    rw [show btM 0 (n - 1) (.int j) = true from by simp only [btM, Bool.and_eq_true, decide_eq_true_eq]; omega]
    refine ⟨.ref p, rfl, p, a.C_Runs, dx, _, _, rfl, p1, T.cl_Runs, T.n_Runs_rows, p3, .ref p, rfl, p, a.C_Runs, dx, _, _, rfl, p1, T.cl_Runs, T.n_Runs_rows, p3, _, rfl, t, rs, ps, n, j, rfl, p5, p6, hc, j0, jn, by omega, fun i q hq h1 h2 => ?_⟩
    obtain ⟨r, hr1, hr2⟩ := p6.get hq
    have g : atI (rs.map V.ref) ((i : Nat) : Int) = some (.ref r) := atI_nat (by rw [List.getElem?_map, hr1]; rfl)
    refine ⟨t, rs.map V.ref, (i : Int), .ref r, rfl, rfl, SqT.at p5, g, _, rfl, r, q, j, rfl, hr2, chain_way hc hq, ?_⟩
    rw [val_at hc hq h1 h2 jn] at k
    exact k
def spCheckFar (CS : Addr) : Sp := fun vs H Q E => ∃ (y : V) (ib : Bool), vs = [y] ∧ IsI H y ib ∧ ((btM 1 (10 ^ 30) y = true ∧ Q .non H) ∨ (btM 1 (10 ^ 30) y = false ∧ ∀ H' d, Same H H' → H' d = some (.xd [("size", y)]) → E (.ref CS) (some d) H'))
theorem ok_check_far_size (T : Tx w K mg a) : FnOk P w K mg base (L2.CX P w) 3 a.f_check_far_size a.d_check_far_size ["k"] (spCheckFar a.C_BadSize) := by
  refine T.F_check_far_size.okX sc_check_far_size (fun vs H Q E h => ?_) (fun cdv A outer s H vs Q E hr h => ?_)
  · obtain ⟨y, ib, rfl, _⟩ := h
    rfl
  · obtain ⟨y, ib, rfl, hI, h⟩ := h
    refine ⟨_, 
(pss_one (ps_if (pt_not (pt_val (pe_call (ok_is_between T) hr (by rfl) T.m_is_between T.F_is_between.kp T.b_is_between .nil pass0 (pa_cons (pv 0) (pa_cons pe_int (pa_cons (pe_glob (v := .int 1000000000000000000000000000000) (by rfl) T.m_MOST_SIZE.choose_spec ⟨_, rfl⟩) pa_nil))))))
  (pss_one (ps_raise rfl (takes_of rfl rfl rfl rfl) (pmk_oex T.ox_BadSize.o T.ox_BadSize.ini T.ox_BadSize.tin (ok_BadSize_init T) hr T.b_BadSize_init .nil pass0 (by rfl) T.c_BadSize (pa_cons (pv 0) pa_nil))))
  pss_nil)), ?_⟩
    refine ⟨_, rfl, y, ib, 1, 10 ^ 30, rfl, hI, _, rfl, ?_⟩
    rcases h with ⟨hb, q⟩ | ⟨hb, hE⟩
    · rw [hb]
      exact q
    · rw [hb]
      exact ⟨_, rfl, (by decide : 1 ≤ 1000), err_end (Same.refl H) hE⟩
def spMovedBlock (C : Addr) : Sp := fun vs H Q _ => ∃ (k x y : Int) (l : Addr) (rs : List Addr) (ps : List Pc), vs = [.int k, .int x, .int y, .ref l] ∧ H l = some (.lst (rs.map V.ref)) ∧ PcsH H rs ps ∧ ps.length ≤ 10 ∧ ∀ p H', RunsAt C H' p k (oneF (fullP k x y ps)) → Same H H' → Q (.ref p) H'
theorem ok_moved_block (T : Tx w K mg a) : FnOk P w K mg base CX0 5 a.f_moved_block a.d_moved_block ["k", "x", "y", "pieces"] (spMovedBlock a.C_Runs) := by
  refine T.F_moved_block.ok sc_moved_block (fun vs H Q E h => ?_) (fun cdv A outer s H vs Q E hr h => ?_)
  · obtain ⟨k, x, y, l, rs, ps, rfl, _⟩ := h
    rfl
  · obtain ⟨k, x, y, l, rs, ps, rfl, hl, hps, hlen, q⟩ := h
    refine ⟨_, 
(pss_cons (ps_set (i := 4) sc_moved_block.nd rfl (.inl rfl) (pe_lst (pa_cons (pe_tup (pa_cons pe_int (pa_cons (pv 1) (pa_cons pe_int (pa_cons pe_int pa_nil))))) (StX.pa_star (pv 3) (pa_cons (pe_tup (pa_cons (pe_op op_add (pv 2) pe_int) (pa_cons (pe_op op_sub (pe_op op_sub (pv 0) (pv 2)) pe_int) (pa_cons (pe_op op_add (pv 2) pe_int) (pa_cons pe_int pa_nil))))) pa_nil)))))
  (pss_one (ps_ret (pe_make T.mk_Runs (ok_Runs_init T) hr (by rfl) T.c_Runs T.b_Runs_init .nil pass0 (pa_cons (pv 0) (pa_cons (pe_lc (own := [("piece", 5)]) (g := gName 5) rfl sc_moved_block.nd (pi_list (pv 4)) (blkOk_by (own := [("piece", 5)]) (N := ["k", "x", "y", "pieces", "around", "piece"]) (sc := defScope s_moved_block) (by decide +kernel)) (fun _ _ _ _ _ => pg_name (i := 5) sc_moved_block.nd rfl (Or.inl rfl)) (fun _ _ _ _ _ => (pts_one (pt_cmpR op_gt (pe_ix (show IxR _ (rIxT K) from ix_tup) (pv 5) pe_int (fun _ _ => rfl)) pe_int (nomark _)))) (fun _ _ _ _ _ => (pv 5))) pa_nil)))))), ?_⟩
    have rl := hps.len
    refine ⟨_, rfl, sz (show 4 ≤ 100000 by decide), fun t1 n1 => ?_⟩
    have s1 := same_upd (o := .tup (pcV ⟨0, x, 0, 1⟩)) n1
    have e1 : (upd H t1 (.tup (pcV ⟨0, x, 0, 1⟩))) t1 = some (.tup (pcV ⟨0, x, 0, 1⟩)) := upd_same
    change StX.tStar _ _ _ _ (upd H t1 (.tup (pcV ⟨0, x, 0, 1⟩))) _
    generalize upd H t1 (.tup (pcV ⟨0, x, 0, 1⟩)) = H1 at s1 e1 ⊢
    refine ⟨.ref l, rfl, l, _, rfl, .inr (SqL.at (s1 _ _ hl)), _, rfl, _, 1, rfl, rfl, _, rfl, _, rfl, _, _, rfl, rfl, _, 1, rfl, rfl, _, rfl, _, 1, rfl, rfl, sz (show 4 ≤ 100000 by decide), fun t2 n2 => ?_⟩
    have s2 := s1.trans (same_upd (o := .tup [.int (y + 1), .int (k - y - 1), .int (y + 1), .int 1]) n2)
    have e2 : (upd H1 t2 (.tup [.int (y + 1), .int (k - y - 1), .int (y + 1), .int 1])) t2 = some (.tup (pcV ⟨y + 1, k - y - 1, y + 1, 1⟩)) := upd_same
    have e12 := (same_upd (o := .tup [.int (y + 1), .int (k - y - 1), .int (y + 1), .int 1]) n2) _ _ e1
    generalize upd H1 t2 (.tup [.int (y + 1), .int (k - y - 1), .int (y + 1), .int 1]) = H2 at s2 e2 e12 ⊢
    refine ⟨sz (by simp; omega), fun A nA => ?_⟩
    have s3 := s2.trans (same_upd (o := .lst (V.ref t1 :: (rs.map V.ref ++ [V.ref t2]))) nA)
    have eA : (upd H2 A (.lst (V.ref t1 :: (rs.map V.ref ++ [V.ref t2])))) A = some (.lst ((t1 :: (rs ++ [t2])).map V.ref)) := by
      rw [upd_same, List.map_cons, List.map_append]
      rfl
    have hp2 : PcsH H2 (t1 :: (rs ++ [t2])) ((⟨0, x, 0, 1⟩ : Pc) :: (ps ++ [(⟨y + 1, k - y - 1, y + 1, 1⟩ : Pc)])) := ⟨e12, PcsH.snoc e2 (hps.same s2)⟩
    have hp3 := hp2.same (same_upd (o := .lst (V.ref t1 :: (rs.map V.ref ++ [V.ref t2]))) nA)
    change gName 4 (V.ref A) _ (upd H2 A (.lst (V.ref t1 :: (rs.map V.ref ++ [V.ref t2])))) _
    generalize upd H2 A (.lst (V.ref t1 :: (rs.map V.ref ++ [V.ref t2]))) = H3 at s3 eA hp3 ⊢
    generalize hall : ((⟨0, x, 0, 1⟩ : Pc) :: (ps ++ [(⟨y + 1, k - y - 1, y + 1, 1⟩ : Pc)])) = all at hp3
    have al : all.length ≤ 12 := by
      rw [← hall]
      simp
      omega
    generalize t1 :: (rs ++ [t2]) = ars at eA hp3
    clear hp2 e2 e12 s2 e1 s1
    have arl := hp3.len
    -- Runs(k, [piece for piece in around if piece[1] > 0])
    refine ⟨_, rfl, _, rfl, A, rfl, ⟨_, SqL.at eA⟩, fun D hD => ?_⟩
    refine lc_it (walk_list (xs := ars.map V.ref)) (fun j H' => Same H3 H' ∧ ∃ us : List Addr, H' D = some (.lst (us.map V.ref)) ∧ PcsH H' us ((all.take j).filter fun p => decide (0 < p.l))) ?h0 ?hG ?hs ?hd
    case h0 => exact ⟨same_upd hD, [], upd_same, trivial⟩
    case hG =>
      rintro j H' _ ⟨sm, _⟩
      exact sm.seq (SqL.at eA)
    case hs =>
      rintro j yy H4 H5 hj ⟨sm, us, eD, hus⟩ ⟨rfl, ex⟩
      rw [List.length_map] at hj
      have hja : j < all.length := by omega
      obtain ⟨r, hr1, hr2⟩ := hp3.get (List.getElem?_eq_getElem hja)
      rw [List.getElem?_map, hr1] at ex
      cases ex
      have htk : (all.take (j + 1)).filter (fun p => decide (0 < p.l)) = (all.take j).filter (fun p => decide (0 < p.l)) ++ if 0 < (all[j]'hja).l then [all[j]'hja] else [] := by
        rw [List.take_succ, List.getElem?_eq_getElem hja]
        show (all.take j ++ [all[j]]).filter _ = _
        rw [List.filter_append]
        congr 1
        by_cases c : 0 < (all[j]'hja).l
        · rw [if_pos c]
          simp [c]
        · rw [if_neg c]
          simp [c]
      rw [htk]
      have ul := hus.len
      have ul2 : us.length ≤ 12 := by
        have := List.length_filter_le (fun p : Pc => decide (0 < p.l)) (all.take j)
        rw [List.length_take] at this
        omega
      generalize (all.take j).filter (fun p => decide (0 < p.l)) = done at hus ul ⊢
      generalize all[j]'hja = p at hr2 ⊢
      clear htk
      have hr5 := sm _ _ hr2
      refine ⟨rfl, _, rfl, r, pcV p, 1, _, rfl, rfl, SqT.at hr5, rfl, _, 0, rfl, rfl, _, rfl, ?_⟩
      by_cases c : 0 < p.l
      · rw [decide_eq_true c, if_pos c]
        refine iteT ⟨_, rfl, us.map V.ref, eD, szlt (by rw [List.length_map]; omega), keep_upd sm hD, us ++ [r], by rw [upd_same, List.map_append]; rfl, ?_⟩
        have nD : ∀ b xs, H5 b = some (.tup xs) → b ≠ D := fun b xs e z => by
          rw [z, eD] at e
          cases e
        refine PcsH.snoc ?_ (hus.mono fun b o e ⟨xs, h⟩ => ?_)
        · rw [upd_ne (nD _ _ hr5)]
          exact hr5
        · subst h
          rw [upd_ne (nD _ _ e)]
          exact e
      · rw [decide_eq_false c, if_neg c, List.append_nil]
        exact iteF ⟨sm, us, eD, hus⟩
    case hd =>
      rintro H4 ⟨sm, us, eD, hus⟩
      rw [List.length_map, arl, List.take_length] at hus
      refine fun p dx hp hdx ne => ?_
      obtain ⟨s5, ep⟩ := madeR (C := a.C_Runs) hp hdx ne
      generalize upd (upd H4 dx (.own p)) p (.ins a.C_Runs dx []) = H5 at s5 ep ⊢
      have fl : (all.filter fun p => decide (0 < p.l)).length ≤ 12 := Nat.le_trans (List.length_filter_le _ _) al
      refine ⟨p, dx, D, k, us, _, rfl, ep, s5 _ _ eD, hus.same s5, by omega, fun H6 hR hk => ⟨rfl, q p H6 ?_ ?_⟩⟩
      · unfold fullP
        rw [hall]
        exact hR
      · exact s3.trans (sm.trans fun b o e => hk b o (s5 b o e) (ne_of_none e hp))
end

/-- the row that moves nothing -/
def idP (k : Int) : List Pc := oneF [⟨0, k, 0, 1⟩]
theorem btM_int {lo hi i : Int} (h1 : lo ≤ i) (h2 : i ≤ hi) : btM lo hi (.int i) = true := by
  simp only [btM, Bool.and_eq_true, decide_eq_true_eq]
  omega
/-- the exchange of two places -/
def exchM (x y j : Int) : Int := if j = x then y else if j = y then x else j
/-- a roll of x to y by c places -/
def rollM (x y c j : Int) : Int := if x ≤ j ∧ j ≤ y then x + (j - x - c).fmod (y - x + 1) else j
theorem id_ok {k : Int} (h : 1 ≤ k) : Chain 0 k (idP k) ∧ (idP k).length ≤ 10 := by
  have c : Chain 0 k [(⟨0, k, 0, 1⟩ : Pc)] := ⟨rfl, h, .inl rfl, by show 0 + k = k; omega⟩
  refine ⟨(oneF_ok c).1, ?_⟩
  have := fold_len [(⟨0, k, 0, 1⟩ : Pc)] []
  exact Nat.le_trans this (show 0 + 1 ≤ 10 by decide)
theorem full_ok {k x y : Int} {ps : List Pc} (h : WCh 0 k ((⟨0, x, 0, 1⟩ : Pc) :: (ps ++ [(⟨y + 1, k - y - 1, y + 1, 1⟩ : Pc)]))) (hl : ps.length ≤ 8) :
    Chain 0 k (oneF (fullP k x y ps)) ∧ (oneF (fullP k x y ps)).length ≤ 10 ∧ ∀ j, 0 ≤ j → j < k → valP (oneF (fullP k x y ps)) j = valP ((⟨0, x, 0, 1⟩ : Pc) :: (ps ++ [(⟨y + 1, k - y - 1, y + 1, 1⟩ : Pc)])) j := by
  obtain ⟨a, b⟩ := filt_ok h
  obtain ⟨c, d⟩ := oneF_ok a
  refine ⟨c, ?_, fun j j0 j1 => (d j j0 j1).trans (b j j0)⟩
  have h1 := fold_len (fullP k x y ps) []
  have h2 : (fullP k x y ps).length ≤ _ := List.length_filter_le _ _
  simp only [List.length_nil, List.length_cons, List.length_append] at h1 h2
  show (oneF (fullP k x y ps)).length ≤ 10
  have h3 : (oneF (fullP k x y ps)).length ≤ 0 + (fullP k x y ps).length := h1
  omega
theorem exch_ok {k x y : Int} (h0 : 0 ≤ x) (h1 : x < y) (h2 : y < k) : WCh 0 k ((⟨0, x, 0, 1⟩ : Pc) :: ([(⟨x, 1, y, 1⟩ : Pc), ⟨x + 1, y - x - 1, x + 1, 1⟩, ⟨y, 1, x, 1⟩] ++ [(⟨y + 1, k - y - 1, y + 1, 1⟩ : Pc)])) ∧
    ∀ j, 0 ≤ j → j < k → valP ((⟨0, x, 0, 1⟩ : Pc) :: ([(⟨x, 1, y, 1⟩ : Pc), ⟨x + 1, y - x - 1, x + 1, 1⟩, ⟨y, 1, x, 1⟩] ++ [(⟨y + 1, k - y - 1, y + 1, 1⟩ : Pc)])) j = exchM x y j := by
  refine ⟨?_, fun j j0 j1 => ?_⟩
  · simp only [WCh, List.cons_append, List.nil_append, true_or, true_and]
    omega
  · simp only [valP, List.cons_append, List.nil_append, exchM]
    repeat' split
    all_goals omega
section
variable {P : Program} {w : World} {K : PySem.W.Frag} {mg : Str → Option Value} {base : Heap} {a : Ad}
def spNothingRuns (C CS : Addr) : Sp := fun vs H Q E => ∃ (y : V) (ib : Bool), vs = [y] ∧ IsI H y ib ∧ ((∃ k : Int, y = .int k ∧ 1 ≤ k ∧ k ≤ 10 ^ 30 ∧ ∀ p H', RunsAt C H' p k (idP k) → Same H H' → Q (.ref p) H') ∨ (btM 1 (10 ^ 30) y = false ∧ ∀ H' d, Same H H' → H' d = some (.xd [("size", y)]) → E (.ref CS) (some d) H'))
theorem ok_nothing_runs (T : Tx w K mg a) : FnOk P w K mg base (L2.CX P w) 5 a.f_nothing_runs a.d_nothing_runs ["k"] (spNothingRuns a.C_Runs a.C_BadSize) := by
  refine T.F_nothing_runs.okX sc_nothing_runs (fun vs H Q E h => ?_) (fun cdv A outer s H vs Q E hr h => ?_)
  · obtain ⟨y, ib, rfl, _⟩ := h
    rfl
  · obtain ⟨y, ib, rfl, hI, h⟩ := h
    refine ⟨_, 
(pss_cons (ps_expr (pe_callS (ok_check_far_size T) (hr.mono (by decide)) (by rfl) T.m_check_far_size T.F_check_far_size.kp T.b_check_far_size (fun σ => passAt (takes_of rfl rfl rfl rfl) σ) (pa_cons (pv 0) pa_nil)))
  (pss_one (ps_ret (pe_make T.mk_Runs (ok_Runs_init T) hr (by rfl) T.c_Runs T.b_Runs_init .nil pass0 (pa_cons (pv 0) (pa_cons (pe_lst (pa_cons (pe_tup (pa_cons pe_int (pa_cons (pv 0) (pa_cons pe_int (pa_cons pe_int pa_nil))))) pa_nil)) pa_nil)))))), ?_⟩
    rcases h with ⟨k, rfl, k1, k2, q⟩ | ⟨hb, hE⟩
    rotate_left
    · exact ⟨_, rfl, y, ib, rfl, hI, .inr ⟨hb, hE⟩⟩
    refine ⟨_, rfl, .int k, ib, rfl, hI, .inl ⟨btM_int k1 k2, ?_⟩⟩
    refine ⟨_, rfl, _, rfl, sz (show 4 ≤ 100000 by decide), fun t nt => ⟨sz (show 1 ≤ 100000 by decide), fun D hD => ?_⟩⟩
    have s1 := (same_upd (o := .tup [.int 0, .int k, .int 0, .int 1]) nt)
    have e1 : (upd H t (.tup [.int 0, .int k, .int 0, .int 1])) t = some (.tup (pcV ⟨0, k, 0, 1⟩)) := upd_same
    have s2 := s1.trans (same_upd (o := .lst [.ref t]) hD)
    have e2 := (same_upd (o := .lst [.ref t]) hD) _ _ e1
    have eD : (upd (upd H t (.tup [.int 0, .int k, .int 0, .int 1])) D (.lst [.ref t])) D = some (.lst ([t].map V.ref)) := upd_same
    generalize upd (upd H t (.tup [.int 0, .int k, .int 0, .int 1])) D (.lst [.ref t]) = H2 at s2 e2 eD ⊢
    refine fun p dx hp hdx ne => ?_
    obtain ⟨s5, ep⟩ := madeR (C := a.C_Runs) hp hdx ne
    generalize upd (upd H2 dx (.own p)) p (.ins a.C_Runs dx []) = H5 at s5 ep ⊢
    exact ⟨p, dx, D, k, [t], [⟨0, k, 0, 1⟩], rfl, ep, s5 _ _ eD, ⟨s5 _ _ e2, trivial⟩, (show 1 ≤ 1000 by decide), fun H6 hR hk => ⟨rfl, q p H6 hR (s2.trans fun b o e => hk b o (s5 b o e) (ne_of_none e hp))⟩⟩
def spExchRuns (C CS : Addr) : Sp := fun vs H Q E => ∃ (z : V) (x y : Int) (ib : Bool), vs = [z, .int x, .int y] ∧ IsI H z ib ∧ ((∃ k : Int, z = .int k ∧ 1 ≤ k ∧ k ≤ 10 ^ 30 ∧ ∀ p H' ps, RunsAt C H' p k ps → ps.length ≤ 10 → Chain 0 k ps → (if 0 ≤ x ∧ x < k ∧ 0 ≤ y ∧ y < k ∧ x ≠ y then ∀ j, 0 ≤ j → j < k → valP ps j = exchM x y j else ps = idP k) → Same H H' → Q (.ref p) H') ∨ (btM 1 (10 ^ 30) z = false ∧ ∀ H' d, Same H H' → H' d = some (.xd [("size", z)]) → E (.ref CS) (some d) H'))
theorem ok_exchange_runs (T : Tx w K mg a) : FnOk P w K mg base (L2.CX P w) 6 a.f_exchange_runs a.d_exchange_runs ["k", "x", "y"] (spExchRuns a.C_Runs a.C_BadSize) := by
  refine T.F_exchange_runs.okX sc_exchange_runs (fun vs H Q E h => ?_) (fun cdv A outer s H vs Q E hr h => ?_)
  · obtain ⟨z, x, y, ib, rfl, _⟩ := h
    rfl
  · obtain ⟨z, x, y, ib, rfl, hI, h⟩ := h
    refine ⟨_, 
(pss_cons (ps_expr (pe_callS (ok_check_far_size T) (hr.mono (by decide)) (by rfl) T.m_check_far_size T.F_check_far_size.kp T.b_check_far_size (fun σ => passAt (takes_of rfl rfl rfl rfl) σ) (pa_cons (pv 0) pa_nil)))
  (pss_cons (ps_set (i := 3) sc_exchange_runs.nd rfl (.inl rfl) (pe_callB (call_min2 rfl) (by rfl) T.z_min (by decide +kernel) (pa_cons (pv 1) (pa_cons (pv 2) pa_nil))))
  (pss_cons (ps_set (i := 4) sc_exchange_runs.nd rfl (.inl rfl) (pe_callB (call_max2 rfl) (by rfl) T.z_max (by decide +kernel) (pa_cons (pv 1) (pa_cons (pv 2) pa_nil))))
  (pss_cons (ps_if (PW.pt (pw_or (pt_cmpR op_lt (pv 3) pe_int (nomark _)) (pw_or (pt_cmpR op_ge (pv 4) (pv 0) (nomark _)) (pw_or1 (pt_cmpR op_eq (pv 3) (pv 4) (nomark _))))))
  (pss_one (ps_ret (pe_callS (ok_nothing_runs T) hr (by rfl) T.m_nothing_runs T.F_nothing_runs.kp T.b_nothing_runs (fun σ => passAt (takes_of rfl rfl rfl rfl) σ) (pa_cons (pv 0) pa_nil))))
  pss_nil)
  (pss_cons (ps_set (i := 5) sc_exchange_runs.nd rfl (.inl rfl) (pe_lst (pa_cons (pe_tup (pa_cons (pv 3) (pa_cons pe_int (pa_cons (pv 4) (pa_cons pe_int pa_nil))))) (pa_cons (pe_tup (pa_cons (pe_op op_add (pv 3) pe_int) (pa_cons (pe_op op_sub (pe_op op_sub (pv 4) (pv 3)) pe_int) (pa_cons (pe_op op_add (pv 3) pe_int) (pa_cons pe_int pa_nil))))) (pa_cons (pe_tup (pa_cons (pv 4) (pa_cons pe_int (pa_cons (pv 3) (pa_cons pe_int pa_nil))))) pa_nil)))))
  (pss_one (ps_ret (pe_call (ok_moved_block T) hr (by rfl) T.m_moved_block T.F_moved_block.kp T.b_moved_block .nil pass0 (pa_cons (pv 0) (pa_cons (pv 3) (pa_cons (pv 4) (pa_cons (pv 5) pa_nil)))))))))))), ?_⟩
    rcases h with ⟨k, rfl, k1, k2, q⟩ | ⟨hb, hE⟩
    rotate_left
    · exact ⟨_, rfl, z, ib, rfl, hI, .inr ⟨hb, hE⟩⟩
    refine ⟨_, rfl, .int k, ib, rfl, hI, .inl ⟨btM_int k1 k2, ?_⟩⟩
    refine ⟨_, rfl, _, rfl, x, y, rfl, _, rfl, _, rfl, x, y, rfl, ?_⟩
    obtain ⟨hid1, hid2⟩ := id_ok k1
    have nr : ¬ (0 ≤ x ∧ x < k ∧ 0 ≤ y ∧ y < k ∧ x ≠ y) → ∀ p H', RunsAt a.C_Runs H' p k (idP k) → Same H H' → Q (.ref p) H' := fun hn p H' hR s => q p H' _ hR hid2 hid1 (by rw [if_neg hn]) s
    obtain ⟨lo, hlo⟩ : ∃ lo, (if y < x then y else x) = lo := ⟨_, rfl⟩
    obtain ⟨hi, hhi⟩ : ∃ hi, (if y > x then y else x) = hi := ⟨_, rfl⟩
    have hcase : (lo = x ∧ hi = y ∧ x ≤ y) ∨ (lo = y ∧ hi = x ∧ y ≤ x) := by
      rw [← hlo, ← hhi]
      repeat' split
      all_goals omega
    rw [hlo, hhi]
    refine ⟨_, rfl, _, 0, rfl, rfl, _, rfl, ite2 (fun c => ?_) (fun c => ?_)⟩
    · have c : lo < 0 := of_decide_eq_true c
      exact iteT ⟨_, rfl, .int k, ib, rfl, hI, .inl ⟨k, rfl, k1, k2, nr (by omega)⟩⟩
    have c : 0 ≤ lo := by
      have := c
      simp only [Bool.not_eq_true, decide_eq_false_iff_not] at this
      omega
    refine ⟨_, rfl, _, rfl, _, _, rfl, rfl, _, rfl, ite2 (fun c2 => ?_) (fun c2 => ?_)⟩
    · have c2 : k ≤ hi := of_decide_eq_true c2
      exact iteT ⟨_, rfl, .int k, ib, rfl, hI, .inl ⟨k, rfl, k1, k2, nr (by omega)⟩⟩
    have c2 : hi < k := by
      have := c2
      simp only [Bool.not_eq_true, decide_eq_false_iff_not] at this
      omega
    refine ⟨_, rfl, _, rfl, rfl, _, rfl, ?_⟩
    by_cases c3 : lo = hi
    · rw [decide_eq_true (show V.int lo = V.int hi by rw [c3])]
      exact iteT ⟨_, rfl, .int k, ib, rfl, hI, .inl ⟨k, rfl, k1, k2, nr (by omega)⟩⟩
    rw [decide_eq_false (show ¬ V.int lo = V.int hi from fun z => c3 (V.int.inj z))]
    refine iteF ?_
    clear nr
    have hlt : lo < hi := by omega
    -- between = [(low, 1, high, 1), ..]
    refine ⟨_, rfl, _, rfl, sz (show 4 ≤ 100000 by decide), fun t1 n1 => ?_⟩
    have s1 := same_upd (o := .tup [.int lo, .int 1, .int hi, .int 1]) n1
    have e1 : (upd H t1 (.tup [.int lo, .int 1, .int hi, .int 1])) t1 = some (.tup (pcV ⟨lo, 1, hi, 1⟩)) := upd_same
    generalize upd H t1 (.tup [.int lo, .int 1, .int hi, .int 1]) = H1 at s1 e1 ⊢
    refine ⟨_, rfl, _, 1, rfl, rfl, _, rfl, _, rfl, _, _, rfl, rfl, _, 1, rfl, rfl, _, rfl, _, 1, rfl, rfl, sz (show 4 ≤ 100000 by decide), fun t2 n2 => ?_⟩
    have s2 := same_upd (o := .tup [.int (lo + 1), .int (hi - lo - 1), .int (lo + 1), .int 1]) n2
    have e2 : (upd H1 t2 (.tup [.int (lo + 1), .int (hi - lo - 1), .int (lo + 1), .int 1])) t2 = some (.tup (pcV ⟨lo + 1, hi - lo - 1, lo + 1, 1⟩)) := upd_same
    generalize upd H1 t2 (.tup [.int (lo + 1), .int (hi - lo - 1), .int (lo + 1), .int 1]) = H2 at s2 e2 ⊢
    refine ⟨_, rfl, _, rfl, sz (show 4 ≤ 100000 by decide), fun t3 n3 => ⟨sz (show 3 ≤ 100000 by decide), fun l nl => ?_⟩⟩
    have s3 := same_upd (o := .tup [.int hi, .int 1, .int lo, .int 1]) n3
    have e3 : (upd H2 t3 (.tup [.int hi, .int 1, .int lo, .int 1])) t3 = some (.tup (pcV ⟨hi, 1, lo, 1⟩)) := upd_same
    generalize upd H2 t3 (.tup [.int hi, .int 1, .int lo, .int 1]) = H3 at s3 e3 nl ⊢
    have s4 := same_upd (o := .lst [.ref t1, .ref t2, .ref t3]) nl
    have e4 : (upd H3 l (.lst [.ref t1, .ref t2, .ref t3])) l = some (.lst ([t1, t2, t3].map V.ref)) := upd_same
    change gName 5 (V.ref l) _ (upd H3 l (.lst [.ref t1, .ref t2, .ref t3])) _
    generalize upd H3 l (.lst [.ref t1, .ref t2, .ref t3]) = H4 at s4 e4 ⊢
    obtain ⟨w1, w2⟩ := exch_ok c hlt c2
    obtain ⟨f1, f2, f3⟩ := full_ok (k := k) (x := lo) (y := hi) (ps := [(⟨lo, 1, hi, 1⟩ : Pc), ⟨lo + 1, hi - lo - 1, lo + 1, 1⟩, ⟨hi, 1, lo, 1⟩]) w1 (show 3 ≤ 8 by decide)
    refine ⟨_, rfl, _, rfl, _, rfl, _, rfl, k, lo, hi, l, [t1, t2, t3], [(⟨lo, 1, hi, 1⟩ : Pc), ⟨lo + 1, hi - lo - 1, lo + 1, 1⟩, ⟨hi, 1, lo, 1⟩], rfl, e4, ⟨s4 _ _ (s3 _ _ (s2 _ _ e1)), s4 _ _ (s3 _ _ e2), s4 _ _ e3, trivial⟩, (show 3 ≤ 10 by decide), fun p H' hR s5 => q p H' _ hR f2 f1 ?_ ((s1.trans s2).trans (s3.trans (s4.trans s5)))⟩
    rw [if_pos (by omega)]
    intro j j0 j1
    rw [f3 j j0 j1, w2 j j0 j1]
    unfold exchM
    repeat' split
    all_goals omega
end

theorem roll_ok {k x y A : Int} (h0 : 0 ≤ x) (h1 : x < y) (h2 : y < k) (a0 : 0 ≤ A) (a1 : A < y - x + 1) : WCh 0 k ((⟨0, x, 0, 1⟩ : Pc) :: ([(⟨x, A, y + 1 - A, 1⟩ : Pc), ⟨x + A, y - x + 1 - A, x, 1⟩] ++ [(⟨y + 1, k - y - 1, y + 1, 1⟩ : Pc)])) ∧
    ∀ j, 0 ≤ j → j < k → valP ((⟨0, x, 0, 1⟩ : Pc) :: ([(⟨x, A, y + 1 - A, 1⟩ : Pc), ⟨x + A, y - x + 1 - A, x, 1⟩] ++ [(⟨y + 1, k - y - 1, y + 1, 1⟩ : Pc)])) j = rollM x y A j := by
  have em : ∀ j, x ≤ j → j ≤ y → (j - x - A).fmod (y - x + 1) = if j - x < A then j - x - A + (y - x + 1) else j - x - A := fun j j0 j1 => by
    rw [Int.fmod_eq_emod_of_nonneg _ (by omega)]
    split
    · rw [← Int.add_emod_right, Int.emod_eq_of_lt (by omega) (by omega)]
    · exact Int.emod_eq_of_lt (by omega) (by omega)
  refine ⟨?_, fun j j0 j1 => ?_⟩
  · simp only [WCh, List.cons_append, List.nil_append, true_or, true_and]
    omega
  · unfold rollM
    by_cases c : x ≤ j ∧ j ≤ y
    · rw [if_pos c, em j c.1 c.2]
      simp only [valP, List.cons_append, List.nil_append]
      repeat' split
      all_goals omega
    · rw [if_neg c]
      simp only [valP, List.cons_append, List.nil_append]
      repeat' split
      all_goals omega
theorem roll_by {x y b j : Int} (h : x < y) : rollM x y (b.fmod (y - x + 1)) j = rollM x y b j := by
  unfold rollM
  split
  · congr 1
    have hl : (0 : Int) ≤ y - x + 1 := by omega
    rw [Int.fmod_eq_emod_of_nonneg _ hl, Int.fmod_eq_emod_of_nonneg _ hl, Int.fmod_eq_emod_of_nonneg _ hl, Int.sub_emod (j - x), Int.emod_emod_of_dvd _ (Int.dvd_refl _), ← Int.sub_emod]
  · rfl
section
variable {P : Program} {w : World} {K : PySem.W.Frag} {mg : Str → Option Value} {base : Heap} {a : Ad}
def spRollRuns (C CS : Addr) : Sp := fun vs H Q E => ∃ (z cv : V) (x y b : Int) (ib : Bool), vs = [z, .int x, .int y, cv] ∧ IsI H z ib ∧ ((cv = .non ∧ b = (y - x + 1).fdiv 2) ∨ cv = .int b) ∧ ((∃ k : Int, z = .int k ∧ 1 ≤ k ∧ k ≤ 10 ^ 30 ∧ ∀ p H' ps, RunsAt C H' p k ps → ps.length ≤ 10 → Chain 0 k ps → (if 0 ≤ x ∧ y < k ∧ x < y then ∀ j, 0 ≤ j → j < k → valP ps j = rollM x y b j else ps = idP k) → Same H H' → Q (.ref p) H') ∨ (btM 1 (10 ^ 30) z = false ∧ ∀ H' d, Same H H' → H' d = some (.xd [("size", z)]) → E (.ref CS) (some d) H'))
theorem ok_roll_runs (T : Tx w K mg a) : FnOk P w K mg base (L2.CX P w) 6 a.f_roll_runs a.d_roll_runs ["k", "x", "y", "c"] (spRollRuns a.C_Runs a.C_BadSize) := by
  refine T.F_roll_runs.okX sc_roll_runs (fun vs H Q E h => ?_) (fun cdv A outer s H vs Q E hr h => ?_)
  · obtain ⟨z, cv, x, y, b, ib, rfl, _⟩ := h
    rfl
  · obtain ⟨z, cv, x, y, b, ib, rfl, hI, hb0, h⟩ := h
    refine ⟨_, 
(pss_cons (ps_expr (pe_callS (ok_check_far_size T) (hr.mono (by decide)) (by rfl) T.m_check_far_size T.F_check_far_size.kp T.b_check_far_size (fun σ => passAt (takes_of rfl rfl rfl rfl) σ) (pa_cons (pv 0) pa_nil)))
  (pss_cons (ps_if (PW.pt (pw_or (pt_cmpR op_lt (pv 1) pe_int (nomark _)) (pw_or (pt_cmpR op_ge (pv 2) (pv 0) (nomark _)) (pw_or1 (pt_cmpR op_ge (pv 1) (pv 2) (nomark _))))))
  (pss_one (ps_ret (pe_callS (ok_nothing_runs T) hr (by rfl) T.m_nothing_runs T.F_nothing_runs.kp T.b_nothing_runs (fun σ => passAt (takes_of rfl rfl rfl rfl) σ) (pa_cons (pv 0) pa_nil))))
  pss_nil)
  (pss_cons (ps_set (i := 4) sc_roll_runs.nd rfl (.inl rfl) (pe_op op_add (pe_op op_sub (pv 2) (pv 1)) pe_int))
  (C8.pss_cut (ps_set (i := 5) sc_roll_runs.nd rfl (.inl rfl) (pe_ifExp (pt_cmpR op_isN (pv 3) pe_non (nomark _)) (pe_op op_fdivN (pv 4) pe_int) (pe_op op_modN (pv 3) (pv 4))))
  (pss_one (ps_ret (pe_call (ok_moved_block T) hr (by rfl) T.m_moved_block T.F_moved_block.kp T.b_moved_block .nil pass0 (pa_cons (pv 0) (pa_cons (pv 1) (pa_cons (pv 2) (pa_cons (pe_lst (pa_cons (pe_tup (pa_cons (pv 1) (pa_cons (pv 5) (pa_cons (pe_op op_sub (pe_op op_add (pv 2) pe_int) (pv 5)) (pa_cons pe_int pa_nil))))) (pa_cons (pe_tup (pa_cons (pe_op op_add (pv 1) (pv 5)) (pa_cons (pe_op op_sub (pv 4) (pv 5)) (pa_cons (pv 1) (pa_cons pe_int pa_nil))))) pa_nil))) pa_nil))))))))))), ?_⟩
    rcases h with ⟨k, rfl, k1, k2, q⟩ | ⟨hb, hE⟩
    rotate_left
    · exact ⟨_, rfl, z, ib, rfl, hI, .inr ⟨hb, hE⟩⟩
    refine ⟨_, rfl, .int k, ib, rfl, hI, .inl ⟨btM_int k1 k2, ?_⟩⟩
    obtain ⟨hid1, hid2⟩ := id_ok k1
    have nr : ¬ (0 ≤ x ∧ y < k ∧ x < y) → ∀ p H', RunsAt a.C_Runs H' p k (idP k) → Same H H' → Q (.ref p) H' := fun hn p H' hR s => q p H' _ hR hid2 hid1 (by rw [if_neg hn]) s
    have dn : ∀ {p : Prop} [Decidable p], ¬ decide p = true → ¬ p := fun h z => h (decide_eq_true z)
    refine ⟨_, rfl, _, 0, rfl, rfl, _, rfl, ite2 (fun c => iteT ⟨_, rfl, .int k, ib, rfl, hI, .inl ⟨k, rfl, k1, k2, nr (by have := of_decide_eq_true c; omega)⟩⟩) (fun c => ?_)⟩
    have c := dn c
    refine ⟨_, rfl, _, rfl, _, _, rfl, rfl, _, rfl, ite2 (fun c => iteT ⟨_, rfl, .int k, ib, rfl, hI, .inl ⟨k, rfl, k1, k2, nr (by have := of_decide_eq_true c; omega)⟩⟩) (fun c2 => ?_)⟩
    have c2 := dn c2
    refine ⟨_, rfl, _, rfl, _, _, rfl, rfl, _, rfl, ite2 (fun c => ⟨_, rfl, .int k, ib, rfl, hI, .inl ⟨k, rfl, k1, k2, nr (by have := of_decide_eq_true c; omega)⟩⟩) (fun c3 => ?_)⟩
    have c3 := dn c3
    clear nr
    have hxy : x < y := by omega
    -- length = y - x + 1
    refine ⟨_, rfl, _, rfl, _, _, rfl, rfl, _, 1, rfl, rfl, ?_⟩
    -- ahead = length // 2 if c is None else c % length
    refine ⟨fun σ' H' => σ' = [some (.int k), some (.int x), some (.int y), some cv, some (.int (y - x + 1)), some (.int (b.fmod (y - x + 1)))] ∧ H' = H, ?_, ?_⟩
    · refine ⟨_, rfl, rfl, _, rfl, ?_⟩
      rcases hb0 with ⟨rfl, hb⟩ | rfl
      · rw [decide_eq_true (show V.non = V.non from rfl)]
        refine iteT ⟨_, rfl, _, 2, rfl, rfl, by unfold CDivN; omega, ?_, rfl⟩
        have e : b.fmod (y - x + 1) = (y - x + 1).fdiv 2 := by
          rw [hb, Int.fdiv_eq_ediv_of_nonneg _ (by decide), Int.fmod_eq_emod_of_nonneg _ (by omega), Int.emod_eq_of_lt (by omega) (by omega)]
        rw [e]
        rfl
      · rw [decide_eq_false (show ¬ V.int b = V.non from fun z => by cases z)]
        exact iteF ⟨_, rfl, _, rfl, _, _, rfl, rfl, by omega, rfl, rfl⟩
    rintro σ' H' ⟨rfl, rfl⟩
    have a0 : 0 ≤ b.fmod (y - x + 1) := Int.fmod_nonneg_of_pos _ (by omega)
    have a1 : b.fmod (y - x + 1) < y - x + 1 := Int.fmod_lt_of_pos _ (by omega)
    have hby := fun j => roll_by (b := b) (j := j) hxy
    generalize b.fmod (y - x + 1) = A' at a0 a1 hby ⊢
    -- moved_block(k, x, y, [..])
    refine ⟨_, rfl, _, rfl, _, rfl, _, rfl, _, rfl, _, rfl, _, 1, rfl, rfl, _, rfl, _, _, rfl, rfl, sz (show 4 ≤ 100000 by decide), fun t1 n1 => ?_⟩
    have s1 := same_upd (o := .tup [.int x, .int A', .int (y + 1 - A'), .int 1]) n1
    have e1 : (upd H' t1 (.tup [.int x, .int A', .int (y + 1 - A'), .int 1])) t1 = some (.tup (pcV ⟨x, A', y + 1 - A', 1⟩)) := upd_same
    generalize upd H' t1 (.tup [.int x, .int A', .int (y + 1 - A'), .int 1]) = H1 at s1 e1 ⊢
    refine ⟨_, rfl, _, rfl, _, _, rfl, rfl, _, rfl, _, rfl, _, _, rfl, rfl, _, rfl, sz (show 4 ≤ 100000 by decide), fun t2 n2 => ⟨sz (show 2 ≤ 100000 by decide), fun l nl => ?_⟩⟩
    have s2 := same_upd (o := .tup [.int (x + A'), .int (y - x + 1 - A'), .int x, .int 1]) n2
    have e2 : (upd H1 t2 (.tup [.int (x + A'), .int (y - x + 1 - A'), .int x, .int 1])) t2 = some (.tup (pcV ⟨x + A', y - x + 1 - A', x, 1⟩)) := upd_same
    generalize upd H1 t2 (.tup [.int (x + A'), .int (y - x + 1 - A'), .int x, .int 1]) = H2 at s2 e2 nl ⊢
    have s4 := same_upd (o := .lst [.ref t1, .ref t2]) nl
    have e4 : (upd H2 l (.lst [.ref t1, .ref t2])) l = some (.lst ([t1, t2].map V.ref)) := upd_same
    obtain ⟨w1, w2⟩ := roll_ok (k := k) (show 0 ≤ x by omega) hxy (show y < k by omega) a0 a1
    obtain ⟨f1, f2, f3⟩ := full_ok (k := k) (x := x) (y := y) (ps := [(⟨x, A', y + 1 - A', 1⟩ : Pc), ⟨x + A', y - x + 1 - A', x, 1⟩]) w1 (show 2 ≤ 8 by decide)
    refine ⟨k, x, y, l, [t1, t2], [(⟨x, A', y + 1 - A', 1⟩ : Pc), ⟨x + A', y - x + 1 - A', x, 1⟩], rfl, e4, ⟨s4 _ _ (s2 _ _ e1), s4 _ _ e2, trivial⟩, (show 2 ≤ 10 by decide), fun p H' hR s5 => q p H' _ hR f2 f1 ?_ ((s1.trans s2).trans (s4.trans s5))⟩
    rw [if_pos (by omega)]
    intro j j0 j1
    rw [f3 j j0 j1, w2 j j0 j1, hby j]
end

/-! ### repr of numbers, texts, None, True and False -/
inductive ReprT : V → Str → Prop where
  | int (i : Int) (h : i.natAbs.log2 < 1920) : ReprT (.int i) (toString i)
  | bl (b : Bool) : ReprT (.bl b) (if b then "True" else "False")
  | non : ReprT .non "None"
  | str (x : Str) (h : (reprText x).length ≤ sizeLine) : ReprT (.str x) (reprText x)
def rRepr : List V → Hp → VK → Prop := fun vs H Q => ∃ x t, vs = [x] ∧ ReprT x t ∧ Q (.str t) H
theorem call_repr1 {X : Cx} : CallR X (.builtin "repr") rRepr := by
  intro pins s σ H xs us Q I r h
  obtain ⟨x, t, rfl, hx, q⟩ := h
  obtain ⟨u, rfl, ru⟩ := vals1 r
  have fin : ∀ tk tk' : Nat, EP X pins σ Q (.str t tk) { s with toks := tk' } := fun tk tk' => ⟨.str t, H, I.tok _, ⟨_, rfl⟩, q⟩
  cases hx with
  | int i h =>
    obtain ⟨k, rfl⟩ := ru
    exact PySem.P.repr_of_int h (fin _ _)
  | bl b =>
    cases ru
    exact PySem.P.repr_of_bool (fin _ _)
  | non =>
    cases ru
    exact PySem.P.repr_of_none (fin _ _)
  | str x h =>
    obtain ⟨k, rfl⟩ := ru
    exact PySem.P.repr_of_str (fin _ _) h

/-! ### a call that must be refused with the size that it was given -/
def spRefused (P : Program) (w : World) (K : PySem.W.Frag) (mg : Str → Option Value) (base : Heap) (k : Nat) (CS : Addr) : Sp := fun vs H Q _ => ∃ (f : Addr) (sp : Hp → VK → XK → Prop) (y : V) (t : Str), vs = [.ref f, y] ∧ ReprT y t ∧ Thk P w K mg base k H f sp ∧
  ∀ (Q' : VK) (E' : XK), (∀ d H', H' d = some (.xd [("size", y)]) → Q (.bl true) H' → E' (.ref CS) (some d) H') → sp H Q' E'
theorem refused_live {X : Cx} {σ : L2.St} {H1 : Hp} {h : Heap} {k kk : Nat} {t : XK → TE} {f CS : Addr} {y : V} {u : Str} {Q : VK} {E : XK} (hy : ReprT y u) (hh : HeldAt X σ H1 h) (l : LamAt X k H1 f t) (hk : k + 1 ≤ kk)
    (q : ∀ (H0 : Hp) (told : VK) (err : XK), Same H1 H0 → (∀ b, H0 b = none → H1 b = none) →
      (∀ d H', Same H0 H' → H' d = some (.xd [("size", y)]) → (∀ Hf, Same H1 Hf → Q (.bl true) Hf) → err (.ref CS) (some d) H') → t err σ H0 told) :
    spRefused X.prog X.w X.K X.mg X.base kk CS [.ref f, y] (heldH (csOf X.env.cells) h H1) (HeldQ X Q) E := by
  obtain ⟨sp, th, run⟩ := l.thk hh
  refine ⟨f, sp, y, u, rfl, hy, th.mono hk, fun Q' E' hE => run Q' E' fun H0 R s1 fr hR => ?_⟩
  refine q H0 (fun v H' => R (Q' v) H') (fun cls d H' => R (E' cls d) H') s1 fr (fun d H' s' hd qq => hR _ _ fun G bk => hE _ _ ?_ ?_)
  · rw [bk.ne d (bk.off d _ hd fun ob z => by cases z)]
    exact hd
  · refine fun _ => qq _ fun b o e => ?_
    have nb : b ∉ csOf X.env.cells := fun z => by
      rw [hh.off b z] at e
      cases e
    rw [freedH_ne nb, bk.ne b nb]
    exact s' b o (s1 b o e)
section
variable {P : Program} {w : World} {K : PySem.W.Frag} {mg : Str → Option Value} {base : Heap} {a : Ad}
theorem ok__law_is_refused (T : Tx w K mg a) : FnOk P w K mg base CX0 8 a.f__law_is_refused a.d__law_is_refused ["call", "odd"] (spRefused P w K mg base 7 a.C_BadSize) := by
  refine T.F__law_is_refused.ok sc__law_is_refused (fun vs H Q E h => ?_) (fun cdv A outer s H vs Q E hr h => ?_)
  · obtain ⟨f, sp, y, t, rfl, _⟩ := h
    rfl
  · obtain ⟨f, sp, y, t, rfl, hy, hT, hsp⟩ := h
    refine ⟨_, 
(pss_cons (ps_try_manyAs rfl rfl sc__law_is_refused.nd takes0 (fun W pn xe tk po => (pss_one (ps_expr (show PE _ _ (rThk P w K mg base _ 0 W) from pe_thk (i := 0) rfl (.inl rfl) hr tk))))
  (.cons (i := 2) rfl rfl ⟨rfl, by decide, .inl T.c_BadSize⟩ (fun x oe cls d pn hz hf => (pss_one (ps_ret (pe_cmpR op_eq (pe_callB call_repr1 (by rfl) T.z_repr (by decide +kernel) (pa_cons (pe_xf T.ox_BadSize.x T.ox_BadSize.no hz hf (pv 2)) pa_nil)) (pe_callB call_repr1 (by rfl) T.z_repr (by decide +kernel) (pa_cons (pv 1) pa_nil)) (nomark _)))))
  .nil))
  (pss_one (ps_ret pe_bl))), ?_⟩
    refine ⟨f, sp, rfl, hT, hsp _ _ fun d H' hd q => ?_⟩
    refine ⟨true, T.em_BadSize_BadSize, fun _ x hx => ?_, fun q => Bool.noConfusion q⟩
    refine ⟨.ref x, rfl, rfl, rfl, d, _, _, rfl, hd, rfl, y, t, rfl, hy, y, rfl, y, t, rfl, hy, ?_⟩
    refine ⟨rfl, ?_⟩
    rw [decide_eq_true rfl]
    exact q
end

section
variable {P : Program} {w : World} {K : PySem.W.Frag} {mg : Str → Option Value} {base : Heap} {a : Ad}
def spGreat : Sp := fun vs H Q _ => ∃ (d c : Addr) (n : Nat), vs = [.ref d] ∧ Pen H d c n ∧ n + 10 < 2 ^ 40 ∧ ∀ (k : Int) H', 1 ≤ k → k ≤ 10 ^ 30 → Pen H' d c (n + 4) → But d H H' → Q (.int k) H'
theorem ok__law_great (T : Tx w K mg a) : FnOk P w K mg base CX0 3 a.f__law_great a.d__law_great ["pen"] spGreat := by
  refine T.F__law_great.ok sc__law_great (fun vs H Q E h => ?_) (fun cdv A outer s H vs Q E hr h => ?_)
  · obtain ⟨d, c, n, rfl, _⟩ := h
    rfl
  · obtain ⟨d, c, n, rfl, hp, hn, q⟩ := h
    refine ⟨_, 
(pss_cons (ps_set (i := 1) sc__law_great.nd rfl (.inl rfl) (pe_lst (pa_cons (pe_op op_add pe_int (pe_call (ok__law_draw T) (hr.mono (by decide)) (by rfl) T.m__law_draw T.F__law_draw.kp T.b__law_draw .nil pass0 (pa_cons (pv 0) (pa_cons pe_int pa_nil)))) (pa_cons (pe_op op_add (pe_op op_pow pe_int pe_int) (pe_call (ok__law_draw T) (hr.mono (by decide)) (by rfl) T.m__law_draw T.F__law_draw.kp T.b__law_draw .nil pass0 (pa_cons (pv 0) (pa_cons (pe_op op_pow pe_int pe_int) pa_nil)))) (pa_cons (pe_op op_sub (pe_op op_pow pe_int pe_int) (pe_call (ok__law_draw T) (hr.mono (by decide)) (by rfl) T.m__law_draw T.F__law_draw.kp T.b__law_draw .nil pass0 (pa_cons (pv 0) (pa_cons pe_int pa_nil)))) pa_nil)))))
  (pss_one (ps_ret (pe_call (ok__law_pick T) hr (by rfl) T.m__law_pick T.F__law_pick.kp T.b__law_pick .nil pass0 (pa_cons (pv 0) (pa_cons (pv 1) pa_nil)))))), ?_⟩
    have e12 : (10 : Int) ^ (12 : Int).toNat = 10 ^ 12 := by decide +kernel
    have e30 : (10 : Int) ^ (30 : Int).toNat = 10 ^ 30 := by decide +kernel
    refine ⟨_, rfl, d, c, n, 400, rfl, hp, by omega, by decide, by decide, fun v1 H1 a0 a1 hp1 b1 => ⟨_, _, rfl, rfl, ?_⟩⟩
    refine ⟨10, 12, rfl, rfl, ⟨by decide, by decide, by decide⟩, _, rfl, 10, 12, rfl, rfl, ⟨by decide, by decide, by decide⟩, d, c, n + 1, _, rfl, hp1, by omega, by decide +kernel, by decide +kernel, fun v2 H2 b0 b2 hp2 b3 => ⟨_, _, rfl, rfl, ?_⟩⟩
    rw [e12] at b2
    refine ⟨10, 30, rfl, rfl, ⟨by decide, by decide, by decide⟩, _, rfl, d, c, n + 1 + 1, 60, rfl, hp2, by omega, by decide, by decide, fun v3 H3 c0 c1 hp3 b4 => ⟨_, _, rfl, rfl, sz (show 3 ≤ 100000 by decide), fun l nl => ?_⟩⟩
    rw [e12, e30]
    have s4 := same_upd (o := .lst [.int (100 + v1), .int (10 ^ 12 + v2), .int (10 ^ 30 - v3)]) nl
    have e4 : (upd H3 l (.lst [.int (100 + v1), .int (10 ^ 12 + v2), .int (10 ^ 30 - v3)])) l = some (.lst [.int (100 + v1), .int (10 ^ 12 + v2), .int (10 ^ 30 - v3)]) := upd_same
    refine ⟨_, rfl, _, rfl, d, c, l, n + 1 + 1 + 1, [.int (100 + v1), .int (10 ^ 12 + v2), .int (10 ^ 30 - v3)], rfl, hp3.same s4, by omega, SqL.at e4, (show 0 < 3 by decide), (show 3 ≤ 100000 by decide), fun y H5 hy hp5 b5 => ?_⟩
    have bb : But d H H5 := b1.trans (b3.trans (b4.trans ((but_same s4).trans b5)))
    simp only [List.mem_cons, List.not_mem_nil, or_false] at hy
    rcases hy with rfl | rfl | rfl
    · exact q _ _ (by omega) (by omega) (hp5.up (by omega)) bb
    · exact q _ _ (by omega) (by omega) (hp5.up (by omega)) bb
    · exact q _ _ (by omega) (by omega) (hp5.up (by omega)) bb
def spLawPlace : Sp := fun vs H Q _ => ∃ (d c : Addr) (n : Nat) (k : Int), vs = [.ref d, .int k] ∧ Pen H d c n ∧ n + 10 < 2 ^ 40 ∧ 1 ≤ k ∧ k ≤ 10 ^ 30 ∧ ∀ (x : Int) H', -(10 ^ 31) ≤ x → x ≤ 2 * 10 ^ 31 → Pen H' d c (n + 5) → But d H H' → Q (.int x) H'
theorem ok__law_place (T : Tx w K mg a) : FnOk P w K mg base CX0 3 a.f__law_place a.d__law_place ["pen", "k"] spLawPlace := by
  refine T.F__law_place.ok sc__law_place (fun vs H Q E h => ?_) (fun cdv A outer s H vs Q E hr h => ?_)
  · obtain ⟨d, c, n, k, rfl, _⟩ := h
    rfl
  · obtain ⟨d, c, n, k, rfl, hp, hn, k1, k2, q⟩ := h
    refine ⟨_, 
(pss_cons (ps_set (i := 2) sc__law_place.nd rfl (.inl rfl) (pe_call (ok__law_pick T) hr (by rfl) T.m__law_pick T.F__law_pick.kp T.b__law_pick .nil pass0 (pa_cons (pv 0) (pa_cons (pe_lst (pa_cons (pv 1) (pa_cons (pe_un un_neg pe_int) (pa_cons (pe_op op_add (pv 1) (pe_op op_pow pe_int pe_int)) (pa_cons (pe_un un_neg (pe_op op_pow pe_int pe_int)) pa_nil))))) pa_nil))))
  (pss_cons (ps_set (i := 3) sc__law_place.nd rfl (.inl rfl) (pe_call (ok__law_pick T) hr (by rfl) T.m__law_pick T.F__law_pick.kp T.b__law_pick .nil pass0 (pa_cons (pv 0) (pa_cons (pe_lst (pa_cons pe_int (pa_cons pe_int (pa_cons (pe_op op_fdivN (pv 1) pe_int) (pa_cons (pe_op op_sub (pv 1) pe_int) (pa_cons (pe_op op_fdivN (pv 1) pe_int) pa_nil)))))) pa_nil))))
  (pss_one (ps_ret (pe_ifExp (pt_cmpR op_eq (pe_call (ok__law_draw T) (hr.mono (by decide)) (by rfl) T.m__law_draw T.F__law_draw.kp T.b__law_draw .nil pass0 (pa_cons (pv 0) (pa_cons pe_int pa_nil))) pe_int (nomark _)) (pv 2) (pe_ifExp (pt_cmpR op_eq (pe_call (ok__law_draw T) (hr.mono (by decide)) (by rfl) T.m__law_draw T.F__law_draw.kp T.b__law_draw .nil pass0 (pa_cons (pv 0) (pa_cons pe_int pa_nil))) pe_int (nomark _)) (pv 3) (pe_call (ok__law_draw T) (hr.mono (by decide)) (by rfl) T.m__law_draw T.F__law_draw.kp T.b__law_draw .nil pass0 (pa_cons (pv 0) (pa_cons (pv 1) pa_nil))))))))), ?_⟩
    have e31 : (10 : Int) ^ (31 : Int).toNat = 10 ^ 31 := by decide +kernel
    refine ⟨_, rfl, _, rfl, 1, rfl, _, rfl, 10, 31, rfl, rfl, ⟨by decide, by decide, by decide⟩, _, _, rfl, rfl, 10, 31, rfl, rfl, ⟨by decide, by decide, by decide⟩, _, rfl, sz (show 4 ≤ 100000 by decide), fun l nl => ?_⟩
    rw [e31]
    have s1 := same_upd (o := .lst [.int k, .int (-1), .int (k + 10 ^ 31), .int (-10 ^ 31)]) nl
    have e1 : (upd H l (.lst [.int k, .int (-1), .int (k + 10 ^ 31), .int (-10 ^ 31)])) l = some (.lst [.int k, .int (-1), .int (k + 10 ^ 31), .int (-10 ^ 31)]) := upd_same
    refine ⟨d, c, l, n, [.int k, .int (-1), .int (k + 10 ^ 31), .int (-10 ^ 31)], rfl, hp.same s1, by omega, SqL.at e1, (show 0 < 4 by decide), (show 4 ≤ 100000 by decide), fun y1 H1 hy1 hp1 b1 => ?_⟩
    obtain ⟨g, rfl, g1, g2⟩ : ∃ g : Int, y1 = .int g ∧ -(10 ^ 31) ≤ g ∧ g ≤ 2 * 10 ^ 31 := by
      simp only [List.mem_cons, List.not_mem_nil, or_false] at hy1
      rcases hy1 with rfl | rfl | rfl | rfl
      · exact ⟨_, rfl, by omega, by omega⟩
      · exact ⟨_, rfl, by omega, by omega⟩
      · exact ⟨_, rfl, by omega, by omega⟩
      · exact ⟨_, rfl, by omega, by omega⟩
    have bb1 : But d H H1 := (but_same s1).trans b1
    -- near
    refine ⟨_, rfl, _, rfl, _, 2, rfl, rfl, by unfold CDivN; omega, _, rfl, _, 1, rfl, rfl, _, rfl, _, 3, rfl, rfl, by unfold CDivN; omega, sz (show 5 ≤ 100000 by decide), fun l2 nl2 => ?_⟩
    have s2 := same_upd (o := .lst [.int 0, .int 1, .int (k.fdiv 2), .int (k - 1), .int (k.fdiv 3)]) nl2
    have e2 : (upd H1 l2 (.lst [.int 0, .int 1, .int (k.fdiv 2), .int (k - 1), .int (k.fdiv 3)])) l2 = some (.lst [.int 0, .int 1, .int (k.fdiv 2), .int (k - 1), .int (k.fdiv 3)]) := upd_same
    refine ⟨d, c, l2, n + 1, [.int 0, .int 1, .int (k.fdiv 2), .int (k - 1), .int (k.fdiv 3)], rfl, hp1.same s2, by omega, SqL.at e2, (show 0 < 5 by decide), (show 5 ≤ 100000 by decide), fun y2 H2 hy2 hp2 b2 => ?_⟩
    obtain ⟨m, rfl, m1, m2⟩ : ∃ g : Int, y2 = .int g ∧ -(10 ^ 31) ≤ g ∧ g ≤ 2 * 10 ^ 31 := by
      have d2 : k.fdiv 2 = k / 2 := Int.fdiv_eq_ediv_of_nonneg _ (by decide)
      have d3 : k.fdiv 3 = k / 3 := Int.fdiv_eq_ediv_of_nonneg _ (by decide)
      simp only [List.mem_cons, List.not_mem_nil, or_false] at hy2
      rcases hy2 with rfl | rfl | rfl | rfl | rfl
      · exact ⟨_, rfl, by omega, by omega⟩
      · exact ⟨_, rfl, by omega, by omega⟩
      · exact ⟨_, rfl, by omega, by omega⟩
      · exact ⟨_, rfl, by omega, by omega⟩
      · exact ⟨_, rfl, by omega, by omega⟩
    have bb2 : But d H H2 := bb1.trans ((but_same s2).trans b2)
    refine ⟨_, rfl, d, c, n + 1 + 1, 6, rfl, hp2, by omega, by decide, by decide, fun v3 H3 _ _ hp3 b3 => ⟨rfl, _, rfl, ite2 (fun _ => ⟨_, rfl, q g _ g1 g2 (hp3.up (by omega)) (bb2.trans b3)⟩) (fun _ => ?_)⟩⟩
    refine ⟨_, rfl, d, c, n + 1 + 1 + 1, 2, rfl, hp3, by omega, by decide, by decide, fun v4 H4 _ _ hp4 b4 => ⟨rfl, _, rfl, ite2 (fun _ => ⟨_, rfl, q m _ m1 m2 (hp4.up (by omega)) ((bb2.trans b3).trans b4)⟩) (fun _ => ?_)⟩⟩
    exact ⟨_, rfl, _, rfl, d, c, n + 1 + 1 + 1 + 1, k, rfl, hp4, by omega, by omega, Int.lt_of_le_of_lt k2 (by decide +kernel), fun v5 H5 z0 z1 hp5 b5 => q v5 _ (by omega) (by omega) (hp5.up (by omega)) (((bb2.trans b3).trans b4).trans b5)⟩
end

theorem freeB {d c o : Addr} {n : Nat} {H H' : Hp} (b : But d H H') (hp : Pen H' d c n) (no : H' o = none) : H o = none := by
  obtain ⟨kvs, hd⟩ := hp.dict
  cases hH : H o with
  | none => rfl
  | some u =>
    by_cases hod : o = d
    · subst hod
      rw [hd] at no
      cases no
    · rw [b o u hH hod] at no
      cases no
section
variable {P : Program} {w : World} {K : PySem.W.Frag} {mg : Str → Option Value} {base : Heap} {a : Ad}
def spProbes : Sp := fun vs H Q _ => ∃ (d c : Addr) (n : Nat) (k : Int), vs = [.ref d, .int k] ∧ Pen H d c n ∧ n + 100 < 2 ^ 40 ∧ 1 ≤ k ∧ k ≤ 10 ^ 30 ∧ ∀ (l : Addr) (ms : List Int) H', H l = none → H' l = some (.lst (ms.map V.int)) → ms.length ≤ 40 → (∀ m ∈ ms, 0 ≤ m ∧ m < k) → Pen H' d c (n + 30) → But d H H' → Q (.ref l) H'
theorem ok__law_probes (T : Tx w K mg a) : FnOk P w K mg base CX0 2 a.f__law_probes a.d__law_probes ["pen", "k"] spProbes := by
  refine T.F__law_probes.ok sc__law_probes (fun vs H Q E h => ?_) (fun cdv A outer s H vs Q E hr h => ?_)
  · obtain ⟨d, c, n, k, rfl, _⟩ := h
    rfl
  · obtain ⟨d, c, n, k, rfl, hp, hn, k1, k2, q⟩ := h
    refine ⟨_, 
(pss_cons (ps_set (i := 2) sc__law_probes.nd rfl (.inl rfl) (pe_lst pa_nil))
  (pss_cons (ps_for PassesOwn.never rfl (pi_list (pe_lst (pa_cons pe_int (pa_cons (pe_op op_fdivN (pv 1) pe_int) (pa_cons (pe_op op_fdivN (pv 1) pe_int) (pa_cons (pe_op op_fdivN (pe_op op_mul pe_int (pv 1)) pe_int) (pa_cons (pe_op op_sub (pv 1) pe_int) pa_nil))))))) (pg_name (i := 3) sc__law_probes.nd rfl (.inr rfl))
  (pss_one (ps_set (i := 2) sc__law_probes.nd rfl (.inl rfl) (pe_op op_cat (pv 2) (pe_lc (own := [("lap", 5)]) (g := gName 5) rfl sc__law_probes.nd (pi_range1 (by rfl) T.z_range (pa_cons pe_int pa_nil)) (blkOk_by (own := [("lap", 5)]) (N := ["pen", "k", "found", "at", "place", "lap"]) (sc := defScope s__law_probes) (by decide +kernel)) (fun _ _ _ _ _ => pg_name (i := 5) sc__law_probes.nd rfl (Or.inl rfl)) (fun _ _ _ _ _ => pts_nil) (fun _ _ _ _ _ => (pe_op op_sub (pe_op op_add (pv 3) (pe_call (ok__law_draw T) hr (by rfl) T.m__law_draw T.F__law_draw.kp T.b__law_draw .nil pass0 (pa_cons (pv 0) (pa_cons pe_int pa_nil)))) pe_int)))))))
  (pss_cons (ps_set (i := 2) sc__law_probes.nd rfl (.inl rfl) (pe_op op_cat (pv 2) (pe_lst (pa_cons pe_int (pa_cons pe_int (pa_cons (pe_op op_sub (pe_op op_fdivN (pv 1) pe_int) pe_int) (pa_cons (pe_op op_fdivN (pv 1) pe_int) (pa_cons (pe_op op_sub (pv 1) pe_int) (pa_cons (pe_op op_sub (pv 1) pe_int) (pa_cons (pe_call (ok__law_draw T) hr (by rfl) T.m__law_draw T.F__law_draw.kp T.b__law_draw .nil pass0 (pa_cons (pv 0) (pa_cons (pv 1) pa_nil))) pa_nil))))))))))
  (pss_one (ps_ret (pe_lc (own := [("place", 4)]) (g := gName 4) rfl sc__law_probes.nd (pi_list (pv 2)) (blkOk_by (own := [("place", 4)]) (N := ["pen", "k", "found", "at", "place", "lap"]) (sc := defScope s__law_probes) (by decide +kernel)) (fun _ _ _ _ _ => pg_name (i := 4) sc__law_probes.nd rfl (Or.inl rfl)) (fun _ _ _ _ _ => (pts_one (pt_chain op_le op_lt pe_int (pv 4) (pv 1)))) (fun _ _ _ _ _ => (pv 4)))))))), ?_⟩
    refine ⟨sz (show 0 ≤ 100000 by decide), fun f0 nf0 => ?_⟩
    have s1 := same_upd (o := .lst []) nf0
    have e1 : (upd H f0 (.lst [])) f0 = some (.lst (([] : List Int).map V.int)) := upd_same
    change gName 2 (V.ref f0) _ (upd H f0 (.lst [])) _
    generalize upd H f0 (.lst []) = H1 at s1 e1 ⊢
    refine ⟨_, rfl, _, 4, rfl, rfl, by unfold CDivN; omega, _, rfl, _, 2, rfl, rfl, by unfold CDivN; omega, _, rfl, 3, k, rfl, rfl, .inl ⟨by decide, by decide⟩, _, 4, rfl, rfl, by unfold CDivN; omega, _, rfl, _, 1, rfl, rfl, sz (show 5 ≤ 100000 by decide), fun l1 nl1 => ?_⟩
    have d2 : k.fdiv 2 = k / 2 := Int.fdiv_eq_ediv_of_nonneg _ (by decide)
    have s2 := s1.trans (same_upd (o := .lst [.int 0, .int (k.fdiv 4), .int (k.fdiv 2), .int ((3 * k).fdiv 4), .int (k - 1)]) nl1)
    have el : (upd H1 l1 (.lst [.int 0, .int (k.fdiv 4), .int (k.fdiv 2), .int ((3 * k).fdiv 4), .int (k - 1)])) l1 = some (.lst ([0, k.fdiv 4, k.fdiv 2, (3 * k).fdiv 4, k - 1].map V.int)) := upd_same
    have e2 := (same_upd (o := .lst [.int 0, .int (k.fdiv 4), .int (k.fdiv 2), .int ((3 * k).fdiv 4), .int (k - 1)]) nl1) _ _ e1
    have hp2 := hp.same s2
    refine ⟨l1, rfl, ⟨_, SqL.at el⟩, ?_⟩
    change ∃ W : Nat → Nat → L2.St → Hp → Prop, (∃ m, W 0 m _ (upd H1 l1 (.lst [.int 0, .int (k.fdiv 4), .int (k.fdiv 2), .int ((3 * k).fdiv 4), .int (k - 1)]))) ∧ _
    generalize upd H1 l1 (.lst [.int 0, .int (k.fdiv 4), .int (k.fdiv 2), .int ((3 * k).fdiv 4), .int (k - 1)]) = H2 at s2 el e2 hp2 ⊢
    obtain ⟨kvs2, hd2⟩ := hp2.dict
    have els : ([0, k.fdiv 4, k.fdiv 2, (3 * k).fdiv 4, k - 1] : List Int).length = 5 := rfl
    generalize ([0, k.fdiv 4, k.fdiv 2, (3 * k).fdiv 4, k - 1] : List Int) = starts at el els
    refine for_it (walk_list (xs := starts.map V.int)) (fun j σ H' => ∃ (y3 y4 y5 : Option V) (fo : Addr) (ms : List Int), σ = [some (.ref d), some (.int k), some (.ref fo), y3, y4, y5] ∧ H' fo = some (.lst (ms.map V.int)) ∧ ms.length = 4 * j ∧ Pen H' d c (n + 4 * j) ∧ But d H2 H') ?g0 ?gG ?gs ?gd
    case g0 => exact ⟨none, none, none, f0, [], rfl, e2, rfl, hp2, But.refl⟩
    case gG =>
      rintro j σ H' _ ⟨_, _, _, _, _, _, _, _, _, b⟩
      exact SqL.at (b.list hd2 el)
    case gs =>
      rintro j y σ H3 H4 hj ⟨y3, y4, y5, fo, ms, rfl, efo, hml, hp4, b4⟩ ⟨rfl, ex⟩
      rw [List.length_map] at hj
      rw [List.getElem?_map, List.getElem?_eq_getElem hj] at ex
      cases ex
      generalize starts[j] = at0
      refine ⟨_, rfl, 4, rfl, by decide, by decide, fun D hD => ?_⟩
      obtain ⟨_, hd4⟩ := hp4.dict
      obtain ⟨_, hc4⟩ := hp4.cells
      refine lc_range (lo := 0) (n := 4) (fun l H' => Pen H' d c (n + 4 * j + l) ∧ But d H4 H' ∧ ∃ ns : List Int, ns.length = l ∧ H' D = some (.lst (ns.map V.int))) ?c0 ?cs ?cd
      case c0 => exact ⟨hp4.same (same_upd hD), but_same (same_upd hD), [], rfl, upd_same⟩
      case cs =>
        rintro l H' hl ⟨hp5, b5, ns, hn5, eD⟩
        obtain ⟨_, hd5⟩ := hp5.dict
        refine ⟨rfl, _, rfl, _, rfl, d, c, _, 41, rfl, hp5, by omega, by decide, by decide, fun v H6 v0 v1 hp6 b6 => ⟨_, _, rfl, rfl, _, 20, rfl, rfl, ns.map V.int, b6.list hd5 eD, szlt (by rw [List.length_map]; omega), hp6.mut (ne_of_none hd4 hD) (ne_of_none hc4 hD), (b5.trans b6).mut hD, ns ++ [at0 + v - 20], by rw [List.length_append, hn5]; rfl, ?_⟩⟩
        rw [upd_same, List.map_append]
        rfl
      case cd =>
        rintro H5 ⟨hp5, b5, ns, hn5, eD⟩
        have efo5 := b5.list hd4 efo
        refine ⟨fo, D, ms.map V.int, ns.map V.int, rfl, rfl, efo5, eD, sz (by rw [List.length_map, List.length_map]; omega), fun fn nfn => ?_⟩
        have s6 := same_upd (o := .lst (ms.map V.int ++ ns.map V.int)) nfn
        refine ⟨_, _, _, fn, ms ++ ns, rfl, by rw [upd_same, List.map_append], by rw [List.length_append]; omega, (hp5.same s6).up (by omega), b4.trans (b5.trans (but_same s6))⟩
    case gd =>
      rintro σ H3 ⟨y3, y4, y5, fo, ms, rfl, efo, hml, hp3, b3⟩
      rw [List.length_map, els] at hml hp3
      obtain ⟨_, hd3⟩ := hp3.dict
      refine ⟨_, rfl, _, rfl, _, 2, rfl, rfl, by unfold CDivN; omega, _, 1, rfl, rfl, _, rfl, _, 2, rfl, rfl, by unfold CDivN; omega, _, rfl, _, 2, rfl, rfl, _, rfl, _, 1, rfl, rfl, _, rfl, _, rfl, d, c, _, k, rfl, hp3, by omega, by omega, Int.lt_of_le_of_lt k2 (by decide +kernel), fun v H4 v0 v1 hp4 b4 => ⟨sz (show 7 ≤ 100000 by decide), fun l7 nl7 => ?_⟩⟩
      have s5 := same_upd (o := .lst [.int 0, .int 1, .int (k.fdiv 2 - 1), .int (k.fdiv 2), .int (k - 2), .int (k - 1), .int v]) nl7
      have e5 : (upd H4 l7 (.lst [.int 0, .int 1, .int (k.fdiv 2 - 1), .int (k.fdiv 2), .int (k - 2), .int (k - 1), .int v])) l7 = some (.lst ([0, 1, k.fdiv 2 - 1, k.fdiv 2, k - 2, k - 1, v].map V.int)) := upd_same
      change rCat (V.ref fo) (V.ref l7) (upd H4 l7 (.lst [.int 0, .int 1, .int (k.fdiv 2 - 1), .int (k.fdiv 2), .int (k - 2), .int (k - 1), .int v])) _
      generalize upd H4 l7 (.lst [.int 0, .int 1, .int (k.fdiv 2 - 1), .int (k.fdiv 2), .int (k - 2), .int (k - 1), .int v]) = H5 at s5 e5 ⊢
      have e7 : ([0, 1, k.fdiv 2 - 1, k.fdiv 2, k - 2, k - 1, v] : List Int).length = 7 := rfl
      generalize ([0, 1, k.fdiv 2 - 1, k.fdiv 2, k - 2, k - 1, v] : List Int) = seven at e5 e7
      refine ⟨fo, l7, ms.map V.int, seven.map V.int, rfl, rfl, s5 _ _ (b4.list hd3 efo), e5, sz (by rw [List.length_map, List.length_map]; omega), fun l8 nl8 => ?_⟩
      have s6 := s5.trans (same_upd (o := .lst (ms.map V.int ++ seven.map V.int)) nl8)
      have e8 : (upd H5 l8 (.lst (ms.map V.int ++ seven.map V.int))) l8 = some (.lst ((ms ++ seven).map V.int)) := by rw [upd_same, List.map_append]
      have al : (ms ++ seven).length = 27 := by
        rw [List.length_append]
        omega
      generalize ms ++ seven = all at e8 al
      change gName 2 (V.ref l8) _ (upd H5 l8 (.lst (ms.map V.int ++ seven.map V.int))) _
      generalize upd H5 l8 (.lst (ms.map V.int ++ seven.map V.int)) = H6 at s6 e8 ⊢
      have hp6 := hp4.same s6
      have b6 : But d H H6 := (but_same s2).trans (b3.trans (b4.trans (but_same s6)))
      refine ⟨_, rfl, l8, rfl, ⟨_, SqL.at e8⟩, fun D hD => ?_⟩
      refine lc_it (walk_list (xs := all.map V.int)) (fun j H' => Same H6 H' ∧ ∃ ns : List Int, ns.length ≤ j ∧ (∀ m ∈ ns, 0 ≤ m ∧ m < k) ∧ H' D = some (.lst (ns.map V.int))) ?h0 ?hG ?hs ?hd
      case h0 => exact ⟨same_upd hD, [], Nat.le_refl _, fun m hm => absurd hm List.not_mem_nil, upd_same⟩
      case hG =>
        rintro j H' _ ⟨sm, _⟩
        exact sm.seq (SqL.at e8)
      case hs =>
        rintro j yy H7 H8 hj ⟨sm, ns, hnl, hns, eD⟩ ⟨rfl, ex⟩
        rw [List.length_map] at hj
        rw [List.getElem?_map, List.getElem?_eq_getElem hj] at ex
        cases ex
        generalize all[j] = z0
        refine ⟨rfl, _, rfl, _, _, rfl, rfl, _, rfl, ite2 (fun c0 => ?_) (fun _ => ?_)⟩
        · have c0 : 0 ≤ z0 := of_decide_eq_true c0
          refine ⟨_, rfl, _, _, rfl, rfl, _, rfl, ite2 (fun c1 => ?_) (fun _ => ⟨sm, ns, by omega, hns, eD⟩)⟩
          have c1 : z0 < k := of_decide_eq_true c1
          refine ⟨_, rfl, ns.map V.int, eD, szlt (by rw [List.length_map]; omega), keep_upd sm hD, ns ++ [z0], by rw [List.length_append]; exact Nat.succ_le_succ hnl, fun m hm => ?_, by rw [upd_same, List.map_append]; rfl⟩
          rcases List.mem_append.mp hm with h | h
          · exact hns m h
          · rw [List.mem_singleton.mp h]
            exact ⟨c0, c1⟩
        · exact ⟨_, rfl, iteF ⟨sm, ns, by omega, hns, eD⟩⟩
      case hd =>
        rintro H7 ⟨sm, ns, hnl, hns, eD⟩
        rw [List.length_map, al] at hnl
        have hDH : H D = none := freeB b6 hp6 hD
        exact q D ns H7 hDH eD (by omega) hns ((hp6.same sm).up (by omega)) (b6.trans (but_same sm))
end

theorem eq_rn {K : PySem.W.Frag} {C : Addr} {H : Hp} {p q : Addr} {n m : Int} {ps qs : List Pc} {Q : VK} (h1 : RunsAt C H p n ps) (h2 : RunsAt C H q m qs) (e : ps = qs) (k : Q (.bl true) H) : rEqOwn2 K C (spRunsEq C) (.ref p) (.ref q) H Q := by
  subst e
  have h1' := h1
  have h2' := h2
  obtain ⟨dx, fs, _, _, p1, _⟩ := h1
  obtain ⟨dy, gs, _, _, q1, _⟩ := h2
  refine ⟨p, dx, fs, .ref C, rfl, p1, .ins q1, ?_, p, q, n, m, ps, rfl, h1', h2', ⟨_, rfl⟩, k⟩
  unfold PySem.W.notFirst
  simp
def oddR : List V := [.int 0, .int (-1), .non, .bl true, .str "3", .int (10 ^ (30 : Int).toNat + 1)]
theorem oddR_ok {y : V} (h : y ∈ oddR) : (∃ ib, ∀ H, IsI H y ib) ∧ btM 1 (10 ^ 30) y = false ∧ ∃ t, ReprT y t := by
  simp only [oddR, List.mem_cons, List.not_mem_nil, or_false] at h
  rcases h with rfl | rfl | rfl | rfl | rfl | rfl
  · exact ⟨⟨_, fun _ => .int _⟩, by decide +kernel, _, .int _ (by decide +kernel)⟩
  · exact ⟨⟨_, fun _ => .int _⟩, by decide +kernel, _, .int _ (by decide +kernel)⟩
  · exact ⟨⟨_, fun _ => .non⟩, rfl, _, .non⟩
  · exact ⟨⟨_, fun _ => .bl _⟩, rfl, _, .bl _⟩
  · exact ⟨⟨_, fun _ => .str _⟩, rfl, _, .str _ (by decide +kernel)⟩
  · exact ⟨⟨_, fun _ => .int _⟩, by decide +kernel, _, .int _ (by decide +kernel)⟩
theorem id_val {k z : Int} (h : 1 ≤ k) (z0 : 0 ≤ z) (z1 : z < k) : valP (idP k) z = z := by
  have c : Chain 0 k [(⟨0, k, 0, 1⟩ : Pc)] := ⟨rfl, h, .inl rfl, by show 0 + k = k; omega⟩
  rw [show valP (idP k) z = _ from (oneF_ok c).2 z z0 z1]
  show (if z < 0 + k then 0 + 1 * (z - 0) else z) = z
  split <;> omega
theorem tval {k x y z : Int} {ins : Bool} {ps : List Pc} (hin : decide (0 ≤ x ∧ x < k ∧ 0 ≤ y ∧ y < k) = ins) (te : if 0 ≤ x ∧ x < k ∧ 0 ≤ y ∧ y < k ∧ x ≠ y then ∀ j, 0 ≤ j → j < k → valP ps j = exchM x y j else ps = idP k) (k1 : 1 ≤ k) (z0 : 0 ≤ z) (z1 : z < k) :
    valP ps z = if ins = true then exchM x y z else z := by
  by_cases c : 0 ≤ x ∧ x < k ∧ 0 ≤ y ∧ y < k ∧ x ≠ y
  · rw [if_pos c] at te
    rw [← hin, decide_eq_true (show 0 ≤ x ∧ x < k ∧ 0 ≤ y ∧ y < k from ⟨c.1, c.2.1, c.2.2.1, c.2.2.2.1⟩), if_pos rfl]
    exact te z z0 z1
  · rw [if_neg c] at te
    rw [te, id_val k1 z0 z1]
    cases ins with
    | false => rfl
    | true =>
      have h := of_decide_eq_true hin
      have e : x = y := Decidable.byContradiction fun ne => c ⟨h.1, h.2.1, h.2.2.1, h.2.2.2, ne⟩
      rw [if_pos rfl, e]
      unfold exchM
      split
      · assumption
      · rfl
theorem rval {k x y b z : Int} {ins : Bool} {ps : List Pc} (hin : decide (0 ≤ x ∧ x < k ∧ 0 ≤ y ∧ y < k) = ins) (re : if 0 ≤ x ∧ y < k ∧ x < y then ∀ j, 0 ≤ j → j < k → valP ps j = rollM x y b j else ps = idP k) (k1 : 1 ≤ k) (z0 : 0 ≤ z) (z1 : z < k) :
    valP ps z = if ins = true ∧ x < y ∧ x ≤ z ∧ z ≤ y then x + (z - x - b).fmod (y - x + 1) else z := by
  by_cases c : 0 ≤ x ∧ y < k ∧ x < y
  · rw [if_pos c] at re
    have hi : ins = true := by
      rw [← hin]
      exact decide_eq_true ⟨c.1, by omega, by omega, c.2.1⟩
    rw [re z z0 z1, hi]
    unfold rollM
    by_cases d : x ≤ z ∧ z ≤ y
    · rw [if_pos d, if_pos ⟨rfl, c.2.2, d⟩]
    · rw [if_neg d, if_neg fun h => d h.2.2]
  · rw [if_neg c] at re
    rw [re, id_val k1 z0 z1, if_neg]
    rintro ⟨h1, h2, _⟩
    have h := of_decide_eq_true (hin.trans h1)
    exact c ⟨h.1, h.2.2.2, h2⟩
section
variable {P : Program} {w : World} {K : PySem.W.Frag} {mg : Str → Option Value} {base : Heap} {a : Ad}
def spLaw (K : PySem.W.Frag) (TT : List (Addr × Str)) : Sp := fun vs H Q _ => ∃ (s : Addr) (ns : List Int), vs = [.ref s] ∧ SqL K H s (ns.map V.int) ∧ ns.length ≤ 63 ∧ LamX.Tabs TT H ∧ ∀ H', Q (.bl true) H'
theorem ok_law (T : Tx w K mg a) (B : Tb base mg a) : FnOk P w K mg base CX0 9 a.f_law a.d_law ["script"] (spLaw K (tabsOf a)) := by
  refine T.L_law.ok T.b_law sc_law (fun vs H Q E h => ?_) (fun A outer s H vs Q E hr h => ?_)
  · obtain ⟨x, ns, rfl, _⟩ := h
    rfl
  · obtain ⟨x, ns, rfl, hS, hlen, hTb, q⟩ := h
    refine ⟨_, 
(pss_cons (ps_set (i := 1) sc_law.nd rfl (.inl rfl) (pe_call (ok__law_pen T) (hr.mono (by decide)) (by rfl) T.m__law_pen T.F__law_pen.kp T.b__law_pen .nil pass0 (pa_cons (pv 0) pa_nil)))
  (pss_cons (ps_for PassesOwn.never rfl (pi_range1 (by rfl) T.z_range (pa_cons pe_int pa_nil)) (pg_name (i := 2) sc_law.nd rfl (.inl rfl))
  (pss_cons (ps_set (i := 3) sc_law.nd rfl (.inl rfl) (pe_call (ok__law_pick T) (hr.mono (by decide)) (by rfl) T.m__law_pick T.F__law_pick.kp T.b__law_pick .nil pass0 (pa_cons (pv 1) (pa_cons (pe_lst (pa_cons (pe_op op_add pe_int (pe_call (ok__law_draw T) (hr.mono (by decide)) (by rfl) T.m__law_draw T.F__law_draw.kp T.b__law_draw .nil pass0 (pa_cons (pv 1) (pa_cons pe_int pa_nil)))) (pa_cons (pe_op op_add pe_int (pe_call (ok__law_draw T) (hr.mono (by decide)) (by rfl) T.m__law_draw T.F__law_draw.kp T.b__law_draw .nil pass0 (pa_cons (pv 1) (pa_cons pe_int pa_nil)))) (pa_cons (pe_call (ok__law_great T) (hr.mono (by decide)) (by rfl) T.m__law_great T.F__law_great.kp T.b__law_great .nil pass0 (pa_cons (pv 1) pa_nil)) pa_nil)))) pa_nil))))
  (pss_cons (ps_asg (pe_tup (pa_cons (pe_call (ok__law_place T) (hr.mono (by decide)) (by rfl) T.m__law_place T.F__law_place.kp T.b__law_place .nil pass0 (pa_cons (pv 1) (pa_cons (pv 3) pa_nil))) (pa_cons (pe_call (ok__law_place T) (hr.mono (by decide)) (by rfl) T.m__law_place T.F__law_place.kp T.b__law_place .nil pass0 (pa_cons (pv 1) (pa_cons (pv 3) pa_nil))) pa_nil))) (pg_tup rfl (pgs_cons (pg_name (i := 15) sc_law.nd rfl (.inr rfl)) (pgs_cons (pg_name (i := 16) sc_law.nd rfl (.inr rfl)) pgs_nil))))
  (pss_cons (ps_set (i := 4) sc_law.nd rfl (.inl rfl) (pe_call (ok__law_draw T) (hr.mono (by decide)) (by rfl) T.m__law_draw T.F__law_draw.kp T.b__law_draw .nil pass0 (pa_cons (pv 1) (pa_cons (pe_op op_pow pe_int pe_int) pa_nil))))
  (pss_cons (ps_set (i := 5) sc_law.nd rfl (.inl rfl) (pe_call (ok__law_pick T) (hr.mono (by decide)) (by rfl) T.m__law_pick T.F__law_pick.kp T.b__law_pick .nil pass0 (pa_cons (pv 1) (pa_cons (pe_lst (pa_cons pe_non (pa_cons pe_int (pa_cons pe_int (pa_cons (pe_un un_neg pe_int) (pa_cons (pv 4) (pa_cons (pe_un un_neg (pv 4)) (pa_cons (pv 3) (pa_cons (pe_call (ok__law_draw T) (hr.mono (by decide)) (by rfl) T.m__law_draw T.F__law_draw.kp T.b__law_draw .nil pass0 (pa_cons (pv 1) (pa_cons pe_int pa_nil))) pa_nil))))))))) pa_nil))))
  (pss_cons (ps_par (i := 6) (j := 7) (by rfl) sc_law.nd rfl rfl (by decide) rfl rfl (pa_cons (pe_callS (ok_exchange_runs T) (hr.mono (by decide)) (by rfl) T.m_exchange_runs T.F_exchange_runs.kp T.b_exchange_runs (fun σ => passAt takes0 σ) (pa_cons (pv 3) (pa_cons (pv 15) (pa_cons (pv 16) pa_nil)))) (pa_cons (pe_callS (ok_roll_runs T) (hr.mono (by decide)) (by rfl) T.m_roll_runs T.F_roll_runs.kp T.b_roll_runs (fun σ => passAt takes0 σ) (pa_cons (pv 3) (pa_cons (pv 15) (pa_cons (pv 16) (pa_cons (pv 5) pa_nil))))) pa_nil)) (by rfl))
  (C8.pss_cut (ps_set (i := 8) sc_law.nd rfl (.inl rfl) (pe_and (pe_chain op_le op_lt pe_int (pv 15) (pv 3)) (pe_one (pe_chain op_le op_lt pe_int (pv 16) (pv 3)))))
  (C8.pss_cut (ps_if (PW.pt (pw_and (pt_not (pt_val (pv 8))) (pw_and1 (PW.pt (pw_or (pt_not (pt_cmpR (op_eq_own2 (ok_Runs_eq T) (hr.mono (by decide)) T.ow_Runs.eq T.ow_Runs.fn T.b_Runs_eq) (pv 6) (pe_callS (ok_nothing_runs T) (hr.mono (by decide)) (by rfl) T.m_nothing_runs T.F_nothing_runs.kp T.b_nothing_runs (fun σ => passAt takes0 σ) (pa_cons (pv 3) pa_nil)) (nomark _))) (pw_or1 (pt_not (pt_cmpR (op_eq_own2 (ok_Runs_eq T) (hr.mono (by decide)) T.ow_Runs.eq T.ow_Runs.fn T.b_Runs_eq) (pv 7) (pe_callS (ok_nothing_runs T) (hr.mono (by decide)) (by rfl) T.m_nothing_runs T.F_nothing_runs.kp T.b_nothing_runs (fun σ => passAt takes0 σ) (pa_cons (pv 3) pa_nil)) (nomark _)))))))))
  (pss_one (ps_ret pe_bl))
  pss_nil)
  (C8.pss_cut (ps_if (PW.pt (pw_or (PW.pt (pw_and (pt_cmpR op_ge (pv 15) (pv 16) (nomark _)) (pw_and1 (pt_not (pt_cmpR (op_eq_own2 (ok_Runs_eq T) (hr.mono (by decide)) T.ow_Runs.eq T.ow_Runs.fn T.b_Runs_eq) (pv 7) (pe_callS (ok_nothing_runs T) (hr.mono (by decide)) (by rfl) T.m_nothing_runs T.F_nothing_runs.kp T.b_nothing_runs (fun σ => passAt takes0 σ) (pa_cons (pv 3) pa_nil)) (nomark _)))))) (pw_or1 (PW.pt (pw_and (pt_cmpR op_eq (pv 15) (pv 16) (nomark _)) (pw_and1 (pt_not (pt_cmpR (op_eq_own2 (ok_Runs_eq T) (hr.mono (by decide)) T.ow_Runs.eq T.ow_Runs.fn T.b_Runs_eq) (pv 6) (pe_callS (ok_nothing_runs T) (hr.mono (by decide)) (by rfl) T.m_nothing_runs T.F_nothing_runs.kp T.b_nothing_runs (fun σ => passAt takes0 σ) (pa_cons (pv 3) pa_nil)) (nomark _)))))))))
  (pss_one (ps_ret pe_bl))
  pss_nil)
  (pss_cons (ps_set (i := 9) sc_law.nd rfl (.inl rfl) (pe_op op_add (pe_op op_sub (pv 16) (pv 15)) pe_int))
  (C8.pss_cut (ps_set (i := 10) sc_law.nd rfl (.inl rfl) (pe_ifExp (pt_cmpR op_isN (pv 5) pe_non (nomark _)) (pe_op op_fdivN (pv 9) pe_int) (pv 5)))
  (pss_cons (ps_set (i := 11) sc_law.nd rfl (.inl rfl) (pe_call (ok__law_probes T) (hr.mono (by decide)) (by rfl) T.m__law_probes T.F__law_probes.kp T.b__law_probes .nil pass0 (pa_cons (pv 1) (pa_cons (pv 3) pa_nil))))
  (C8.pss_cut (ps_if (PW.pt (pw_and (pt_val (pv 8)) (pw_and1 (pt_cmpR op_lt (pv 15) (pv 16) (nomark _)))))
  (pss_one (ps_set (i := 11) sc_law.nd rfl (.inl rfl) (pe_op op_cat (pv 11) (pe_lst (pa_cons (pv 15) (pa_cons (pv 16) (pa_cons (pe_op op_add (pv 15) (pe_op op_modN (pe_callTy call_int1 (by rfl) T.z_int (by decide +kernel) (pa_cons (pv 10) pa_nil)) (pv 9))) (pa_cons (pe_op op_add (pv 15) (pe_op op_modN (pe_callTy call_int1 (by rfl) T.z_int (by decide +kernel) (pa_cons (pe_op op_sub (pv 10) pe_int) pa_nil)) (pv 9))) (pa_cons (pe_op op_sub (pv 16) pe_int) (pa_cons (pe_op op_add (pv 15) pe_int) pa_nil))))))))))
  pss_nil)
  (pss_cons (ps_for PassesOwn.never rfl (pi_list (pv 11)) (pg_name (i := 12) sc_law.nd rfl (.inl rfl))
  (pss_cons (ps_set (i := 13) sc_law.nd rfl (.inl rfl) (pv 12))
  (C8.pss_cut (ps_if (pt_val (pv 8))
  (pss_one (ps_set (i := 13) sc_law.nd rfl (.inl rfl) (pe_ifExp (pt_cmpR op_eq (pv 12) (pv 15) (nomark _)) (pv 16) (pe_ifExp (pt_cmpR op_eq (pv 12) (pv 16) (nomark _)) (pv 15) (pv 12)))))
  pss_nil)
  (pss_cons (ps_if (pt_cmpR op_ne (pe_methS (pv 6) T.cl_Runs T.me_Runs_at (ok_Runs_at T) (hr.mono (by decide)) T.b_Runs_at takes0 (pa_cons (pv 12) pa_nil)) (pv 13) (nomark _))
  (pss_one (ps_ret pe_bl))
  pss_nil)
  (pss_cons (ps_set (i := 13) sc_law.nd rfl (.inl rfl) (pv 12))
  (C8.pss_cut (ps_if (PW.pt (pw_and (pt_val (pv 8)) (pw_and (pt_cmpR op_lt (pv 15) (pv 16) (nomark _)) (pw_and1 (pt_chain op_le op_le (pv 15) (pv 12) (pv 16))))))
  (pss_one (ps_set (i := 13) sc_law.nd rfl (.inl rfl) (pe_op op_add (pv 15) (pe_op op_modN (pe_callTy call_int1 (by rfl) T.z_int (by decide +kernel) (pa_cons (pe_op op_sub (pe_op op_sub (pv 12) (pv 15)) (pv 10)) pa_nil)) (pv 9)))))
  pss_nil)
  (pss_one (ps_if (pt_cmpR op_ne (pe_methS (pv 7) T.cl_Runs T.me_Runs_at (ok_Runs_at T) (hr.mono (by decide)) T.b_Runs_at takes0 (pa_cons (pv 12) pa_nil)) (pv 13) (nomark _))
  (pss_one (ps_ret pe_bl))
  pss_nil))))))))
  (pss_cons (ps_set (i := 14) sc_law.nd rfl (.inr rfl) (pe_call (ok__law_pick T) (hr.mono (by decide)) (by rfl) T.m__law_pick T.F__law_pick.kp T.b__law_pick .nil pass0 (pa_cons (pv 1) (pa_cons (pe_lst (pa_cons pe_int (pa_cons (pe_un un_neg pe_int) (pa_cons pe_non (pa_cons pe_bl (pa_cons pe_str (pa_cons (pe_op op_add (pe_op op_pow pe_int pe_int) pe_int) pa_nil))))))) pa_nil))))
  (pss_cons (ps_if (pt_not (pt_val (pe_callH (ok__law_is_refused (P := P) (base := base) T) hr (by rfl) T.m__law_is_refused T.F__law_is_refused.kp T.b__law_is_refused (pa_cons (pe_lam (k := 6) (T := tabsOf a) B.tb_law rfl (.head _) B.hu_law rfl ⟨LamX.lamS_by (sc := defScope s_law) (by decide +kernel), fun _ _ _ _ _ => rfl, fun A outer s H E f c hr => (pe_callS (ok_exchange_runs T) hr (by rfl) T.m_exchange_runs T.F_exchange_runs.kp T.b_exchange_runs (fun σ => passAt (takes_of rfl rfl rfl rfl) σ) (pa_cons (pv 14) (pa_cons (pv 15) (pa_cons (pv 16) pa_nil))))⟩) (pa_cons (pv 14) pa_nil)))))
  (pss_one (ps_ret pe_bl))
  pss_nil)
  (pss_one (ps_if (pt_not (pt_val (pe_callH (ok__law_is_refused (P := P) (base := base) T) hr (by rfl) T.m__law_is_refused T.F__law_is_refused.kp T.b__law_is_refused (pa_cons (pe_lam (k := 6) (T := tabsOf a) B.tb_law rfl (.head _) B.hu_law rfl ⟨LamX.lamS_by (sc := defScope s_law) (by decide +kernel), fun _ _ _ _ _ => rfl, fun A outer s H E f c hr => (pe_callS (ok_roll_runs T) hr (by rfl) T.m_roll_runs T.F_roll_runs.kp T.b_roll_runs (fun σ => passAt (takes_of rfl rfl rfl rfl) σ) (pa_cons (pv 14) (pa_cons (pv 15) (pa_cons (pv 16) (pa_cons pe_int pa_nil)))))⟩) (pa_cons (pv 14) pa_nil)))))
  (pss_one (ps_ret pe_bl))
  pss_nil))))))))))))))))))
  (pss_one (ps_ret pe_bl)))), ?_⟩
    refine ⟨.ref x, rfl, x, ns, rfl, hS, hlen, fun d c H1 hdn hcn hp s1 => ?_⟩
    have hT1 := hTb.ext s1
    refine ⟨4, rfl, by decide, by decide, ?_⟩
    refine for_range (lo := 0) (n := 4) (fun i σ H2 => (∃ y2 y3 y4 y5 y6 y7 y8 y9 y10 y11 y12 y13 y14 y15 y16 : Option V, σ = [some (.ref x), some (.ref d), y2, y3, y4, y5, y6, y7, y8, y9, y10, y11, y12, y13, y14, y15, y16]) ∧ PT2 (tabsOf a) H2 d c (i * 1000)) ?_ ?_ ?_
    · exact ⟨⟨none, none, none, none, none, none, none, none, none, none, none, none, none, none, none, rfl⟩, hp, hT1⟩
    · rintro i σ H2 hi ⟨⟨y2, y3, y4, y5, y6, y7, y8, y9, y10, y11, y12, y13, y14, y15, y16, rfl⟩, hp2⟩
      -- k = _law_pick(pen, [1 + _law_draw(pen, 5), 1 + _law_draw(pen, 50), _law_great(pen)])
      refine ⟨_, rfl, _, rfl, d, c, _, 5, rfl, hp2.pen, by omega, by decide, by decide, fun v1 H3 a0 a1 hp3 b3 => ⟨1, v1, rfl, rfl, ?_⟩⟩
      refine ⟨_, rfl, d, c, _, 50, rfl, hp3, by omega, by decide, by decide, fun v2 H4 a2 a3 hp4 b4 => ⟨1, v2, rfl, rfl, ?_⟩⟩
      refine ⟨_, rfl, d, c, _, rfl, hp4, by omega, fun g H5 g0 g1 hp5 b5 => ⟨sz (show 3 ≤ 100000 by decide), fun l nl => ?_⟩⟩
      have s6 := same_upd (o := .lst [.int (1 + v1), .int (1 + v2), .int g]) nl
      refine ⟨d, c, l, _, [.int (1 + v1), .int (1 + v2), .int g], rfl, hp5.same s6, by omega, SqL.at upd_same, (show 0 < 3 by decide), (show 3 ≤ 100000 by decide), fun yk H7 hyk hp7 b7 => ?_⟩
      obtain ⟨k, rfl, k1, k2⟩ : ∃ k : Int, yk = .int k ∧ 1 ≤ k ∧ k ≤ 10 ^ 30 := by
        simp only [List.mem_cons, List.not_mem_nil, or_false] at hyk
        rcases hyk with rfl | rfl | rfl
        · exact ⟨_, rfl, by omega, by omega⟩
        · exact ⟨_, rfl, by omega, by omega⟩
        · exact ⟨_, rfl, g0, g1⟩
      have bb7 : But d H2 H7 := b3.trans (b4.trans (b5.trans ((but_same s6).trans b7)))
      obtain ⟨pt7, _⟩ := hp2.but hp7 bb7
      clear hyk b3 b4 b5 b7 bb7 s6 hp7 hp5 hp4 hp3
      -- x, y = _law_place(pen, k), _law_place(pen, k)
      refine ⟨_, rfl, _, rfl, d, c, _, k, rfl, pt7.pen, by omega, k1, k2, fun vx H8 x0 x1 hp8 b8 => ?_⟩
      obtain ⟨pt8, _⟩ := pt7.but hp8 b8
      refine ⟨_, rfl, _, rfl, d, c, _, k, rfl, pt8.pen, by omega, k1, k2, fun vy H9 y0 y1 hp9 b9 => ?_⟩
      obtain ⟨pt9, _⟩ := pt8.but hp9 b9
      clear hp8 hp9 b8 b9
      refine ⟨sz (show 2 ≤ 100000 by decide), fun tt ntt => ⟨tt, [.int vx, .int vy], rfl, SqT.at upd_same, rfl, .int vx, [.int vy], rfl, .int vy, [], rfl, rfl, ?_⟩⟩
      have s10 := same_upd (o := .tup [.int vx, .int vy]) ntt
      have pt10 := pt9.same s10
      generalize upd H9 tt (.tup [.int vx, .int vy]) = H10 at s10 pt10 ⊢
      clear s10 pt9 pt8 pt7 hp2
      -- far = _law_draw(pen, 10 ** 40)
      refine ⟨_, rfl, 10, 40, rfl, rfl, ⟨by decide, by decide, by decide⟩, d, c, _, _, rfl, pt10.pen, by omega, by decide +kernel, by decide +kernel, fun far H11 far0 far1 hp11 b11 => ?_⟩
      obtain ⟨pt11, _⟩ := pt10.but hp11 b11
      clear hp11 b11 pt10
      -- amount = _law_pick(pen, [None, 0, 1, -1, far, -far, k, _law_draw(pen, 9)])
      refine ⟨_, rfl, 1, rfl, _, rfl, _, rfl, _, rfl, _, rfl, _, rfl, d, c, _, 9, rfl, pt11.pen, by omega, by decide, by decide, fun v9 H12 z0 z1 hp12 b12 => ⟨sz (show 8 ≤ 100000 by decide), fun l2 nl2 => ?_⟩⟩
      obtain ⟨pt12, _⟩ := pt11.but hp12 b12
      have s13 := same_upd (o := .lst [.non, .int 0, .int 1, .int (-1), .int far, .int (-far), .int k, .int v9]) nl2
      refine ⟨d, c, l2, _, [.non, .int 0, .int 1, .int (-1), .int far, .int (-far), .int k, .int v9], rfl, (pt12.same s13).pen, by omega, SqL.at upd_same, (show 0 < 8 by decide), (show 8 ≤ 100000 by decide), fun am H14 ham hp14 b14 => ?_⟩
      obtain ⟨pt14, _⟩ := (pt12.same s13).but hp14 b14
      obtain ⟨b, hb⟩ : ∃ b : Int, (am = .non ∧ b = (vy - vx + 1).fdiv 2) ∨ am = .int b := by
        simp only [List.mem_cons, List.not_mem_nil, or_false] at ham
        rcases ham with rfl | rfl | rfl | rfl | rfl | rfl | rfl | rfl
        · exact ⟨_, .inl ⟨rfl, rfl⟩⟩
        all_goals exact ⟨_, .inr rfl⟩
      clear ham hp14 b14 s13 hp12 b12 pt11 pt12
      -- turn, roll = exchange_runs(k, x, y), roll_runs(k, x, y, amount)
      refine ⟨_, rfl, _, rfl, _, rfl, .int k, vx, vy, true, rfl, .int _, .inl ⟨k, rfl, k1, k2, fun tn H15 tps hT1 tl1 tc1 te s15 => ?_⟩⟩
      refine ⟨_, rfl, _, rfl, _, rfl, _, rfl, .int k, am, vx, vy, b, true, rfl, .int _, hb, .inl ⟨k, rfl, k1, k2, fun rn H16 rps hR1 rl1 rc1 re s16 => ?_⟩⟩
      refine ⟨_, _, rfl, ?_⟩
      have pt16 := (pt14.same s15).same s16
      have hT2 := hT1.same s16
      clear pt14 s15 s16 hT1
      -- inside = 0 <= x < k and 0 <= y < k
      refine ⟨fun σ' H' => σ' = [some (.ref x), some (.ref d), some (.int (0 + (i : Int))), some (.int k), some (.int far), some am, some (.ref tn), some (.ref rn), some (.bl (decide (0 ≤ vx ∧ vx < k ∧ 0 ≤ vy ∧ vy < k))), y9, y10, y11, y12, y13, y14, some (.int vx), some (.int vy)] ∧ H' = H16, ?_, ?_⟩
      · refine ⟨_, rfl, _, _, rfl, rfl, _, rfl, ?_⟩
        by_cases c1 : 0 ≤ vx
        rotate_left
        · rw [decide_eq_false c1, decide_eq_false (show ¬ (0 ≤ vx ∧ vx < k ∧ 0 ≤ vy ∧ vy < k) from fun h => c1 h.1)]
          exact iteF ⟨_, rfl, iteF ⟨rfl, rfl⟩⟩
        rw [decide_eq_true c1]
        refine iteT ⟨_, rfl, _, _, rfl, rfl, _, rfl, ?_⟩
        by_cases c2 : vx < k
        rotate_left
        · rw [decide_eq_false c2, decide_eq_false (show ¬ (0 ≤ vx ∧ vx < k ∧ 0 ≤ vy ∧ vy < k) from fun h => c2 h.2.1)]
          exact iteF ⟨rfl, rfl⟩
        rw [decide_eq_true c2]
        refine iteT ⟨_, rfl, _, _, rfl, rfl, _, rfl, ?_⟩
        by_cases c3 : 0 ≤ vy
        rotate_left
        · rw [decide_eq_false c3, decide_eq_false (show ¬ (0 ≤ vx ∧ vx < k ∧ 0 ≤ vy ∧ vy < k) from fun h => c3 h.2.2.1)]
          exact iteF ⟨rfl, rfl⟩
        rw [decide_eq_true c3]
        refine iteT ⟨_, rfl, _, _, rfl, rfl, ?_⟩
        rw [show decide (0 ≤ vx ∧ vx < k ∧ 0 ≤ vy ∧ vy < k) = decide (vy < k) from decide_eq_decide.mpr ⟨fun h => h.2.2.2, fun h => ⟨c1, c2, c3, h⟩⟩]
        exact ⟨rfl, rfl⟩
      rintro σ' H' ⟨rfl, rfl⟩
      generalize hin : decide (0 ≤ vx ∧ vx < k ∧ 0 ≤ vy ∧ vy < k) = ins
      -- if not inside and (not turn == nothing_runs(k) or not roll == nothing_runs(k))
      refine ⟨fun σ' H2 => σ' = [some (.ref x), some (.ref d), some (.int (0 + (i : Int))), some (.int k), some (.int far), some am, some (.ref tn), some (.ref rn), some (.bl ins), y9, y10, y11, y12, y13, y14, some (.int vx), some (.int vy)] ∧ Same H' H2, ?_, ?_⟩
      · refine ⟨_, rfl, _, rfl, ?_⟩
        cases ins with
        | true => exact iteF (iteF ⟨rfl, Same.refl _⟩)
        | false =>
          have hin := of_decide_eq_false hin
          rw [if_neg (fun h => hin ⟨h.1, h.2.1, h.2.2.1, h.2.2.2.1⟩)] at te
          rw [if_neg (fun h => hin ⟨h.1, by omega, by omega, h.2.1⟩)] at re
          refine iteT ⟨_, rfl, _, rfl, .int k, true, rfl, .int _, .inl ⟨k, rfl, k1, k2, fun p1 H2 hp1 s2 => eq_rn (hT2.same s2) hp1 te ⟨_, rfl, ?_⟩⟩⟩
          refine iteF ⟨_, rfl, _, rfl, .int k, true, rfl, .int _, .inl ⟨k, rfl, k1, k2, fun p3 H3 hp3 s3 => eq_rn ((hR1.same s2).same s3) hp3 re ⟨_, rfl, ?_⟩⟩⟩
          exact iteF ⟨rfl, s2.trans s3⟩
      rintro σ' H17 ⟨rfl, s17⟩
      have pt17 := pt16.same s17
      have hT17 := hT2.same s17
      have hR17 := hR1.same s17
      clear pt16 hT2 hR1 s17
      -- if x >= y and not roll == nothing_runs(k) or (x == y and not turn == nothing_runs(k))
      refine ⟨fun σ' H2 => σ' = [some (.ref x), some (.ref d), some (.int (0 + (i : Int))), some (.int k), some (.int far), some am, some (.ref tn), some (.ref rn), some (.bl ins), y9, y10, y11, y12, y13, y14, some (.int vx), some (.int vy)] ∧ Same H17 H2, ?_, ?_⟩
      · refine ⟨_, rfl, _, rfl, _, _, rfl, rfl, _, rfl, ?_⟩
        by_cases c1 : vy ≤ vx
        rotate_left
        · rw [decide_eq_false c1]
          refine iteF (iteF ⟨_, rfl, _, rfl, rfl, _, rfl, ?_⟩)
          rw [decide_eq_false (show ¬ V.int vx = V.int vy from fun z => by have := V.int.inj z; omega)]
          exact iteF (iteF ⟨rfl, Same.refl _⟩)
        rw [decide_eq_true c1]
        have re' := re
        rw [if_neg (fun h => by omega)] at re'
        refine iteT ⟨_, rfl, _, rfl, .int k, true, rfl, .int _, .inl ⟨k, rfl, k1, k2, fun p1 H2 hp1 s2 => eq_rn (hR17.same s2) hp1 re' ⟨_, rfl, ?_⟩⟩⟩
        refine iteF ⟨_, rfl, _, rfl, rfl, _, rfl, ?_⟩
        by_cases c2 : vx = vy
        · rw [decide_eq_true (show V.int vx = V.int vy by rw [c2])]
          have te' := te
          rw [if_neg (fun h => h.2.2.2.2 c2)] at te'
          exact iteT ⟨_, rfl, _, rfl, .int k, true, rfl, .int _, .inl ⟨k, rfl, k1, k2, fun p3 H3 hp3 s3 => eq_rn ((hT17.same s2).same s3) hp3 te' ⟨_, rfl, iteF ⟨rfl, s2.trans s3⟩⟩⟩⟩
        · rw [decide_eq_false (show ¬ V.int vx = V.int vy from fun z => c2 (V.int.inj z))]
          exact iteF (iteF ⟨rfl, s2⟩)
      rintro σ' H18 ⟨rfl, s18⟩
      have pt18 := pt17.same s18
      have hT18 := hT17.same s18
      have hR18 := hR17.same s18
      clear pt17 hT17 hR17 s18
      -- many = y - x + 1
      refine ⟨_, rfl, _, rfl, _, _, rfl, rfl, _, 1, rfl, rfl, ?_⟩
      -- by = many // 2 if amount is None else amount
      refine ⟨fun σ' H2 => σ' = [some (.ref x), some (.ref d), some (.int (0 + (i : Int))), some (.int k), some (.int far), some am, some (.ref tn), some (.ref rn), some (.bl ins), some (.int (vy - vx + 1)), some (.int b), y11, y12, y13, y14, some (.int vx), some (.int vy)] ∧ H2 = H18, ?_, ?_⟩
      · refine ⟨_, rfl, rfl, _, rfl, ?_⟩
        rcases hb with ⟨rfl, rfl⟩ | rfl
        · rw [decide_eq_true (show V.non = V.non from rfl)]
          exact iteT ⟨_, rfl, _, 2, rfl, rfl, by unfold CDivN; omega, rfl, rfl⟩
        · rw [decide_eq_false (show ¬ V.int b = V.non from fun z => by cases z)]
          exact iteF ⟨_, rfl, rfl, rfl⟩
      rintro σ' H2 ⟨rfl, rfl⟩
      -- probes = _law_probes(pen, k)
      refine ⟨_, rfl, _, rfl, d, c, _, k, rfl, pt18.pen, by omega, k1, k2, fun pl pms H19 npl epl pml pin hp19 b19 => ?_⟩
      obtain ⟨_, hd18⟩ := pt18.pen.dict
      have mv : ∀ b o, H2 b = some o → (∃ xs, o = .lst xs ∨ o = .tup xs) ∨ (∃ C dx fs, o = .ins C dx fs) → H19 b = some o := fun b o e h => b19 b o e (ne_of e hd18 (by rcases h with ⟨xs, rfl | rfl⟩ | ⟨_, _, _, rfl⟩ <;> intro z <;> cases z))
      obtain ⟨pt19, _⟩ := pt18.but hp19 b19
      have hT19 := hT18.mono mv
      have hR19 := hR18.mono mv
      clear pt18 hT18 hR18 mv hp19 b19 hd18
      -- if inside and x < y: probes = probes + [..]
      have em : ∀ u : Int, ins = true → vx < vy → 0 ≤ u.fmod (vy - vx + 1) ∧ u.fmod (vy - vx + 1) < vy - vx + 1 := fun u _ h => ⟨Int.fmod_nonneg_of_pos _ (by omega), Int.fmod_lt_of_pos _ (by omega)⟩
      have hin2 : ins = true → 0 ≤ vx ∧ vx < k ∧ 0 ≤ vy ∧ vy < k := fun h => of_decide_eq_true (hin.trans h)
      refine ⟨fun σ' H2 => ∃ (pl : Addr) (pms : List Int), σ' = [some (.ref x), some (.ref d), some (.int (0 + (i : Int))), some (.int k), some (.int far), some am, some (.ref tn), some (.ref rn), some (.bl ins), some (.int (vy - vx + 1)), some (.int b), some (.ref pl), y12, y13, y14, some (.int vx), some (.int vy)] ∧ H2 pl = some (.lst (pms.map V.int)) ∧ (∀ m ∈ pms, 0 ≤ m ∧ m < k) ∧ Same H19 H2, ?_, ?_⟩
      · refine ⟨_, rfl, _, rfl, ?_⟩
        cases ins with
        | false => exact iteF (iteF ⟨pl, pms, rfl, epl, pin, Same.refl _⟩)
        | true =>
          refine iteT ⟨_, rfl, _, rfl, _, _, rfl, rfl, _, rfl, ite2 (fun c => ?_) (fun _ => ⟨pl, pms, rfl, epl, pin, Same.refl _⟩)⟩
          have c : vx < vy := of_decide_eq_true c
          obtain ⟨p0, p1⟩ := em b rfl c
          obtain ⟨p2, p3⟩ := em (b - 1) rfl c
          obtain ⟨i0, i1, i2, i3⟩ := hin2 rfl
          refine ⟨_, rfl, _, rfl, _, rfl, _, rfl, _, rfl, .inl ⟨b, rfl, _, rfl, _, _, rfl, rfl, by omega, _, _, rfl, rfl, _, rfl, _, rfl, _, 1, rfl, rfl, .inl ⟨b - 1, rfl, _, rfl, _, _, rfl, rfl, by omega, _, _, rfl, rfl, _, rfl, _, 1, rfl, rfl, _, rfl, _, 1, rfl, rfl, sz (show 6 ≤ 100000 by decide), fun l6 nl6 => ?_⟩⟩⟩
          have s6 := same_upd (o := .lst ([vx, vy, vx + b.fmod (vy - vx + 1), vx + (b - 1).fmod (vy - vx + 1), vy - 1, vx + 1].map V.int)) nl6
          refine ⟨pl, l6, pms.map V.int, [vx, vy, vx + b.fmod (vy - vx + 1), vx + (b - 1).fmod (vy - vx + 1), vy - 1, vx + 1].map V.int, rfl, rfl, s6 _ _ epl, upd_same, sz (by rw [List.length_map, List.length_map]; show pms.length + 6 ≤ _; omega), fun l8 nl8 => ?_⟩
          refine ⟨l8, pms ++ [vx, vy, vx + b.fmod (vy - vx + 1), vx + (b - 1).fmod (vy - vx + 1), vy - 1, vx + 1], rfl, by rw [upd_same, List.map_append], fun m hm => ?_, s6.trans (same_upd nl8)⟩
          rcases List.mem_append.mp hm with h | h
          · exact pin m h
          · simp only [List.mem_cons, List.not_mem_nil, or_false] at h
            rcases h with rfl | rfl | rfl | rfl | rfl | rfl <;> omega
      rintro σ' H20 ⟨pl, pms, rfl, epl, pin, s20⟩
      have pt20 := pt19.same s20
      have hT20 := hT19.same s20
      have hR20 := hR19.same s20
      clear pt19 hT19 hR19 s20 em
      -- for place in probes
      refine ⟨_, rfl, pl, rfl, ⟨_, SqL.at epl⟩, ?_⟩
      refine for_it (walk_list (xs := pms.map V.int)) (fun j σ H' => ∃ (y12 y13 : Option V), σ = [some (.ref x), some (.ref d), some (.int (0 + (i : Int))), some (.int k), some (.int far), some am, some (.ref tn), some (.ref rn), some (.bl ins), some (.int (vy - vx + 1)), some (.int b), some (.ref pl), y12, y13, y14, some (.int vx), some (.int vy)] ∧ Same H20 H') ?g0 ?gG ?gs ?gd
      case g0 => exact ⟨y12, y13, rfl, Same.refl _⟩
      case gG =>
        rintro j σ H' _ ⟨_, _, _, sm⟩
        exact sm.seq (SqL.at epl)
      case gs =>
        rintro j yy σ H3 H4 hj ⟨y12, y13, rfl, sm⟩ ⟨rfl, ex⟩
        obtain ⟨z, hz, rfl⟩ := List.mem_map.mp (List.mem_of_getElem? ex)
        obtain ⟨z0, z1⟩ := pin z hz
        have hT4 := hT20.same sm
        have hR4 := hR20.same sm
        have hT5 := tval hin te k1 z0 z1
        have hR5 := rval hin re k1 z0 z1
        -- due = place; if inside: due = ..
        refine ⟨_, rfl, ?_⟩
        refine ⟨fun σ' H2 => σ' = [some (.ref x), some (.ref d), some (.int (0 + (i : Int))), some (.int k), some (.int far), some am, some (.ref tn), some (.ref rn), some (.bl ins), some (.int (vy - vx + 1)), some (.int b), some (.ref pl), some (.int z), some (.int (valP tps z)), y14, some (.int vx), some (.int vy)] ∧ H2 = H4, ?_, ?_⟩
        · rw [hT5]
          refine ⟨_, rfl, _, rfl, ?_⟩
          cases ins with
          | false => exact iteF ⟨rfl, rfl⟩
          | true =>
            refine iteT ⟨_, rfl, _, rfl, rfl, _, rfl, ?_⟩
            unfold exchM
            by_cases c1 : z = vx
            · rw [decide_eq_true (show V.int z = V.int vx by rw [c1]), if_pos rfl, if_pos c1]
              exact iteT ⟨_, rfl, rfl, rfl⟩
            · rw [decide_eq_false (show ¬ V.int z = V.int vx from fun h => c1 (V.int.inj h)), if_pos rfl, if_neg c1]
              refine iteF ⟨_, rfl, _, rfl, rfl, _, rfl, ?_⟩
              by_cases c2 : z = vy
              · rw [decide_eq_true (show V.int z = V.int vy by rw [c2]), if_pos c2]
                exact iteT ⟨_, rfl, rfl, rfl⟩
              · rw [decide_eq_false (show ¬ V.int z = V.int vy from fun h => c2 (V.int.inj h)), if_neg c2]
                exact iteF ⟨_, rfl, rfl, rfl⟩
        rintro σ' H2 ⟨rfl, rfl⟩
        have hT6 := hT4
        have hR6 := hR4
        obtain ⟨dx, fs, _, _, t1, _, _, t4, _⟩ := hT6
        obtain ⟨dy, gs, _, _, r1, _, _, r4, _⟩ := hR6
        refine ⟨.ref tn, rfl, tn, dx, fs, rfl, t1, t4, _, rfl, tn, k, z, tps, rfl, hT4, tc1, z0, z1, by omega, _, rfl, rfl, ?_⟩
        rw [decide_eq_true rfl]
        refine ⟨_, rfl, iteF ?_⟩
        -- due = place; if inside and x < y and x <= place <= y: due = ..
        refine ⟨_, rfl, ?_⟩
        refine ⟨fun σ' H3 => σ' = [some (.ref x), some (.ref d), some (.int (0 + (i : Int))), some (.int k), some (.int far), some am, some (.ref tn), some (.ref rn), some (.bl ins), some (.int (vy - vx + 1)), some (.int b), some (.ref pl), some (.int z), some (.int (valP rps z)), y14, some (.int vx), some (.int vy)] ∧ H3 = H2, ?_, ?_⟩
        · refine ⟨_, rfl, _, rfl, ?_⟩
          cases ins with
          | false =>
            rw [show valP rps z = z from hR5.trans (if_neg fun h => Bool.noConfusion h.1)]
            exact iteF (iteF ⟨rfl, rfl⟩)
          | true =>
            refine iteT ⟨_, rfl, _, rfl, _, _, rfl, rfl, _, rfl, ?_⟩
            by_cases c1 : vx < vy
            rotate_left
            · rw [decide_eq_false c1, show valP rps z = z from hR5.trans (if_neg fun h => c1 h.2.1)]
              exact iteF (iteF ⟨rfl, rfl⟩)
            rw [decide_eq_true c1]
            refine iteT ⟨_, rfl, _, rfl, _, _, rfl, rfl, _, rfl, ?_⟩
            by_cases c2 : vx ≤ z
            rotate_left
            · rw [decide_eq_false c2, show valP rps z = z from hR5.trans (if_neg fun h => c2 h.2.2.1)]
              exact iteF ⟨_, rfl, iteF ⟨rfl, rfl⟩⟩
            rw [decide_eq_true c2]
            refine iteT ⟨_, rfl, _, _, rfl, rfl, _, rfl, ?_⟩
            by_cases c3 : z ≤ vy
            rotate_left
            · rw [decide_eq_false c3, show valP rps z = z from hR5.trans (if_neg fun h => c3 h.2.2.2)]
              exact iteF ⟨rfl, rfl⟩
            rw [decide_eq_true c3, show valP rps z = _ from hR5.trans (if_pos ⟨rfl, c1, c2, c3⟩)]
            exact iteT ⟨_, rfl, _, rfl, _, rfl, _, _, rfl, rfl, _, rfl, _, _, rfl, rfl, .inl ⟨_, rfl, _, rfl, _, _, rfl, rfl, by omega, _, _, rfl, rfl, rfl, rfl⟩⟩
        rintro σ' H3 ⟨rfl, rfl⟩
        refine ⟨.ref rn, rfl, rn, dy, gs, rfl, r1, r4, _, rfl, rn, k, z, rps, rfl, hR4, rc1, z0, z1, by omega, _, rfl, rfl, ?_⟩
        rw [decide_eq_true rfl]
        exact ⟨_, rfl, iteF ⟨_, _, rfl, sm⟩⟩
      case gd =>
        rintro σ H21 ⟨y12, y13, rfl, sm⟩
        have pt21 := pt20.same sm
        clear pt20 sm hT20 hR20 epl pin te re hin2
        -- odd = _law_pick(pen, [0, -1, None, True, '3', 10 ** 30 + 1])
        refine ⟨_, rfl, 1, rfl, 10, 30, rfl, rfl, ⟨by decide, by decide, by decide⟩, _, 1, rfl, rfl, sz (show 6 ≤ 100000 by decide), fun lo nlo => ?_⟩
        have s22 := same_upd (o := .lst oddR) nlo
        refine ⟨d, c, lo, _, oddR, rfl, (pt21.same s22).pen, by omega, SqL.at upd_same, (show 0 < 6 by decide), (show 6 ≤ 100000 by decide), fun od H23 hod hp23 b23 => ?_⟩
        obtain ⟨pt23, _⟩ := (pt21.same s22).but hp23 b23
        obtain ⟨⟨ib, hI⟩, hbt, rt, hrt⟩ := oddR_ok hod
        clear pt21 s22 hp23 b23
        refine ⟨pt23.tabs, fun f Ha e r T' n l => ⟨_, rfl, fun h hh => refused_live hrt hh l (by decide) fun H0 told err s0 r0 herr => ?_⟩⟩
        refine ⟨_, rfl, _, rfl, _, rfl, od, vx, vy, ib, rfl, hI _, .inr ⟨hbt, fun H' d' s' ed => herr d' H' s' ed fun Hf sf => ⟨_, rfl, iteF ?_⟩⟩⟩
        have pt24 := (PT2.mk (pt23.pen.ext e) T').same sf
        clear herr hh l n r e pt23
        refine ⟨pt24.tabs, fun f Ha e r T' n l => ⟨_, rfl, fun h hh => refused_live hrt hh l (by decide) fun H0 told err s0 r0 herr => ?_⟩⟩
        refine ⟨_, rfl, _, rfl, _, rfl, od, .int 1, vx, vy, 1, ib, rfl, hI _, .inr rfl, .inr ⟨hbt, fun H' d' s' ed => herr d' H' s' ed fun Hf sf => ⟨_, rfl, iteF ?_⟩⟩⟩
        exact ⟨⟨_, _, _, _, _, _, _, _, _, _, _, _, _, _, _, rfl⟩, ((PT2.mk (pt24.pen.ext e) T').same sf).up (by omega)⟩
    · rintro σ H2 ⟨⟨y2, y3, y4, y5, y6, y7, y8, y9, y10, y11, y12, y13, y14, y15, y16, rfl⟩, _⟩
      exact q _
end


theorem all_mk {l : PySem.W.OpenLaw} {w : World} {K : PySem.W.Frag} {h : Heap} {mg : Str → Option Value} {fa : Addr} (X : K.In h) (G : h.Ns mainGlobals mg) (hfa : mg "law" = some (.ref fa)) {ts : List Addr} (hts : ∀ P ∈ ts, h.get? P = some (PySem.W.tabObj #[]))
    {f0 : Addr} {od0 an0 : Option Addr} {sl0 : Array (Option Value)} {oc0 kV0 dc0 pm0 cd0 ct0 : Value}
    {f1 : Addr} {od1 an1 : Option Addr} {sl1 : Array (Option Value)} {oc1 kV1 dc1 pm1 cd1 ct1 : Value}
    {f2 : Addr} {od2 an2 : Option Addr} {sl2 : Array (Option Value)} {oc2 kV2 dc2 pm2 cd2 ct2 : Value}
    {f3 : Addr} {od3 an3 : Option Addr} {sl3 : Array (Option Value)} {oc3 kV3 dc3 pm3 cd3 ct3 : Value}
    {f4 : Addr} {od4 an4 : Option Addr} {sl4 : Array (Option Value)} {oc4 kV4 dc4 pm4 cd4 ct4 : Value}
    {f5 : Addr} {od5 an5 : Option Addr} {sl5 : Array (Option Value)} {oc5 kV5 dc5 pm5 cd5 ct5 : Value}
    {f6 : Addr} {od6 an6 : Option Addr} {sl6 : Array (Option Value)} {oc6 kV6 dc6 pm6 cd6 ct6 : Value}
    {f7 : Addr} {od7 an7 : Option Addr} {sl7 : Array (Option Value)} {oc7 kV7 dc7 pm7 cd7 ct7 : Value}
    {f8 : Addr} {od8 an8 : Option Addr} {sl8 : Array (Option Value)} {oc8 kV8 dc8 pm8 cd8 ct8 : Value}
    {f9 : Addr} {od9 an9 : Option Addr} {sl9 : Array (Option Value)} {oc9 kV9 dc9 pm9 cd9 ct9 : Value}
    {f10 : Addr} {od10 an10 : Option Addr} {sl10 : Array (Option Value)} {oc10 kV10 dc10 pm10 cd10 ct10 : Value}
    {f11 : Addr} {od11 an11 : Option Addr} {sl11 : Array (Option Value)} {oc11 kV11 dc11 pm11 cd11 ct11 : Value}
    {f12 : Addr} {od12 an12 : Option Addr} {sl12 : Array (Option Value)} {oc12 kV12 dc12 pm12 cd12 ct12 : Value}
    {f13 : Addr} {od13 an13 : Option Addr} {sl13 : Array (Option Value)} {oc13 kV13 dc13 pm13 cd13 ct13 : Value}
    {f14 : Addr} {od14 an14 : Option Addr} {sl14 : Array (Option Value)} {oc14 kV14 dc14 pm14 cd14 ct14 : Value}
    {f15 : Addr} {od15 an15 : Option Addr} {sl15 : Array (Option Value)} {oc15 kV15 dc15 pm15 cd15 ct15 : Value}
    {f16 : Addr} {od16 an16 : Option Addr} {sl16 : Array (Option Value)} {oc16 kV16 dc16 pm16 cd16 ct16 : Value}
    {f17 : Addr} {od17 an17 : Option Addr} {sl17 : Array (Option Value)} {oc17 kV17 dc17 pm17 cd17 ct17 : Value}
    {f18 : Addr} {od18 an18 : Option Addr} {sl18 : Array (Option Value)} {oc18 kV18 dc18 pm18 cd18 ct18 : Value}
    {f19 : Addr} {od19 an19 : Option Addr} {sl19 : Array (Option Value)} {oc19 kV19 dc19 pm19 cd19 ct19 : Value}
    {f20 : Addr} {od20 an20 : Option Addr} {sl20 : Array (Option Value)} {oc20 kV20 dc20 pm20 cd20 ct20 : Value}
    {f21 : Addr} {od21 an21 : Option Addr} {sl21 : Array (Option Value)} {oc21 kV21 dc21 pm21 cd21 ct21 : Value}
    {f22 : Addr} {od22 an22 : Option Addr} {sl22 : Array (Option Value)} {oc22 kV22 dc22 pm22 cd22 ct22 : Value}
    {f23 : Addr} {od23 an23 : Option Addr} {sl23 : Array (Option Value)} {oc23 kV23 dc23 pm23 cd23 ct23 : Value}
    {f24 : Addr} {od24 an24 : Option Addr} {sl24 : Array (Option Value)} {oc24 kV24 dc24 pm24 cd24 ct24 : Value}
    {f25 : Addr} {od25 an25 : Option Addr} {sl25 : Array (Option Value)} {oc25 kV25 dc25 pm25 cd25 ct25 : Value}
    {f26 : Addr} {od26 an26 : Option Addr} {sl26 : Array (Option Value)} {oc26 kV26 dc26 pm26 cd26 ct26 : Value}
    {f27 : Addr} {od27 an27 : Option Addr} {sl27 : Array (Option Value)} {oc27 kV27 dc27 pm27 cd27 ct27 : Value}
    {f28 cA28 : Addr} {od28 an28 : Option Addr} {sl28 : Array (Option Value)} {oc28 kV28 dc28 pm28 ct28 : Value}
    {C_EveryError : Addr}
    {C_BadSize : Addr}
    {C_BadPlace : Addr}
    {C_Runs : Addr}
    {en_BadSize eq_BadSize : Str} {eN_BadSize : Addr} {eb_BadSize em_BadSize : List Value} {es_BadSize : List Str} {eu_BadSize : List Value} {ea_BadSize : Bool} {eo_BadSize : Option Bool} {ed_BadSize : Option Addr} {e0_BadSize e1_BadSize e2_BadSize e3_BadSize e5_BadSize : Option Value}
    {en_BadPlace eq_BadPlace : Str} {eN_BadPlace : Addr} {eb_BadPlace em_BadPlace : List Value} {es_BadPlace : List Str} {eu_BadPlace : List Value} {ea_BadPlace : Bool} {eo_BadPlace : Option Bool} {ed_BadPlace : Option Addr} {e0_BadPlace e1_BadPlace e2_BadPlace e3_BadPlace e5_BadPlace : Option Value}
    {t_MOST_SIZE : Tok}
    {t_FEW : Tok}
    (c_EveryError : PySem.W.nsIn K mainGlobals "EveryError" = some (some (.ref C_EveryError)))
    (c_BadSize : PySem.W.nsIn K mainGlobals "BadSize" = some (some (.ref C_BadSize)))
    (c_BadPlace : PySem.W.nsIn K mainGlobals "BadPlace" = some (some (.ref C_BadPlace)))
    (c_Runs : PySem.W.nsIn K mainGlobals "Runs" = some (some (.ref C_Runs)))
    (a0 : PySem.W.nsIn K mainGlobals "is_integer" = some (some (.ref f0)))
    (l0 : K.lookup f0 = some ⟨oc0, od0, .func (PySem.W.fnOf "is_integer" "is_integer" (defArgs s_is_integer) (defBody s_is_integer) (defScope s_is_integer) .none kV0 dc0 pm0 an0 cd0 ct0), sl0⟩)
    (e0 : PySem.W.codeIn K cd0 "is_integer" = true)
    (k0 : PySem.W.keepIn K (.ref f0) = true)
    (a1 : PySem.W.nsIn K mainGlobals "is_between" = some (some (.ref f1)))
    (l1 : K.lookup f1 = some ⟨oc1, od1, .func (PySem.W.fnOf "is_between" "is_between" (defArgs s_is_between) (defBody s_is_between) (defScope s_is_between) .none kV1 dc1 pm1 an1 cd1 ct1), sl1⟩)
    (e1 : PySem.W.codeIn K cd1 "is_between" = true)
    (k1 : PySem.W.keepIn K (.ref f1) = true)
    (a2 : PySem.W.findIn K (.ref C_BadSize) "__init__" = some (some (.ref f2)))
    (l2 : K.lookup f2 = some ⟨oc2, od2, .func (PySem.W.fnOf "__init__" "BadSize.__init__" (defArgs s_BadSize_init) (defBody s_BadSize_init) (defScope s_BadSize_init) .none kV2 dc2 pm2 an2 cd2 ct2), sl2⟩)
    (e2 : PySem.W.codeIn K cd2 "BadSize.__init__" = true)
    (k2 : PySem.W.keepIn K (.ref f2) = true)
    (a3 : PySem.W.findIn K (.ref C_BadPlace) "__init__" = some (some (.ref f3)))
    (l3 : K.lookup f3 = some ⟨oc3, od3, .func (PySem.W.fnOf "__init__" "BadPlace.__init__" (defArgs s_BadPlace_init) (defBody s_BadPlace_init) (defScope s_BadPlace_init) .none kV3 dc3 pm3 an3 cd3 ct3), sl3⟩)
    (e3 : PySem.W.codeIn K cd3 "BadPlace.__init__" = true)
    (k3 : PySem.W.keepIn K (.ref f3) = true)
    (a4 : PySem.W.nsIn K mainGlobals "common_way" = some (some (.ref f4)))
    (l4 : K.lookup f4 = some ⟨oc4, od4, .func (PySem.W.fnOf "common_way" "common_way" (defArgs s_common_way) (defBody s_common_way) (defScope s_common_way) .none kV4 dc4 pm4 an4 cd4 ct4), sl4⟩)
    (e4 : PySem.W.codeIn K cd4 "common_way" = true)
    (k4 : PySem.W.keepIn K (.ref f4) = true)
    (a5 : PySem.W.nsIn K mainGlobals "one_form" = some (some (.ref f5)))
    (l5 : K.lookup f5 = some ⟨oc5, od5, .func (PySem.W.fnOf "one_form" "one_form" (defArgs s_one_form) (defBody s_one_form) (defScope s_one_form) .none kV5 dc5 pm5 an5 cd5 ct5), sl5⟩)
    (e5 : PySem.W.codeIn K cd5 "one_form" = true)
    (k5 : PySem.W.keepIn K (.ref f5) = true)
    (a6 : PySem.W.nsIn K mainGlobals "way_of" = some (some (.ref f6)))
    (l6 : K.lookup f6 = some ⟨oc6, od6, .func (PySem.W.fnOf "way_of" "way_of" (defArgs s_way_of) (defBody s_way_of) (defScope s_way_of) .none kV6 dc6 pm6 an6 cd6 ct6), sl6⟩)
    (e6 : PySem.W.codeIn K cd6 "way_of" = true)
    (k6 : PySem.W.keepIn K (.ref f6) = true)
    (a7 : PySem.W.nsIn K mainGlobals "index_of_run" = some (some (.ref f7)))
    (l7 : K.lookup f7 = some ⟨oc7, od7, .func (PySem.W.fnOf "index_of_run" "index_of_run" (defArgs s_index_of_run) (defBody s_index_of_run) (defScope s_index_of_run) .none kV7 dc7 pm7 an7 cd7 ct7), sl7⟩)
    (e7 : PySem.W.codeIn K cd7 "index_of_run" = true)
    (k7 : PySem.W.keepIn K (.ref f7) = true)
    (a8 : PySem.W.nsIn K mainGlobals "goal_of" = some (some (.ref f8)))
    (l8 : K.lookup f8 = some ⟨oc8, od8, .func (PySem.W.fnOf "goal_of" "goal_of" (defArgs s_goal_of) (defBody s_goal_of) (defScope s_goal_of) .none kV8 dc8 pm8 an8 cd8 ct8), sl8⟩)
    (e8 : PySem.W.codeIn K cd8 "goal_of" = true)
    (k8 : PySem.W.keepIn K (.ref f8) = true)
    (a9 : PySem.W.nsIn K mainGlobals "led_on" = some (some (.ref f9)))
    (l9 : K.lookup f9 = some ⟨oc9, od9, .func (PySem.W.fnOf "led_on" "led_on" (defArgs s_led_on) (defBody s_led_on) (defScope s_led_on) .none kV9 dc9 pm9 an9 cd9 ct9), sl9⟩)
    (e9 : PySem.W.codeIn K cd9 "led_on" = true)
    (k9 : PySem.W.keepIn K (.ref f9) = true)
    (a10 : PySem.W.nsIn K mainGlobals "taken_back" = some (some (.ref f10)))
    (l10 : K.lookup f10 = some ⟨oc10, od10, .func (PySem.W.fnOf "taken_back" "taken_back" (defArgs s_taken_back) (defBody s_taken_back) (defScope s_taken_back) .none kV10 dc10 pm10 an10 cd10 ct10), sl10⟩)
    (e10 : PySem.W.codeIn K cd10 "taken_back" = true)
    (k10 : PySem.W.keepIn K (.ref f10) = true)
    (a11 : PySem.W.findIn K (.ref C_Runs) "__init__" = some (some (.ref f11)))
    (l11 : K.lookup f11 = some ⟨oc11, od11, .func (PySem.W.fnOf "__init__" "Runs.__init__" (defArgs s_Runs_init) (defBody s_Runs_init) (defScope s_Runs_init) .none kV11 dc11 pm11 an11 cd11 ct11), sl11⟩)
    (e11 : PySem.W.codeIn K cd11 "Runs.__init__" = true)
    (k11 : PySem.W.keepIn K (.ref f11) = true)
    (a12 : PySem.W.findIn K (.ref C_Runs) "__eq__" = some (some (.ref f12)))
    (l12 : K.lookup f12 = some ⟨oc12, od12, .func (PySem.W.fnOf "__eq__" "Runs.__eq__" (defArgs s_Runs_eq) (defBody s_Runs_eq) (defScope s_Runs_eq) .none kV12 dc12 pm12 an12 cd12 ct12), sl12⟩)
    (e12 : PySem.W.codeIn K cd12 "Runs.__eq__" = true)
    (k12 : PySem.W.keepIn K (.ref f12) = true)
    (a13 : PySem.W.findIn K (.ref C_Runs) "__mul__" = some (some (.ref f13)))
    (l13 : K.lookup f13 = some ⟨oc13, od13, .func (PySem.W.fnOf "__mul__" "Runs.__mul__" (defArgs s_Runs_mul) (defBody s_Runs_mul) (defScope s_Runs_mul) .none kV13 dc13 pm13 an13 cd13 ct13), sl13⟩)
    (e13 : PySem.W.codeIn K cd13 "Runs.__mul__" = true)
    (k13 : PySem.W.keepIn K (.ref f13) = true)
    (a14 : PySem.W.findIn K (.ref C_Runs) "__invert__" = some (some (.ref f14)))
    (l14 : K.lookup f14 = some ⟨oc14, od14, .func (PySem.W.fnOf "__invert__" "Runs.__invert__" (defArgs s_Runs_invert) (defBody s_Runs_invert) (defScope s_Runs_invert) .none kV14 dc14 pm14 an14 cd14 ct14), sl14⟩)
    (e14 : PySem.W.codeIn K cd14 "Runs.__invert__" = true)
    (k14 : PySem.W.keepIn K (.ref f14) = true)
    (a15 : PySem.W.findIn K (.ref C_Runs) "at" = some (some (.ref f15)))
    (l15 : K.lookup f15 = some ⟨oc15, od15, .func (PySem.W.fnOf "at" "Runs.at" (defArgs s_Runs_at) (defBody s_Runs_at) (defScope s_Runs_at) .none kV15 dc15 pm15 an15 cd15 ct15), sl15⟩)
    (e15 : PySem.W.codeIn K cd15 "Runs.at" = true)
    (k15 : PySem.W.keepIn K (.ref f15) = true)
    (a16 : PySem.W.nsIn K mainGlobals "check_far_size" = some (some (.ref f16)))
    (l16 : K.lookup f16 = some ⟨oc16, od16, .func (PySem.W.fnOf "check_far_size" "check_far_size" (defArgs s_check_far_size) (defBody s_check_far_size) (defScope s_check_far_size) .none kV16 dc16 pm16 an16 cd16 ct16), sl16⟩)
    (e16 : PySem.W.codeIn K cd16 "check_far_size" = true)
    (k16 : PySem.W.keepIn K (.ref f16) = true)
    (a17 : PySem.W.nsIn K mainGlobals "moved_block" = some (some (.ref f17)))
    (l17 : K.lookup f17 = some ⟨oc17, od17, .func (PySem.W.fnOf "moved_block" "moved_block" (defArgs s_moved_block) (defBody s_moved_block) (defScope s_moved_block) .none kV17 dc17 pm17 an17 cd17 ct17), sl17⟩)
    (e17 : PySem.W.codeIn K cd17 "moved_block" = true)
    (k17 : PySem.W.keepIn K (.ref f17) = true)
    (a18 : PySem.W.nsIn K mainGlobals "nothing_runs" = some (some (.ref f18)))
    (l18 : K.lookup f18 = some ⟨oc18, od18, .func (PySem.W.fnOf "nothing_runs" "nothing_runs" (defArgs s_nothing_runs) (defBody s_nothing_runs) (defScope s_nothing_runs) .none kV18 dc18 pm18 an18 cd18 ct18), sl18⟩)
    (e18 : PySem.W.codeIn K cd18 "nothing_runs" = true)
    (k18 : PySem.W.keepIn K (.ref f18) = true)
    (a19 : PySem.W.nsIn K mainGlobals "exchange_runs" = some (some (.ref f19)))
    (l19 : K.lookup f19 = some ⟨oc19, od19, .func (PySem.W.fnOf "exchange_runs" "exchange_runs" (defArgs s_exchange_runs) (defBody s_exchange_runs) (defScope s_exchange_runs) .none kV19 dc19 pm19 an19 cd19 ct19), sl19⟩)
    (e19 : PySem.W.codeIn K cd19 "exchange_runs" = true)
    (k19 : PySem.W.keepIn K (.ref f19) = true)
    (a20 : PySem.W.nsIn K mainGlobals "roll_runs" = some (some (.ref f20)))
    (l20 : K.lookup f20 = some ⟨oc20, od20, .func (PySem.W.fnOf "roll_runs" "roll_runs" (defArgs s_roll_runs) (defBody s_roll_runs) (defScope s_roll_runs) .none kV20 dc20 pm20 an20 cd20 ct20), sl20⟩)
    (e20 : PySem.W.codeIn K cd20 "roll_runs" = true)
    (k20 : PySem.W.keepIn K (.ref f20) = true)
    (a21 : PySem.W.nsIn K mainGlobals "_law_great" = some (some (.ref f21)))
    (l21 : K.lookup f21 = some ⟨oc21, od21, .func (PySem.W.fnOf "_law_great" "_law_great" (defArgs s__law_great) (defBody s__law_great) (defScope s__law_great) .none kV21 dc21 pm21 an21 cd21 ct21), sl21⟩)
    (e21 : PySem.W.codeIn K cd21 "_law_great" = true)
    (k21 : PySem.W.keepIn K (.ref f21) = true)
    (a22 : PySem.W.nsIn K mainGlobals "_law_probes" = some (some (.ref f22)))
    (l22 : K.lookup f22 = some ⟨oc22, od22, .func (PySem.W.fnOf "_law_probes" "_law_probes" (defArgs s__law_probes) (defBody s__law_probes) (defScope s__law_probes) .none kV22 dc22 pm22 an22 cd22 ct22), sl22⟩)
    (e22 : PySem.W.codeIn K cd22 "_law_probes" = true)
    (k22 : PySem.W.keepIn K (.ref f22) = true)
    (a23 : PySem.W.nsIn K mainGlobals "_law_pen" = some (some (.ref f23)))
    (l23 : K.lookup f23 = some ⟨oc23, od23, .func (PySem.W.fnOf "_law_pen" "_law_pen" (defArgs s__law_pen) (defBody s__law_pen) (defScope s__law_pen) .none kV23 dc23 pm23 an23 cd23 ct23), sl23⟩)
    (e23 : PySem.W.codeIn K cd23 "_law_pen" = true)
    (k23 : PySem.W.keepIn K (.ref f23) = true)
    (a24 : PySem.W.nsIn K mainGlobals "_law_draw" = some (some (.ref f24)))
    (l24 : K.lookup f24 = some ⟨oc24, od24, .func (PySem.W.fnOf "_law_draw" "_law_draw" (defArgs s__law_draw) (defBody s__law_draw) (defScope s__law_draw) .none kV24 dc24 pm24 an24 cd24 ct24), sl24⟩)
    (e24 : PySem.W.codeIn K cd24 "_law_draw" = true)
    (k24 : PySem.W.keepIn K (.ref f24) = true)
    (a25 : PySem.W.nsIn K mainGlobals "_law_pick" = some (some (.ref f25)))
    (l25 : K.lookup f25 = some ⟨oc25, od25, .func (PySem.W.fnOf "_law_pick" "_law_pick" (defArgs s__law_pick) (defBody s__law_pick) (defScope s__law_pick) .none kV25 dc25 pm25 an25 cd25 ct25), sl25⟩)
    (e25 : PySem.W.codeIn K cd25 "_law_pick" = true)
    (k25 : PySem.W.keepIn K (.ref f25) = true)
    (a26 : PySem.W.nsIn K mainGlobals "_law_place" = some (some (.ref f26)))
    (l26 : K.lookup f26 = some ⟨oc26, od26, .func (PySem.W.fnOf "_law_place" "_law_place" (defArgs s__law_place) (defBody s__law_place) (defScope s__law_place) .none kV26 dc26 pm26 an26 cd26 ct26), sl26⟩)
    (e26 : PySem.W.codeIn K cd26 "_law_place" = true)
    (k26 : PySem.W.keepIn K (.ref f26) = true)
    (a27 : PySem.W.nsIn K mainGlobals "_law_is_refused" = some (some (.ref f27)))
    (l27 : K.lookup f27 = some ⟨oc27, od27, .func (PySem.W.fnOf "_law_is_refused" "_law_is_refused" (defArgs s__law_is_refused) (defBody s__law_is_refused) (defScope s__law_is_refused) .none kV27 dc27 pm27 an27 cd27 ct27), sl27⟩)
    (e27 : PySem.W.codeIn K cd27 "_law_is_refused" = true)
    (k27 : PySem.W.keepIn K (.ref f27) = true)
    (a28 : PySem.W.nsIn K mainGlobals "law" = some (some (.ref f28)))
    (l28 : K.lookup f28 = some ⟨oc28, od28, .func (PySem.W.fnOf "law" "law" (defArgs s_law) (defBody s_law) (defScope s_law) .none kV28 dc28 pm28 an28 (.ref cA28) ct28), sl28⟩)
    (e28 : PySem.W.codeIn K (.ref cA28) "law" = true)
    (k28 : PySem.W.keepIn K (.ref f28) = true)
    (pg_Runs : PySem.W.plainGet K C_Runs Str.empty = true)
    (hd_Runs : PySem.W.hasDictIn K C_Runs = true)
    (po_Runs : PySem.W.plainOver K C_Runs = true)
    (sa_Runs : PySem.W.findIn K (.ref C_Runs) "__setattr__" = some (some (.builtin "object.__setattr__")))
    (mk_Runs : PySem.W.makesIn K C_Runs = true)
    (kc_Runs : PySem.W.keepIn K (.ref C_Runs) = true)
    (n_Runs_size : PySem.W.findIn K (.ref C_Runs) "size" = some none)
    (n_Runs_rows : PySem.W.findIn K (.ref C_Runs) "rows" = some none)
    (n_Runs_way : PySem.W.findIn K (.ref C_Runs) "way" = some none)
    (i_Runs_init : PySem.W.isFn K (.ref f11) = true)
    (i_Runs_eq : PySem.W.isFn K (.ref f12) = true)
    (i_Runs_mul : PySem.W.isFn K (.ref f13) = true)
    (i_Runs_invert : PySem.W.isFn K (.ref f14) = true)
    (i_Runs_at : PySem.W.isFn K (.ref f15) = true)
    (og_Runs : PySem.W.findIn K (.ref C_Runs) "__class__" = some (some (.builtin "object.__class__")))
    (on_Runs : PySem.W.specialIn K (.builtin "object.__class__") "__get__" = some (some (.builtin "getset_descriptor.__get__")))
    (ot_Runs : PySem.W.takesIn K (.builtin "object.__class__") = some true)
    (om_Runs : PySem.W.mroIn K C_Runs (.type "object") = some true)
    (of_Runs : PySem.W.notFirst K C_Runs (.type "str") = true)
    (ok_Runs : PySem.W.kitOne K (.type "str") (.ref C_Runs) = some false)
    (o2a_Runs : PySem.W.findIn K (.ref C_Runs) "__ne__" = some (some (.builtin "object.__ne__")))
    (o2b_Runs : PySem.W.notFirst K C_Runs (.type "int") = true)
    (o2c_Runs : PySem.W.notFirst K C_Runs (.type "tuple") = true)
    (ok_int_Runs : PySem.W.kitOne K (.type "int") (.ref C_Runs) = some false)
    (ok_tup_Runs : PySem.W.kitOne K (.type "tuple") (.ref C_Runs) = some false)
    (xl_BadSize : K.lookup C_BadSize = some (excClassObj en_BadSize eq_BadSize C_BadSize eN_BadSize eb_BadSize em_BadSize true es_BadSize eu_BadSize ea_BadSize eo_BadSize ed_BadSize e0_BadSize e1_BadSize e2_BadSize e3_BadSize e5_BadSize "ValueError.__new__"))
    (xr_BadSize : PySem.HandSPX.refsVE em_BadSize = true)
    (xsa_BadSize : PySem.W.findIn K (.ref C_BadSize) "__setattr__" = some (some (.builtin "object.__setattr__")))
    (xex_BadSize : PySem.W.subIn K (.ref C_BadSize) (.type "BaseException") = some true)
    (xty_BadSize : PySem.W.typeIn K (.ref C_BadSize) = some (.type "type"))
    (xkc_BadSize : PySem.W.keepIn K (.ref C_BadSize) = true)
    (xga_BadSize : PySem.W.findIn K (.ref C_BadSize) "__getattribute__" = some (some (.builtin "BaseException.__getattribute__")))
    (xgg_BadSize : PySem.W.findIn K (.ref C_BadSize) "__getattr__" = some none)
    (xhd_BadSize : PySem.W.hasDictIn K C_BadSize = true)
    (xha_BadSize : PySem.W.findIn K (.ref C_BadSize) "__class__" = some (some (.builtin "object.__class__")))
    (xhm_BadSize : PySem.W.mroIn K C_BadSize (.type "object") = some true)
    (xno_BadSize : PySem.W.findIn K (.ref C_BadSize) "size" = some none)
    (xhn_BadSize : PySem.W.specialIn K (.builtin "object.__class__") "__get__" = some (some (.builtin "getset_descriptor.__get__")))
    (xht_BadSize : PySem.W.takesIn K (.builtin "object.__class__") = some true)
    (xti_BadSize : PySem.W.typeIn K (.ref f2) = some (.type "function"))
    (xs_BadSize_BadSize : PySem.W.subIn K (.ref C_BadSize) (.ref C_BadSize) = some true)
    (xl_BadPlace : K.lookup C_BadPlace = some (excClassObj en_BadPlace eq_BadPlace C_BadPlace eN_BadPlace eb_BadPlace em_BadPlace true es_BadPlace eu_BadPlace ea_BadPlace eo_BadPlace ed_BadPlace e0_BadPlace e1_BadPlace e2_BadPlace e3_BadPlace e5_BadPlace "ValueError.__new__"))
    (xr_BadPlace : PySem.HandSPX.refsVE em_BadPlace = true)
    (xsa_BadPlace : PySem.W.findIn K (.ref C_BadPlace) "__setattr__" = some (some (.builtin "object.__setattr__")))
    (xex_BadPlace : PySem.W.subIn K (.ref C_BadPlace) (.type "BaseException") = some true)
    (xty_BadPlace : PySem.W.typeIn K (.ref C_BadPlace) = some (.type "type"))
    (xkc_BadPlace : PySem.W.keepIn K (.ref C_BadPlace) = true)
    (xga_BadPlace : PySem.W.findIn K (.ref C_BadPlace) "__getattribute__" = some (some (.builtin "BaseException.__getattribute__")))
    (xgg_BadPlace : PySem.W.findIn K (.ref C_BadPlace) "__getattr__" = some none)
    (xhd_BadPlace : PySem.W.hasDictIn K C_BadPlace = true)
    (xha_BadPlace : PySem.W.findIn K (.ref C_BadPlace) "__class__" = some (some (.builtin "object.__class__")))
    (xhm_BadPlace : PySem.W.mroIn K C_BadPlace (.type "object") = some true)
    (xno_BadPlace : PySem.W.findIn K (.ref C_BadPlace) "place" = some none)
    (xhn_BadPlace : PySem.W.specialIn K (.builtin "object.__class__") "__get__" = some (some (.builtin "getset_descriptor.__get__")))
    (xht_BadPlace : PySem.W.takesIn K (.builtin "object.__class__") = some true)
    (xti_BadPlace : PySem.W.typeIn K (.ref f3) = some (.type "function"))
    (xs_BadPlace_BadSize : PySem.W.subIn K (.ref C_BadPlace) (.ref C_BadSize) = some false)
    (z_bool : PySem.W.nsIn K mainGlobals "bool" = some none)
    (z_int : PySem.W.nsIn K mainGlobals "int" = some none)
    (z_isinstance : PySem.W.nsIn K mainGlobals "isinstance" = some none)
    (z_len : PySem.W.nsIn K mainGlobals "len" = some none)
    (z_list : PySem.W.nsIn K mainGlobals "list" = some none)
    (z_max : PySem.W.nsIn K mainGlobals "max" = some none)
    (z_min : PySem.W.nsIn K mainGlobals "min" = some none)
    (z_range : PySem.W.nsIn K mainGlobals "range" = some none)
    (z_repr : PySem.W.nsIn K mainGlobals "repr" = some none)
    (z_sorted : PySem.W.nsIn K mainGlobals "sorted" = some none)
    (z_sum : PySem.W.nsIn K mainGlobals "sum" = some none)
    (z_tuple : PySem.W.nsIn K mainGlobals "tuple" = some none)
    (m_MOST_SIZE : PySem.W.nsIn K mainGlobals "MOST_SIZE" = some (some (.int 1000000000000000000000000000000 t_MOST_SIZE)))
    (m_FEW : PySem.W.nsIn K mainGlobals "FEW" = some (some (.int 100 t_FEW)))
    (kr_t28 : PySem.W.codeHdIn K cA28 (tabAddr K cA28) = true)
    (kr_u28 : (K.lookup (tabAddr K cA28)).isNone = true)
    (kr_v28 : ts.contains (tabAddr K cA28) = true)
    : LamX.LawAtS l w K CX0 9 63 "script" mg fa h := by
  have e := hfa.symm.trans (PySem.W.mg_of X G a28)
  cases e
  let a : Ad := ⟨f0, PySem.W.fnOf "is_integer" "is_integer" (defArgs s_is_integer) (defBody s_is_integer) (defScope s_is_integer) .none kV0 dc0 pm0 an0 cd0 ct0, f1, PySem.W.fnOf "is_between" "is_between" (defArgs s_is_between) (defBody s_is_between) (defScope s_is_between) .none kV1 dc1 pm1 an1 cd1 ct1, f2, PySem.W.fnOf "__init__" "BadSize.__init__" (defArgs s_BadSize_init) (defBody s_BadSize_init) (defScope s_BadSize_init) .none kV2 dc2 pm2 an2 cd2 ct2, f3, PySem.W.fnOf "__init__" "BadPlace.__init__" (defArgs s_BadPlace_init) (defBody s_BadPlace_init) (defScope s_BadPlace_init) .none kV3 dc3 pm3 an3 cd3 ct3, f4, PySem.W.fnOf "common_way" "common_way" (defArgs s_common_way) (defBody s_common_way) (defScope s_common_way) .none kV4 dc4 pm4 an4 cd4 ct4, f5, PySem.W.fnOf "one_form" "one_form" (defArgs s_one_form) (defBody s_one_form) (defScope s_one_form) .none kV5 dc5 pm5 an5 cd5 ct5, f6, PySem.W.fnOf "way_of" "way_of" (defArgs s_way_of) (defBody s_way_of) (defScope s_way_of) .none kV6 dc6 pm6 an6 cd6 ct6, f7, PySem.W.fnOf "index_of_run" "index_of_run" (defArgs s_index_of_run) (defBody s_index_of_run) (defScope s_index_of_run) .none kV7 dc7 pm7 an7 cd7 ct7, f8, PySem.W.fnOf "goal_of" "goal_of" (defArgs s_goal_of) (defBody s_goal_of) (defScope s_goal_of) .none kV8 dc8 pm8 an8 cd8 ct8, f9, PySem.W.fnOf "led_on" "led_on" (defArgs s_led_on) (defBody s_led_on) (defScope s_led_on) .none kV9 dc9 pm9 an9 cd9 ct9, f10, PySem.W.fnOf "taken_back" "taken_back" (defArgs s_taken_back) (defBody s_taken_back) (defScope s_taken_back) .none kV10 dc10 pm10 an10 cd10 ct10, f11, PySem.W.fnOf "__init__" "Runs.__init__" (defArgs s_Runs_init) (defBody s_Runs_init) (defScope s_Runs_init) .none kV11 dc11 pm11 an11 cd11 ct11, f12, PySem.W.fnOf "__eq__" "Runs.__eq__" (defArgs s_Runs_eq) (defBody s_Runs_eq) (defScope s_Runs_eq) .none kV12 dc12 pm12 an12 cd12 ct12, f13, PySem.W.fnOf "__mul__" "Runs.__mul__" (defArgs s_Runs_mul) (defBody s_Runs_mul) (defScope s_Runs_mul) .none kV13 dc13 pm13 an13 cd13 ct13, f14, PySem.W.fnOf "__invert__" "Runs.__invert__" (defArgs s_Runs_invert) (defBody s_Runs_invert) (defScope s_Runs_invert) .none kV14 dc14 pm14 an14 cd14 ct14, f15, PySem.W.fnOf "at" "Runs.at" (defArgs s_Runs_at) (defBody s_Runs_at) (defScope s_Runs_at) .none kV15 dc15 pm15 an15 cd15 ct15, f16, PySem.W.fnOf "check_far_size" "check_far_size" (defArgs s_check_far_size) (defBody s_check_far_size) (defScope s_check_far_size) .none kV16 dc16 pm16 an16 cd16 ct16, f17, PySem.W.fnOf "moved_block" "moved_block" (defArgs s_moved_block) (defBody s_moved_block) (defScope s_moved_block) .none kV17 dc17 pm17 an17 cd17 ct17, f18, PySem.W.fnOf "nothing_runs" "nothing_runs" (defArgs s_nothing_runs) (defBody s_nothing_runs) (defScope s_nothing_runs) .none kV18 dc18 pm18 an18 cd18 ct18, f19, PySem.W.fnOf "exchange_runs" "exchange_runs" (defArgs s_exchange_runs) (defBody s_exchange_runs) (defScope s_exchange_runs) .none kV19 dc19 pm19 an19 cd19 ct19, f20, PySem.W.fnOf "roll_runs" "roll_runs" (defArgs s_roll_runs) (defBody s_roll_runs) (defScope s_roll_runs) .none kV20 dc20 pm20 an20 cd20 ct20, f21, PySem.W.fnOf "_law_great" "_law_great" (defArgs s__law_great) (defBody s__law_great) (defScope s__law_great) .none kV21 dc21 pm21 an21 cd21 ct21, f22, PySem.W.fnOf "_law_probes" "_law_probes" (defArgs s__law_probes) (defBody s__law_probes) (defScope s__law_probes) .none kV22 dc22 pm22 an22 cd22 ct22, f23, PySem.W.fnOf "_law_pen" "_law_pen" (defArgs s__law_pen) (defBody s__law_pen) (defScope s__law_pen) .none kV23 dc23 pm23 an23 cd23 ct23, f24, PySem.W.fnOf "_law_draw" "_law_draw" (defArgs s__law_draw) (defBody s__law_draw) (defScope s__law_draw) .none kV24 dc24 pm24 an24 cd24 ct24, f25, PySem.W.fnOf "_law_pick" "_law_pick" (defArgs s__law_pick) (defBody s__law_pick) (defScope s__law_pick) .none kV25 dc25 pm25 an25 cd25 ct25, f26, PySem.W.fnOf "_law_place" "_law_place" (defArgs s__law_place) (defBody s__law_place) (defScope s__law_place) .none kV26 dc26 pm26 an26 cd26 ct26, f27, PySem.W.fnOf "_law_is_refused" "_law_is_refused" (defArgs s__law_is_refused) (defBody s__law_is_refused) (defScope s__law_is_refused) .none kV27 dc27 pm27 an27 cd27 ct27, fa, PySem.W.fnOf "law" "law" (defArgs s_law) (defBody s_law) (defScope s_law) .none kV28 dc28 pm28 an28 (.ref cA28) ct28, C_EveryError, C_BadSize, C_BadPlace, C_Runs, cA28, tabAddr K cA28⟩
  have F0 : Fun K "is_integer" "is_integer" s_is_integer a.f_is_integer a.d_is_integer := fun_mk (st := s_is_integer) l0 e0 k0
  have F1 : Fun K "is_between" "is_between" s_is_between a.f_is_between a.d_is_between := fun_mk (st := s_is_between) l1 e1 k1
  have F2 : Fun K "__init__" "BadSize.__init__" s_BadSize_init a.f_BadSize_init a.d_BadSize_init := fun_mk (st := s_BadSize_init) l2 e2 k2
  have F3 : Fun K "__init__" "BadPlace.__init__" s_BadPlace_init a.f_BadPlace_init a.d_BadPlace_init := fun_mk (st := s_BadPlace_init) l3 e3 k3
  have F4 : Fun K "common_way" "common_way" s_common_way a.f_common_way a.d_common_way := fun_mk (st := s_common_way) l4 e4 k4
  have F5 : Fun K "one_form" "one_form" s_one_form a.f_one_form a.d_one_form := fun_mk (st := s_one_form) l5 e5 k5
  have F6 : Fun K "way_of" "way_of" s_way_of a.f_way_of a.d_way_of := fun_mk (st := s_way_of) l6 e6 k6
  have F7 : Fun K "index_of_run" "index_of_run" s_index_of_run a.f_index_of_run a.d_index_of_run := fun_mk (st := s_index_of_run) l7 e7 k7
  have F8 : Fun K "goal_of" "goal_of" s_goal_of a.f_goal_of a.d_goal_of := fun_mk (st := s_goal_of) l8 e8 k8
  have F9 : Fun K "led_on" "led_on" s_led_on a.f_led_on a.d_led_on := fun_mk (st := s_led_on) l9 e9 k9
  have F10 : Fun K "taken_back" "taken_back" s_taken_back a.f_taken_back a.d_taken_back := fun_mk (st := s_taken_back) l10 e10 k10
  have F11 : Fun K "__init__" "Runs.__init__" s_Runs_init a.f_Runs_init a.d_Runs_init := fun_mk (st := s_Runs_init) l11 e11 k11
  have F12 : Fun K "__eq__" "Runs.__eq__" s_Runs_eq a.f_Runs_eq a.d_Runs_eq := fun_mk (st := s_Runs_eq) l12 e12 k12
  have F13 : Fun K "__mul__" "Runs.__mul__" s_Runs_mul a.f_Runs_mul a.d_Runs_mul := fun_mk (st := s_Runs_mul) l13 e13 k13
  have F14 : Fun K "__invert__" "Runs.__invert__" s_Runs_invert a.f_Runs_invert a.d_Runs_invert := fun_mk (st := s_Runs_invert) l14 e14 k14
  have F15 : Fun K "at" "Runs.at" s_Runs_at a.f_Runs_at a.d_Runs_at := fun_mk (st := s_Runs_at) l15 e15 k15
  have F16 : Fun K "check_far_size" "check_far_size" s_check_far_size a.f_check_far_size a.d_check_far_size := fun_mk (st := s_check_far_size) l16 e16 k16
  have F17 : Fun K "moved_block" "moved_block" s_moved_block a.f_moved_block a.d_moved_block := fun_mk (st := s_moved_block) l17 e17 k17
  have F18 : Fun K "nothing_runs" "nothing_runs" s_nothing_runs a.f_nothing_runs a.d_nothing_runs := fun_mk (st := s_nothing_runs) l18 e18 k18
  have F19 : Fun K "exchange_runs" "exchange_runs" s_exchange_runs a.f_exchange_runs a.d_exchange_runs := fun_mk (st := s_exchange_runs) l19 e19 k19
  have F20 : Fun K "roll_runs" "roll_runs" s_roll_runs a.f_roll_runs a.d_roll_runs := fun_mk (st := s_roll_runs) l20 e20 k20
  have F21 : Fun K "_law_great" "_law_great" s__law_great a.f__law_great a.d__law_great := fun_mk (st := s__law_great) l21 e21 k21
  have F22 : Fun K "_law_probes" "_law_probes" s__law_probes a.f__law_probes a.d__law_probes := fun_mk (st := s__law_probes) l22 e22 k22
  have F23 : Fun K "_law_pen" "_law_pen" s__law_pen a.f__law_pen a.d__law_pen := fun_mk (st := s__law_pen) l23 e23 k23
  have F24 : Fun K "_law_draw" "_law_draw" s__law_draw a.f__law_draw a.d__law_draw := fun_mk (st := s__law_draw) l24 e24 k24
  have F25 : Fun K "_law_pick" "_law_pick" s__law_pick a.f__law_pick a.d__law_pick := fun_mk (st := s__law_pick) l25 e25 k25
  have F26 : Fun K "_law_place" "_law_place" s__law_place a.f__law_place a.d__law_place := fun_mk (st := s__law_place) l26 e26 k26
  have F27 : Fun K "_law_is_refused" "_law_is_refused" s__law_is_refused a.f__law_is_refused a.d__law_is_refused := fun_mk (st := s__law_is_refused) l27 e27 k27
  have F28 : Fun K "law" "law" s_law a.f_law a.d_law := fun_mk (st := s_law) l28 e28 k28
  have T : Tx w K mg a := ⟨(F0),
    (F0.binds (ps := ["value"]) fun _ _ _ _ _ _ us hl => match us, hl with | [_], _ => rfl),
    (PySem.W.mg_of X G a0),
    (F1),
    (F1.binds (ps := ["value", "low", "high"]) fun _ _ _ _ _ _ us hl => match us, hl with | [_, _, _], _ => rfl),
    (PySem.W.mg_of X G a1),
    (F2),
    (F2.binds (ps := ["self", "size"]) fun _ _ _ _ _ _ us hl => match us, hl with | [_, _], _ => rfl),
    (F3),
    (F3.binds (ps := ["self", "place"]) fun _ _ _ _ _ _ us hl => match us, hl with | [_, _], _ => rfl),
    (F4),
    (F4.binds (ps := ["run", "other"]) fun _ _ _ _ _ _ us hl => match us, hl with | [_, _], _ => rfl),
    (PySem.W.mg_of X G a4),
    (F5),
    (F5.binds (ps := ["pieces"]) fun _ _ _ _ _ _ us hl => match us, hl with | [_], _ => rfl),
    (PySem.W.mg_of X G a5),
    (F6),
    (F6.binds (ps := ["size", "rows"]) fun _ _ _ _ _ _ us hl => match us, hl with | [_, _], _ => rfl),
    (PySem.W.mg_of X G a6),
    (F7),
    (F7.binds (ps := ["rows", "place"]) fun _ _ _ _ _ _ us hl => match us, hl with | [_, _], _ => rfl),
    (PySem.W.mg_of X G a7),
    (F8),
    (F8.binds (ps := ["run", "place"]) fun _ _ _ _ _ _ us hl => match us, hl with | [_, _], _ => rfl),
    (PySem.W.mg_of X G a8),
    (F9),
    (F9.binds (ps := ["rows", "run"]) fun _ _ _ _ _ _ us hl => match us, hl with | [_, _], _ => rfl),
    (PySem.W.mg_of X G a9),
    (F10),
    (F10.binds (ps := ["run"]) fun _ _ _ _ _ _ us hl => match us, hl with | [_], _ => rfl),
    (PySem.W.mg_of X G a10),
    (F11),
    (F11.binds (ps := ["self", "size", "pieces"]) fun _ _ _ _ _ _ us hl => match us, hl with | [_, _, _], _ => rfl),
    (F12),
    (F12.binds (ps := ["self", "other"]) fun _ _ _ _ _ _ us hl => match us, hl with | [_, _], _ => rfl),
    (F13),
    (F13.binds (ps := ["self", "other"]) fun _ _ _ _ _ _ us hl => match us, hl with | [_, _], _ => rfl),
    (F14),
    (F14.binds (ps := ["self"]) fun _ _ _ _ _ _ us hl => match us, hl with | [_], _ => rfl),
    (F15),
    (F15.binds (ps := ["self", "j"]) fun _ _ _ _ _ _ us hl => match us, hl with | [_, _], _ => rfl),
    (F16),
    (F16.binds (ps := ["k"]) fun _ _ _ _ _ _ us hl => match us, hl with | [_], _ => rfl),
    (PySem.W.mg_of X G a16),
    (F17),
    (F17.binds (ps := ["k", "x", "y", "pieces"]) fun _ _ _ _ _ _ us hl => match us, hl with | [_, _, _, _], _ => rfl),
    (PySem.W.mg_of X G a17),
    (F18),
    (F18.binds (ps := ["k"]) fun _ _ _ _ _ _ us hl => match us, hl with | [_], _ => rfl),
    (PySem.W.mg_of X G a18),
    (F19),
    (F19.binds (ps := ["k", "x", "y"]) fun _ _ _ _ _ _ us hl => match us, hl with | [_, _, _], _ => rfl),
    (PySem.W.mg_of X G a19),
    (F20),
    (F20.binds (ps := ["k", "x", "y", "c"]) fun _ _ _ _ _ _ us hl => match us, hl with | [_, _, _, _], _ => rfl),
    (PySem.W.mg_of X G a20),
    (F21),
    (F21.binds (ps := ["pen"]) fun _ _ _ _ _ _ us hl => match us, hl with | [_], _ => rfl),
    (PySem.W.mg_of X G a21),
    (F22),
    (F22.binds (ps := ["pen", "k"]) fun _ _ _ _ _ _ us hl => match us, hl with | [_, _], _ => rfl),
    (PySem.W.mg_of X G a22),
    (F23),
    (F23.binds (ps := ["script"]) fun _ _ _ _ _ _ us hl => match us, hl with | [_], _ => rfl),
    (PySem.W.mg_of X G a23),
    (F24),
    (F24.binds (ps := ["pen", "many"]) fun _ _ _ _ _ _ us hl => match us, hl with | [_, _], _ => rfl),
    (PySem.W.mg_of X G a24),
    (F25),
    (F25.binds (ps := ["pen", "some"]) fun _ _ _ _ _ _ us hl => match us, hl with | [_, _], _ => rfl),
    (PySem.W.mg_of X G a25),
    (F26),
    (F26.binds (ps := ["pen", "k"]) fun _ _ _ _ _ _ us hl => match us, hl with | [_, _], _ => rfl),
    (PySem.W.mg_of X G a26),
    (F27),
    (F27.binds (ps := ["call", "odd"]) fun _ _ _ _ _ _ us hl => match us, hl with | [_, _], _ => rfl),
    (PySem.W.mg_of X G a27),
    (F28),
    (⟨_, _, _, _, _, _, _, _, rfl, l28, e28⟩),
    (F28.binds (ps := ["script"]) fun _ _ _ _ _ _ us hl => match us, hl with | [_], _ => rfl),
    (PySem.W.mg_of X G a28),
    (PySem.W.mg_of X G c_EveryError),
    (PySem.W.mg_of X G c_BadSize),
    (PySem.W.mg_of X G c_BadPlace),
    (PySem.W.mg_of X G c_Runs),
    (⟨pg_Runs, hd_Runs, po_Runs, sa_Runs⟩),
    (⟨mk_Runs, a11, i_Runs_init, kc_Runs⟩),
    (n_Runs_size),
    (n_Runs_rows),
    (n_Runs_way),
    (⟨a15, i_Runs_at, k15⟩),
    (⟨a12, i_Runs_eq, og_Runs, on_Runs, ot_Runs, om_Runs, of_Runs, ok_Runs⟩),
    (⟨o2a_Runs, o2b_Runs, o2c_Runs, ok_int_Runs, ok_tup_Runs⟩),
    (⟨⟨⟨en_BadSize, eq_BadSize, eN_BadSize, eb_BadSize, em_BadSize, es_BadSize, eu_BadSize, ea_BadSize, eo_BadSize, ed_BadSize, e0_BadSize, e1_BadSize, e2_BadSize, e3_BadSize, e5_BadSize, xl_BadSize, xr_BadSize⟩, xsa_BadSize, xex_BadSize, xty_BadSize, xkc_BadSize⟩, a2, xti_BadSize, xno_BadSize, ⟨xga_BadSize, xgg_BadSize, xex_BadSize, xhd_BadSize⟩, ⟨xga_BadSize, xgg_BadSize, xex_BadSize, xhd_BadSize, xha_BadSize, xhn_BadSize, xht_BadSize, xhm_BadSize⟩⟩),
    (exm_ofHd xex_BadSize xhd_BadSize xty_BadSize xs_BadSize_BadSize),
    (⟨⟨⟨en_BadPlace, eq_BadPlace, eN_BadPlace, eb_BadPlace, em_BadPlace, es_BadPlace, eu_BadPlace, ea_BadPlace, eo_BadPlace, ed_BadPlace, e0_BadPlace, e1_BadPlace, e2_BadPlace, e3_BadPlace, e5_BadPlace, xl_BadPlace, xr_BadPlace⟩, xsa_BadPlace, xex_BadPlace, xty_BadPlace, xkc_BadPlace⟩, a3, xti_BadPlace, xno_BadPlace, ⟨xga_BadPlace, xgg_BadPlace, xex_BadPlace, xhd_BadPlace⟩, ⟨xga_BadPlace, xgg_BadPlace, xex_BadPlace, xhd_BadPlace, xha_BadPlace, xhn_BadPlace, xht_BadPlace, xhm_BadPlace⟩⟩),
    (exm_ofHd xex_BadSize xhd_BadSize xty_BadSize xs_BadPlace_BadSize),
    (PySem.W.mg_none_of X G z_bool),
    (PySem.W.mg_none_of X G z_int),
    (PySem.W.mg_none_of X G z_isinstance),
    (PySem.W.mg_none_of X G z_len),
    (PySem.W.mg_none_of X G z_list),
    (PySem.W.mg_none_of X G z_max),
    (PySem.W.mg_none_of X G z_min),
    (PySem.W.mg_none_of X G z_range),
    (PySem.W.mg_none_of X G z_repr),
    (PySem.W.mg_none_of X G z_sorted),
    (PySem.W.mg_none_of X G z_sum),
    (PySem.W.mg_none_of X G z_tuple),
    (⟨_, PySem.W.mg_of X G m_MOST_SIZE⟩),
    (⟨_, PySem.W.mg_of X G m_FEW⟩)⟩
  refine ⟨a.d_law, [(cA28, tabAddr K cA28)], spLaw K (tabsOf a), (List.forall_mem_cons.mpr ⟨tabs_at hts kr_v28, (fun _ h => nomatch h)⟩), (List.forall_mem_cons.mpr ⟨Option.isNone_iff_eq_none.mp kr_u28, (fun _ h => nomatch h)⟩), (List.forall_mem_cons.mpr ⟨PySem.W.codeHd_of_K X kr_t28, (fun _ h => nomatch h)⟩), fun s v => .of_eq rfl, fun H p ns hl hb hT hS => ?_, fun base KB GB hB => ?_⟩
  · exact ⟨p, ns, rfl, hS, hl, tabs_nil (T := tabsOf a) (cs := [(cA28, tabAddr K cA28)]) rfl hT, fun _ => rfl⟩
  · have B : Tb base mg a := ⟨hB _ (.head _), (List.forall_mem_cons.mpr ⟨fun _ => rfl, (fun _ h => nomatch h)⟩)⟩
    exact ok_law T B
end Pf42
open PySem PySem.W PyProof.Rows
set_option maxRecDepth 100000 in
set_option maxHeartbeats 0 in
theorem PySem.Challenge.cw_everyorder_k42_exchanges_and_rolls_of_an_holds : PySem.Challenge.rw_everyorder_k42_exchanges_and_rolls_of_an.Holds := by
  w_on; o_law; k_head; (case hw => w_witness2)
  k_fill
  refine LamX.walk_ofTs (l := PySem.Challenge.rw_everyorder_k42_exchanges_and_rolls_of_an) (n := 63) (k := 9) (x := "script") (CX := fun _ => L2.CX0) rfl (by decide) rfl ⟨rfl, by decide, by decide⟩ (fun w h Y => PySem.W.km_in_of Y) ?F (fun _ _ _ _ _ h => h)
  case F =>
    intro w mg fa h Y KX G hmg
    refine' Pf42.all_mk KX G hmg (PySem.W.km_tabs_of Y) ?c_EveryError ?c_BadSize ?c_BadPlace ?c_Runs ?a0 ?l0 ?e0 ?k0 ?a1 ?l1 ?e1 ?k1 ?a2 ?l2 ?e2 ?k2 ?a3 ?l3 ?e3 ?k3 ?a4 ?l4 ?e4 ?k4 ?a5 ?l5 ?e5 ?k5 ?a6 ?l6 ?e6 ?k6 ?a7 ?l7 ?e7 ?k7 ?a8 ?l8 ?e8 ?k8 ?a9 ?l9 ?e9 ?k9 ?a10 ?l10 ?e10 ?k10 ?a11 ?l11 ?e11 ?k11 ?a12 ?l12 ?e12 ?k12 ?a13 ?l13 ?e13 ?k13 ?a14 ?l14 ?e14 ?k14 ?a15 ?l15 ?e15 ?k15 ?a16 ?l16 ?e16 ?k16 ?a17 ?l17 ?e17 ?k17 ?a18 ?l18 ?e18 ?k18 ?a19 ?l19 ?e19 ?k19 ?a20 ?l20 ?e20 ?k20 ?a21 ?l21 ?e21 ?k21 ?a22 ?l22 ?e22 ?k22 ?a23 ?l23 ?e23 ?k23 ?a24 ?l24 ?e24 ?k24 ?a25 ?l25 ?e25 ?k25 ?a26 ?l26 ?e26 ?k26 ?a27 ?l27 ?e27 ?k27 ?a28 ?l28 ?e28 ?k28 ?pg_Runs ?hd_Runs ?po_Runs ?sa_Runs ?mk_Runs ?kc_Runs ?n_Runs_size ?n_Runs_rows ?n_Runs_way ?i_Runs_init ?i_Runs_eq ?i_Runs_mul ?i_Runs_invert ?i_Runs_at ?og_Runs ?on_Runs ?ot_Runs ?om_Runs ?of_Runs ?ok_Runs ?o2a_Runs ?o2b_Runs ?o2c_Runs ?ok_int_Runs ?ok_tup_Runs ?xl_BadSize ?xr_BadSize ?xsa_BadSize ?xex_BadSize ?xty_BadSize ?xkc_BadSize ?xga_BadSize ?xgg_BadSize ?xhd_BadSize ?xha_BadSize ?xhm_BadSize ?xno_BadSize ?xhn_BadSize ?xht_BadSize ?xti_BadSize ?xs_BadSize_BadSize ?xl_BadPlace ?xr_BadPlace ?xsa_BadPlace ?xex_BadPlace ?xty_BadPlace ?xkc_BadPlace ?xga_BadPlace ?xgg_BadPlace ?xhd_BadPlace ?xha_BadPlace ?xhm_BadPlace ?xno_BadPlace ?xhn_BadPlace ?xht_BadPlace ?xti_BadPlace ?xs_BadPlace_BadSize ?z_bool ?z_int ?z_isinstance ?z_len ?z_list ?z_max ?z_min ?z_range ?z_repr ?z_sorted ?z_sum ?z_tuple ?m_MOST_SIZE ?m_FEW ?kr_t28 ?kr_u28 ?kr_v28
    (case c_EveryError => k_is)
    (case c_BadSize => k_is)
    (case c_BadPlace => k_is)
    (case c_Runs => k_is)
    (case a0 => k_is)
    (case l0 => k_is)
    (case e0 => k_is)
    (case k0 => k_is)
    (case a1 => k_is)
    (case l1 => k_is)
    (case e1 => k_is)
    (case k1 => k_is)
    (case a2 => k_is)
    (case l2 => k_is)
    (case e2 => k_is)
    (case k2 => k_is)
    (case a3 => k_is)
    (case l3 => k_is)
    (case e3 => k_is)
    (case k3 => k_is)
    (case a4 => k_is)
    (case l4 => k_is)
    (case e4 => k_is)
    (case k4 => k_is)
    (case a5 => k_is)
    (case l5 => k_is)
    (case e5 => k_is)
    (case k5 => k_is)
    (case a6 => k_is)
    (case l6 => k_is)
    (case e6 => k_is)
    (case k6 => k_is)
    (case a7 => k_is)
    (case l7 => k_is)
    (case e7 => k_is)
    (case k7 => k_is)
    (case a8 => k_is)
    (case l8 => k_is)
    (case e8 => k_is)
    (case k8 => k_is)
    (case a9 => k_is)
    (case l9 => k_is)
    (case e9 => k_is)
    (case k9 => k_is)
    (case a10 => k_is)
    (case l10 => k_is)
    (case e10 => k_is)
    (case k10 => k_is)
    (case a11 => k_is)
    (case l11 => k_is)
    (case e11 => k_is)
    (case k11 => k_is)
    (case a12 => k_is)
    (case l12 => k_is)
    (case e12 => k_is)
    (case k12 => k_is)
    (case a13 => k_is)
    (case l13 => k_is)
    (case e13 => k_is)
    (case k13 => k_is)
    (case a14 => k_is)
    (case l14 => k_is)
    (case e14 => k_is)
    (case k14 => k_is)
    (case a15 => k_is)
    (case l15 => k_is)
    (case e15 => k_is)
    (case k15 => k_is)
    (case a16 => k_is)
    (case l16 => k_is)
    (case e16 => k_is)
    (case k16 => k_is)
    (case a17 => k_is)
    (case l17 => k_is)
    (case e17 => k_is)
    (case k17 => k_is)
    (case a18 => k_is)
    (case l18 => k_is)
    (case e18 => k_is)
    (case k18 => k_is)
    (case a19 => k_is)
    (case l19 => k_is)
    (case e19 => k_is)
    (case k19 => k_is)
    (case a20 => k_is)
    (case l20 => k_is)
    (case e20 => k_is)
    (case k20 => k_is)
    (case a21 => k_is)
    (case l21 => k_is)
    (case e21 => k_is)
    (case k21 => k_is)
    (case a22 => k_is)
    (case l22 => k_is)
    (case e22 => k_is)
    (case k22 => k_is)
    (case a23 => k_is)
    (case l23 => k_is)
    (case e23 => k_is)
    (case k23 => k_is)
    (case a24 => k_is)
    (case l24 => k_is)
    (case e24 => k_is)
    (case k24 => k_is)
    (case a25 => k_is)
    (case l25 => k_is)
    (case e25 => k_is)
    (case k25 => k_is)
    (case a26 => k_is)
    (case l26 => k_is)
    (case e26 => k_is)
    (case k26 => k_is)
    (case a27 => k_is)
    (case l27 => k_is)
    (case e27 => k_is)
    (case k27 => k_is)
    (case a28 => k_is)
    (case l28 => k_is)
    (case e28 => k_is)
    (case k28 => k_is)
    (case pg_Runs => k_is)
    (case hd_Runs => k_is)
    (case po_Runs => k_is)
    (case sa_Runs => k_is)
    (case mk_Runs => k_is)
    (case kc_Runs => k_is)
    (case n_Runs_size => k_is)
    (case n_Runs_rows => k_is)
    (case n_Runs_way => k_is)
    (case i_Runs_init => k_is)
    (case i_Runs_eq => k_is)
    (case i_Runs_mul => k_is)
    (case i_Runs_invert => k_is)
    (case i_Runs_at => k_is)
    (case og_Runs => k_is)
    (case on_Runs => k_is)
    (case ot_Runs => k_is)
    (case om_Runs => k_is)
    (case of_Runs => k_is)
    (case ok_Runs => kit_is)
    (case o2a_Runs => k_is)
    (case o2b_Runs => k_is)
    (case o2c_Runs => k_is)
    (case ok_int_Runs => kit_is)
    (case ok_tup_Runs => kit_is)
    (case xl_BadSize => k_is)
    (case xr_BadSize => first | rfl | decide +kernel)
    (case xsa_BadSize => k_is)
    (case xex_BadSize => k_is)
    (case xty_BadSize => k_is)
    (case xkc_BadSize => k_is)
    (case xga_BadSize => k_is)
    (case xgg_BadSize => k_is)
    (case xhd_BadSize => k_is)
    (case xha_BadSize => k_is)
    (case xhm_BadSize => k_is)
    (case xno_BadSize => k_is)
    (case xhn_BadSize => k_is)
    (case xht_BadSize => k_is)
    (case xti_BadSize => k_is)
    (case xs_BadSize_BadSize => k_is)
    (case xl_BadPlace => k_is)
    (case xr_BadPlace => first | rfl | decide +kernel)
    (case xsa_BadPlace => k_is)
    (case xex_BadPlace => k_is)
    (case xty_BadPlace => k_is)
    (case xkc_BadPlace => k_is)
    (case xga_BadPlace => k_is)
    (case xgg_BadPlace => k_is)
    (case xhd_BadPlace => k_is)
    (case xha_BadPlace => k_is)
    (case xhm_BadPlace => k_is)
    (case xno_BadPlace => k_is)
    (case xhn_BadPlace => k_is)
    (case xht_BadPlace => k_is)
    (case xti_BadPlace => k_is)
    (case xs_BadPlace_BadSize => k_is)
    (case z_bool => k_is)
    (case z_int => k_is)
    (case z_isinstance => k_is)
    (case z_len => k_is)
    (case z_list => k_is)
    (case z_max => k_is)
    (case z_min => k_is)
    (case z_range => k_is)
    (case z_repr => k_is)
    (case z_sorted => k_is)
    (case z_sum => k_is)
    (case z_tuple => k_is)
    (case m_MOST_SIZE => k_is)
    (case m_FEW => k_is)
    (case kr_t28 => kernel_rfl)
    (case kr_u28 => kernel_rfl)
    (case kr_v28 => kernel_rfl)
