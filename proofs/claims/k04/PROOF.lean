import PyProof.Rows.All
import Wide.All
import OpenK.AllK
import Wide.FinOn
import HandS.ForMost
import HandS.Exc
import HandS.ExcOwn
import HandS.ExcField
import HandS.ExcIs
import HandS.ExcInit
import HandS.WordsExc
import HandS.TryMany
import KE.KExcIs
import KE.KIsAll
import KE.RegKIsAll
import HandS.Codes
import HandS.Conv
import HandS.IsInst
import HandS.Style
import HandS.Walk
import HandS.Wide
import KE.GoesEnum
import KE.GoesMore
import HandS.More
import HandS.StrMore
import KE.GoesEnumKw
import PyProof.Rows.CallKwBuiltin
import HandS.Deep
import HandS.Star
import HandS.Text
import HandS.SortInts
import KE.KSortedM
import HandS.Lambda
import HandS.EndTab
import KE.KNestM
import KE.KLam
import PySem.Challenge.RW_everyorder_k04_rows_that_are_no_rearrang
set_option Elab.async false
set_option linter.all false
set_option maxRecDepth 100000
set_option maxHeartbeats 4000000
namespace Pf04
open PySem PySem.Spec PyProof.Rows L2
/-! ### the text by places -/
def topS (i : Nat) : Stmt := PySem.Challenge.pw_everyorder_k04_rows_that_are_no_rearrang.main.body.getD i (.Pass ⟨0, 0, 0, 0⟩)
abbrev s_is_integer : Stmt := topS 1
abbrev s_is_between : Stmt := topS 2
abbrev s_first_wrong : Stmt := topS 3
abbrev s_BadSize_init : Stmt := inClass (topS 6) 0
abbrev s_BadNumber_init : Stmt := inClass (topS 7) 0
abbrev s_BadRow_init : Stmt := inClass (topS 8) 0
abbrev s_check_row : Stmt := topS 11
abbrev s_nothing : Stmt := topS 12
abbrev s_joined : Stmt := topS 13
abbrev s_in_turn : Stmt := topS 14
abbrev s_undone : Stmt := topS 15
abbrev s_back_from : Stmt := topS 16
abbrev s_done : Stmt := topS 17
abbrev s_repeated : Stmt := topS 18
abbrev s_seats_of : Stmt := topS 19
abbrev s_led : Stmt := topS 20
abbrev s_rings : Stmt := topS 21
abbrev s_rings_in : Stmt := topS 22
abbrev s_ring_from : Stmt := topS 23
abbrev s_is_even : Stmt := topS 24
abbrev s__law_pen : Stmt := topS 26
abbrev s__law_draw : Stmt := topS 27
abbrev s__law_pick : Stmt := topS 28
abbrev s__law_shuffled : Stmt := topS 29
abbrev s__law_row : Stmt := topS 30
abbrev s__law_met : Stmt := topS 31
abbrev s__law_wrong_row : Stmt := topS 32
abbrev s__law_calls : Stmt := topS 33
abbrev s_law : Stmt := topS 34
theorem sc_is_integer : FnScope ["value"] ["value"] (defScope s_is_integer) := ⟨rfl, rfl, rfl, by decide +kernel, rfl, by decide +kernel, by decide +kernel⟩
theorem sc_is_between : FnScope ["value", "low", "high"] ["value", "low", "high"] (defScope s_is_between) := ⟨rfl, rfl, rfl, by decide +kernel, rfl, by decide +kernel, by decide +kernel⟩
theorem sc_first_wrong : FnScope ["row", "size", "has_come", "index", "member"] ["row", "size"] (defScope s_first_wrong) := ⟨rfl, rfl, rfl, by decide +kernel, rfl, by decide +kernel, by decide +kernel⟩
theorem sc_BadSize_init : FnScope ["self", "size"] ["self", "size"] (defScope s_BadSize_init) := ⟨rfl, rfl, rfl, by decide +kernel, rfl, by decide +kernel, by decide +kernel⟩
theorem sc_BadNumber_init : FnScope ["self", "number"] ["self", "number"] (defScope s_BadNumber_init) := ⟨rfl, rfl, rfl, by decide +kernel, rfl, by decide +kernel, by decide +kernel⟩
theorem sc_BadRow_init : FnScope ["self", "index"] ["self", "index"] (defScope s_BadRow_init) := ⟨rfl, rfl, rfl, by decide +kernel, rfl, by decide +kernel, by decide +kernel⟩
theorem sc_check_row : FnScope ["row", "wrong"] ["row"] (defScope s_check_row) := ⟨rfl, rfl, rfl, by decide +kernel, rfl, by decide +kernel, by decide +kernel⟩
theorem sc_nothing : FnScope ["size"] ["size"] (defScope s_nothing) := ⟨rfl, rfl, rfl, by decide +kernel, rfl, by decide +kernel, by decide +kernel⟩
theorem sc_joined : FnScope ["first", "second"] ["first", "second"] (defScope s_joined) := ⟨rfl, rfl, rfl, by decide +kernel, rfl, by decide +kernel, by decide +kernel⟩
theorem sc_in_turn : FnScope ["first", "second", "place"] ["first", "second"] (defScope s_in_turn) := ⟨rfl, rfl, rfl, by decide +kernel, rfl, by decide +kernel, by decide +kernel⟩
theorem sc_undone : FnScope ["row"] ["row"] (defScope s_undone) := ⟨rfl, rfl, rfl, by decide +kernel, rfl, by decide +kernel, by decide +kernel⟩
theorem sc_back_from : FnScope ["row", "back", "index", "place"] ["row"] (defScope s_back_from) := ⟨rfl, rfl, rfl, by decide +kernel, rfl, by decide +kernel, by decide +kernel⟩
theorem sc_done : FnScope ["row", "things", "place"] ["row", "things"] (defScope s_done) := ⟨rfl, rfl, rfl, by decide +kernel, rfl, by decide +kernel, by decide +kernel⟩
theorem sc_repeated : FnScope ["row", "many", "seats", "place"] ["row", "many"] (defScope s_repeated) := ⟨rfl, rfl, rfl, by decide +kernel, rfl, by decide +kernel, by decide +kernel⟩
theorem sc_seats_of : FnScope ["row", "seats", "ring", "index", "place"] ["row"] (defScope s_seats_of) := ⟨rfl, rfl, rfl, by decide +kernel, rfl, by decide +kernel, by decide +kernel⟩
theorem sc_led : FnScope ["seats", "place", "many", "ring", "index"] ["seats", "place", "many"] (defScope s_led) := ⟨rfl, rfl, rfl, by decide +kernel, rfl, by decide +kernel, by decide +kernel⟩
theorem sc_rings : FnScope ["row"] ["row"] (defScope s_rings) := ⟨rfl, rfl, rfl, by decide +kernel, rfl, by decide +kernel, by decide +kernel⟩
theorem sc_rings_in : FnScope ["row", "found", "is_told", "start", "ring", "place"] ["row"] (defScope s_rings_in) := ⟨rfl, rfl, rfl, by decide +kernel, rfl, by decide +kernel, by decide +kernel⟩
theorem sc_ring_from : FnScope ["row", "start", "places", "place"] ["row", "start"] (defScope s_ring_from) := ⟨rfl, rfl, rfl, by decide +kernel, rfl, by decide +kernel, by decide +kernel⟩
theorem sc_is_even : FnScope ["row"] ["row"] (defScope s_is_even) := ⟨rfl, rfl, rfl, by decide +kernel, rfl, by decide +kernel, by decide +kernel⟩
theorem sc__law_pen : FnScope ["script"] ["script"] (defScope s__law_pen) := ⟨rfl, rfl, rfl, by decide +kernel, rfl, by decide +kernel, by decide +kernel⟩
theorem sc__law_draw : FnScope ["pen", "many", "digit", "at", "cell", "mixed"] ["pen", "many"] (defScope s__law_draw) := ⟨rfl, rfl, rfl, by decide +kernel, rfl, by decide +kernel, by decide +kernel⟩
theorem sc__law_pick : FnScope ["pen", "some"] ["pen", "some"] (defScope s__law_pick) := ⟨rfl, rfl, rfl, by decide +kernel, rfl, by decide +kernel, by decide +kernel⟩
theorem sc__law_shuffled : FnScope ["pen", "some", "left", "found", "k"] ["pen", "some"] (defScope s__law_shuffled) := ⟨rfl, rfl, rfl, by decide +kernel, rfl, by decide +kernel, by decide +kernel⟩
theorem sc__law_row : FnScope ["pen", "size"] ["pen", "size"] (defScope s__law_row) := ⟨rfl, rfl, rfl, by decide +kernel, rfl, by decide +kernel, by decide +kernel⟩
theorem sc__law_met : FnScope ["call", "e"] ["call"] (defScope s__law_met) := ⟨rfl, rfl, rfl, by decide +kernel, rfl, by decide +kernel, by decide +kernel⟩
theorem sc__law_wrong_row : FnScope ["pen", "row", "found", "at", "other"] ["pen", "row"] (defScope s__law_wrong_row) := ⟨rfl, rfl, rfl, by decide +kernel, rfl, by decide +kernel, by decide +kernel⟩
theorem sc__law_calls : FnScope ["row", "good", "bad", "things", "calls"] ["row", "good", "bad", "things"] (defScope s__law_calls) := ⟨rfl, rfl, rfl, by decide +kernel, rfl, by decide +kernel, by decide +kernel⟩
theorem sc_law : FnScope ["script", "pen", "lap", "size", "at", "kept", "first", "bad", "good", "longer", "odd", "row", "things", "worse", "k", "call", "part"] ["script"] (defScope s_law) := ⟨rfl, rfl, rfl, by decide +kernel, rfl, by decide +kernel, by decide +kernel⟩
/-- where the defs and classes stand -/
structure Ad where
  f_is_integer : Addr
  d_is_integer : FuncData
  f_is_between : Addr
  d_is_between : FuncData
  f_first_wrong : Addr
  d_first_wrong : FuncData
  f_BadSize_init : Addr
  d_BadSize_init : FuncData
  f_BadNumber_init : Addr
  d_BadNumber_init : FuncData
  f_BadRow_init : Addr
  d_BadRow_init : FuncData
  f_check_row : Addr
  d_check_row : FuncData
  f_nothing : Addr
  d_nothing : FuncData
  f_joined : Addr
  d_joined : FuncData
  f_in_turn : Addr
  d_in_turn : FuncData
  f_undone : Addr
  d_undone : FuncData
  f_back_from : Addr
  d_back_from : FuncData
  f_done : Addr
  d_done : FuncData
  f_repeated : Addr
  d_repeated : FuncData
  f_seats_of : Addr
  d_seats_of : FuncData
  f_led : Addr
  d_led : FuncData
  f_rings : Addr
  d_rings : FuncData
  f_rings_in : Addr
  d_rings_in : FuncData
  f_ring_from : Addr
  d_ring_from : FuncData
  f_is_even : Addr
  d_is_even : FuncData
  f__law_pen : Addr
  d__law_pen : FuncData
  f__law_draw : Addr
  d__law_draw : FuncData
  f__law_pick : Addr
  d__law_pick : FuncData
  f__law_shuffled : Addr
  d__law_shuffled : FuncData
  f__law_row : Addr
  d__law_row : FuncData
  f__law_met : Addr
  d__law_met : FuncData
  f__law_wrong_row : Addr
  d__law_wrong_row : FuncData
  f__law_calls : Addr
  d__law_calls : FuncData
  f_law : Addr
  d_law : FuncData
  C_EveryError : Addr
  C_BadSize : Addr
  C_BadNumber : Addr
  C_BadRow : Addr
  c__law_calls : Addr
  p__law_calls : Addr
  c_law : Addr
  p_law : Addr
/-- a def that makes lambdas: its code object stands at c -/
structure FunL (K : PySem.W.Frag) (x qual : Str) (st : Stmt) (f : Addr) (fd : FuncData) (c : Addr) : Prop where
  ex : ∃ (oc : Value) (od : Option Addr) (kV doc pm : Value) (an : Option Addr) (ct : Value) (osl : Array (Option Value)), fd = PySem.W.fnOf x qual (defArgs st) (defBody st) (defScope st) .none kV doc pm an (.ref c) ct ∧ K.lookup f = some ⟨oc, od, .func fd, osl⟩ ∧ PySem.W.codeIn K (.ref c) qual = true
theorem FunL.ok {P : Program} {w : World} {K : PySem.W.Frag} {mg : Str → Option Value} {base : Heap} {x qual : Str} {st : Stmt} {f c : Addr} {fd : FuncData} {N ps : List Str} {k : Nat} {sp : Sp} (F : FunL K x qual st f fd c) (hb : Binds K fd ps []) (S : FnScope N ps (defScope st)) (len : ∀ vs H Q E, sp vs H Q E → vs.length = ps.length)
    (hbody : ∀ (A : Around) (outer : List Env) (s : Shared) (H : Hp) (vs : List V) (Q : VK) (E : XK), Room k (A.deeper (envOfC qual (defScope st) s.heap.objs.size f (.ref c))) → sp vs H Q E → ∃ t, PSs (cxOf C8.CX0 P w K mg base N qual (defScope st) f (.ref c) A outer s H E).nox (defBody st) t ∧ t { nx := fun _ H' => Q .non H', rt := Q } (L2.start N vs) H) :
    FnOk P w K mg base CX0 (k + 1) f fd ps sp := by
  obtain ⟨oc, od, kV, doc, pm, an, ct, osl, e, lk, hcd⟩ := F.ex
  refine ⟨len, fun A outer s H args us vs Q E hr e0 hbt r h => ?_⟩
  rw [e] at lk hbt
  refine LamX.run_ofS lk hcd S hr e0 hbt r (len _ _ _ _ h) fun hr' => ?_
  obtain ⟨t, ht, q⟩ := hbody A outer s H vs Q E hr' h
  exact ⟨t, ht.nox, q⟩
/-- the table of a code object -/
def tabAddr (K : PySem.W.Frag) (c : Addr) : Addr := match K.lookup c with
  | some ⟨_, _, .fields vs, _⟩ => (match (vs[11]? : Option Value) with | some (.ref P) => P | _ => 0)
  | _ => 0
theorem tabs_at {h : Heap} {ts : List Addr} {p : Addr} (hts : ∀ P ∈ ts, h.get? P = some (PySem.W.tabObj #[])) (e : ts.contains p = true) : h.get? p = some { cls := .none, data := .fields #[] } := hts p (List.contains_iff_mem.mp e)
theorem tabs_nil {T : List (Addr × Str)} {cs : List (Addr × Addr)} {H : Hp} (e : T.map (·.1) = cs.map (·.2)) (hT : ∀ p ∈ cs, H p.2 = some (.tbl #[])) : LamX.Tabs T H := fun p hp => by
  have m : p.1 ∈ cs.map (·.2) := by
    rw [← e]
    exact List.mem_map.mpr ⟨p, hp, rfl⟩
  obtain ⟨q, hq, eq⟩ := List.mem_map.mp m
  refine LamX.TabS.nil ?_
  rw [← eq]
  exact hT q hq
/-- isinstance of a caught error that has its own dict -/
structure ExcD (K : PySem.W.Frag) (D : Addr) : Prop where
  hg : PySem.W.findIn K (.ref D) "__getattribute__" = some (some (.builtin "BaseException.__getattribute__"))
  hk : PySem.W.findIn K (.ref D) "__getattr__" = some none
  hs : PySem.W.subIn K (.ref D) (.type "BaseException") = some true
  hd : PySem.W.hasDictIn K D = true
  ha : PySem.W.findIn K (.ref D) "__class__" = some (some (.builtin "object.__class__"))
  hn : PySem.W.specialIn K (.builtin "object.__class__") "__get__" = some (some (.builtin "getset_descriptor.__get__"))
  ht : PySem.W.takesIn K (.builtin "object.__class__") = some true
  hm : PySem.W.mroIn K D (.type "object") = some true
/-- an own error class: made, its field read, asked by isinstance -/
structure ErrC (K : PySem.W.Frag) (C fI : Addr) (f : Str) : Prop where
  o : OexC K C
  ini : PySem.W.findIn K (.ref C) "__init__" = some (some (.ref fI))
  tin : PySem.W.typeIn K (.ref fI) = some (.type "function")
  no : PySem.W.findIn K (.ref C) f = some none
  x : XfC K C
  i : ExcD K C
/-- an own error class without own __init__ -/
structure ErrZ (K : PySem.W.Frag) (C : Addr) : Prop where
  x : PySem.W.excIn K C [.type "ValueError", .type "Exception", .type "BaseException", .type "object"] "ValueError.__new__" = true
  k : PySem.W.keepIn K (.ref C) = true
  i : ExcD K C
/-- what the top has written -/
structure Tx (w : World) (K : PySem.W.Frag) (mg : Str → Option Value) (a : Ad) : Prop where
  F_is_integer : Fun K "is_integer" "is_integer" s_is_integer a.f_is_integer a.d_is_integer
  b_is_integer : Binds K a.d_is_integer ["value"] []
  m_is_integer : mg "is_integer" = some (.ref a.f_is_integer)
  F_is_between : Fun K "is_between" "is_between" s_is_between a.f_is_between a.d_is_between
  b_is_between : Binds K a.d_is_between ["value", "low", "high"] []
  m_is_between : mg "is_between" = some (.ref a.f_is_between)
  F_first_wrong : Fun K "first_wrong" "first_wrong" s_first_wrong a.f_first_wrong a.d_first_wrong
  b_first_wrong : Binds K a.d_first_wrong ["row", "size"] []
  m_first_wrong : mg "first_wrong" = some (.ref a.f_first_wrong)
  F_BadSize_init : Fun K "__init__" "BadSize.__init__" s_BadSize_init a.f_BadSize_init a.d_BadSize_init
  b_BadSize_init : Binds K a.d_BadSize_init ["self", "size"] []
  F_BadNumber_init : Fun K "__init__" "BadNumber.__init__" s_BadNumber_init a.f_BadNumber_init a.d_BadNumber_init
  b_BadNumber_init : Binds K a.d_BadNumber_init ["self", "number"] []
  F_BadRow_init : Fun K "__init__" "BadRow.__init__" s_BadRow_init a.f_BadRow_init a.d_BadRow_init
  b_BadRow_init : Binds K a.d_BadRow_init ["self", "index"] []
  F_check_row : Fun K "check_row" "check_row" s_check_row a.f_check_row a.d_check_row
  b_check_row : Binds K a.d_check_row ["row"] []
  m_check_row : mg "check_row" = some (.ref a.f_check_row)
  F_nothing : Fun K "nothing" "nothing" s_nothing a.f_nothing a.d_nothing
  b_nothing : Binds K a.d_nothing ["size"] []
  m_nothing : mg "nothing" = some (.ref a.f_nothing)
  F_joined : Fun K "joined" "joined" s_joined a.f_joined a.d_joined
  b_joined : Binds K a.d_joined ["first", "second"] []
  m_joined : mg "joined" = some (.ref a.f_joined)
  F_in_turn : Fun K "in_turn" "in_turn" s_in_turn a.f_in_turn a.d_in_turn
  b_in_turn : Binds K a.d_in_turn ["first", "second"] []
  m_in_turn : mg "in_turn" = some (.ref a.f_in_turn)
  F_undone : Fun K "undone" "undone" s_undone a.f_undone a.d_undone
  b_undone : Binds K a.d_undone ["row"] []
  m_undone : mg "undone" = some (.ref a.f_undone)
  F_back_from : Fun K "back_from" "back_from" s_back_from a.f_back_from a.d_back_from
  b_back_from : Binds K a.d_back_from ["row"] []
  m_back_from : mg "back_from" = some (.ref a.f_back_from)
  F_done : Fun K "done" "done" s_done a.f_done a.d_done
  b_done : Binds K a.d_done ["row", "things"] []
  m_done : mg "done" = some (.ref a.f_done)
  F_repeated : Fun K "repeated" "repeated" s_repeated a.f_repeated a.d_repeated
  b_repeated : Binds K a.d_repeated ["row", "many"] []
  m_repeated : mg "repeated" = some (.ref a.f_repeated)
  F_seats_of : Fun K "seats_of" "seats_of" s_seats_of a.f_seats_of a.d_seats_of
  b_seats_of : Binds K a.d_seats_of ["row"] []
  m_seats_of : mg "seats_of" = some (.ref a.f_seats_of)
  F_led : Fun K "led" "led" s_led a.f_led a.d_led
  b_led : Binds K a.d_led ["seats", "place", "many"] []
  m_led : mg "led" = some (.ref a.f_led)
  F_rings : Fun K "rings" "rings" s_rings a.f_rings a.d_rings
  b_rings : Binds K a.d_rings ["row"] []
  m_rings : mg "rings" = some (.ref a.f_rings)
  F_rings_in : Fun K "rings_in" "rings_in" s_rings_in a.f_rings_in a.d_rings_in
  b_rings_in : Binds K a.d_rings_in ["row"] []
  m_rings_in : mg "rings_in" = some (.ref a.f_rings_in)
  F_ring_from : Fun K "ring_from" "ring_from" s_ring_from a.f_ring_from a.d_ring_from
  b_ring_from : Binds K a.d_ring_from ["row", "start"] []
  m_ring_from : mg "ring_from" = some (.ref a.f_ring_from)
  F_is_even : Fun K "is_even" "is_even" s_is_even a.f_is_even a.d_is_even
  b_is_even : Binds K a.d_is_even ["row"] []
  m_is_even : mg "is_even" = some (.ref a.f_is_even)
  F__law_pen : Fun K "_law_pen" "_law_pen" s__law_pen a.f__law_pen a.d__law_pen
  b__law_pen : Binds K a.d__law_pen ["script"] []
  m__law_pen : mg "_law_pen" = some (.ref a.f__law_pen)
  F__law_draw : Fun K "_law_draw" "_law_draw" s__law_draw a.f__law_draw a.d__law_draw
  b__law_draw : Binds K a.d__law_draw ["pen", "many"] []
  m__law_draw : mg "_law_draw" = some (.ref a.f__law_draw)
  F__law_pick : Fun K "_law_pick" "_law_pick" s__law_pick a.f__law_pick a.d__law_pick
  b__law_pick : Binds K a.d__law_pick ["pen", "some"] []
  m__law_pick : mg "_law_pick" = some (.ref a.f__law_pick)
  F__law_shuffled : Fun K "_law_shuffled" "_law_shuffled" s__law_shuffled a.f__law_shuffled a.d__law_shuffled
  b__law_shuffled : Binds K a.d__law_shuffled ["pen", "some"] []
  m__law_shuffled : mg "_law_shuffled" = some (.ref a.f__law_shuffled)
  F__law_row : Fun K "_law_row" "_law_row" s__law_row a.f__law_row a.d__law_row
  b__law_row : Binds K a.d__law_row ["pen", "size"] []
  m__law_row : mg "_law_row" = some (.ref a.f__law_row)
  F__law_met : Fun K "_law_met" "_law_met" s__law_met a.f__law_met a.d__law_met
  b__law_met : Binds K a.d__law_met ["call"] []
  m__law_met : mg "_law_met" = some (.ref a.f__law_met)
  F__law_wrong_row : Fun K "_law_wrong_row" "_law_wrong_row" s__law_wrong_row a.f__law_wrong_row a.d__law_wrong_row
  b__law_wrong_row : Binds K a.d__law_wrong_row ["pen", "row"] []
  m__law_wrong_row : mg "_law_wrong_row" = some (.ref a.f__law_wrong_row)
  F__law_calls : Fun K "_law_calls" "_law_calls" s__law_calls a.f__law_calls a.d__law_calls
  L__law_calls : FunL K "_law_calls" "_law_calls" s__law_calls a.f__law_calls a.d__law_calls a.c__law_calls
  b__law_calls : Binds K a.d__law_calls ["row", "good", "bad", "things"] []
  m__law_calls : mg "_law_calls" = some (.ref a.f__law_calls)
  F_law : Fun K "law" "law" s_law a.f_law a.d_law
  L_law : FunL K "law" "law" s_law a.f_law a.d_law a.c_law
  b_law : Binds K a.d_law ["script"] []
  m_law : mg "law" = some (.ref a.f_law)
  c_EveryError : mg "EveryError" = some (.ref a.C_EveryError)
  c_BadSize : mg "BadSize" = some (.ref a.C_BadSize)
  c_BadNumber : mg "BadNumber" = some (.ref a.C_BadNumber)
  c_BadRow : mg "BadRow" = some (.ref a.C_BadRow)
  ox_BadSize : ErrC K a.C_BadSize a.f_BadSize_init "size"
  em_BadSize_BadNumber : PySem.W.exmOne K (.ref a.C_BadSize) (.ref a.C_BadNumber) = some false
  em_BadSize_BadRow : PySem.W.exmOne K (.ref a.C_BadSize) (.ref a.C_BadRow) = some false
  em_BadSize_BadSize : PySem.W.exmOne K (.ref a.C_BadSize) (.ref a.C_BadSize) = some true
  kt_BadSize_EveryError : PySem.W.kitOne K (.ref a.C_BadSize) (.ref a.C_EveryError) = some true
  ox_BadNumber : ErrC K a.C_BadNumber a.f_BadNumber_init "number"
  em_BadNumber_BadNumber : PySem.W.exmOne K (.ref a.C_BadNumber) (.ref a.C_BadNumber) = some true
  em_BadNumber_BadRow : PySem.W.exmOne K (.ref a.C_BadNumber) (.ref a.C_BadRow) = some false
  em_BadNumber_BadSize : PySem.W.exmOne K (.ref a.C_BadNumber) (.ref a.C_BadSize) = some false
  kt_BadNumber_EveryError : PySem.W.kitOne K (.ref a.C_BadNumber) (.ref a.C_EveryError) = some true
  ox_BadRow : ErrC K a.C_BadRow a.f_BadRow_init "index"
  em_BadRow_BadNumber : PySem.W.exmOne K (.ref a.C_BadRow) (.ref a.C_BadNumber) = some false
  em_BadRow_BadRow : PySem.W.exmOne K (.ref a.C_BadRow) (.ref a.C_BadRow) = some true
  em_BadRow_BadSize : PySem.W.exmOne K (.ref a.C_BadRow) (.ref a.C_BadSize) = some false
  kt_BadRow_EveryError : PySem.W.kitOne K (.ref a.C_BadRow) (.ref a.C_EveryError) = some true
  z_bool : mg "bool" = none
  z_enumerate : mg "enumerate" = none
  z_int : mg "int" = none
  z_isinstance : mg "isinstance" = none
  z_len : mg "len" = none
  z_list : mg "list" = none
  z_max : mg "max" = none
  z_range : mg "range" = none
  z_tuple : mg "tuple" = none
  m_MOST_PLACES : ∃ t, mg "MOST_PLACES" = some (.int 1000 t)
def tabsOf (a : Ad) : List (Addr × Str) := [(a.p__law_calls, (("_law_calls" : Str) ++ ".<locals>." ++ "<lambda>")), (a.p_law, (("law" : Str) ++ ".<locals>." ++ "<lambda>"))]
/-- the tables of the code objects of lambdas -/
structure Tb (base : Heap) (mg : Str → Option Value) (a : Ad) : Prop where
  tb__law_calls : LamX.TabB base mg a.c__law_calls a.p__law_calls
  hu__law_calls : ∀ p ∈ tabsOf a, p.1 = a.p__law_calls → p.2 = (("_law_calls" : Str) ++ ".<locals>." ++ "<lambda>")
  tb_law : LamX.TabB base mg a.c_law a.p_law
  hu_law : ∀ p ∈ tabsOf a, p.1 = a.p_law → p.2 = (("law" : Str) ++ ".<locals>." ++ "<lambda>")



/-! ### several clauses `except X as n` -/
/-- what such clauses wish of an exception of the body, one after the other: class, slot of the name, suite -/
def wManyAs (K : PySem.W.Frag) (Wout : WX) (D : Ends) : List (Value × Nat × (Addr → Value → Option Addr → TS)) → WX
  | [] => Wout
  | (c, i, ts) :: r => fun cls d σ H => ∃ b, PySem.W.exmOne K cls c = some b ∧
      (b = true → ∀ a, H a = none → ts a cls d { nx := fun σ' H' => D.nx (σ'.set i none) H', rt := D.rt, bk := fun σ' H' => D.bk (σ'.set i none) H', ct := fun σ' H' => D.ct (σ'.set i none) H' } (σ.set i (some (.ref a))) H) ∧
      (b = false → wManyAs K Wout D r cls d σ H)
inductive HdsAs (X : Cx) : List ExceptHandler → List (Value × Nat × (Addr → Value → Option Addr → TS)) → Prop
  | nil : HdsAs X [] []
  | cons {x n : Str} {c : Value} {i : Nat} {ts : Addr → Value → Option Addr → TS} {b₀ : Stmt} {suite : List Stmt} {np pos' : Pos} {hds : List ExceptHandler} {l : List (Value × Nat × (Addr → Value → Option Addr → TS))}
      (hi : X.N[i]? = some n) (hln : X.env.kindOf n = some .local) (hc : Names X x c)
      (hsu : ∀ (a : Addr) (oe : Obj) (cls : Value) (d : Option Addr) (pn : List (Addr × Obj)), Zc cls d oe → (∃ vs, oe.data = .fields vs) → PSs (X.suite a ((a, oe) :: pn)) (b₀ :: suite) (ts a cls d)) (r : HdsAs X hds l) :
      HdsAs X (.ExceptHandler (some (.Name x np)) (some n) (b₀ :: suite) pos' :: hds) ((c, i, ts) :: l)
section
variable {X : Cx} {body : List Stmt} {h₀ : ExceptHandler} {hds : List ExceptHandler} {l : List (Value × Nat × (Addr → Value → Option Addr → TS))} {pos : Pos} {tb : WX → TS} {Wout : WX}
theorem ps_try_manyAs (hs : X.stack = X.env :: X.outer) (hf : X.env.frame = some X.env.locals) (hN : X.N.Nodup) (tk : Takes X Wout)
    (hb : ∀ (W : WX) (pn : List (Addr × Obj)) (xe : Value → Shared → Prop), Takes (X.tr pn xe) W → PassesOwn (model X.prog X.w) X.A X.env xe → PSs (X.tr pn xe) body (tb W))
    (hh : HdsAs X (h₀ :: hds) l) : PS X (.Try body (h₀ :: hds) [] [] pos) (fun D σ H => tb (wManyAs X.K Wout D l) D σ H) := by
  refine ⟨fun pins s σ H D I h => ?_⟩
  have ok := I.ok
  have hfr : X.A.frames = some (X.env :: X.outer) := by rw [ok.frames, hs]
  refine wpAny_Try_except ?_
  refine wpAny_mono ((hb (wManyAs X.K Wout D l) (X.pn ++ pins) (fun e s₁ => wpAny (model X.prog X.w) X.A (noteFrame e X.env) (fun _ s₂ => wpAny (model X.prog X.w) X.A (setFlight e none) (fun _ s₃ =>
    wpAny (model X.prog X.w) X.A (handleBy e X.env (h₀ :: hds)) (SP X pins D) X.xe s₃) X.xe s₂) X.xe s₁) (fun u s' xx => ?_) PassesOwn.looking).run [] s σ H D (I.toTry _) h) (fun f s1 hsp => ?_) (fun e s1 he => he)
  · -- an exception arrives
    obtain ⟨a, B, sI, pins', σ', H', cls, d, rfl, J', nb, up, sky, na, os, ag, want⟩ := xx
    have J : Inv X pins σ' H' sI := J'.ofTry ok
    show wpAny (model X.prog X.w) X.A (noteFrame (.ref a) X.env) _ _ _
    refine Sky.land Zc.steady hfr hf (show Sky B (X.env :: X.outer) a (Zc cls d) X.env.locals s'.heap by rw [← hs]; exact sky) fun h3 fl3 up3 => ?_
    have J3 : Inv X pins σ' H' { s' with heap := h3 } := J.landed nb fl3.1 (up.trans up3) os ag
    obtain ⟨oe3, vs3, he3, hz3, hd3⟩ := fl3.there
    have nfr : a ∉ frs (X.env :: X.outer) := fun hm => by
      obtain ⟨_, o', e', hnf⟩ := fl3.2.2.1.mem hm
      rw [he3] at e'
      cases e'
      exact hnf _ hd3
    have nL : a ≠ X.env.locals := fun z => nfr (List.mem_filterMap.mpr ⟨X.env, List.mem_cons_self, by rw [hf, z]⟩)
    have nF : a ∉ X.fs := fun hm => by
      obtain ⟨e, he, q⟩ := List.mem_filterMap.mp hm
      exact nfr (List.mem_filterMap.mpr ⟨e, List.mem_cons_of_mem _ he, q⟩)
    have S3 := J3.suite he3 hd3 na nL nF
    have LT : PySem.W.Looks (model X.prog X.w) h3 (typeOf (.ref a)) cls := fun A Q E s k q => wpAny_typeOf_ref (k _ _ he3) (by rw [hz3.1]; exact q)
    have each : ∀ {hds' : List ExceptHandler} {l' : List (Value × Nat × (Addr → Value → Option Addr → TS))}, HdsAs X hds' l' → wManyAs X.K Wout D l' cls d σ' H' →
        wpAny (model X.prog X.w) X.A (handleBy (.ref a) X.env hds') (SP X pins D) X.xe { s' with heap := h3 } := by
      intro hds' l' hk
      induction hk with
      | nil =>
        intro w
        refine wpAny_handleBy_nil ?_
        obtain ⟨_, _, _, oe, vs, T, oT, ts', he, hz, hd, h1, hr⟩ := id fl3
        unfold PySem.passOn
        refine wpAny_bind (wpAny_field he hd h1 ?_)
        rw [if_neg (show ¬ ((Value.ref T == Value.none) = true) from by simp)]
        have fin : wpAny (model X.prog X.w) X.A (setFlight (.ref a) X.env.frame) (fun _ s4 => wpAny (model X.prog X.w) X.A (throw (.ref a) : Sem Flow) (SP X pins D) X.xe s4) X.xe { s' with heap := h3 } := by
          rw [hf]
          exact HandSPX.setFlight_upZ fl3 fun h4 hh4 up4 => wpAny_throw (tk _ _ ⟨a, B, sI, pins, σ', H', cls, d, rfl, J, nb, (up.trans up3).trans up4, .inr (.inr (by rw [hs]; exact hh4)), na, os, ag, w⟩)
        first
          | exact wpAny_bind (wpAny_pure (wpAny_bind fin))
          | exact wpAny_bind fin
      | @cons x n c i ts b₀ suite np pos' hds2 l2 hi hln hc hsu r ih =>
        rintro ⟨b, hb1, hyes, hno⟩
        refine wpAny_handleBy_cons (codeAny_handlers_test ?_) (by intro q; cases q)
        have named : ∀ {Q : Value → Shared → Prop} {E : Value → Shared → Prop}, Q c { s' with heap := h3 } → wpAny (model X.prog X.w) (X.A.mark (some (.ref a))) (eval (.Name x np) X.env) Q E { s' with heap := h3 } := fun {Q E} q => by
          obtain ⟨hg, hdbg, hm | ⟨hm, hv, hnn⟩⟩ := hc
          · exact ld_glob (X := X.suite a ((a, oe3) :: (X.pn ++ pins))) S3 hg hm q hdbg
          · exact ld_blt (X := X.suite a ((a, oe3) :: (X.pn ++ pins))) S3 hg hm hv q hnn hdbg
        refine named ((PySem.W.exm_one (M := model X.prog X.w) (J3.kIn) LT hb1).here ?_)
        cases b with
        | false =>
          show wpAny _ X.A (handleBy (.ref a) X.env hds2) _ _ _
          exact ih (hno rfl)
        | true =>
          refine codeAny_handlers_suite_as ?_
          refine HandSPX.lands_againZ fl3 fun h4 fl4 up4 => ?_
          have J4 : Inv X pins σ' H' { s' with heap := h4 } := J.landed nb fl4.1 ((up.trans up3).trans up4) os ag
          obtain ⟨oe4, vs4, he4, hz4, hd4⟩ := fl4.there
          refine store_ok (X := X.suite a ((a, oe4) :: (X.pn ++ pins))) (v := .ref a) (J4.suite he4 hd4 na nL nF) hN hi (.inl hln) rfl (fun s5 S5 => ?_) (.inr hln)
          refine wpAny_mono ((hsu a oe4 cls d (X.pn ++ pins) hz4 ⟨_, hd4⟩).run [] s5 _ H' _ S5 (hyes rfl a na)) (fun f s6 hsp => ?_) (fun _ _ z => False.elim z)
          have gone : ∀ {σ6 : L2.St} {H6 : Hp} {Q : Shared → Prop}, Inv (X.suite a ((a, oe4) :: (X.pn ++ pins))) [] σ6 H6 s6 → (∀ s7, Inv X pins (σ6.set i none) H6 s7 → Q s7) →
              wpAny (model X.prog X.w) X.A (do bindName X.env n .none; unbindBehindTheSuite X.env n pos') (fun _ s7 => Q s7) X.xe s6 := fun {σ6 H6 Q} S6 hq => gone_ok (S6.unsuite ok) hN hi hln hq
          cases f with
          | next =>
            obtain ⟨σ6, H6, S6, q6⟩ := hsp
            exact gone S6 fun s7 J7 => ⟨_, _, J7, q6⟩
          | brk =>
            obtain ⟨σ6, H6, S6, q6⟩ := hsp
            exact gone S6 fun s7 J7 => ⟨_, _, J7, q6⟩
          | cont =>
            obtain ⟨σ6, H6, S6, q6⟩ := hsp
            exact gone S6 fun s7 J7 => ⟨_, _, J7, q6⟩
          | ret u =>
            obtain ⟨v6, σ6, H6, S6, r6, q6⟩ := hsp
            exact gone S6 fun s7 J7 => ⟨_, _, _, J7, r6, q6⟩
    exact each hh want
  · cases f with
    | next =>
      obtain ⟨σ', H', J', q⟩ := hsp
      exact wpAny_execs_nil ⟨σ', H', J'.ofTry ok, q⟩
    | brk =>
      obtain ⟨σ', H', J', q⟩ := hsp
      exact ⟨σ', H', J'.ofTry ok, q⟩
    | cont =>
      obtain ⟨σ', H', J', q⟩ := hsp
      exact ⟨σ', H', J'.ofTry ok, q⟩
    | ret u =>
      obtain ⟨v, σ', H', J', r, q⟩ := hsp
      exact ⟨v, σ', H', J'.ofTry ok, r, q⟩
end
/-! ### isinstance of a caught error with fields -/
theorem clsIn_of {K : PySem.W.Frag} {D : Addr} (h : PySem.W.hasDictIn K D = true) : (PySem.W.clsIn K D).isSome = true := by
  obtain ⟨cd, hc, _⟩ := PySem.W.any_some h
  rw [hc]
  rfl
theorem exm_ofHd {K : PySem.W.Frag} {C : Addr} {cls : Value} {b : Bool} (h1 : PySem.W.subIn K (.ref C) (.type "BaseException") = some true) (hd : PySem.W.hasDictIn K C = true) (ht : PySem.W.typeIn K (.ref C) = some (.type "type")) (h4 : PySem.W.subIn K cls (.ref C) = some b) :
    PySem.W.exmOne K cls (.ref C) = some b := PySem.W.exm_ref h1 hd ht h4
def rIsD (K : PySem.W.Frag) (D a : Addr) (cls : Value) (d : Option Addr) : List V → Hp → VK → Prop := fun xs H Q => ∃ (dd : Addr) (fs : List (Str × V)) (c : V) (cv : Value) (b : Bool), cls = .ref D ∧ d = some dd ∧ H dd = some (.xd fs) ∧ xs = [.ref a, c] ∧ (∀ u, RelV c u → u = cv) ∧ PySem.W.kitOne K (.ref D) cv = some b ∧ Q (.bl b) H
theorem call_isD {X : Cx} {a D : Addr} {oe : Obj} {cls : Value} {d : Option Addr} {pn : List (Addr × Obj)} (C : ExcD X.K D) (hz : Zc cls d oe) (hf : ∃ vs, oe.data = .fields vs) : CallR (X.suite a ((a, oe) :: pn)) (.builtin "isinstance") (rIsD X.K D a cls d) := by
  intro pins s σ H xs us Q I r h
  obtain ⟨dd, fs, c, cv, b, rfl, rfl, ea, rfl, hcv, e, q⟩ := h
  obtain ⟨u1, u2, rfl, r1, r2⟩ := vals2 r
  cases (show u1 = Value.ref a from r1)
  obtain rfl := hcv _ r2
  obtain ⟨hget, _⟩ := I.pin (a, oe) (List.mem_append.mpr (.inl List.mem_cons_self))
  obtain ⟨vs, hv⟩ := hf
  obtain ⟨mA, hns, hr⟩ := (show ObjOk X.prog X.w H s.heap dd (.xd fs) from I.hok dd _ ea)
  obtain ⟨od, ho, hl⟩ := lookIn_ns hns
  have J : PySem.W.InstAt s.heap a oe D (some od) := ⟨hget, hz.1, by unfold PySem.W.notCls; rw [hv] <;> rfl, by rw [hz.2]; exact ho⟩
  exact PySem.W.kia_one (PySem.W.kitx_exc (clsIn_of C.hd) C.hg C.hk C.hs C.ha C.hn C.ht C.hm) I.kIn J e (fun z => nomatch z) fun tk => ⟨.bl b, H, I.tok tk, rfl, q⟩

/-! ### an instance made, a method called, where what is raised is wished for at the caller's slots -/
def tMakeS (C : Addr) (sp : Sp) (dvs : List V) (E : L2.St → XK) (t : TA) : TE := fun σ H Q => t σ H fun vs H1 => ∀ x dx, H1 x = none → H1 dx = none → dx ≠ x →
  sp (.ref x :: (vs ++ dvs)) (upd (upd H1 dx (.own x)) x (.ins C dx [])) (fun v H2 => v = .non ∧ Q (.ref x) H2) (E σ)
section
variable {X : Cx} {k : Nat} {f C : Addr} {fd : FuncData} {ps : List Str} {sp : Sp} {W : WX} {x m : Str} {p pos apos : Pos} {e o : Expr} {es : List Expr} {ta : TE} {t : TA} {ds : List Value} {dvs : List V}
theorem run_makeS {pins : List (Addr × Obj)} {σ : L2.St} {H : Hp} {s : Shared} {Q : VK} {us : List Value} {vs : List V} (M : Mk X.K C f) (F : FnOk X.prog X.w X.K X.mg X.base (L2.CX X.prog X.w) k f fd ps sp) (hr : Room (k + 1) X.A) (hb : Binds X.K fd ps ds) (hd : Vals dvs ds)
    (tk : Takes X W) (I : Inv X pins σ H s) (r : Vals vs us)
    (h : ∀ x dx, H x = none → H dx = none → dx ≠ x → sp (.ref x :: (vs ++ dvs)) (upd (upd H dx (.own x)) x (.ins C dx [])) (fun v H2 => v = .non ∧ Q (.ref x) H2) (WE W σ)) :
    wpAny (model X.prog X.w) X.A (call (.ref C) us) (EP X pins σ Q) X.xe s := by
  have hq := h (s.heap.objs.size + 1) s.heap.objs.size (I.hok.fresh (Nat.le_succ _)) (I.hok.fresh (Nat.le_refl _)) (Nat.ne_of_lt (Nat.lt_succ_self _))
  have I2 := Inv.made (C := C) I
  have r2 : Vals (V.ref (s.heap.objs.size + 1) :: (vs ++ dvs)) (Value.ref (s.heap.objs.size + 1) :: (us ++ ds)) := .cons rfl (r.append hd)
  have hl : (Value.ref (s.heap.objs.size + 1) :: us ++ ds).length = ps.length := by
    have e := r2.length
    rw [F.len _ _ _ _ hq] at e
    exact e.symm
  refine wpAny_call (make_map (f := f) I.kIn M.makes M.init (beq_iff_eq.mp M.fn) (codeAny_mono (F.run _ X.stack _ _ ⟨Value.ref (s.heap.objs.size + 1) :: us, []⟩ (Value.ref (s.heap.objs.size + 1) :: (us ++ ds)) _ _ (WE W σ) (hr.make C us [])
    (I2.env0.make C us []) (hb _ (Value.ref (s.heap.objs.size + 1) :: us) I2.kIn hl) r2 hq) fun r s' hq' => ?_))
  cases r with
  | error e => exact passAt tk σ pins _ _ e s' I2 hq'
  | ok fl =>
    cases fl with
    | ret u =>
      obtain ⟨v, H', I3, rv, ev, q3⟩ := I2.after hq'
      subst ev
      exact ⟨rv, ⟨V.ref (s.heap.objs.size + 1), H', I3, rfl, q3⟩⟩
    | next => exact False.elim hq'
    | brk => exact False.elim hq'
    | cont => exact False.elim hq'
theorem pe_makeS (M : Mk X.K C f) (F : FnOk X.prog X.w X.K X.mg X.base (L2.CX X.prog X.w) k f fd ps sp) (hr : Room (k + 1) X.A) (hg : Gl X x) (hm : X.mg x = some (.ref C)) (hb : Binds X.K fd ps ds) (hd : Vals dvs ds) (tk : Takes X W)
    (ha : PA X (e :: es) t) (hdb : (x == ("__debug__" : Str)) = false := by decide) (he : starEach (e :: es) X.env = (false, eval e X.env) :: starEach es X.env := by rfl) (hpl : (backTo pos (starEach es X.env)).any (·.1) = false := by rfl) :
    PE X (.Call (.Name x p) (e :: es) [] pos) (tMakeS C sp dvs (WE W) t) := by
  refine ⟨fun pins s σ H Q I h => ?_⟩
  refine wpAny_Call_Name_kw (ld_glob I hg hm ?_ hdb)
  refine PySem.W.callWith_K (h₀ := X.base) I.ok.mod.kin M.kp (thn (ha.run pos pins s σ H _ I h) fun us s1 ⟨vs, H1, I1, r, q⟩ => ⟨I1.kIn, ?_⟩) he hpl
  exact run_makeS M F hr hb hd tk I1 r q
def tMethS (C : Addr) (m : Str) (sp : Sp) (E : L2.St → XK) (ta : TE) (t : TA) : TE := fun σ H Q => ta σ H fun x H1 => ∃ a dx fs, x = .ref a ∧ H1 a = some (.ins C dx fs) ∧ fs.lookup m = none ∧
  t σ H1 fun vs H2 => sp (x :: vs) H2 Q (E σ)
/-- o.m(e, ..) -/
theorem pe_methS {pl : Sem Bool} (he : PE X o ta) (c : Cls X.K C) (hm : Meth X.K C m f) (F : FnOk X.prog X.w X.K X.mg X.base (L2.CX X.prog X.w) k f fd ps sp) (hr : Room k X.A) (hb : Binds X.K fd ps []) (tk : Takes X W) (ha : PA X (e :: es) t)
    (hst : starEach (e :: es) X.env = (false, eval e X.env) :: starEach es X.env := by rfl) (hpl : (backTo pos (starEach es X.env)).any (·.1) = false := by rfl)
    (ht : eval (.Call (.Attribute o m apos) (e :: es) [] pos) X.env = (do
      let ov ← eval o X.env
      standAt apos.atName
      let (f, first) ← holding [ov] (getMethod ov m pl)
      callWith pos f first (backTo pos (starEach (e :: es) X.env)) (backToKw pos (keywordEach [] X.env))) := by rfl) :
    PE X (.Call (.Attribute o m apos) (e :: es) [] pos) (tMethS C m sp (WE W) ta t) := by
  refine ⟨fun pins s σ H Q I h => ?_⟩
  refine PySem.W.methodCall_KW (pl := pl) (thn (he.run pins s σ H _ I h) fun u s1 ⟨x, H1, I1, rx, a, dx, fs, ex, ea, l, q⟩ => ?_) ht
  subst ex
  obtain rfl : u = Value.ref a := rx
  refine getmeth_ok I1 ea c hm l ?_
  refine PySem.W.callWith_K (first := [.ref a]) (h₀ := X.base) I.ok.mod.kin hm.kp (thn (ha.run pos pins s1 σ H1 _ I1 q) fun us s2 ⟨vs, H2, I2, r, q2⟩ => ⟨I2.kIn, ?_⟩) hst hpl
  exact run_fnS (us := .ref a :: us) (vs := .ref a :: vs) F hr hb (passAt tk σ) I2 (.cons rfl r) q2
end

/-! ### heaps -/
/-- all but what stands at d is as it was -/
def But (d : Addr) (H H' : Hp) : Prop := ∀ b o, H b = some o → b ≠ d → H' b = some o
theorem But.refl {d : Addr} {H : Hp} : But d H H := fun _ _ h _ => h
theorem But.trans {d : Addr} {H H1 H2 : Hp} (x : But d H H1) (y : But d H1 H2) : But d H H2 := fun b o h n => y b o (x b o h n) n
theorem but_same {d : Addr} {H H' : Hp} (h : Same H H') : But d H H' := fun b o e _ => h b o e
theorem same_upd {H : Hp} {p : Addr} {o : HO} (h : H p = none) : Same H (upd H p o) := fun b x e => by
  rw [upd_ne (ne_of_none e h)]
  exact e
theorem but_upd {d : Addr} {H : Hp} {o : HO} : But d H (upd H d o) := fun b x e n => by
  rw [upd_ne n]
  exact e
theorem But.list {d : Addr} {H H' : Hp} {kvs : List (Key × V)} {l : Addr} {xs : List V} (x : But d H H') (hd : H d = some (.dK kvs)) (h : H l = some (.lst xs)) : H' l = some (.lst xs) :=
  x l _ h (ne_of h hd (by intro z; cases z))
theorem But.tup {d : Addr} {H H' : Hp} {kvs : List (Key × V)} {l : Addr} {xs : List V} (x : But d H H') (hd : H d = some (.dK kvs)) (h : H l = some (.tup xs)) : H' l = some (.tup xs) :=
  x l _ h (ne_of h hd (by intro z; cases z))
theorem But.seq {K : PySem.W.Frag} {d : Addr} {H H' : Hp} {kvs : List (Key × V)} {l : Addr} {xs : List V} (x : But d H H') (hd : H d = some (.dK kvs)) (h : SqL K H l xs) : SqL K H' l xs := by
  rcases h with (h | ⟨o, h⟩) | h
  · exact .inl (.inl (x l _ h (ne_of h hd (by intro z; cases z))))
  · exact .inl (.inr ⟨o, x l _ h (ne_of h hd (by intro z; cases z))⟩)
  · exact .inr h
/-- a list changes where none of what is known stood -/
theorem keep_upd {H H' : Hp} {l : Addr} {o : HO} (h : Same H H') (n : H l = none) : Same H (upd H' l o) := fun b u e => by
  rw [upd_ne (ne_of_none e n)]
  exact h b u e
theorem free_of {H H' : Hp} {p : Addr} (e : Same H H') (h : H' p = none) : H p = none := e.free h
theorem SqL.at {K : PySem.W.Frag} {H : Hp} {a : Addr} {xs : List V} (h : H a = some (.lst xs)) : SqL K H a xs := .inl (.inl h)
theorem SqT.at {K : PySem.W.Frag} {H : Hp} {a : Addr} {xs : List V} (h : H a = some (.tup xs)) : SqT K H a xs := .inl (.inl h)
theorem sz {n : Nat} (h : n ≤ 100000) : n ≤ sizeLine := Nat.le_trans h (by decide)
theorem szlt {n : Nat} (h : n ≤ 100000) : n < sizeLine := Nat.lt_of_le_of_lt h (by decide)
/-! ### data: lists of ints -/
def iD (ns : List Int) : PyData := .list (ns.map PyData.int)
theorem dp_all {K : PySem.W.Frag} {H : Hp} : ∀ ns : List Int, DpAll K H (ns.map V.int) (ns.map PyData.int)
  | [] => .nil
  | _ :: r => .cons (.int _) (dp_all r)
theorem dp_ints {K : PySem.W.Frag} {H : Hp} {p : Addr} {ns : List Int} (h : SqL K H p (ns.map V.int)) : Dp K H (.ref p) (iD ns) := .lst h (dp_all ns)
theorem dp_tints {K : PySem.W.Frag} {H : Hp} {p : Addr} {ns : List Int} (h : SqT K H p (ns.map V.int)) : Dp K H (.ref p) (.tuple (ns.map PyData.int)) := .tup h (dp_all ns)
theorem lay_ints : ∀ ns : List Int, PyData.canLayAll0 (ns.map PyData.int) = true
  | [] => by simp [PyData.canLayAll0]
  | _ :: r => by simp [PyData.canLayAll0, PyData.canLay0, lay_ints r]
theorem eqv_all_ints : ∀ ns ms : List Int, PyData.eqvAll (ns.map PyData.int) (ms.map PyData.int) = decide (ns = ms)
  | [], [] => by simp [PyData.eqvAll]
  | [], _ :: _ => by simp [PyData.eqvAll]
  | _ :: _, [] => by simp [PyData.eqvAll]
  | x :: r, y :: u => by
    simp only [List.map_cons, PyData.eqvAll, PyData.eqv, eqv_all_ints r u, List.cons.injEq]
    by_cases h1 : x = y <;> by_cases h2 : r = u <;> simp [h1, h2]
theorem eqv_ints (ns ms : List Int) : PyData.eqv (iD ns) (iD ms) = decide (ns = ms) := by
  unfold iD
  rw [PyData.eqv]
  exact eqv_all_ints ns ms
theorem deep_ints : ∀ ns : List Int, PyData.depthAll (ns.map PyData.int) ≤ 1
  | [] => by simp [PyData.depthAll]
  | _ :: r => by
    have := deep_ints r
    simp only [List.map_cons, PyData.depthAll, PyData.depth]
    omega
theorem shaped_ints {ns : List Int} : SeqAt.shaped (iD ns) = true := by
  unfold SeqAt.shaped iD
  rw [Bool.and_eq_true, decide_eq_true_eq]
  refine ⟨by rw [PyData.canLay0]; exact lay_ints ns, ?_⟩
  have := deep_ints ns
  rw [PyData.depth]
  omega
theorem atI_ints {ns : List Int} {i : Int} (h0 : 0 ≤ i) (h1 : i.toNat < ns.length) : atI (ns.map V.int) i = some (.int (ns[i.toNat]'h1)) := by
  have e : (i.toNat : Int) = i := by omega
  have z : atI (ns.map V.int) (i.toNat : Int) = some (.int (ns[i.toNat]'h1)) := by
    refine atI_nat ?_
    rw [List.getElem?_map, List.getElem?_eq_getElem h1]
    rfl
  rw [e] at z
  exact z
theorem ixN_nat {n : Nat} {i : Int} (h0 : 0 ≤ i) (h1 : i < (n : Int)) : ixN n i = some i.toNat := by
  unfold ixN
  rw [if_pos h0, if_pos h1]
theorem getD_get {ts : List Int} {i : Nat} (h : i < ts.length) : ts.getD i 0 = ts[i] := by
  rw [List.getD_eq_getElem?_getD, List.getElem?_eq_getElem h]
  rfl
theorem inV_ints {x : Int} : ∀ {xs : List Int}, inV (.int x) (xs.map V.int) = decide (x ∈ xs)
  | [] => rfl
  | y :: r => by
    have ih := inV_ints (x := x) (xs := r)
    unfold inV at ih ⊢
    rw [List.map_cons, List.any_cons, ih]
    have e : eqV (.int y) (.int x) = decide (y = x) := rfl
    rw [e]
    by_cases h : y = x
    · subst h
      simp
    · have h2 : ¬ x = y := fun z => h z.symm
      simp [h, h2]
theorem flat_ints (xs : List Int) : (xs.map V.int).all flatV = true := by
  rw [List.all_eq_true]
  intro x hx
  obtain ⟨i, _, rfl⟩ := List.mem_map.mp hx
  rfl

/-! ### the pen: a dict of the script's cells and two ints -/
def penD (c : Addr) (t l : Int) : HO := .dK [((.inr "cells" : Key), V.ref c), ((.inr "at" : Key), V.int t), ((.inr "left" : Key), V.int l)]
structure PenAt (H : Hp) (d c : Addr) (ns : List Int) (t l : Int) : Prop where
  dc : H d = some (penD c t l)
  cs : H c = some (.lst (ns.map V.int))
  len : ns.length ≤ 63
  t0 : 0 ≤ t
/-- a pen with which at most n draws were made -/
def Pen (H : Hp) (d c : Addr) (n : Nat) : Prop := ∃ ns t l, PenAt H d c ns t l ∧ t ≤ n
theorem k1 : ¬ (("cells" : Str) = "at") := by decide +kernel
theorem k2 : ¬ (("cells" : Str) = "left") := by decide +kernel
theorem k3 : ¬ (("at" : Str) = "left") := by decide +kernel
theorem kk {x y : Str} (h : ¬ x = y) : ¬ ((Sum.inr x : Key) = Sum.inr y) := fun z => h (Sum.inr.inj z)
theorem pen_valC {c : Addr} {t l : Int} : valV [((.inr "cells" : Key), V.ref c), ((.inr "at" : Key), V.int t), ((.inr "left" : Key), V.int l)] (.inr "cells") = some (.ref c) := by
  simp [valV, List.find?]
theorem pen_valA {c : Addr} {t l : Int} : valV [((.inr "cells" : Key), V.ref c), ((.inr "at" : Key), V.int t), ((.inr "left" : Key), V.int l)] (.inr "at") = some (.int t) := by
  simp [valV, List.find?, k1]
theorem pen_valL {c : Addr} {t l : Int} : valV [((.inr "cells" : Key), V.ref c), ((.inr "at" : Key), V.int t), ((.inr "left" : Key), V.int l)] (.inr "left") = some (.int l) := by
  simp [valV, List.find?, k2, k3]
theorem pen_C {H : Hp} {d c : Addr} {t l : Int} (h : H d = some (penD c t l)) : DGet H d (.str "cells") (some (.ref c)) := by
  have e := DGet.k (k := Sum.inr "cells") h
  rw [pen_valC] at e
  exact e
theorem pen_A {H : Hp} {d c : Addr} {t l : Int} (h : H d = some (penD c t l)) : DGet H d (.str "at") (some (.int t)) := by
  have e := DGet.k (k := Sum.inr "at") h
  rw [pen_valA] at e
  exact e
theorem pen_L {H : Hp} {d c : Addr} {t l : Int} (h : H d = some (penD c t l)) : DGet H d (.str "left") (some (.int l)) := by
  have e := DGet.k (k := Sum.inr "left") h
  rw [pen_valL] at e
  exact e
theorem pen_putA {c : Addr} {t l u : Int} : putK [((.inr "cells" : Key), V.ref c), ((.inr "at" : Key), V.int t), ((.inr "left" : Key), V.int l)] (.inr "at") (.int u) = [((.inr "cells" : Key), V.ref c), ((.inr "at" : Key), V.int u), ((.inr "left" : Key), V.int l)] := by
  simp [putK, k1, k3, show ¬ (("left" : Str) = "at") from fun h => k3 h.symm]
theorem pen_putL {c : Addr} {t l u : Int} : putK [((.inr "cells" : Key), V.ref c), ((.inr "at" : Key), V.int t), ((.inr "left" : Key), V.int l)] (.inr "left") (.int u) = [((.inr "cells" : Key), V.ref c), ((.inr "at" : Key), V.int t), ((.inr "left" : Key), V.int u)] := by
  simp [putK, k2, k3]
theorem pen_setA {H : Hp} {d c : Addr} {t l u : Int} (h : H d = some (penD c t l)) : DPut H d (.str "at") (.int u) (upd H d (penD c u l)) := by
  have e := DPut.k (k := Sum.inr "at") (v := .int u) h (by show 3 < sizeLine; exact szlt (by decide))
  rw [pen_putA] at e
  exact e
theorem pen_setL {H : Hp} {d c : Addr} {t l u : Int} (h : H d = some (penD c t l)) : DPut H d (.str "left") (.int u) (upd H d (penD c t u)) := by
  have e := DPut.k (k := Sum.inr "left") (v := .int u) h (by show 3 < sizeLine; exact szlt (by decide))
  rw [pen_putL] at e
  exact e
theorem pen_mk {l : Addr} : mergeK [] [((.inr "cells" : Key), V.ref l), ((.inr "at" : Key), V.int 0), ((.inr "left" : Key), V.int 0)] = [((.inr "cells" : Key), V.ref l), ((.inr "at" : Key), V.int 0), ((.inr "left" : Key), V.int 0)] := by
  simp [mergeK, putK, k1, k2, k3]
theorem Pen.same {H H' : Hp} {d c : Addr} {n : Nat} (p : Pen H d c n) (h : Same H H') : Pen H' d c n := by
  obtain ⟨ns, t, l, q, e⟩ := p
  exact ⟨ns, t, l, ⟨h _ _ q.dc, h _ _ q.cs, q.len, q.t0⟩, e⟩
theorem Pen.up {H : Hp} {d c : Addr} {n m : Nat} (p : Pen H d c n) (h : n ≤ m) : Pen H d c m := by
  obtain ⟨ns, t, l, q, e⟩ := p
  exact ⟨ns, t, l, q, by omega⟩
theorem Pen.dict {H : Hp} {d c : Addr} {n : Nat} (p : Pen H d c n) : ∃ kvs, H d = some (.dK kvs) := by
  obtain ⟨ns, t, l, q, e⟩ := p
  exact ⟨_, q.dc⟩
theorem Pen.cells {H : Hp} {d c : Addr} {n : Nat} (p : Pen H d c n) : ∃ o, H c = some o := by
  obtain ⟨ns, t, l, q, e⟩ := p
  exact ⟨_, q.cs⟩
/-- a list that is not the pen's changes -/
theorem Pen.mut {H : Hp} {d c l : Addr} {n : Nat} {o : HO} (p : Pen H d c n) (hd : d ≠ l) (hc : c ≠ l) : Pen (upd H l o) d c n := by
  obtain ⟨ns, t, u, q, e⟩ := p
  exact ⟨ns, t, u, ⟨by rw [upd_ne hd]; exact q.dc, by rw [upd_ne hc]; exact q.cs, q.len, q.t0⟩, e⟩
/-- what stands where nothing stood may change -/
theorem But.mut {d l : Addr} {H H' : Hp} {o : HO} (b : But d H H') (h : H l = none) : But d H (upd H' l o) := fun x u e n => by
  rw [upd_ne (ne_of_none e h)]
  exact b x u e n
theorem cut63 (ns : List Int) : cutV (ns.map V.int) none (some 63) = (ns.take 63).map V.int := by
  unfold cutV
  rw [show HT.sIx (ns.map V.int).length (ns.map V.int).length (some 63) = min 63 (ns.map V.int).length from HT.sIx_nat _ _ 63, HT.sIx_none, List.drop_zero, Nat.sub_zero, List.map_take, List.take_eq_take_iff]
  omega
section
variable {P : Program} {w : World} {K : PySem.W.Frag} {mg : Str → Option Value} {base : Heap} {a : Ad}
def spPen (K : PySem.W.Frag) : Sp := fun vs H Q _ => ∃ (s : Addr) (ns : List Int), vs = [.ref s] ∧ SqL K H s (ns.map V.int) ∧ ns.length ≤ 63 ∧
  ∀ d c H', H d = none → H c = none → Pen H' d c 0 → Same H H' → Q (.ref d) H'
theorem ok__law_pen (T : Tx w K mg a) : FnOk P w K mg base CX0 1 a.f__law_pen a.d__law_pen ["script"] (spPen K) := by
  refine T.F__law_pen.ok sc__law_pen (fun vs H Q E h => ?_) (fun cdv A outer s H vs Q E hr h => ?_)
  · obtain ⟨s, ns, rfl, _⟩ := h
    rfl
  · obtain ⟨x, ns, rfl, hS, hlen, q⟩ := h
    have hu := hu_of hr
    refine ⟨_, 
(pss_one (ps_ret (pe_disp (pps_cons pe_str (pe_callTy call_list_of (by rfl) T.z_list (by decide +kernel) (pa_cons (pe_slice sl_list (pv 0) po_none (po_some pe_int)) pa_nil)) (pps_cons pe_str pe_int (pps_cons pe_str pe_int pps_nil))) (by rfl) (by rfl) (fun z => by cases z) (by decide)))), ?_⟩
    intro d hd
    have s1 : Same H (upd H d (.dK [])) := same_upd hd
    refine ⟨.ref x, rfl, 63, rfl, x, ns.map V.int, rfl, s1.seq hS, fun p hp => ?_⟩
    have s2 : Same (upd H d (.dK [])) (upd (upd H d (.dK [])) p (.lst (cutV (ns.map V.int) none (some 63)))) := same_upd hp
    refine ⟨p, _, rfl, .inl (SqL.at upd_same), fun l hl => ?_⟩
    have s3 := same_upd (o := .lst (cutV (ns.map V.int) none (some 63))) hl
    have hd3 := s3 _ _ (s2 _ _ (upd_same (H := H) (a := d) (o := .dK [])))
    have hl3 : (upd (upd (upd H d (.dK [])) p (.lst (cutV (ns.map V.int) none (some 63)))) l (.lst (cutV (ns.map V.int) none (some 63)))) l = _ := upd_same
    have ndl : l ≠ d := ne_of hl3 hd3 (by intro z; cases z)
    refine ⟨hd3, [((.inr "cells" : Key), V.ref l), ((.inr "at" : Key), V.int 0), ((.inr "left" : Key), V.int 0)], rfl, (by show 3 ≤ 15; decide), ?_⟩
    rw [pen_mk]
    refine q d l _ hd (s1.free (s2.free hl)) ⟨ns.take 63, 0, 0, ⟨upd_same, ?_, ?_, by decide⟩, by decide⟩ ?_
    · rw [upd_ne ndl, hl3, cut63]
    · rw [List.length_take]
      omega
    · intro b o e
      rw [upd_ne (ne_of_none e hd)]
      exact s3 _ _ (s2 _ _ (s1 _ _ e))
/-- a draw: any int from 0 on that is less than the second argument; the pen alone changes -/
def spDraw : Sp := fun vs H Q _ => ∃ (d c : Addr) (n : Nat) (m : Int), vs = [.ref d, .int m] ∧ Pen H d c n ∧ n < 2 ^ 40 ∧ 0 < m ∧ m < 2 ^ 200 ∧
  ∀ v H', 0 ≤ v → v < m → Pen H' d c (n + 1) → But d H H' → Q (.int v) H'
theorem ok__law_draw (T : Tx w K mg a) : FnOk P w K mg base CX0 1 a.f__law_draw a.d__law_draw ["pen", "many"] spDraw := by
  refine T.F__law_draw.ok sc__law_draw (fun vs H Q E h => ?_) (fun cdv A outer s H vs Q E hr h => ?_)
  · obtain ⟨d, c, n, m, rfl, _⟩ := h
    rfl
  · obtain ⟨d, c, n, m, rfl, ⟨ns, t, l, ⟨hd, hc, hlen, t0⟩, htn⟩, hn, m0, mb, q⟩ := h
    have hu := hu_of hr
    have hmne : m ≠ 0 := by omega
    have hdiv : ∀ x : Int, CDivW x m := fun x => wide_div m0 (b := 200) (by omega) (by decide) (by decide)
    have f0 : ∀ x : Int, 0 ≤ Int.fmod x m := fun x => Int.fmod_nonneg_of_pos x m0
    have f1 : ∀ x : Int, Int.fmod x m < m := fun x => Int.fmod_lt_of_pos x m0
    refine ⟨_, 
(pss_cons (ps_if (pt_cmpR op_ge (pe_dget hu (pv 0) pe_str (fun _ _ => rfl)) (pv 1) (nomark _))
  (pss_cons (ps_set (i := 2) sc__law_draw.nd rfl (.inl rfl) (pe_op op_modN (pe_callTy call_int1 (by rfl) T.z_int (by decide +kernel) (pa_cons (pe_dget hu (pv 0) pe_str (fun _ _ => rfl)) pa_nil)) (pv 1)))
  (pss_cons (ps_dput hu (pv 0) pe_str (pe_op op_fdivW (pe_dget hu (pv 0) pe_str (fun _ _ => rfl)) (pv 1)) rfl)
  (pss_one (ps_ret (pv 2)))))
  pss_nil)
  (pss_cons (ps_set (i := 3) sc__law_draw.nd rfl (.inl rfl) (pe_dget hu (pv 0) pe_str (fun _ _ => rfl)))
  (pss_cons (ps_dput hu (pv 0) pe_str (pe_op op_add (pv 3) pe_int) rfl)
  (pss_cons (ps_set (i := 4) sc__law_draw.nd rfl (.inl rfl) (pe_op op_add (pe_op op_mul pe_int (pv 3)) pe_int))
  (C8.pss_cut (ps_if (pt_cmpR (op_neD hr.units) (pe_dget hu (pv 0) pe_str (fun _ _ => rfl)) (pe_lst pa_nil) (nomark _))
  (pss_one (ps_set (i := 4) sc__law_draw.nd rfl (.inl rfl) (pe_ix ix_list (pe_dget hu (pv 0) pe_str (fun _ _ => rfl)) (pe_op op_modN (pe_callTy call_int1 (by rfl) T.z_int (by decide +kernel) (pa_cons (pv 3) pa_nil)) (pe_callB call_len_seq (by rfl) T.z_len PySem.boot_len (pa_cons (pe_dget hu (pv 0) pe_str (fun _ _ => rfl)) pa_nil))) (fun _ _ => rfl))))
  pss_nil)
  (C8.pss_cut (ps_if (PW.pt (pw_and (pt_cmpR op_lt (pv 3) (pe_callB call_len_seq (by rfl) T.z_len PySem.boot_len (pa_cons (pe_dget hu (pv 0) pe_str (fun _ _ => rfl)) pa_nil)) (nomark _)) (pw_and1 (pt_cmpR op_ge (pv 4) (pe_op op_pow pe_int pe_int) (nomark _)))))
  (pss_cons (ps_dput hu (pv 0) pe_str (pe_op op_fdivW (pe_op op_sub (pv 4) (pe_op op_pow pe_int pe_int)) (pv 1)) rfl)
  (pss_one (ps_ret (pe_op op_modN (pe_callTy call_int1 (by rfl) T.z_int (by decide +kernel) (pa_cons (pe_op op_sub (pv 4) (pe_op op_pow pe_int pe_int)) pa_nil)) (pv 1)))))
  pss_nil)
  (pss_cons (ps_set (i := 5) sc__law_draw.nd rfl (.inl rfl) (pe_op op_add (pe_op op_add (pe_op op_add (pe_op op_mul (pe_op op_modN (pe_callTy call_int1 (by rfl) T.z_int (by decide +kernel) (pa_cons (pv 4) pa_nil)) pe_int) pe_int) (pe_op op_mul (pe_op op_mul pe_int (pv 3)) (pv 3))) (pe_op op_mul pe_int (pv 3))) pe_int))
  (pss_cons (ps_set (i := 5) sc__law_draw.nd rfl (.inl rfl) (pe_op op_modN (pe_callTy call_int1 (by rfl) T.z_int (by decide +kernel) (pa_cons (pv 5) pa_nil)) pe_int))
  (pss_cons (ps_set (i := 5) sc__law_draw.nd rfl (.inl rfl) (pe_op op_modN (pe_callTy call_int1 (by rfl) T.z_int (by decide +kernel) (pa_cons (pe_op op_mul (pv 5) (pe_op op_add (pv 5) pe_int)) pa_nil)) pe_int))
  (pss_one (ps_ret (pe_op op_modN (pe_callTy call_int1 (by rfl) T.z_int (by decide +kernel) (pa_cons (pe_op op_fdivN (pe_op op_modN (pe_callTy call_int1 (by rfl) T.z_int (by decide +kernel) (pa_cons (pe_op op_mul (pv 5) (pv 5)) pa_nil)) pe_int) pe_int) pa_nil)) (pv 1))))))))))))), ?_⟩
    -- if pen['left'] >= many
    refine ⟨.ref d, rfl, d, .int l, rfl, pen_L hd, .int m, rfl, l, m, rfl, rfl, _, rfl, ite2 (fun e => ?_) (fun e => ?_)⟩
    · -- digit = int(pen['left']) % many; pen['left'] = pen['left'] // many; return digit
      refine ⟨.ref d, rfl, d, .int l, rfl, pen_L hd, .inl ⟨l, rfl, .int m, rfl, l, m, rfl, rfl, hmne, ?_⟩⟩
      refine ⟨.ref d, rfl, d, .int l, rfl, pen_L hd, .int m, rfl, l, m, rfl, rfl, hdiv l, .ref d, rfl, d, _, rfl, pen_setL hd, ?_⟩
      exact ⟨_, rfl, q _ _ (f0 l) (f1 l) ⟨ns, t, _, ⟨upd_same, by rw [upd_ne (ne_of hc hd (by intro z; cases z))]; exact hc, hlen, t0⟩, by omega⟩ but_upd⟩
    · -- at = pen['at']; pen['at'] = at + 1; cell = 41 * at + 13
      refine ⟨.ref d, rfl, d, .int t, rfl, pen_A hd, ?_⟩
      refine ⟨.int t, rfl, t, 1, rfl, rfl, .ref d, rfl, d, _, rfl, pen_setA hd, ?_⟩
      refine ⟨.int t, rfl, 41, t, rfl, rfl, .inl ⟨by decide, by decide⟩, 41 * t, 13, rfl, rfl, ?_⟩
      have hd1 : (upd H d (penD c (t + 1) l)) d = some (penD c (t + 1) l) := upd_same
      have hc1 : (upd H d (penD c (t + 1) l)) c = some (.lst (ns.map V.int)) := by
        rw [upd_ne (ne_of hc hd (by intro z; cases z))]
        exact hc
      have b1 : But d H (upd H d (penD c (t + 1) l)) := but_upd
      generalize upd H d (penD c (t + 1) l) = H1 at hd1 hc1 b1 ⊢
      -- if pen['cells'] != []: cell = pen['cells'][int(at) % len(pen['cells'])]
      refine ⟨fun σ' H' => ∃ cell : Int, σ' = [some (.ref d), some (.int m), none, some (.int t), some (.int cell), none] ∧ H' d = some (penD c (t + 1) l) ∧ H' c = some (.lst (ns.map V.int)) ∧ But d H H', ?_, fun σ'' H'' hM => ?_⟩
      · refine ⟨.ref d, rfl, d, .ref c, rfl, pen_C hd1, Nat.zero_le _, fun p hp => ?_⟩
        have s2 : Same H1 (upd H1 p (.lst [])) := same_upd hp
        have hp2 : (upd H1 p (.lst [])) p = some (.lst []) := upd_same
        have hd2 := s2 _ _ hd1
        have hc2 := s2 _ _ hc1
        have b2 : But d H (upd H1 p (.lst [])) := b1.trans (but_same s2)
        generalize upd H1 p (.lst []) = H2 at hd2 hc2 hp2 b2 ⊢
        refine ⟨_, _, dp_ints (SqL.at hc2), dp_ints (ns := []) (SqL.at hp2), shaped_ints, shaped_ints, _, rfl, ?_⟩
        rw [eqv_ints]
        refine ite2 (fun e => ?_) (fun e => ?_)
        · have hns : ns ≠ [] := by
            intro z
            subst z
            simp at e
          have hpos : 0 < ns.length := List.length_pos_iff.mpr hns
          have g0 : (0 : Int) ≤ Int.fmod t (ns.length : Int) := Int.fmod_nonneg_of_pos _ (by omega)
          have g1 : Int.fmod t (ns.length : Int) < (ns.length : Int) := Int.fmod_lt_of_pos _ (by omega)
          refine ⟨.ref d, rfl, d, .ref c, rfl, pen_C hd2, .int t, rfl, .inl ⟨t, rfl, .ref d, rfl, d, .ref c, rfl, pen_C hd2, c, _, rfl, .inl (SqL.at hc2), t, _, rfl, rfl, ?_, c, _, _, .int (ns[(Int.fmod t (ns.length : Int)).toNat]'(by omega)), rfl, rfl, SqL.at hc2, ?_, ?_⟩⟩
          · rw [List.length_map]
            omega
          · rw [List.length_map]
            exact atI_ints g0 (by omega)
          · exact ⟨_, rfl, hd2, hc2, b2⟩
        · exact ⟨_, rfl, hd2, hc2, b2⟩
      · obtain ⟨cell, rfl, hd3, hc3, b3⟩ := hM
        have hlen' : (ns.map V.int).length ≤ 63 := by
          rw [List.length_map]
          exact hlen
        -- if at < len(pen['cells']) and cell >= 10 ** 18
        refine ⟨fun σ' H' => σ' = [some (.ref d), some (.int m), none, some (.int t), some (.int cell), none] ∧ H' = H'', ?_, fun σ' H' hM => ?_⟩
        · refine ⟨.int t, rfl, .ref d, rfl, d, .ref c, rfl, pen_C hd3, c, _, rfl, .inl (SqL.at hc3), t, _, rfl, rfl, _, rfl, ite2 (fun e1 => ?_) (fun e1 => iteF ⟨rfl, rfl⟩)⟩
          refine ⟨.int cell, rfl, 10, 18, rfl, rfl, ⟨by decide, by decide, by decide⟩, cell, _, rfl, rfl, _, rfl, ite2 (fun e2 => ?_) (fun e2 => ⟨rfl, rfl⟩)⟩
          refine ⟨.int cell, rfl, 10, 18, rfl, rfl, ⟨by decide, by decide, by decide⟩, cell, _, rfl, rfl, .int m, rfl, _, m, rfl, rfl, hdiv _, .ref d, rfl, d, _, rfl, pen_setL hd3, ?_⟩
          refine ⟨.int cell, rfl, 10, 18, rfl, rfl, ⟨by decide, by decide, by decide⟩, cell, _, rfl, rfl, .inl ⟨_, rfl, .int m, rfl, _, m, rfl, rfl, hmne, ?_⟩⟩
          exact q _ _ (f0 _) (f1 _) ⟨ns, t + 1, _, ⟨upd_same, by rw [upd_ne (ne_of hc3 hd3 (by intro z; cases z))]; exact hc3, hlen, by omega⟩, by omega⟩ (b3.trans but_upd)
        · obtain ⟨rfl, rfl⟩ := hM
          have g : ∀ x y : Int, 0 < y → 0 ≤ Int.fmod x y ∧ Int.fmod x y < y := fun x y hy => ⟨Int.fmod_nonneg_of_pos x hy, Int.fmod_lt_of_pos x hy⟩
          have g1 := g cell 2147483629 (by decide)
          have z1 : (2147483629 : Int) ≠ 0 := by decide
          have z2 : (2147483647 : Int) ≠ 0 := by decide
          have z3 : (2147483587 : Int) ≠ 0 := by decide
          have z4 : (2147483563 : Int) ≠ 0 := by decide
          have y1 : -(2 ^ 64) < Int.fmod cell 2147483629 ∧ Int.fmod cell 2147483629 < 2 ^ 64 := by omega
          have y2 : -(2 ^ 64) < t ∧ t < 2 ^ 64 := by omega
          refine ⟨.int cell, rfl, .inl ⟨cell, rfl, cell, 2147483629, rfl, rfl, z1, _, 48271, rfl, rfl, .inl y1, .int t, rfl, 69621, t, rfl, rfl, .inr y2, .int t, rfl, _, t, rfl, rfl, .inr y2, _, _, rfl, rfl, .int t, rfl, 59, t, rfl, rfl, .inr y2, _, _, rfl, rfl, _, 11, rfl, rfl, ?_⟩⟩
          have g2 := g (Int.fmod cell 2147483629 * 48271 + 69621 * t * t + 59 * t + 11) 2147483647 (by decide)
          refine ⟨_, rfl, .inl ⟨_, rfl, _, 2147483647, rfl, rfl, z2, ?_⟩⟩
          have y3 : -(2 ^ 64) < Int.fmod (Int.fmod cell 2147483629 * 48271 + 69621 * t * t + 59 * t + 11) 2147483647 ∧ Int.fmod (Int.fmod cell 2147483629 * 48271 + 69621 * t * t + 59 * t + 11) 2147483647 < 2 ^ 64 := by omega
          refine ⟨_, rfl, _, rfl, _, 40014, rfl, rfl, _, _, rfl, rfl, .inl y3, .inl ⟨_, rfl, _, 2147483587, rfl, rfl, z3, ?_⟩⟩
          have g3 := fun x => g x 2147483587 (by decide)
          have y4 : ∀ x, -(2 ^ 64) < Int.fmod x 2147483587 ∧ Int.fmod x 2147483587 < 2 ^ 64 := fun x => by
            have := g3 x
            omega
          refine ⟨_, rfl, _, rfl, _, _, rfl, rfl, .inl (y4 _), .inl ⟨_, rfl, _, 2147483563, rfl, rfl, z4, _, 64, rfl, rfl, ⟨by decide, by decide⟩, .inl ⟨_, rfl, .int m, rfl, _, m, rfl, rfl, hmne, ?_⟩⟩⟩
          exact q _ _ (f0 _) (f1 _) ⟨ns, t + 1, l, ⟨hd3, hc3, hlen, by omega⟩, by omega⟩ b3
end

section
variable {P : Program} {w : World} {K : PySem.W.Frag} {mg : Str → Option Value} {base : Heap} {a : Ad}
/-- a pick: some item of the list -/
def spPick (K : PySem.W.Frag) : Sp := fun vs H Q _ => ∃ (d c s : Addr) (n : Nat) (xs : List V), vs = [.ref d, .ref s] ∧ Pen H d c n ∧ n < 2 ^ 40 ∧ SqL K H s xs ∧ 0 < xs.length ∧ xs.length ≤ 100000 ∧
  ∀ v H', v ∈ xs → Pen H' d c (n + 1) → But d H H' → Q v H'
theorem ok__law_pick (T : Tx w K mg a) : FnOk P w K mg base CX0 2 a.f__law_pick a.d__law_pick ["pen", "some"] (spPick K) := by
  refine T.F__law_pick.ok sc__law_pick (fun vs H Q E h => ?_) (fun cdv A outer s H vs Q E hr h => ?_)
  · obtain ⟨d, c, s, n, xs, rfl, _⟩ := h
    rfl
  · obtain ⟨d, c, s, n, xs, rfl, hp, hn, hs, h0, h1, q⟩ := h
    obtain ⟨kvs, hd⟩ := hp.dict
    refine ⟨_, 
(pss_one (ps_ret (pe_ix ix_list (pv 1) (pe_call (ok__law_draw T) hr (by rfl) T.m__law_draw T.F__law_draw.kp T.b__law_draw .nil pass0 (pa_cons (pv 0) (pa_cons (pe_callB call_len_seq (by rfl) T.z_len PySem.boot_len (pa_cons (pv 1) pa_nil)) pa_nil))) (fun _ _ => rfl)))), ?_⟩
    refine ⟨.ref s, rfl, .ref d, rfl, .ref s, rfl, s, _, rfl, .inl hs, d, c, n, _, rfl, hp, hn, by omega, ?_, fun v H' v0 v1 hp' hb => ?_⟩
    · have : ((100000 : Nat) : Int) < 2 ^ 200 := by decide
      omega
    · refine ⟨s, xs, v, xs[v.toNat]'(by omega), rfl, rfl, hb.seq hd hs, ?_, q _ _ (List.getElem_mem _) hp' hb⟩
      have e : (v.toNat : Int) = v := by omega
      have z : atI xs (v.toNat : Int) = some (xs[v.toNat]'(by omega)) := atI_nat (List.getElem?_eq_getElem (by omega))
      rw [e] at z
      exact z
/-- the same items in another order, as a new list -/
def spShuf (K : PySem.W.Frag) : Sp := fun vs H Q _ => ∃ (d c s : Addr) (n : Nat) (xs : List V), vs = [.ref d, .ref s] ∧ Pen H d c n ∧ n + xs.length < 2 ^ 40 ∧ SqL K H s xs ∧ xs.length ≤ 100000 ∧
  ∀ p ys H', ys.Perm xs → H p = none → H' p = some (.lst ys) → Pen H' d c (n + xs.length) → But d H H' → Q (.ref p) H'
theorem perm_erase : ∀ (xs : List V) (k : Nat) (h : k < xs.length), (xs[k] :: xs.eraseIdx k).Perm xs
  | x :: r, 0, _ => List.Perm.refl _
  | x :: r, k + 1, h => by
    have h' : k < r.length := by
      simp only [List.length_cons] at h
      omega
    refine (List.Perm.swap x r[k] (r.eraseIdx k)).trans ?_
    exact (perm_erase r k h').cons x
theorem seqIx {v : Int} {n : Nat} (h0 : 0 ≤ v) (h1 : v < n) : seqIndex? v n = some v.toNat := by
  unfold seqIndex?
  have e : ¬ v < 0 := by omega
  simp only [e, if_false]
  simp [h0, h1]
theorem ok__law_shuffled (T : Tx w K mg a) : FnOk P w K mg base CX0 2 a.f__law_shuffled a.d__law_shuffled ["pen", "some"] (spShuf K) := by
  refine T.F__law_shuffled.ok sc__law_shuffled (fun vs H Q E h => ?_) (fun cdv A outer s H vs Q E hr h => ?_)
  · obtain ⟨d, c, s, n, xs, rfl, _⟩ := h
    rfl
  · obtain ⟨d, c, s, n, xs, rfl, hp, hn, hs, h1, q⟩ := h
    obtain ⟨kvs, hd⟩ := hp.dict
    refine ⟨_, 
(pss_cons (ps_par (i := 2) (j := 3) (by rfl) sc__law_shuffled.nd rfl rfl (by decide) rfl rfl (pa_cons (pe_callTy call_list_of (by rfl) T.z_list (by decide +kernel) (pa_cons (pv 1) pa_nil)) (pa_cons (pe_lst pa_nil) pa_nil)) (by rfl))
  (pss_cons (ps_for PassesOwn.never rfl (pi_range1 (by rfl) T.z_range (pa_cons (pe_callB call_len_seq (by rfl) T.z_len PySem.boot_len (pa_cons (pv 2) pa_nil)) pa_nil)) (pg_name (i := 4) sc__law_shuffled.nd rfl (.inl rfl))
  (pss_one (ps_expr (pe_bm PySem.F.plainAttrs_list PySem.F.slot_list_append PySem.F.type_list_append mt_append (pv 3) (pa_cons (pe_bm PySem.F.plainAttrs_list PySem.F.slot_list_pop PySem.F.type_list_pop mt_popAt (pv 2) (pa_cons (pe_call (ok__law_draw T) hr (by rfl) T.m__law_draw T.F__law_draw.kp T.b__law_draw .nil pass0 (pa_cons (pv 0) (pa_cons (pe_callB call_len_seq (by rfl) T.z_len PySem.boot_len (pa_cons (pv 2) pa_nil)) pa_nil))) pa_nil)) pa_nil)))))
  (pss_one (ps_ret (pv 3))))), ?_⟩
    -- left, found = list(some), []
    refine ⟨.ref s, rfl, s, xs, rfl, .inl hs, fun l hl => ⟨Nat.zero_le _, fun f hf => ⟨.ref l, .ref f, rfl, ?_⟩⟩⟩
    have s1 : Same H (upd H l (.lst xs)) := same_upd hl
    have s2 : Same (upd H l (.lst xs)) (upd (upd H l (.lst xs)) f (.lst [])) := same_upd hf
    have nfl : l ≠ f := ne_of_none upd_same hf
    have hl2 : (upd (upd H l (.lst xs)) f (.lst [])) l = some (.lst xs) := s2 _ _ upd_same
    have hf2 : (upd (upd H l (.lst xs)) f (.lst [])) f = some (.lst []) := upd_same
    have fnew : H f = none := s1.free hf
    have lnew : H l = none := hl
    obtain ⟨oc, hcc⟩ := hp.cells
    have hp2 := hp.same (s1.trans s2)
    have b2 : But d H (upd (upd H l (.lst xs)) f (.lst [])) := but_same (s1.trans s2)
    -- for k in range(len(left))
    refine ⟨.ref l, rfl, l, xs, rfl, .inl (SqL.at hl2), _, rfl, by omega, by omega, ?_⟩
    refine for_range (lo := 0) (n := xs.length) (fun i σ H3 => ∃ y4 ls fs, σ = [some (.ref d), some (.ref s), some (.ref l), some (.ref f), y4] ∧ H3 l = some (.lst ls) ∧ H3 f = some (.lst fs) ∧ (fs ++ ls).Perm xs ∧ fs.length = i ∧ Pen H3 d c (n + i) ∧ But d H H3) ?_ ?_ ?_
    · exact ⟨none, xs, [], rfl, hl2, hf2, List.Perm.refl _, rfl, hp2, b2⟩
    · rintro i σ H3 hi ⟨y4, ls, fs, rfl, hl3, hf3, pm, fl, hp3, b3⟩
      obtain ⟨kvs3, hd3⟩ := hp3.dict
      have hlen : fs.length + ls.length = xs.length := by
        have := pm.length_eq
        rw [List.length_append] at this
        exact this
      refine ⟨.ref f, rfl, .inl ⟨rfl, _, SqL.at hf3⟩, .ref l, rfl, .inl ⟨rfl, _, SqL.at hl3⟩, .ref d, rfl, .ref l, rfl, l, ls, rfl, .inl (SqL.at hl3), d, c, n + i, _, rfl, hp3, by omega, by omega, ?_, fun v H4 v0 v1 hp4 hb => ?_⟩
      · have : ((100000 : Nat) : Int) < 2 ^ 200 := by decide
        omega
      · have hl4 := hb.list hd3 hl3
        have hf4 := hb.list hd3 hf3
        have hv : v.toNat < ls.length := by omega
        refine ⟨l, ls, v, v.toNat, ls[v.toNat], rfl, rfl, hl4, by omega, by omega, seqIx v0 v1, List.getElem?_eq_getElem hv, f, fs, _, rfl, rfl, by rw [upd_ne nfl.symm]; exact hf4, szlt (by omega), ?_⟩
        refine ⟨_, ls.eraseIdx v.toNat, fs ++ [ls[v.toNat]], rfl, by rw [upd_ne nfl]; exact upd_same, upd_same, ?_, by rw [List.length_append, fl]; rfl, ?_, ?_⟩
        · refine List.Perm.trans ?_ pm
          rw [List.append_assoc]
          exact (perm_erase ls v.toNat hv).append_left fs
        · have hp5 := (hp4.mut (l := l) (o := .lst (ls.eraseIdx v.toNat)) (ne_of_none hd lnew) (ne_of_none hcc lnew)).mut (l := f) (o := .lst (fs ++ [ls[v.toNat]])) (ne_of_none hd fnew) (ne_of_none hcc fnew)
          exact hp5
        · exact ((b3.trans hb).mut lnew).mut fnew
    · rintro σ H3 ⟨y4, ls, fs, rfl, hl3, hf3, pm, fl, hp3, b3⟩
      have hlen := pm.length_eq
      rw [List.length_append] at hlen
      have e : ls = [] := List.eq_nil_of_length_eq_zero (by omega)
      subst e
      rw [List.append_nil] at pm
      exact ⟨_, rfl, q f fs H3 pm fnew hf3 hp3 b3⟩
end

/-! ### a list or a tuple: walked, enumerated -/
def SqA (K : PySem.W.Frag) (H : Hp) (p : Addr) (xs : List V) : Prop := SqL K H p xs ∨ SqT K H p xs
theorem SqA.len {K : PySem.W.Frag} {H : Hp} {p : Addr} {xs : List V} (h : SqA K H p xs) : SqL K H p xs ∨ SqT K H p xs := h
theorem Same.seqT {K : PySem.W.Frag} {H H' : Hp} {p : Addr} {xs : List V} (e : Same H H') (h : SqT K H p xs) : SqT K H' p xs := by
  rcases h with (h | ⟨o, h⟩) | h
  · exact .inl (.inl (e _ _ h))
  · exact .inl (.inr ⟨o, e _ _ h⟩)
  · exact .inr h
theorem SqA.same {K : PySem.W.Frag} {H H' : Hp} {p : Addr} {xs : List V} (h : SqA K H p xs) (e : Same H H') : SqA K H' p xs := h.elim (fun q => .inl (e.seq q)) fun q => .inr (Same.seqT e q)
def iSeq (K : PySem.W.Frag) (tl : TE) : TI := fun σ H R => tl σ H fun x H1 => ∃ p xs, x = .ref p ∧ ((SqL K H1 p xs ∧ R (Itl K p) H1) ∨ (SqT K H1 p xs ∧ R (Itt K p) H1))
theorem pi_seq {X : Cx} {tg l : Expr} {tl : TE} (hl : PE X l tl) : PI X tg l (iSeq X.K tl) := by
  constructor
  intro pins s σ H R I h
  apply thn (hl.run pins s σ H _ I h)
  rintro v s1 ⟨x, H1, I1, r1, p, xs, rfl, hq⟩
  cases r1
  rcases hq with ⟨hq, q⟩ | ⟨hq, q⟩
  · obtain ⟨its, _, z, _⟩ := I1.list hq
    exact wpAny_pyIter_list z.isList (pi_one (tk := s1.toks) I1 _ (turn_list p _) ⟨_, Heap.get?_push_size _ rfl, rfl, rfl⟩ q)
  · obtain ⟨its, _, z, _⟩ := I1.tuple hq
    exact wpAny_pyIter_tuple (show s1.heap.IsTuple p its.toArray from z) (pi_one (tk := s1.toks) I1 _ (turn_tuple p _) ⟨_, Heap.get?_push_size _ rfl, rfl, rfl⟩ q)
/-- enumerate over a tuple -/
def IteT (K : PySem.W.Frag) (p : Addr) : It where
  go := fun i H => ∃ (xs : List V) (x : V), SqT K H p xs ∧ xs[i]? = some x
  yld := fun i H v H' => ∃ q x, v = .ref q ∧ H q = none ∧ H' = upd H q (.tup [.int (i : Nat), x]) ∧ ∀ xs, SqT K H p xs → xs[i]? = some x
  stop := fun i H => ∃ xs : List V, SqT K H p xs ∧ xs.length = i
theorem turn_enumT {P : Program} {w : World} {K : PySem.W.Frag} {elts : List Expr} {kk : Nat} {tpos : Pos} (p e it : Addr) :
    Turn P w K (.Tuple elts kk tpos) (IteT K p) [e, it] e (fun i h => (∃ old, IsEnum h e it ((i : Nat) : Int) old) ∧ h.IsTupleIter it p i ∧ e ≠ it) where
  mem := List.mem_cons_self ..
  obj := by
    rintro i h ⟨⟨old, he⟩, ⟨o, ho, hc, hd⟩, _⟩ b hb
    simp only [List.mem_cons, List.not_mem_nil, or_false] at hb
    rcases hb with rfl | rfl
    · exact ⟨_, he, fun v q => nomatch q⟩
    · exact ⟨o, ho, fun v q => by rw [hd] at q; cases q⟩
  keep := by
    rintro i h h' ⟨⟨old, he⟩, hi, hne⟩ k
    exact ⟨⟨old, k e (by simp) _ he⟩, hi.at fun o q => k it (by simp) o q, hne⟩
  item := by
    rintro X rfl rfl rfl hc i pins s σ H E I hf ⟨⟨old, he⟩, hit, hne⟩ ⟨xs, x, hq, hx⟩
    obtain ⟨its, rv, z, hz⟩ := I.tuple hq
    obtain ⟨u, hu, ru⟩ := rv.get hx
    have hel : e < s.heap.objs.size := Heap.lt_size he
    have hil : it < s.heap.objs.size := by
      obtain ⟨_, q, _⟩ := hit
      exact Heap.lt_size q
    have hpe : e ≠ p := fun q => by
      obtain ⟨o, ho, hc1, _⟩ := (show s.heap.IsTuple p its.toArray from z)
      rw [← q] at ho
      rw [Option.some.inj (ho.symm.trans he)] at hc1
      injection hc1 with hc1
      exact absurd hc1 (by decide)
    have hpi : p ≠ it := fun q => by
      obtain ⟨o, ho, hc1, _⟩ := (show s.heap.IsTuple p its.toArray from z)
      obtain ⟨o2, ho2, hc2, _⟩ := hit
      rw [q] at ho
      rw [Option.some.inj (ho.symm.trans ho2), hc2] at hc1
      injection hc1 with hc1
      exact absurd hc1 (by decide)
    have D := Draws.tuple (prog := X.prog) (w := X.w) (A := X.A.in1) (I.ok.hd hc) it p hpi its.toArray
    have hlt : i < its.toArray.size := by
      have := (List.getElem?_eq_some_iff.mp hu).1
      simpa using this
    refine wpAny_pyNext_enum_itemD (i := i) D he ⟨hit, z⟩ hlt hne (by simp [hne, hpe]) ?_
    intro v h' tk hv ho hst' hT hsz hk
    have ev : v = u := by
      have h1 : its[i]? = some v := by simpa using hv
      exact Option.some.inj (h1.symm.trans hu)
    subst ev
    refine ⟨_, rfl, wpAny_letOwnedTupleGo_enum (s := { s with heap := h', toks := tk + 1 }) ho ?_⟩
    intro h'' he' sb
    have hT2 : h''.get? s.heap.objs.size = some { cls := .type "tuple", data := .seq #[.int i tk, v] } := (sb.2 _ (Nat.ne_of_gt hel)).trans hT
    have new : ObjOk X.prog X.w (upd H s.heap.objs.size (.tup [.int (i : Nat), x])) h'' s.heap.objs.size (.tup [.int (i : Nat), x]) :=
      ⟨(by decide : 2 ≤ sizeLine), [.int i tk, v], .cons ⟨_, rfl⟩ (.cons ru .nil), _, hT2, rfl, _, rfl⟩
    have I1 : Inv X pins σ (upd H s.heap.objs.size (.tup [.int (i : Nat), x])) { s with heap := h'', toks := tk + 1 } := by
      refine I.turnedNew (ch := [e, it]) (fun b ob hb q => ?_) hf (Nat.le_refl _) new
      have n1 : b ≠ e := fun y => hb (by simp [y])
      have n2 : b ≠ it := fun y => hb (by simp [y])
      exact (sb.2 b n1).trans (hk b ob n1 n2 q)
    refine ⟨.ref s.heap.objs.size, _, I1, rfl, ⟨_, x, rfl, I.hok.fresh (Nat.le_refl _), rfl, fun ys hy => ?_⟩, ⟨⟨v, ?_⟩, hst'.1.at fun o q => (sb.2 it hne.symm).trans q, hne⟩, fun b hb => ?_⟩
    · rw [I.tuple_inj hy hq]
      exact hx
    · rw [show ((i + 1 : Nat) : Int) = (i : Int) + 1 by omega]
      exact he'
    · have hb' : b < s.heap.objs.size := by
        simp only [List.mem_cons, List.not_mem_nil, or_false] at hb
        rcases hb with rfl | rfl
        · exact hel
        · exact hil
      rw [upd_ne (Nat.ne_of_lt hb')]
      exact (hf b hb).1
  done := by
    rintro X rfl rfl rfl hc i pins s σ H E I hf ⟨⟨old, he⟩, hit, hne⟩ ⟨xs, hq, hx⟩
    obtain ⟨its, rv, z, hz⟩ := I.tuple hq
    obtain ⟨f0, f1, f2, f3, f4, f5⟩ := hf it (by simp)
    have hl := rv.length
    have hpi : p ≠ it := fun q => by
      obtain ⟨o, ho, hc1, _⟩ := (show s.heap.IsTuple p its.toArray from z)
      obtain ⟨o2, ho2, hc2, _⟩ := hit
      rw [q] at ho
      rw [Option.some.inj (ho.symm.trans ho2), hc2] at hc1
      injection hc1 with hc1
      exact absurd hc1 (by decide)
    have D := Draws.tuple (prog := X.prog) (w := X.w) (A := X.A.in1) (I.ok.hd hc) it p hpi its.toArray
    have ei : i = its.toArray.size := by
      simp only [List.size_toArray]
      omega
    subst ei
    exact wpAny_pyNext_enum_endD D he ⟨hit, z⟩ fun h' eb => ⟨rfl, I.turned (t' := s.toks) (fun b o hb e => eb b o hb e) f0 f1 f3 f4 f5⟩
  self := by
    rintro A i s Q E ⟨⟨_, he⟩, _⟩ h
    exact wpAny_pyIter_enum he h
theorem meets_enum0 {v : Value} {o : Obj} {Hh : Heap → Prop} (B : Begins v o Hh) :
    Meets (Builtin.«enumerate.__new__» ⟨[.type "enumerate", v], []⟩) (fun _ R s => Hh s.heap ∧
      R (.ok (.ret (.ref (s.heap.push o).objs.size))) { s with heap := (s.heap.push o).push { cls := .type "enumerate", data := .fields #[.none, .bool false, .ref s.heap.objs.size, rawInt 0, .none, .none] } }) := by
  refine .of_wp ?_
  rintro prog w A R ⟨hp, g, d, tk, os⟩ ⟨h1, h⟩
  have hsb := sub_enumerate
  have q1 : ∀ {A' : Around} {E : Value → Shared → Prop} {Q : Value → Shared → Prop}, Q (.ref hp.objs.size) ⟨hp.push o, g, d, tk, os⟩ → wpAny (model prog w) A' (pyIter v) Q E ⟨hp, g, d, tk, os⟩ := by
    intro A' E Q q
    exact B.iter prog w _ _ ⟨hp, g, d, tk, os⟩ _ h1 q
  wp_walk using q1
  refine wpAny_stack_any fun st => wpAny_pure ?_
  split
  · rename_i c _ _ _ _ _
    cases (c == Value.type "enumerate") <;> (wp_walk using q1; exact ⟨_, rfl, h⟩)
  · wp_walk using q1
    exact ⟨_, rfl, h⟩
theorem call_enum0 {prog : Program} {w : World} {A : Around} {E : Value → Shared → Prop} {s : Shared} {v : Value} {o : Obj} {Hh : Heap → Prop} {Q : Value → Shared → Prop} (B : Begins v o Hh) (h1 : Hh s.heap)
    (h : ∀ h', IsEnum h' (s.heap.objs.size + 1) s.heap.objs.size 0 .none → h'.get? s.heap.objs.size = some o → h'.objs.size = s.heap.objs.size + 2 → (∀ b u, s.heap.get? b = some u → h'.get? b = some u) → Q (.ref (s.heap.objs.size + 1)) { s with heap := h' }) :
    wpAny (model prog w) A (call (.type "enumerate") [v]) Q E s := by
  have hz : (s.heap.push o).objs.size = s.heap.objs.size + 1 := by rw [Heap.size_push]
  refine callType_new F.called_enumerate (by decide) (F.typeCall_enumerate_1 _) (F.newCall_enumerate_1 _) (fun obj => F.args_object_init_2 obj _) F.entry_enumerate_new (meets_enum0 B) ⟨h1, ?_⟩
  have key : IsEnum ((s.heap.push o).push { cls := .type "enumerate", data := .fields #[.none, .bool false, .ref s.heap.objs.size, rawInt 0, .none, .none] }) (s.heap.push o).objs.size s.heap.objs.size 0 .none := Heap.get?_push_size _ rfl
  show _ ∧ _
  rw [hz] at key ⊢
  exact ⟨⟨_, key, rfl⟩, h _ key (Heap.get?_push_of_some _ (Heap.get?_push_size _ B.free)) (by rw [Heap.size_push, hz]) fun b u x => Heap.get?_push_of_some _ (Heap.get?_push_of_some _ x)⟩
def iEnS (K : PySem.W.Frag) (ta : TA) : TI := fun σ H R => ta σ H fun vs H1 => ∃ p xs, vs = [.ref p] ∧ ((SqL K H1 p xs ∧ R (Ite K p) H1) ∨ (SqT K H1 p xs ∧ R (IteT K p) H1))
theorem pi_enumS {X : Cx} {e : Expr} {ta : TA} {p pos tpos : Pos} {elts : List Expr} {kk : Nat} (hg : Gl X "enumerate") (hm : X.mg "enumerate" = none) (ha : PA X [e] ta) (hs : starEach [e] X.env = [(false, eval e X.env)] := by rfl) :
    PI X (.Tuple elts kk tpos) (.Call (.Name "enumerate" p) [e] [] pos) (iEnS X.K ta) := by
  constructor
  intro pins s σ H R I h
  refine Call_ (ld_blt I hg hm boot_enumerate (PyProof.Rows.callWith_type1 (thn (ha.run pos pins s σ H _ I h) ?_) hs rfl))
  rintro us s1 ⟨vs, H1, I1, r1, q0, xs, rfl, hq⟩
  cases r1 with
  | cons r rr =>
    cases rr
    cases r
    have fp : ∀ b ∈ [s1.heap.objs.size + 1, s1.heap.objs.size], FpOk X pins H1 b := by
      intro b hb
      simp only [List.mem_cons, List.not_mem_nil, or_false] at hb
      have hle : s1.heap.objs.size ≤ b := by
        rcases hb with rfl | rfl
        · exact Nat.le_add_right _ _
        · exact Nat.le_refl _
      exact I1.fpOk hle (I1.hok.fresh hle)
    rcases hq with ⟨hq, q⟩ | ⟨hq, q⟩
    · obtain ⟨its, _, z, _⟩ := I1.list hq
      refine call_enumerate_list z.isList ?_
      intro h' he hit hsz hk
      exact wpAny_pyIter_enum he ⟨s1.heap.objs.size + 1, [s1.heap.objs.size + 1, s1.heap.objs.size], _, _, H1, rfl, I1.kept (t' := s1.toks) hk, turn_enum q0 (s1.heap.objs.size + 1) s1.heap.objs.size, ⟨⟨.none, he⟩, hit, Nat.succ_ne_self _⟩, fp, q⟩
    · obtain ⟨its, _, z, _⟩ := I1.tuple hq
      refine call_enum0 (begins_tuple q0 its.toArray) z ?_
      intro h' he hit hsz hk
      exact wpAny_pyIter_enum he ⟨s1.heap.objs.size + 1, [s1.heap.objs.size + 1, s1.heap.objs.size], _, _, H1, rfl, I1.kept (t' := s1.toks) hk, turn_enumT q0 (s1.heap.objs.size + 1) s1.heap.objs.size, ⟨⟨.none, he⟩, ⟨_, hit, rfl, rfl⟩, Nat.succ_ne_self _⟩, fp, q⟩
theorem walk_enumT {K : PySem.W.Frag} {p : Addr} {xs : List V} : Walk (IteT K p) xs.length (fun H => SqT K H p xs) (YPair (fun i => some (.int (i : Nat))) (fun i => xs[i]?)) where
  goes := fun i H hi h => ⟨xs, xs[i], h, List.getElem?_eq_getElem hi⟩
  stops := fun H h => ⟨xs, h, rfl⟩
  yields := by
    rintro i H v H' hi h ⟨q, x, rfl, hn, rfl, hx⟩
    exact ⟨q, _, x, rfl, hn, rfl, rfl, hx xs h⟩

/-- tuple(x), its reading with K by name -/
def rTupOf (K : PySem.W.Frag) : List V → Hp → VK → Prop := fun xs H Q => ∃ p ys, xs = [V.ref p] ∧ ((SqL K H p ys ∧ ∀ (l : Addr), H l = none → Q (V.ref l) (upd H l (HO.tup ys))) ∨ SqT K H p ys ∧ Q (V.ref p) H)
theorem call_tuple_ofK {X : Cx} {K : PySem.W.Frag} (hK : X.K = K) : CallR X (.type "tuple") (rTupOf K) := by
  subst hK
  exact call_tuple_of
/-- list(x), its reading with K by name -/
def rListOf (K : PySem.W.Frag) : List V → Hp → VK → Prop := fun xs H Q => ∃ p ys, xs = [V.ref p] ∧ (SqL K H p ys ∨ SqT K H p ys) ∧ ∀ (l : Addr), H l = none → Q (V.ref l) (upd H l (HO.lst ys))
theorem call_list_ofK {X : Cx} {K : PySem.W.Frag} (hK : X.K = K) : CallR X (.type "list") (rListOf K) := by
  subst hK
  exact call_list_of
/-- len(x), its reading with K by name -/
def rLenS (K : PySem.W.Frag) : List V → Hp → VK → Prop := fun xs H Q => ∃ p ys, xs = [V.ref p] ∧ (SqL K H p ys ∨ SqT K H p ys) ∧ Q (.int ys.length) H
theorem call_len_seqK {X : Cx} {K : PySem.W.Frag} (hK : X.K = K) : CallR X (.builtin "len") (rLenS K) := by
  subst hK
  exact call_len_seq

/-! ### questions about values -/
/-- whether a value is an int that is no bool, as isinstance tells it -/
inductive IsI (H : Hp) : V → Bool → Prop where
  | int (i : Int) : IsI H (.int i) true
  | non : IsI H .non false
  | bl (b : Bool) : IsI H (.bl b) false
  | str (z : Str) : IsI H (.str z) false
  | tup {p : Addr} {xs : List V} (e : H p = some (.tup xs)) : IsI H (.ref p) false
  | lst {p : Addr} {xs : List V} (e : H p = some (.lst xs)) : IsI H (.ref p) false
theorem IsI.same {H H' : Hp} {x : V} {b : Bool} (h : IsI H x b) (e : Same H H') : IsI H' x b := by
  cases h with
  | int i => exact .int i
  | non => exact .non
  | bl b => exact .bl b
  | str z => exact .str z
  | tup q => exact .tup (e _ _ q)
  | lst q => exact .lst (e _ _ q)
section
variable {P : Program} {w : World} {K : PySem.W.Frag} {mg : Str → Option Value} {base : Heap} {a : Ad}
def spIsInteger : Sp := fun vs H Q _ => ∃ x b, vs = [x] ∧ IsI H x b ∧ Q (.bl b) H
theorem ok_is_integer (T : Tx w K mg a) : FnOk P w K mg base CX0 1 a.f_is_integer a.d_is_integer ["value"] spIsInteger := by
  refine T.F_is_integer.ok sc_is_integer (fun vs H Q E h => ?_) (fun cdv A outer s H vs Q E hr h => ?_)
  · obtain ⟨x, b, rfl, _⟩ := h
    rfl
  · obtain ⟨x, b, rfl, hb, q⟩ := h
    refine ⟨_, 
(pss_one (ps_ret (pe_and (pe_callB call_isi (by rfl) T.z_isinstance (by decide +kernel) (pa_cons (pv 0) (pa_cons (pe_bltn (v := .ty "int") (by rfl) T.z_int (by decide +kernel) rfl) pa_nil))) (pe_one (pe_not (pe_callB call_isi (by rfl) T.z_isinstance (by decide +kernel) (pa_cons (pv 0) (pa_cons (pe_bltn (v := .ty "bool") (by rfl) T.z_bool (by decide +kernel) rfl) pa_nil)))))))), ?_⟩
    refine ⟨x, rfl, ?_⟩
    cases hb with
    | int i => exact ⟨_, _, _, _, true, rfl, .ty "int", .base (.int i), kit_ty (by decide +kernel), true, rfl, iteT ⟨_, rfl, _, _, _, _, false, rfl, .ty "bool", .base (.int i), kit_ty (by decide +kernel), _, rfl, q⟩⟩
    | non => exact ⟨_, _, _, _, false, rfl, .ty "int", .base .non, kit_ty (by decide +kernel), false, rfl, iteF q⟩
    | str z => exact ⟨_, _, _, _, false, rfl, .ty "int", .base (.str z), kit_ty (by decide +kernel), false, rfl, iteF q⟩
    | tup e => exact ⟨_, _, _, _, false, rfl, .ty "int", .base (.tup e), kit_ty (by decide +kernel), false, rfl, iteF q⟩
    | lst e => exact ⟨_, _, _, _, false, rfl, .ty "int", .base (.lst e), kit_ty (by decide +kernel), false, rfl, iteF q⟩
    | bl b => exact ⟨_, _, _, _, true, rfl, .ty "int", .base (.bl b), kit_ty (by decide +kernel), true, rfl, iteT ⟨_, rfl, _, _, _, _, true, rfl, .ty "bool", .base (.bl b), kit_ty (by decide +kernel), _, rfl, q⟩⟩
def btM (lo hi : Int) : V → Bool
  | .int i => decide (lo ≤ i) && decide (i ≤ hi)
  | _ => false
def spIsBetween : Sp := fun vs H Q _ => ∃ x b lo hi, vs = [x, .int lo, .int hi] ∧ IsI H x b ∧ Q (.bl (btM lo hi x)) H
theorem ok_is_between (T : Tx w K mg a) : FnOk P w K mg base CX0 2 a.f_is_between a.d_is_between ["value", "low", "high"] spIsBetween := by
  refine T.F_is_between.ok sc_is_between (fun vs H Q E h => ?_) (fun cdv A outer s H vs Q E hr h => ?_)
  · obtain ⟨x, b, lo, hi, rfl, _⟩ := h
    rfl
  · obtain ⟨x, b, lo, hi, rfl, hb, q⟩ := h
    refine ⟨_, 
(pss_one (ps_ret (pe_and (pe_call (ok_is_integer T) hr (by rfl) T.m_is_integer T.F_is_integer.kp T.b_is_integer .nil pass0 (pa_cons (pv 0) pa_nil)) (pe_one (pe_chain op_le op_le (pv 1) (pv 0) (pv 2)))))), ?_⟩
    refine ⟨x, rfl, x, b, rfl, hb, b, rfl, ?_⟩
    cases hb with
    | int i =>
      refine iteT ⟨_, rfl, _, rfl, lo, i, rfl, rfl, _, rfl, ?_⟩
      by_cases h1 : lo ≤ i
      · rw [decide_eq_true h1]
        refine iteT ⟨_, rfl, i, hi, rfl, rfl, ?_⟩
        have e : btM lo hi (.int i) = decide (i ≤ hi) := by simp [btM, h1]
        rw [e] at q
        exact q
      · rw [decide_eq_false h1]
        have e : btM lo hi (.int i) = false := by simp [btM, h1]
        rw [e] at q
        exact iteF q
    | non => exact iteF q
    | str z => exact iteF q
    | tup e => exact iteF q
    | lst e => exact iteF q
    | bl b => exact iteF q
/-- the first member that is no place of n or has come before -/
def fwI (n : Nat) : List Int → Nat → List V → Option Nat
  | _, _, [] => none
  | seen, k, .int i :: r => if 0 ≤ i ∧ i < (n : Int) ∧ i ∉ seen then fwI n (i :: seen) (k + 1) r else some k
  | _, k, _ :: _ => some k
def oN : Option Nat → V
  | none => .non
  | some k => .int k
def flags (n : Nat) (seen : List Int) : List V := (List.range n).map fun j : Nat => V.bl (decide ((j : Int) ∈ seen))
theorem flags_len (n : Nat) (seen : List Int) : (flags n seen).length = n := by
  unfold flags
  rw [List.length_map, List.length_range]
theorem flags_nil (n : Nat) : List.replicate n (V.bl false) = flags n [] := by
  refine List.ext_getElem (by rw [flags_len, List.length_replicate]) fun i h1 h2 => ?_
  simp [flags]
theorem flags_get {n : Nat} {seen : List Int} {i : Int} (h0 : 0 ≤ i) (h1 : i < (n : Int)) : atI (flags n seen) i = some (.bl (decide (i ∈ seen))) := by
  have e : (i.toNat : Int) = i := by omega
  have z : atI (flags n seen) (i.toNat : Int) = some (.bl (decide (i ∈ seen))) := by
    refine atI_nat ?_
    unfold flags
    rw [List.getElem?_map, List.getElem?_range (by omega)]
    show some (V.bl (decide ((i.toNat : Int) ∈ seen))) = _
    rw [e]
  rw [e] at z
  exact z
theorem flags_set {n : Nat} {seen : List Int} {i : Int} (h0 : 0 ≤ i) : (flags n seen).set i.toNat (.bl true) = flags n (i :: seen) := by
  refine List.ext_getElem (by rw [List.length_set, flags_len, flags_len]) fun j h1 h2 => ?_
  rw [List.getElem_set]
  by_cases h : i.toNat = j
  · rw [if_pos h]
    have : (j : Int) = i := by omega
    simp [flags, this]
  · rw [if_neg h]
    have : ¬ (j : Int) = i := by omega
    simp [flags, this]
def spFirstWrong (K : PySem.W.Frag) : Sp := fun vs H Q _ => ∃ r xs, vs = [.ref r, .int (xs.length : Int)] ∧ SqA K H r xs ∧ xs.length ≤ 100000 ∧ (∀ x ∈ xs, ∃ b, IsI H x b) ∧ ∀ H', Same H H' → Q (oN (fwI xs.length [] 0 xs)) H'
theorem ok_first_wrong (T : Tx w K mg a) : FnOk P w K mg base CX0 3 a.f_first_wrong a.d_first_wrong ["row", "size"] (spFirstWrong K) := by
  refine T.F_first_wrong.ok sc_first_wrong (fun vs H Q E h => ?_) (fun cdv A outer s H vs Q E hr h => ?_)
  · obtain ⟨r, xs, rfl, _⟩ := h
    rfl
  · obtain ⟨r, xs, rfl, hx, hl, hk, q⟩ := h
    refine ⟨_, 
(pss_cons (ps_set (i := 2) sc_first_wrong.nd rfl (.inl rfl) (pe_op op_rep (pe_lst (pa_cons pe_bl pa_nil)) (pv 1)))
  (pss_cons (ps_for PassesOwn.never rfl (pi_enumS (by rfl) T.z_enumerate (pa_cons (pv 0) pa_nil)) (pg_tup rfl (pgs_cons (pg_name (i := 3) sc_first_wrong.nd rfl (.inl rfl)) (pgs_cons (pg_name (i := 4) sc_first_wrong.nd rfl (.inl rfl)) pgs_nil)))
  (pss_cons (ps_if (PW.pt (pw_or (pt_not (pt_val (pe_call (ok_is_between T) hr (by rfl) T.m_is_between T.F_is_between.kp T.b_is_between .nil pass0 (pa_cons (pv 4) (pa_cons pe_int (pa_cons (pe_op op_sub (pv 1) pe_int) pa_nil)))))) (pw_or1 (pt_val (pe_ix ix_list (pv 2) (pv 4) (fun _ _ => rfl))))))
  (pss_one (ps_ret (pv 3)))
  pss_nil)
  (pss_one (ps_asg pe_bl (pg_sub (pv 2) (pv 4) set_list)))))
  (pss_one (ps_ret pe_non)))), ?_⟩
    -- has_come = [False] * size
    refine ⟨sz (by decide), fun p0 hp0 => ⟨_, rfl, p0, _, _, rfl, rfl, upd_same, by omega, by omega, sz (by simp; omega), fun p hp => ?_⟩⟩
    have s1 : Same H (upd (upd H p0 (.lst [.bl false])) p (.lst (List.replicate (xs.length : Int).toNat [V.bl false]).flatten)) := (same_upd hp0).trans (same_upd hp)
    have e0 : (List.replicate (xs.length : Int).toNat [V.bl false]).flatten = flags xs.length [] := by
      rw [List.flatten_replicate_singleton, Int.toNat_natCast, flags_nil]
    have pn : H p = none := (same_upd hp0).free hp
    have hp1 : (upd (upd H p0 (.lst [.bl false])) p (.lst (List.replicate (xs.length : Int).toNat [V.bl false]).flatten)) p = some (.lst (flags xs.length [])) := by
      rw [e0]
      exact upd_same
    generalize upd (upd H p0 (.lst [.bl false])) p (.lst (List.replicate (xs.length : Int).toNat [V.bl false]).flatten) = H1 at s1 hp1 ⊢
    -- for index, member in enumerate(row)
    refine ⟨.ref r, rfl, r, xs, rfl, ?_⟩
    refine hx.elim (fun hS => .inl ⟨s1.seq hS, ?_⟩) (fun hS => .inr ⟨Same.seqT s1 hS, ?_⟩)
    all_goals
      refine for_it (by first | exact walk_enum (xs := xs) | exact walk_enumT (xs := xs)) (fun i σ H3 => ∃ y3 y4 seen, σ = [some (.ref r), some (.int (xs.length : Int)), some (.ref p), y3, y4] ∧ Same H H3 ∧ H3 p = some (.lst (flags xs.length seen)) ∧ fwI xs.length [] 0 xs = fwI xs.length seen i (xs.drop i)) ?h0 ?hG ?hs ?hd
      case h0 => exact ⟨none, none, [], rfl, s1, hp1, rfl⟩
      case hG =>
        rintro i σ H3 hi ⟨y3, y4, seen, rfl, s3, hp3, ef⟩
        first | exact s3.seq hS | exact Same.seqT s3 hS
      case hd =>
        rintro σ H3 ⟨y3, y4, seen, rfl, s3, hp3, ef⟩
        rw [List.drop_length] at ef
        have q2 := q H3 s3
        rw [ef] at q2
        exact q2
      case hs =>
        rintro i v σ H3 H4 hi ⟨y3, y4, seen, rfl, s3, hp3, ef⟩ ⟨t, x1, x, rfl, nt, rfl, e1, e2⟩
        cases e1
        have s4 : Same H3 (upd H3 t (.tup [.int (i : Nat), x])) := same_upd nt
        have hp4 := s4 _ _ hp3
        have ed : xs.drop i = x :: xs.drop (i + 1) := by
          rw [List.drop_eq_getElem_cons hi]
          have := List.getElem?_eq_some_iff.mp e2
          rw [this.2]
        rw [ed] at ef
        refine ⟨t, [.int (i : Nat), x], rfl, SqT.at upd_same, rfl, _, [x], rfl, x, [], rfl, rfl, ?_⟩
        obtain ⟨b, hb⟩ := hk x (List.mem_of_getElem? e2)
        refine ⟨x, rfl, _, rfl, (xs.length : Int), 1, rfl, rfl, x, b, 0, _, rfl, (hb.same s3).same s4, _, rfl, ?_⟩
        by_cases hbt : btM 0 ((xs.length : Int) - 1) x = true
        · obtain ⟨m, rfl, h0, h1⟩ : ∃ m : Int, x = .int m ∧ 0 ≤ m ∧ m < (xs.length : Int) := by
            cases x with
            | int m =>
              simp only [btM, Bool.and_eq_true, decide_eq_true_eq] at hbt
              exact ⟨m, rfl, hbt.1, by omega⟩
            | _ => exact absurd hbt (by simp [btM])
          rw [hbt]
          refine iteF ⟨_, rfl, _, rfl, p, _, m, _, rfl, rfl, SqL.at hp4, flags_get h0 h1, _, rfl, ?_⟩
          by_cases hm : m ∈ seen
          · rw [decide_eq_true hm]
            have ef2 : fwI xs.length [] 0 xs = some i := by
              rw [ef]
              simp [fwI, hm]
            have q2 := q _ (s3.trans s4)
            rw [ef2] at q2
            exact iteT ⟨_, rfl, q2⟩
          · rw [decide_eq_false hm]
            have ef2 : fwI xs.length [] 0 xs = fwI xs.length (m :: seen) (i + 1) (xs.drop (i + 1)) := by
              rw [ef]
              simp [fwI, hm, h0, h1]
            refine iteF ⟨_, rfl, _, rfl, p, _, m, m.toNat, rfl, rfl, hp4, by rw [flags_len]; exact ixN_nat h0 h1, ?_⟩
            refine ⟨_, _, m :: seen, rfl, ?_, by rw [flags_set h0]; exact upd_same, ef2⟩
            intro c o e
            rw [upd_ne (ne_of_none e pn)]
            exact s4 _ _ (s3 _ _ e)
        · rw [Bool.not_eq_true] at hbt
          rw [hbt]
          have ef2 : fwI xs.length [] 0 xs = some i := by
            rw [ef]
            cases x with
            | int m =>
              simp only [btM, Bool.and_eq_false_iff, decide_eq_false_iff_not] at hbt
              have : ¬ (0 ≤ m ∧ m < (xs.length : Int) ∧ m ∉ seen) := by omega
              simp only [fwI, if_neg this]
            | _ => rfl
          have q2 := q _ (s3.trans s4)
          rw [ef2] at q2
          exact iteT ⟨_, rfl, q2⟩
end

/-! ### rearrangements as lists of ints -/
def ri (n : Nat) : List Int := (List.range n).map fun i : Nat => (i : Int)
theorem ri_len (n : Nat) : (ri n).length = n := by
  unfold ri
  rw [List.length_map, List.length_range]
theorem ri_mem {n : Nat} {x : Int} : x ∈ ri n ↔ 0 ≤ x ∧ x < (n : Int) := by
  unfold ri
  simp only [List.mem_map, List.mem_range]
  constructor
  · rintro ⟨k, hk, rfl⟩
    omega
  · rintro ⟨h0, h1⟩
    exact ⟨x.toNat, by omega, by omega⟩
theorem ri_get {n i : Nat} (h : i < n) : (ri n)[i]? = some (i : Int) := by
  unfold ri
  rw [List.getElem?_map, List.getElem?_range h]
  rfl
theorem ri_nodup (n : Nat) : (ri n).Nodup := by
  unfold ri
  refine List.Pairwise.map _ (fun i j (h : i ≠ j) => ?_) List.nodup_range
  omega
theorem rgV_ri (n : Nat) : rgV 0 (n : Int) = (ri n).map V.int := by
  unfold rgV ri
  rw [List.map_map]
  have e : ((n : Int) - 0).toNat = n := by omega
  rw [e]
  refine List.map_congr_left fun i _ => ?_
  show V.int (0 + (i : Nat)) = V.int (i : Int)
  rw [Int.zero_add]
/-- a rearrangement: the ints from 0 on, each once -/
def IsRow (xs : List Int) : Prop := xs.Perm (ri xs.length)
theorem IsRow.mem {xs : List Int} (h : IsRow xs) {x : Int} : x ∈ xs ↔ 0 ≤ x ∧ x < (xs.length : Int) := by
  rw [h.mem_iff, ri_mem]
theorem IsRow.nodup {xs : List Int} (h : IsRow xs) : xs.Nodup := h.nodup_iff.mpr (ri_nodup _)
theorem IsRow.at {xs : List Int} (h : IsRow xs) {i : Nat} (hi : i < xs.length) : 0 ≤ xs[i] ∧ xs[i].toNat < xs.length := by
  have := h.mem.mp (List.getElem_mem hi)
  omega
theorem isRow_ri (n : Nat) : IsRow (ri n) := by
  unfold IsRow
  rw [ri_len]
theorem isRow_of {xs : List Int} (n : Nat) (h : xs.Perm (ri n)) : IsRow xs := by
  unfold IsRow
  have := h.length_eq
  rw [ri_len] at this
  rw [this]
  exact h
/-- without doubles and within bounds: a rearrangement -/
theorem nodup_sub_len : ∀ {xs ys : List Int}, xs.Nodup → (∀ x ∈ xs, x ∈ ys) → xs.length ≤ ys.length
  | [], _, _, _ => Nat.zero_le _
  | x :: r, ys, hn, hs => by
    have hx := hs x (List.mem_cons_self ..)
    have hn' := List.nodup_cons.mp hn
    have h2 := nodup_sub_len (xs := r) (ys := ys.erase x) hn'.2 fun y hy => by
      have hne : y ≠ x := fun e => hn'.1 (e ▸ hy)
      exact (List.mem_erase_of_ne hne).mpr (hs y (List.mem_cons_of_mem _ hy))
    rw [List.length_erase_of_mem hx] at h2
    have : 0 < ys.length := List.length_pos_of_mem hx
    simp only [List.length_cons]
    omega
theorem perm_of_nodup : ∀ {xs ys : List Int}, xs.Nodup → ys.Nodup → (∀ x ∈ xs, x ∈ ys) → xs.length = ys.length → xs.Perm ys
  | [], ys, _, _, _, e => by
    have : ys = [] := List.eq_nil_of_length_eq_zero e.symm
    subst this
    exact List.Perm.refl _
  | x :: r, ys, hn, hy, hs, e => by
    have hx := hs x (List.mem_cons_self ..)
    have hn' := List.nodup_cons.mp hn
    have hl : r.length = (ys.erase x).length := by
      rw [List.length_erase_of_mem hx]
      simp only [List.length_cons] at e
      omega
    have p := perm_of_nodup (xs := r) (ys := ys.erase x) hn'.2 (hy.erase x) (fun y h => by
      have hne : y ≠ x := fun e => hn'.1 (e ▸ h)
      exact (List.mem_erase_of_ne hne).mpr (hs y (List.mem_cons_of_mem _ h))) hl
    exact (p.cons x).trans (List.perm_cons_erase hx).symm
theorem isRow_mk {xs : List Int} (hn : xs.Nodup) (hb : ∀ x ∈ xs, 0 ≤ x ∧ x < (xs.length : Int)) : IsRow xs :=
  perm_of_nodup hn (ri_nodup _) (fun x hx => ri_mem.mpr (hb x hx)) (ri_len _).symm
/-- all places are there -/
theorem IsRow.all {xs : List Int} (h : IsRow xs) {v : Nat} (hv : v < xs.length) : (v : Int) ∈ xs := h.mem.mpr (by omega)
/-! ### picking members -/
def pickI (ts rs : List Int) : List Int := rs.map fun r => ts.getD r.toNat 0
theorem pick_len (ts rs : List Int) : (pickI ts rs).length = rs.length := by
  unfold pickI
  rw [List.length_map]
theorem pick_get {ts rs : List Int} {i : Nat} (h : i < rs.length) : (pickI ts rs)[i]'(by rw [pick_len]; exact h) = ts.getD rs[i].toNat 0 := by
  simp [pickI]
/-- done one behind the other -/
theorem pick_pick {ts xs ys : List Int} (hx : ∀ y ∈ ys, 0 ≤ y ∧ y.toNat < xs.length) : pickI (pickI ts xs) ys = pickI ts (pickI xs ys) := by
  unfold pickI
  rw [List.map_map]
  refine List.map_congr_left fun y hy => ?_
  have h := (hx y hy).2
  show (List.map (fun r : Int => ts.getD r.toNat 0) xs).getD y.toNat 0 = ts.getD (xs.getD y.toNat 0).toNat 0
  rw [List.getD_eq_getElem?_getD, List.getElem?_map, List.getElem?_eq_getElem h, List.getD_eq_getElem?_getD (l := xs), List.getElem?_eq_getElem h]
  rfl
theorem pick_ri (xs : List Int) : pickI xs (ri xs.length) = xs := by
  refine List.ext_getElem (by rw [pick_len, ri_len]) fun i h1 h2 => ?_
  rw [pick_get (by rw [ri_len]; exact h2)]
  have e : (ri xs.length)[i]'(by rw [ri_len]; exact h2) = (i : Int) := by
    have := ri_get h2
    rw [List.getElem?_eq_getElem (by rw [ri_len]; exact h2)] at this
    exact Option.some.inj this
  rw [e, Int.toNat_natCast, getD_get h2]
theorem ri_pick {xs : List Int} {n : Nat} (h : ∀ x ∈ xs, 0 ≤ x ∧ x < (n : Int)) : pickI (ri n) xs = xs := by
  unfold pickI
  conv => rhs; rw [← List.map_id xs]
  refine List.map_congr_left fun x hx => ?_
  have := h x hx
  show (ri n).getD x.toNat 0 = x
  rw [List.getD_eq_getElem?_getD, ri_get (by omega)]
  show ((x.toNat : Nat) : Int) = x
  omega
/-- a rearrangement of a rearrangement's members -/
theorem pick_perm {ts rs : List Int} (hr : IsRow rs) (hl : rs.length = ts.length) : (pickI ts rs).Perm ts := by
  have p : (pickI ts rs).Perm (pickI ts (ri rs.length)) := List.Perm.map _ hr
  rw [hl, pick_ri] at p
  exact p
theorem isRow_pick {xs ys : List Int} (hx : IsRow xs) (hy : IsRow ys) (hl : ys.length = xs.length) : IsRow (pickI xs ys) := by
  refine isRow_of xs.length ((pick_perm hy hl).trans hx)
/-! ### taking back -/
/-- bs takes xs back -/
def InvOf (xs bs : List Int) : Prop := bs.length = xs.length ∧ ∀ (j : Nat) (h : j < xs.length), bs[xs[j].toNat]? = some (j : Int)
theorem InvOf.pick {xs bs : List Int} (h : InvOf xs bs) (hx : IsRow xs) : pickI bs xs = ri xs.length := by
  refine List.ext_getElem (by rw [pick_len, ri_len]) fun i h1 h2 => ?_
  rw [pick_len] at h1
  rw [pick_get h1, List.getD_eq_getElem?_getD, h.2 i h1]
  have := ri_get h1
  rw [List.getElem?_eq_getElem h2] at this
  exact (Option.some.inj this).symm
theorem InvOf.mem {xs bs : List Int} (h : InvOf xs bs) (hx : IsRow xs) {v : Nat} (hv : v < xs.length) : ∃ (j : Nat) (hj : j < xs.length), xs[j] = (v : Int) ∧ bs[v]? = some (j : Int) := by
  obtain ⟨j, hj, e⟩ := List.getElem_of_mem (hx.all hv)
  have := h.2 j hj
  rw [e, Int.toNat_natCast] at this
  exact ⟨j, hj, e, this⟩
theorem InvOf.pick2 {xs bs : List Int} (h : InvOf xs bs) (hx : IsRow xs) : pickI xs bs = ri xs.length := by
  refine List.ext_getElem (by rw [pick_len, ri_len, h.1]) fun i h1 h2 => ?_
  rw [pick_len, h.1] at h1
  obtain ⟨j, hj, e, eb⟩ := h.mem hx h1
  have hb : i < bs.length := by rw [h.1]; exact h1
  rw [pick_get hb]
  have e2 : bs[i] = (j : Int) := by
    rw [List.getElem?_eq_getElem hb] at eb
    exact Option.some.inj eb
  rw [e2, Int.toNat_natCast, getD_get hj, e]
  have := ri_get h1
  rw [List.getElem?_eq_getElem h2] at this
  exact (Option.some.inj this).symm
theorem InvOf.bound {xs bs : List Int} (h : InvOf xs bs) (hx : IsRow xs) : ∀ y ∈ bs, 0 ≤ y ∧ y.toNat < xs.length := by
  intro y hy
  obtain ⟨i, hi, e⟩ := List.getElem_of_mem hy
  obtain ⟨j, hj, _, eb⟩ := h.mem hx (v := i) (by rw [← h.1]; exact hi)
  rw [List.getElem?_eq_getElem hi] at eb
  have := Option.some.inj eb
  omega
theorem InvOf.row {xs bs : List Int} (h : InvOf xs bs) (hx : IsRow xs) : IsRow bs := by
  refine isRow_mk ?_ fun y hy => ?_
  · rw [List.nodup_iff_pairwise_ne, List.pairwise_iff_getElem]
    intro i j hi hj hij e
    obtain ⟨u, hu, e1, b1⟩ := h.mem hx (v := i) (by rw [← h.1]; exact hi)
    obtain ⟨v, hv, e2, b2⟩ := h.mem hx (v := j) (by rw [← h.1]; exact hj)
    rw [List.getElem?_eq_getElem hi] at b1
    rw [List.getElem?_eq_getElem hj] at b2
    have q1 := Option.some.inj b1
    have q2 := Option.some.inj b2
    have : u = v := by omega
    subst this
    rw [e1] at e2
    omega
  · have := h.bound hx y hy
    rw [h.1]
    omega
theorem InvOf.uniq {xs b1 b2 : List Int} (h1 : InvOf xs b1) (h2 : InvOf xs b2) (hx : IsRow xs) : b1 = b2 := by
  refine List.ext_getElem (by rw [h1.1, h2.1]) fun i q1 q2 => ?_
  obtain ⟨u, hu, e1, y1⟩ := h1.mem hx (v := i) (by rw [← h1.1]; exact q1)
  have y2 := h2.2 u hu
  rw [e1, Int.toNat_natCast] at y2
  rw [List.getElem?_eq_getElem q1] at y1
  rw [List.getElem?_eq_getElem q2] at y2
  exact (Option.some.inj y1).trans (Option.some.inj y2).symm
theorem fwI_none : ∀ (n : Nat) (xs : List Int) (seen : List Int) (k : Nat), xs.Nodup → (∀ x ∈ xs, 0 ≤ x ∧ x < (n : Int) ∧ x ∉ seen) → fwI n seen k (xs.map V.int) = none
  | _, [], _, _, _, _ => rfl
  | n, x :: r, seen, k, hn, hb => by
    have hn' := List.nodup_cons.mp hn
    have hx := hb x (List.mem_cons_self ..)
    simp only [List.map_cons, fwI, if_pos hx]
    refine fwI_none n r (x :: seen) (k + 1) hn'.2 fun y hy => ?_
    have := hb y (List.mem_cons_of_mem _ hy)
    refine ⟨this.1, this.2.1, ?_⟩
    intro q
    rcases List.mem_cons.mp q with e | q
    · exact hn'.1 (e ▸ hy)
    · exact this.2.2 q
theorem fwI_row {xs : List Int} (h : IsRow xs) : fwI xs.length [] 0 (xs.map V.int) = none :=
  fwI_none _ _ _ _ h.nodup fun x hx => ⟨(h.mem.mp hx).1, (h.mem.mp hx).2, List.not_mem_nil⟩

section
variable {P : Program} {w : World} {K : PySem.W.Frag} {mg : Str → Option Value} {base : Heap} {a : Ad}
theorem isI_ints {H : Hp} {ns : List Int} : ∀ x ∈ ns.map V.int, ∃ b, IsI H x b := by
  intro x hx
  obtain ⟨i, _, rfl⟩ := List.mem_map.mp hx
  exact ⟨true, .int i⟩
/-- the row at p, as a list or a tuple -/
def RowAt (K : PySem.W.Frag) (H : Hp) (p : Addr) (xs : List Int) : Prop := SqA K H p (xs.map V.int) ∧ IsRow xs ∧ xs.length ≤ 100000
theorem RowAt.same {H H' : Hp} {p : Addr} {xs : List Int} (h : RowAt K H p xs) (e : Same H H') : RowAt K H' p xs := ⟨h.1.same e, h.2⟩
theorem SqA.at_get {K : PySem.W.Frag} {H : Hp} {p : Addr} {ts : List Int} {i : Int} {Q : VK} (h : SqA K H p (ts.map V.int)) (h0 : 0 ≤ i) (h1 : i.toNat < ts.length) (q : Q (.int (ts.getD i.toNat 0)) H) : rIx K (.ref p) (.int i) H Q := by
  rw [getD_get h1] at q
  have hi := atI_ints h0 h1
  rcases h with h | h
  · exact .inl ⟨p, _, i, _, rfl, rfl, h, hi, q⟩
  · exact .inr (.inl ⟨p, _, i, _, rfl, rfl, h, hi, q⟩)
def spInTurn (K : PySem.W.Frag) : Sp := fun vs H Q _ => ∃ p r xs ys, vs = [.ref p, .ref r] ∧ SqA K H p (xs.map V.int) ∧ SqA K H r (ys.map V.int) ∧ (∀ y ∈ ys, 0 ≤ y ∧ y.toNat < xs.length) ∧ ys.length ≤ 100000 ∧ ∀ o H', H o = none → H' o = some (.lst ((pickI xs ys).map V.int)) → Same H H' → Q (.ref o) H'
theorem ok_in_turn (T : Tx w K mg a) : FnOk P w K mg base CX0 1 a.f_in_turn a.d_in_turn ["first", "second"] (spInTurn K) := by
  refine T.F_in_turn.ok sc_in_turn (fun vs H Q E h => ?_) (fun cdv A outer s H vs Q E hr h => ?_)
  · obtain ⟨p, r, xs, ys, rfl, _⟩ := h
    rfl
  · obtain ⟨p, r, xs, ys, rfl, hX, hY, hb, hl, q⟩ := h
    refine ⟨_, 
(pss_one (ps_ret (pe_lc (own := [("place", 2)]) (g := gName 2) rfl sc_in_turn.nd (pi_seq (pv 1)) (blkOk_by (own := [("place", 2)]) (N := ["first", "second", "place"]) (sc := defScope s_in_turn) (by decide +kernel)) (fun _ _ _ _ _ => pg_name (i := 2) sc_in_turn.nd rfl (Or.inl rfl)) (fun _ _ _ _ _ => pts_nil) (fun _ _ _ _ _ => (pe_ix (show IxR _ (rIx K) from ix_seq) (pv 0) (pv 2) (fun _ _ => rfl)))))), ?_⟩
    refine ⟨.ref r, rfl, r, ys.map V.int, rfl, ?_⟩
    refine hY.elim (fun hS => .inl ⟨hS, fun o ho => ?_⟩) (fun hS => .inr ⟨hS, fun o ho => ?_⟩)
    all_goals
      refine lc_it (by first | exact walk_list (xs := ys.map V.int) | exact walk_tup (xs := ys.map V.int)) (fun i H' => Same H H' ∧ H' o = some (.lst (((pickI xs ys).take i).map V.int))) ?h0 ?hG ?hs ?hd
      case h0 => exact ⟨same_upd ho, upd_same⟩
      case hG =>
        rintro i H' _ ⟨sm, _⟩
        first | exact sm.seq hS | exact Same.seqT sm hS
      case hd =>
        rintro H' ⟨sm, e⟩
        rw [List.length_map, List.take_of_length_le (by rw [pick_len]; exact Nat.le_refl _)] at e
        exact q o H' ho e sm
      case hs =>
        rintro i x H3 H4 hi ⟨sm, e⟩ ⟨rfl, ex⟩
        rw [List.length_map] at hi
        rw [List.getElem?_map, List.getElem?_eq_getElem hi] at ex
        cases ex
        have hb := hb _ (List.getElem_mem hi)
        refine ⟨rfl, _, rfl, _, rfl, SqA.at_get (hX.same sm) hb.1 hb.2 ?_⟩
        refine ⟨_, e, ?_, ?_, ?_⟩
        · rw [List.length_map, List.length_take]
          exact szlt (Nat.le_trans (Nat.min_le_right _ _) (by rw [pick_len]; exact hl))
        · intro b u hb'
          rw [upd_ne (ne_of_none hb' ho)]
          exact sm b u hb'
        · rw [upd_same, List.take_add_one, List.getElem?_eq_getElem (by rw [pick_len]; exact hi), pick_get hi, List.map_append]
          rfl
def spBackFrom (K : PySem.W.Frag) : Sp := fun vs H Q _ => ∃ p xs, vs = [.ref p] ∧ RowAt K H p xs ∧ ∀ o bs H', H o = none → InvOf xs bs → H' o = some (.lst (bs.map V.int)) → Same H H' → Q (.ref o) H'
theorem ok_back_from (T : Tx w K mg a) : FnOk P w K mg base CX0 1 a.f_back_from a.d_back_from ["row"] (spBackFrom K) := by
  refine T.F_back_from.ok sc_back_from (fun vs H Q E h => ?_) (fun cdv A outer s H vs Q E hr h => ?_)
  · obtain ⟨p, xs, rfl, _⟩ := h
    rfl
  · obtain ⟨p, xs, rfl, hX, q⟩ := h
    refine ⟨_, 
(pss_cons (ps_set (i := 1) sc_back_from.nd rfl (.inl rfl) (pe_callTy call_list_of (by rfl) T.z_list (by decide +kernel) (pa_cons (pv 0) pa_nil)))
  (pss_cons (ps_for PassesOwn.never rfl (pi_enumS (by rfl) T.z_enumerate (pa_cons (pv 0) pa_nil)) (pg_tup rfl (pgs_cons (pg_name (i := 2) sc_back_from.nd rfl (.inl rfl)) (pgs_cons (pg_name (i := 3) sc_back_from.nd rfl (.inl rfl)) pgs_nil)))
  (pss_one (ps_asg (pv 2) (pg_sub (pv 1) (pv 3) set_list))))
  (pss_one (ps_ret (pv 1))))), ?_⟩
    refine ⟨.ref p, rfl, p, _, rfl, hX.1, fun o ho => ?_⟩
    have s2 : Same H (upd H o (.lst (xs.map V.int))) := same_upd ho
    have ho2 : (upd H o (.lst (xs.map V.int))) o = some (.lst (xs.map V.int)) := upd_same
    generalize upd H o (.lst (xs.map V.int)) = H2 at s2 ho2 ⊢
    have hn := hX.2.1.nodup
    refine ⟨.ref p, rfl, p, xs.map V.int, rfl, ?_⟩
    refine hX.1.elim (fun hS => .inl ⟨s2.seq hS, ?_⟩) (fun hS => .inr ⟨Same.seqT s2 hS, ?_⟩)
    all_goals
      refine for_it (by first | exact walk_enum (xs := xs.map V.int) | exact walk_enumT (xs := xs.map V.int)) (fun i σ H3 => ∃ (y2 y3 : Option V) (bs : List Int), σ = [some (.ref p), some (.ref o), y2, y3] ∧ Same H H3 ∧ H3 o = some (.lst (bs.map V.int)) ∧ bs.length = xs.length ∧ (∀ (j : Nat) (h : j < xs.length), j < i → bs[xs[j].toNat]? = some (j : Int))) ?h0 ?hG ?hs ?hd
      case h0 => exact ⟨none, none, xs, rfl, s2, ho2, rfl, fun j _ h => absurd h (Nat.not_lt_zero _)⟩
      case hG =>
        rintro i σ H3 hi ⟨y2, y3, bs, rfl, s3, _, _, _⟩
        first | exact s3.seq hS | exact Same.seqT s3 hS
      case hd =>
        rintro σ H3 ⟨y2, y3, bs, rfl, s3, ho3, hl, hb⟩
        rw [List.length_map] at hb
        exact ⟨_, rfl, q o bs H3 ho ⟨hl, fun j h => hb j h h⟩ ho3 s3⟩
      case hs =>
        rintro i v σ H3 H4 hi ⟨y2, y3, bs, rfl, s3, ho3, hl, hb⟩ ⟨t, x1, x, rfl, nt, rfl, e1, e2⟩
        cases e1
        rw [List.length_map] at hi
        have e2 : (xs.map V.int)[i]? = some x := e2
        rw [List.getElem?_map, List.getElem?_eq_getElem hi] at e2
        cases e2
        have s4 : Same H3 (upd H3 t (.tup [.int (i : Nat), .int xs[i]])) := same_upd nt
        have ho4 := s4 _ _ ho3
        have hat := hX.2.1.at hi
        refine ⟨t, [.int (i : Nat), .int xs[i]], rfl, SqT.at upd_same, rfl, _, [.int xs[i]], rfl, .int xs[i], [], rfl, rfl, ?_⟩
        refine ⟨_, rfl, _, rfl, _, rfl, o, _, _, xs[i].toNat, rfl, rfl, ho4, ixN_nat hat.1 (by rw [List.length_map]; omega), ?_⟩
        refine ⟨_, _, bs.set xs[i].toNat (i : Int), rfl, ?_, by rw [upd_same, List.map_set], by rw [List.length_set]; exact hl, fun j hj hji => ?_⟩
        · intro b u hb'
          rw [upd_ne (ne_of_none hb' ho)]
          exact s4 _ _ (s3 b u hb')
        · by_cases hjc : j = i
          · subst hjc
            rw [List.getElem?_set_self (by omega)]
          · have hne : xs[j] ≠ xs[i] := fun e => hjc ((List.getElem_inj hn).mp e)
            have hatj := hX.2.1.at hj
            rw [List.getElem?_set_ne (by omega)]
            exact hb j hj (by omega)
end

section
variable {P : Program} {w : World} {K : PySem.W.Frag} {mg : Str → Option Value} {base : Heap} {a : Ad}
def spErrInit (C : Addr) (f : Str) : Sp := fun vs H Q _ => ∃ (x : Addr) (v : V), vs = [.ref x, v] ∧ H x = some (exo x C none) ∧ ∀ dx, H dx = none → dx ≠ x → Q .non (upd (upd H dx (exd dx [(f, v)])) x (exo x C (some dx)))
theorem ok_BadSize_init (T : Tx w K mg a) : FnOk P w K mg base CX0 1 a.f_BadSize_init a.d_BadSize_init ["self", "size"] (spErrInit a.C_BadSize "size") := by
  refine T.F_BadSize_init.ok sc_BadSize_init (fun vs H Q E h => ?_) (fun cdv A outer s H vs Q E hr h => ?_)
  · obtain ⟨x, v, rfl, _⟩ := h
    rfl
  · obtain ⟨x, v, rfl, hx, q⟩ := h
    refine ⟨_, 
(pss_one (ps_ost (pv 0) (pv 1))), ?_⟩
    exact ⟨v, rfl, .ref x, rfl, x, a.C_BadSize, rfl, T.ox_BadSize.o, T.ox_BadSize.no, .inl ⟨hx, fun dx n ne => q dx n ne⟩⟩
theorem ok_BadNumber_init (T : Tx w K mg a) : FnOk P w K mg base CX0 1 a.f_BadNumber_init a.d_BadNumber_init ["self", "number"] (spErrInit a.C_BadNumber "number") := by
  refine T.F_BadNumber_init.ok sc_BadNumber_init (fun vs H Q E h => ?_) (fun cdv A outer s H vs Q E hr h => ?_)
  · obtain ⟨x, v, rfl, _⟩ := h
    rfl
  · obtain ⟨x, v, rfl, hx, q⟩ := h
    refine ⟨_, 
(pss_one (ps_ost (pv 0) (pv 1))), ?_⟩
    exact ⟨v, rfl, .ref x, rfl, x, a.C_BadNumber, rfl, T.ox_BadNumber.o, T.ox_BadNumber.no, .inl ⟨hx, fun dx n ne => q dx n ne⟩⟩
theorem ok_BadRow_init (T : Tx w K mg a) : FnOk P w K mg base CX0 1 a.f_BadRow_init a.d_BadRow_init ["self", "index"] (spErrInit a.C_BadRow "index") := by
  refine T.F_BadRow_init.ok sc_BadRow_init (fun vs H Q E h => ?_) (fun cdv A outer s H vs Q E hr h => ?_)
  · obtain ⟨x, v, rfl, _⟩ := h
    rfl
  · obtain ⟨x, v, rfl, hx, q⟩ := h
    refine ⟨_, 
(pss_one (ps_ost (pv 0) (pv 1))), ?_⟩
    exact ⟨v, rfl, .ref x, rfl, x, a.C_BadRow, rfl, T.ox_BadRow.o, T.ox_BadRow.no, .inl ⟨hx, fun dx n ne => q dx n ne⟩⟩
theorem made_same {H H1 : Hp} {x dx C : Addr} {f : Str} {v : V} (s : Same H H1) (hx : H1 x = none) (hd : H1 dx = none) : Same H (upd (del (upd (upd (upd H1 x (exo x C none)) dx (exd dx [(f, v)])) x (exo x C (some dx))) x) dx (.xd [(f, v)])) := fun b o e => by
  have e1 := s b o e
  have nx := ne_of_none e1 hx
  have nd := ne_of_none e1 hd
  rw [upd_ne nd, del_ne nx, upd_ne nx, upd_ne nd, upd_ne nx]
  exact e1
theorem err_end {H H1 : Hp} {C : Addr} {f : Str} {v : V} {E : XK} (s1 : Same H H1) (hE : ∀ H' d, Same H H' → H' d = some (.xd [(f, v)]) → E (.ref C) (some d) H') : ∀ x, H1 x = none →
    spErrInit C f [.ref x, v] (upd H1 x (exo x C none)) (fun u H2 => u = .non ∧ ∃ (d : Addr) (fs : List (Str × V)), H2 x = some (exo x C (some d)) ∧ H2 d = some (exd d fs) ∧ H1 d = none ∧ E (.ref C) (some d) (upd (del H2 x) d (.xd fs))) (fun _ _ _ => False) := by
  intro x hx
  refine ⟨x, v, rfl, upd_same, fun dx hd ne => ⟨rfl, dx, [(f, v)], upd_same, ?_, ?_, ?_⟩⟩
  · rw [upd_ne ne]
    exact upd_same
  · rw [upd_ne ne] at hd
    exact hd
  · have hd1 : H1 dx = none := by
      rw [upd_ne ne] at hd
      exact hd
    exact hE _ dx (made_same s1 hx hd1) upd_same
end

/-! ### lambdas as values: made, tracked, called -/
open LamX hiding takes0
/-- a function made by a lambda stands at f -/
def lamO (q : Str) (ar : Arguments) (bo : Expr) (sc : Scope) (cl : List (Str × Addr)) (f c : Addr) : HO := .ext fun h => ∃ pm cv : Value, h.get? f = some (PySem.W.kla_obj "<lambda>" q ar bo sc cl pm c cv)
theorem lamO_ne {q : Str} {ar : Arguments} {bo : Expr} {sc : Scope} {cl : List (Str × Addr)} {f c : Addr} (ps : Array Value) : lamO q ar bo sc cl f c ≠ .tbl ps := fun z => by
  unfold lamO at z
  cases z
theorem lamO_at {P : Program} {w : World} {H : Hp} {h : Heap} {q : Str} {ar : Arguments} {bo : Expr} {sc : Scope} {cl : List (Str × Addr)} {f c : Addr} (k : HOk P w H h) (e : H f = some (lamO q ar bo sc cl f c)) : ∃ pm cv : Value, h.get? f = some (PySem.W.kla_obj "<lambda>" q ar bo sc cl pm c cv) := (k f _ e).1
section
variable {X : Cx} {pins : List (Addr × Obj)} {σ : L2.St} {H : Hp} {s : Shared}
/-- the lambda is made and tracked -/
theorem lam_new {T : List (Addr × Str)} {c P : Addr} {ar : Arguments} {bo : Expr} {sc : Scope} {pos : Pos} {E Q : Value → Shared → Prop} (I : Inv X pins σ H s) (TB : TabB X.base X.mg c P) (hcode : X.env.code = .ref c)
    (hm : (P, X.env.qual ++ "<lambda>") ∈ T) (hu : ∀ p ∈ T, p.1 = P → p.2 = X.env.qual ++ "<lambda>") (hT : Tabs T H) (hdef : defaultsOf ar X.env = ([], [])) (hfree : ∀ y ∈ sc.names, y.2 = .free → ∃ c, X.env.cells.lookup y.1 = some c)
    (h : ∀ (f c' : Addr) (H1 : Hp) (s' : Shared), Inv X pins σ H1 s' → ExtN H H1 → (∀ b, H1 b = none → H b = none) → Tabs T H1 → H f = none →
      H1 f = some (lamO (X.env.qual ++ "<lambda>") ar bo sc (cloFrom X.env.cells sc.names []) f c') → H1 c' = some (CodeO c' (X.env.qual ++ "<lambda>")) → Q (.ref f) s') :
    wpAny (model X.prog X.w) X.A (eval (.Lambda ar bo sc pos) X.env) Q E s := by
  obtain ⟨tb, hP, ht, ha⟩ := hT _ hm
  refine PySem.W.kla_eval hdef ?_
  have gP : s.heap.get? P = some { cls := .none, data := .fields tb } := I.hok P _ hP
  have kbm : s.heap.BuiltinsAt X.mg P := TB.bm.keeps I.bk
  -- what stands at the end, from the heap in which the code object is known
  have fin : ∀ (c' : Addr) (cv : Value) (g : Heap) (tk : Nat) (H1 : Hp), Inv X pins σ H1 { s with heap := g, toks := tk } → s.heap.objs.size ≤ g.objs.size → ExtN H H1 → (∀ b, H1 b = none → H b = none) → Tabs T H1 → H1 c' = some (CodeO c' (X.env.qual ++ "<lambda>")) →
      Q (.ref g.objs.size) { s with heap := g.push (PySem.W.kla_obj "<lambda>" (X.env.qual ++ "<lambda>") ar bo sc (cloFrom X.env.cells sc.names []) ((X.mg "__name__").getD .none) c' cv), toks := tk } := by
    intro c' cv g tk H1 I1 hz eN fr T1 hc
    have nf : H1 g.objs.size = none := I1.hok.fresh (Nat.le_refl _)
    have I2 := I1.laid (a := g.objs.size) (o := lamO (X.env.qual ++ "<lambda>") ar bo sc (cloFrom X.env.cells sc.names []) g.objs.size c') (t' := tk)
      (h' := g.push (PySem.W.kla_obj "<lambda>" (X.env.qual ++ "<lambda>") ar bo sc (cloFrom X.env.cells sc.names []) ((X.mg "__name__").getD .none) c' cv)) (fun b u e => Heap.get?_push_of_some _ e) (Nat.le_refl _)
      ⟨⟨_, _, Heap.get?_push_size _ rfl⟩, ⟨_, Heap.get?_push_size _ rfl⟩, fun h1 h2 ⟨pm, cw, e⟩ st => ⟨pm, cw, st _ e⟩⟩
    have kp : ∀ b o, H1 b = some o → upd H1 g.objs.size (lamO (X.env.qual ++ "<lambda>") ar bo sc (cloFrom X.env.cells sc.names []) g.objs.size c') b = some o := fun b o e => by
      rw [upd_ne (ne_of_none e nf)]
      exact e
    refine h _ c' _ _ I2 (eN.trans (ExtN.of kp)) (fun b e => fr b ?_) (T1.ext kp) (I.hok.fresh hz) upd_same (kp _ _ hc)
    by_cases hb : b = g.objs.size
    · rw [hb]
      exact nf
    · rw [upd_ne hb] at e
      exact e
  cases hc : codeAmong pos tb.toList with
  | some cv =>
    obtain ⟨c', rfl, hco⟩ := ha pos cv hc
    refine PySem.W.kla_makeFunctionHit (mg := X.mg) (c := c) (P := P) (ps := tb) (closure_ok hfree) I.ok.glob (I.mod.glob.keeps I.bk) hcode (TB.code.keeps I.bk) gP ht hc kbm fun cw g tk kp hz => ?_
    exact fin c' cw g tk H (I.kept kp) hz (ExtN.refl H) (fun _ e => e) hT hco
  | none =>
    refine PySem.W.kla_makeFunction (mg := X.mg) (c := c) (P := P) (ps := tb) (closure_ok hfree) I.ok.glob (I.mod.glob.keeps I.bk) hcode (TB.code.keeps I.bk) gP ht hc TB.gP kbm fun c' cw g tk hx hge hlt hrec htb => ?_
    obtain ⟨c2, oc, vs, t, e2, hoc, hd, hv⟩ := hrec
    cases e2
    have nC : H c' = none := I.hok.fresh hge
    have I1 := inv_table (t' := tk) (more := #[rawInt pos.line, rawInt pos.col, .ref c']) (q := X.env.qual ++ "<lambda>") I hP hx htb hge ⟨oc, vs, t, hoc, hd, hv⟩
    have eN : ExtN H (upd (upd H P (.tbl (tb ++ #[rawInt pos.line, rawInt pos.col, .ref c']))) c' (CodeO c' (X.env.qual ++ "<lambda>"))) := fun b o e n => by
      have n1 : b ≠ P := fun z => n tb (Option.some.inj (e.symm.trans (z ▸ hP)))
      rw [upd_ne (ne_of_none e nC), upd_ne n1]
      exact e
    refine fin c' cw g tk _ I1 (Nat.le_trans hge (Nat.le_of_lt hlt)) eN (fun b e => ?_) (fun p hp => ?_) upd_same
    · by_cases hb : b = c'
      · rw [hb]
        exact nC
      · by_cases hb2 : b = P
        · rw [upd_ne hb, hb2, upd_same] at e
          cases e
        · rw [upd_ne hb, upd_ne hb2] at e
          exact e
    · by_cases hb : p.1 = P
      · rw [hu p hp hb, hb]
        have el : (tb ++ #[rawInt pos.line, rawInt pos.col, .ref c']).toList = tb.toList ++ [rawInt pos.line, rawInt pos.col, .ref c'] := by simp
        refine ⟨_, by rw [upd_ne (ne_of_none hP nC)]; exact upd_same, by rw [el]; exact PySem.TriplesOk_snoc _ _ _ _ ht, fun p' cv hcv => ?_⟩
        rw [el] at hcv
        rcases among_app _ ht hcv with z | z
        · obtain ⟨c0, e1, e2⟩ := ha p' cv z
          exact ⟨c0, e1, eN _ _ e2 codeO_ne⟩
        · exact ⟨c', z, upd_same⟩
      · obtain ⟨tb', a1, a2, a3⟩ := hT p hp
        refine ⟨tb', by rw [upd_ne (ne_of_none a1 nC), upd_ne hb]; exact a1, a2, fun p' cv hcv => ?_⟩
        obtain ⟨c0, e1, e2⟩ := a3 p' cv hcv
        exact ⟨c0, e1, eN _ _ e2 codeO_ne⟩
end
/-! ### cells held as they are, let go, held again -/
def celF (o : Obj) : HO := .frz o (.ext fun _ => True)
/-- the cells that an environment names -/
def csOf (cl : List (Str × Addr)) : List Addr := cl.filterMap fun p => cl.lookup p.1
theorem mem_csOf {cl : List (Str × Addr)} {c : Addr} : c ∈ csOf cl ↔ ∃ x, cl.lookup x = some c := by
  unfold csOf
  rw [List.mem_filterMap]
  refine ⟨fun ⟨p, _, e⟩ => ⟨p.1, e⟩, fun ⟨x, e⟩ => ⟨(x, c), PySem.mem_of_lookup e, e⟩⟩
def heldH (cs : List Addr) (h : Heap) (H : Hp) : Hp := fun b => if b ∈ cs then (h.get? b).map celF else H b
def freedH (cs : List Addr) (H : Hp) : Hp := fun b => if b ∈ cs then none else H b
def againH (cs : List Addr) (G H : Hp) : Hp := fun b => if b ∈ cs then G b else H b
theorem heldH_ne {cs : List Addr} {h : Heap} {H : Hp} {b : Addr} (n : b ∉ cs) : heldH cs h H b = H b := if_neg n
theorem freedH_ne {cs : List Addr} {H : Hp} {b : Addr} (n : b ∉ cs) : freedH cs H b = H b := if_neg n
theorem freedH_in {cs : List Addr} {H : Hp} {b : Addr} (n : b ∈ cs) : freedH cs H b = none := if_pos n
theorem againH_ne {cs : List Addr} {G H : Hp} {b : Addr} (n : b ∉ cs) : againH cs G H b = H b := if_neg n
theorem againH_in {cs : List Addr} {G H : Hp} {b : Addr} (n : b ∈ cs) : againH cs G H b = G b := if_pos n
theorem freed_some {cs : List Addr} {H : Hp} {b : Addr} {o : HO} (e : freedH cs H b = some o) : b ∉ cs ∧ H b = some o := by
  by_cases n : b ∈ cs
  · rw [freedH_in n] at e
    cases e
  · exact ⟨n, by rw [freedH_ne n] at e; exact e⟩
/-- what is known behind a run for which the cells cs were let go -/
structure Und (cs : List Addr) (G H : Hp) : Prop where
  off : ∀ b ∈ cs, H b = none
  frz : ∀ b o u, freedH cs G b = some (.frz o u) → H b = some (.frz o u)
/-- the cells cs stand held in H -/
def CellsF (cs : List Addr) (H : Hp) : Prop := ∀ b ∈ cs, ∃ o, H b = some (celF o)
section
variable {P : Program} {w : World} {H H1 H2 : Hp} {h h' : Heap} {cs : List Addr}
theorem hok_freed (k : HOk P w H h) (C : CellsF cs H) : HOk P w (freedH cs H) h := fun b o e => by
  obtain ⟨n, e⟩ := freed_some e
  refine (k b o e).stay (fun _ _ _ q => q) (fun d q => ?_) fun d xs q => ?_
  · rw [freedH_ne fun z => ?_]
    · exact q
    · obtain ⟨o', e'⟩ := C d z
      rw [q] at e'
      cases e'
  · rw [freedH_ne fun z => ?_]
    · exact q
    · obtain ⟨o', e'⟩ := C d z
      rw [q] at e'
      cases e'
theorem hok_again (k : HOk P w H2 h') (C : CellsF cs H) (n : ∀ b ∈ cs, H2 b = none) (st : ∀ b ∈ cs, ∀ o, H b = some (celF o) → h'.get? b = some o) : HOk P w (againH cs H H2) h' := fun b o e => by
  by_cases hb : b ∈ cs
  · rw [againH_in hb] at e
    obtain ⟨ob, e'⟩ := C b hb
    rw [e] at e'
    cases e'
    exact ⟨st b hb ob e, trivial, ⟨ob, st b hb ob e⟩, fun _ _ _ _ => trivial⟩
  · rw [againH_ne hb] at e
    refine (k b o e).stay (fun _ _ _ q => q) (fun d q => ?_) fun d xs q => ?_
    · rw [againH_ne fun z => ?_]
      · exact q
      · rw [n d z] at q
        cases q
    · rw [againH_ne fun z => ?_]
      · exact q
      · rw [n d z] at q
        cases q
/-- the state of a call, the cells let go -/
theorem env0_freed {K : PySem.W.Frag} {mg : Str → Option Value} {base : Heap} {A : Around} {outer : List Env} {s : Shared} (e : Env0 P w K mg base A outer s H) (C : CellsF cs H) : Env0 P w K mg base A outer s (freedH cs H) :=
  ⟨e.frames, e.mod, fun b o q => ⟨(e.bs b o q).1, by
    by_cases n : b ∈ cs
    · exact freedH_in n
    · rw [freedH_ne n]
      exact (e.bs b o q).2⟩, e.bsz, e.funs, fun b hb => by
    by_cases n : b ∈ cs
    · exact freedH_in n
    · rw [freedH_ne n]
      exact e.frf b hb, hok_freed e.hok C, e.bare⟩
theorem un_again {fs : List Addr} (u : Un fs [] (freedH cs H) H2 h h') (C : CellsF cs H) : Un fs [] H (againH cs H H2) h h' := by
  have nin : ∀ {b : Addr}, H b = none → b ∉ cs := fun {b} e z => by
    obtain ⟨o, e'⟩ := C b z
    rw [e] at e'
    cases e'
  have thru : ∀ {b : Addr} {o : HO}, H b = some o → (∀ ob, o ≠ celF ob) → b ∉ cs ∧ freedH cs H b = some o := fun {b o} e ne => by
    have nb : b ∉ cs := fun z => by
      obtain ⟨ob, e'⟩ := C b z
      rw [e] at e'
      exact ne ob (Option.some.inj e')
    exact ⟨nb, by rw [freedH_ne nb]; exact e⟩
  refine ⟨fun b o e n hb hx => u.keep b o e (by rw [freedH_ne (nin n)]; exact n) hb hx, fun b o e n hb hx => u.slot b o e (by rw [freedH_ne (nin n)]; exact n) hb hx, fun b o e n hx => ?_, u.there, fun b xs e => ?_, fun b o v e => ?_, fun b ps e => ?_⟩
  · rw [againH_ne (nin n)]
    exact u.free b o e (by rw [freedH_ne (nin n)]; exact n) hx
  · obtain ⟨n, e'⟩ := thru e fun _ z => by cases z
    rw [againH_ne n]
    exact u.tups b xs e'
  · by_cases n : b ∈ cs
    · rw [againH_in n]
      exact e
    · rw [againH_ne n]
      exact u.frzs b o v (by rw [freedH_ne n]; exact e)
  · obtain ⟨n, e'⟩ := thru e fun _ z => by cases z
    obtain ⟨more, e2⟩ := u.tbls b ps e'
    exact ⟨more, by rw [againH_ne n]; exact e2⟩
/-- what a call that was made with the cells let go has come to -/
theorem CE_again {K : PySem.W.Frag} {mg : Str → Option Value} {base : Heap} {A : Around} {outer : List Env} {s s' : Shared} {Q : VK} {u : Value} (e0 : Env0 P w K mg base A outer s H) (C : CellsF cs H)
    (q : CE outer P w (freedH cs H) s (fun v H' => Und cs H H' → Q v (againH cs H H')) u s') : CE outer P w H s Q u s' := by
  obtain ⟨v, H2, os, bare, un, hok, r, qq⟩ := q
  have no : ∀ b ∈ cs, ∀ o, H b = some (celF o) → s'.heap.get? b = some o ∧ H2 b = none := fun b hb o e => by
    have h1 := (e0.hok b _ e).1
    have nf : b ∉ frs outer := fun z => by
      rw [e0.frf b z] at e
      cases e
    exact ⟨un.keep b o h1 (freedH_in hb) nf (by simp), un.free b o h1 (freedH_in hb) (by simp)⟩
  have off : ∀ b ∈ cs, H2 b = none := fun b hb => by
    obtain ⟨o, e⟩ := C b hb
    exact (no b hb o e).2
  exact ⟨v, againH cs H H2, os, bare, un_again un C, hok_again hok C off (fun b hb o e => (no b hb o e).1), r, qq ⟨off, un.frzs⟩⟩
theorem CX_again {K : PySem.W.Frag} {mg : Str → Option Value} {base : Heap} {A : Around} {outer : List Env} {s s' : Shared} {E : XK} {u : Value} (e0 : Env0 P w K mg base A outer s H) (C : CellsF cs H)
    (q : L2.CX P w outer (freedH cs H) s (fun cls d H' => Und cs H H' → E cls d (againH cs H H')) u s') : L2.CX P w outer H s E u s' := by
  obtain ⟨a, B, H2, cls, d, ea, fl, hok, ub, na, os, bare, qq⟩ := q
  have no : ∀ b ∈ cs, ∀ o, H b = some (celF o) → B.get? b = some o ∧ H2 b = none := fun b hb o e => by
    have h1 := (e0.hok b _ e).1
    have nf : b ∉ frs outer := fun z => by
      rw [e0.frf b z] at e
      cases e
    exact ⟨ub.keep b o h1 (freedH_in hb) nf, ub.free b o h1 (freedH_in hb)⟩
  have nin : ∀ {b : Addr}, H b = none → b ∉ cs := fun {b} e z => by
    obtain ⟨o, e'⟩ := C b z
    rw [e] at e'
    cases e'
  have thru : ∀ {b : Addr} {o : HO}, H b = some o → (∀ ob, o ≠ celF ob) → b ∉ cs ∧ freedH cs H b = some o := fun {b o} e ne => by
    have nb : b ∉ cs := fun z => by
      obtain ⟨ob, e'⟩ := C b z
      rw [e] at e'
      exact ne ob (Option.some.inj e')
    exact ⟨nb, by rw [freedH_ne nb]; exact e⟩
  have off : ∀ b ∈ cs, H2 b = none := fun b hb => by
    obtain ⟨o, e⟩ := C b hb
    exact (no b hb o e).2
  refine ⟨a, B, againH cs H H2, cls, d, ea, fl, hok_again hok C off (fun b hb o e => (no b hb o e).1), ⟨fun b o e n hb => ub.keep b o e (by rw [freedH_ne (nin n)]; exact n) hb, ub.slot, fun b o e n => ?_, ub.there, fun b xs e => ?_, fun b o v e => ?_, fun b ps e => ?_⟩, ?_, os, bare, qq ⟨off, ub.frzs⟩⟩
  · rw [againH_ne (nin n)]
    exact ub.free b o e (by rw [freedH_ne (nin n)]; exact n)
  · obtain ⟨n, e'⟩ := thru e fun _ z => by cases z
    rw [againH_ne n]
    exact ub.tups b xs e'
  · by_cases n : b ∈ cs
    · rw [againH_in n]
      exact e
    · rw [againH_ne n]
      exact ub.frzs b o v (by rw [freedH_ne n]; exact e)
  · obtain ⟨n, e'⟩ := thru e fun _ z => by cases z
    obtain ⟨more, e2⟩ := ub.tbls b ps e'
    exact ⟨more, by rw [againH_ne n]; exact e2⟩
  · by_cases n : a ∈ cs
    · obtain ⟨o, e⟩ := C a n
      have z := (no a n o e).1
      rw [fl.2.1] at z
      cases z
    · rw [againH_ne n]
      exact na
end
/-! ### thunks -/
def Firm (o : HO) : Prop := (∃ ob u, o = .frz ob u) ∨ ∃ φ, o = .ext φ
/-- at f stands what may be called without arguments, and then keeps sp -/
def Thk (P : Program) (w : World) (K : PySem.W.Frag) (mg : Str → Option Value) (base : Heap) (k : Nat) (H : Hp) (f : Addr) (sp : Hp → VK → XK → Prop) : Prop :=
  ∃ fs : List Addr, (∀ b ∈ fs, ∃ o, H b = some o ∧ Firm o) ∧ ∀ (A : Around) (outer : List Env) (s : Shared) (G : Hp), (∀ b ∈ fs, G b = H b) → Env0 P w K mg base A outer s G → PySem.W.FnAt f s.heap ∧ ∀ (Q : VK) (E : XK), Room k A → sp G Q E →
    codeAny (model P w) A (.call (.ref f) ⟨[], []⟩) (CR (L2.CX P w) outer P w G s Q E) s
theorem Thk.keep {P : Program} {w : World} {K : PySem.W.Frag} {mg : Str → Option Value} {base : Heap} {k : Nat} {H G : Hp} {f : Addr} {sp : Hp → VK → XK → Prop} (t : Thk P w K mg base k H f sp) (e : ∀ b o, H b = some o → Firm o → G b = some o) : Thk P w K mg base k G f sp := by
  obtain ⟨fs, h1, h2⟩ := t
  have q : ∀ b ∈ fs, G b = H b := fun b hb => by
    obtain ⟨o, ho, fo⟩ := h1 b hb
    rw [ho]
    exact e b o ho fo
  refine ⟨fs, fun b hb => ?_, fun A outer s G' hb => h2 A outer s G' fun b z => (hb b z).trans (q b z)⟩
  rw [q b hb]
  exact h1 b hb
theorem Thk.mono {P : Program} {w : World} {K : PySem.W.Frag} {mg : Str → Option Value} {base : Heap} {j k : Nat} {H : Hp} {f : Addr} {sp : Hp → VK → XK → Prop} (t : Thk P w K mg base j H f sp) (h : j ≤ k) : Thk P w K mg base k H f sp := by
  obtain ⟨fs, h1, h2⟩ := t
  exact ⟨fs, h1, fun A outer s G hb e0 => ⟨(h2 A outer s G hb e0).1, fun Q E hr => (h2 A outer s G hb e0).2 Q E (hr.mono h)⟩⟩
theorem Thk.imp {P : Program} {w : World} {K : PySem.W.Frag} {mg : Str → Option Value} {base : Heap} {k : Nat} {H : Hp} {f : Addr} {sp sp' : Hp → VK → XK → Prop} (t : Thk P w K mg base k H f sp) (h : ∀ G Q E, sp' G Q E → sp G Q E) : Thk P w K mg base k H f sp' := by
  obtain ⟨fs, h1, h2⟩ := t
  exact ⟨fs, h1, fun A outer s G hb e0 => ⟨(h2 A outer s G hb e0).1, fun Q E hr q => (h2 A outer s G hb e0).2 Q E hr (h G Q E q)⟩⟩
theorem Thk.imp2 {P : Program} {w : World} {K : PySem.W.Frag} {mg : Str → Option Value} {base : Heap} {k : Nat} {H : Hp} {f : Addr} {sp sp' : Hp → VK → XK → Prop} {cs : List Addr} (t : Thk P w K mg base k H f sp) (hc : ∀ b ∈ cs, ∃ o, H b = some o ∧ Firm o) (h : ∀ G Q E, (∀ b ∈ cs, G b = H b) → sp' G Q E → sp G Q E) : Thk P w K mg base k H f sp' := by
  obtain ⟨fs, h1, h2⟩ := t
  refine ⟨fs ++ cs, fun b hb => (List.mem_append.mp hb).elim (h1 b) (hc b), fun A outer s G hb e0 => ?_⟩
  obtain ⟨a1, a2⟩ := h2 A outer s G (fun b z => hb b (List.mem_append_left _ z)) e0
  exact ⟨a1, fun Q E hr q => a2 Q E hr (h G Q E (fun b z => hb b (List.mem_append_right _ z)) q)⟩
/-- what a lambda of the def of X keeps -/
structure LamOk (X : Cx) (k : Nat) (ar : Arguments) (bo : Expr) (sc : Scope) (t : XK → TE) : Prop where
  L : LamS X.env.scope sc
  bind : ∀ (q : Str) (cl : List (Str × Addr)) (pm cv ctv : Value), bindArgs (PySem.W.kla_fn "<lambda>" q ar bo sc cl pm cv ctv) ⟨[], []⟩ = pure []
  body : ∀ (A : Around) (outer : List Env) (s : Shared) (H : Hp) (E : XK) (f c' : Addr), Room k (A.deeper (lamEnv X sc s.heap.objs.size f c')) → PE (lamCx X A outer s H E sc f c') bo (t E)
/-- the captured cells, held -/
structure CapsAt (X : Cx) (sc : Scope) (σ : L2.St) (H : Hp) : Prop where
  inj : ∀ x y c, X.env.cells.lookup x = some c → X.env.cells.lookup y = some c → x = y
  at_ : ∀ y ∈ sc.names, y.2 = .free → ∃ (c : Addr) (o : Obj) (u : Option Value), X.env.cells.lookup y.1 = some c ∧ H c = some (celF o) ∧ o.data = .cell u ∧ ∀ (i : Nat) (v : V), X.N[i]? = some y.1 → σ[i]? = some (some v) → ∃ u', u = some u' ∧ RelV v u'
  len : σ.length = X.N.length
def capCs (X : Cx) (sc : Scope) : List Addr := csOf (cloFrom X.env.cells sc.names [])
theorem clo_in {X : Cx} {sc : Scope} (hfree : ∀ y ∈ sc.names, y.2 = .free → ∃ c, X.env.cells.lookup y.1 = some c) {x : Str} {c : Addr} (e : (cloFrom X.env.cells sc.names []).lookup x = some c) : (x, NameKind.free) ∈ sc.names ∧ X.env.cells.lookup x = some c := by
  rcases cloFrom_mem (PySem.mem_of_lookup e) with hm | ⟨h1, h2⟩
  · cases hm
  · obtain ⟨c1, hc⟩ := hfree _ h1 rfl
    have hc : X.env.cells.lookup x = some c1 := hc
    have e2 : c = c1 := by
      rw [h2, hc] <;> rfl
    rw [e2]
    exact ⟨h1, hc⟩
theorem clo_at {X : Cx} {sc : Scope} (hfree : ∀ y ∈ sc.names, y.2 = .free → ∃ c, X.env.cells.lookup y.1 = some c) {x : Str} (h : (x, NameKind.free) ∈ sc.names) : ∃ c, (cloFrom X.env.cells sc.names []).lookup x = some c :=
  mem_lookup (cloFrom_has (cells := X.env.cells) (acc := []) h)
/-- the lambda's body begins: its cells are let go -/
theorem lam_begin {X : Cx} {A : Around} {outer : List Env} {E : XK} {sc : Scope} {f c' : Addr} {σ : L2.St} {s : Shared} {H : Hp} {h1 : Heap} {tk : Nat} (L : LamS X.env.scope sc) (e0 : Env0 X.prog X.w X.K X.mg X.base A outer s H) (hd : A.handled = none)
    (C : CapsAt X sc σ H) (CF : CellsF (capCs X sc) H) (hns : h1.Ns s.heap.objs.size fun y => ([] : List (Str × Value)).reverse.lookup y) (kp : ∀ b o, s.heap.get? b = some o → h1.get? b = some o) :
    Inv (lamCx X A outer s (freedH (capCs X sc) H) E sc f c') [] σ (freedH (capCs X sc) H) { s with heap := h1, toks := tk } := by
  have ef := env0_freed e0 CF
  have hfree : ∀ y ∈ sc.names, y.2 = .free → ∃ c, X.env.cells.lookup y.1 = some c := fun y hy hk => by
    obtain ⟨c, _, _, e, _⟩ := C.at_ y hy hk
    exact ⟨c, e⟩
  have noA : ∀ b : Addr, b ∉ (lamCx X A outer s (freedH (capCs X sc) H) E sc f c').ex := fun b z => absurd (show b ∈ ([] : List Addr) from z) (by simp)
  have isC : ∀ {x : Str} {c : Addr}, (cloFrom X.env.cells sc.names []).lookup x = some c → ∃ (o : Obj) (u : Option Value), h1.get? c = some o ∧ o.data = .cell u ∧ ∀ (i : Nat) (v : V), X.N[i]? = some x → σ[i]? = some (some v) → ∃ u', u = some u' ∧ RelV v u' := fun {x c} e => by
    obtain ⟨hy, hc⟩ := clo_in hfree e
    obtain ⟨c2, o, u, e2, e3, e4, e5⟩ := C.at_ _ hy rfl
    have e2 : X.env.cells.lookup x = some c2 := e2
    rw [hc] at e2
    cases e2
    exact ⟨o, u, kp _ _ (e0.hok _ _ e3).1, e4, e5⟩
  refine ⟨⟨e0.mod, L.kind, rfl, rfl, Nat.le_refl _, fun y z c e1 e2 => C.inj y z c (clo_in hfree e1).2 (clo_in hfree e2).2, fun y hy => ?_, fun y c z _ => ?_, fun _ => hd, Around.frames_deeper e0.frames, .inr ⟨rfl, rfl⟩, fun b z => absurd z (noA b), ef.bs, e0.bsz,
      fun b _ _ => noA b, fun b z => absurd z (noA b), e0.funs, ef.frf⟩, rfl, e0.bare, Un.kept kp, ⟨_, hns, fun i y v e1 e2 e3 => ?_⟩, fun y c e => ?_, ef.hok.fresh (Nat.le_refl _), fun y c e => ?_, fun q hq => absurd (show q ∈ ([] : List (Addr × Obj)) ++ [] from hq) (by simp), ?_, C.len⟩
  · have hy : sc.names.lookup y = some .cell ∨ sc.names.lookup y = some .free := hy
    rcases hy with hy | hy
    · exact absurd rfl (L.own _ (PySem.mem_of_lookup hy)).2
    · exact clo_at hfree (PySem.mem_of_lookup hy)
  · have z : false = true := z
    cases z
  · have e3 : Vis sc y := e3
    rcases e3 with k | k | k
    · exact absurd rfl (L.own _ (PySem.mem_of_lookup k)).1
    · exact absurd rfl (L.own _ (PySem.mem_of_lookup k)).2
    · obtain ⟨c, hc⟩ := clo_at hfree (PySem.mem_of_lookup k)
      obtain ⟨o, u, g1, g2, g3⟩ := isC hc
      obtain ⟨u', eu, r⟩ := g3 i v e1 e2
      exact ⟨u', r, .inr ⟨.inr k, c, hc, o, g1, by rw [g2, eu]⟩⟩
  · obtain ⟨o, u, g1, g2, _⟩ := isC e
    exact ⟨u, o, g1, g2⟩
  · exact freedH_in (mem_csOf.mpr ⟨y, e⟩)
  · intro b o q
    exact (ef.hok b o q).stay (fun c v _ r => kp c v r) (fun _ r => r) fun _ _ r => r
theorem caps_cells {X : Cx} {sc : Scope} {σ : L2.St} {H : Hp} (C : CapsAt X sc σ H) : CellsF (capCs X sc) H := fun b hb => by
  obtain ⟨x, e⟩ := mem_csOf.mp hb
  have hfree : ∀ y ∈ sc.names, y.2 = .free → ∃ c, X.env.cells.lookup y.1 = some c := fun y hy hk => by
    obtain ⟨c, _, _, e, _⟩ := C.at_ y hy hk
    exact ⟨c, e⟩
  obtain ⟨hy, hc⟩ := clo_in hfree e
  obtain ⟨c2, o, u, e2, e3, _⟩ := C.at_ _ hy rfl
  have e2 : X.env.cells.lookup x = some c2 := e2
  rw [hc] at e2
  cases e2
  exact ⟨o, e3⟩
/-- how a thunk made of a lambda is read: its body, with the cells let go -/
def spLam (X : Cx) (sc : Scope) (σ : L2.St) (t : XK → TE) : Hp → VK → XK → Prop := fun H Q E =>
  t (fun cls d H' => Und (capCs X sc) H H' → E cls d (againH (capCs X sc) H H')) σ (freedH (capCs X sc) H) fun v H' => Und (capCs X sc) H H' → Q v (againH (capCs X sc) H H')
theorem thk_of {X : Cx} {k : Nat} {ar : Arguments} {bo : Expr} {sc : Scope} {t : XK → TE} {σ : L2.St} {H : Hp} {f c' : Addr} (O : LamOk X k ar bo sc t) (hf : H f = some (lamO (X.env.qual ++ "<lambda>") ar bo sc (cloFrom X.env.cells sc.names []) f c'))
    (hc : H c' = some (CodeO c' (X.env.qual ++ "<lambda>"))) (C : CapsAt X sc σ H) : Thk X.prog X.w X.K X.mg X.base (k + 1) H f (spLam X sc σ t) := by
  refine ⟨f :: c' :: capCs X sc, fun b hb => ?_, fun A outer s G hb e0 => ?_⟩
  · rcases List.mem_cons.mp hb with rfl | hb
    · exact ⟨_, hf, .inr ⟨_, rfl⟩⟩
    rcases List.mem_cons.mp hb with rfl | hb
    · exact ⟨_, hc, .inr ⟨_, rfl⟩⟩
    obtain ⟨o, e⟩ := caps_cells C b hb
    exact ⟨_, e, .inl ⟨_, _, rfl⟩⟩
  have hf' := (hb f List.mem_cons_self).trans hf
  have hc' := (hb c' (List.mem_cons_of_mem _ List.mem_cons_self)).trans hc
  have hfree : ∀ y ∈ sc.names, y.2 = .free → ∃ c, X.env.cells.lookup y.1 = some c := fun y hy hk => by
    obtain ⟨c, _, _, e, _⟩ := C.at_ y hy hk
    exact ⟨c, e⟩
  have C' : CapsAt X sc σ G := ⟨C.inj, fun y hy hk => by
    obtain ⟨c, o, u, e1, e2, e3, e4⟩ := C.at_ y hy hk
    obtain ⟨c1, h1⟩ := clo_at hfree (x := y.1) (sc := sc) (by rw [← hk]; exact hy)
    have h2 := (clo_in hfree h1).2
    rw [e1] at h2
    cases h2
    exact ⟨c, o, u, e1, (hb c (List.mem_cons_of_mem _ (List.mem_cons_of_mem _ (mem_csOf.mpr ⟨_, h1⟩)))).trans e2, e3, e4⟩, C.len⟩
  obtain ⟨pm, cv, of⟩ := lamO_at e0.hok hf'
  obtain ⟨⟨oc, vs, tt, hoc, hdc, hvc⟩, _, _⟩ := e0.hok c' _ hc'
  have lim : s.heap.NoLimit := e0.mod.nolimit.keeps fun b o e => (e0.bs b o e).1
  refine ⟨⟨_, _, _, _, of⟩, fun Q E hr q => ?_⟩
  refine PySem.W.kla_callFunE hr.depth of rfl O.L.co O.L.gen rfl ⟨c', oc, vs, tt, rfl, hoc, hdc, hvc⟩ ?_
  rw [O.bind]
  refine wpAny_pure (wpAny_newFunctionEnv (fun y hy => (O.L.own y hy).2) (fun y hy => absurd hy (by simp)) (fun h1 hns hsb => ⟨lim.fresh _ hsb, ?_⟩) O.L.kind)
  show codeAny _ _ (.expr bo (lamEnv X sc s.heap.objs.size f c')) _ _
  have kp : ∀ b o, s.heap.get? b = some o → h1.get? b = some o := fun b o e => hsb.extBut b o (Nat.ne_of_lt (Heap.lt_size e)) (Heap.get?_push_of_some _ e)
  have J := lam_begin (E := fun cls d H' => Und (capCs X sc) G H' → E cls d (againH (capCs X sc) G H')) (f := f) (c' := c') (tk := s.toks + ([] : List (Str × Value)).length) O.L e0 hr.hd C' (caps_cells C') hns kp
  refine PySem.W.kla_codeExpr (wpAny_mono ((O.body A outer s _ _ f c' (hr.deeper _)).run [] _ σ _ (fun v H' => Und (capCs X sc) G H' → Q v (againH (capCs X sc) G H')) J q) (fun v s' hq => ?_) fun e s' hq => ?_)
  · obtain ⟨v', H', J', rv, qq⟩ := hq
    exact CE_again e0 (caps_cells C') ⟨v', H', J'.os, J'.bare, J'.base, J'.hok, rv, qq⟩
  · exact wpAny_mono (show wpAny _ _ (leaving (lamEnv X sc s.heap.objs.size f c') e) _ _ s' from hq) (fun _ s2 z => CX_again e0 (caps_cells C') z) fun e2 s2 z => CX_again e0 (caps_cells C') z
/-! ### the rules: a lambda as a value, a thunk called, a def called while the cells are held -/
/-- a lambda of the def of X stands at f -/
def LamAt (X : Cx) (k : Nat) (H : Hp) (f : Addr) (t : XK → TE) : Prop := ∃ ar bo sc c', H f = some (lamO (X.env.qual ++ "<lambda>") ar bo sc (cloFrom X.env.cells sc.names []) f c') ∧ H c' = some (CodeO c' (X.env.qual ++ "<lambda>")) ∧ LamOk X k ar bo sc t
theorem LamAt.keep {X : Cx} {k : Nat} {H G : Hp} {f : Addr} {t : XK → TE} (l : LamAt X k H f t) (e : ∀ b o, H b = some o → Firm o → G b = some o) : LamAt X k G f t := by
  obtain ⟨ar, bo, sc, c', h1, h2, h3⟩ := l
  exact ⟨ar, bo, sc, c', e _ _ h1 (.inr ⟨_, rfl⟩), e _ _ h2 (.inr ⟨_, rfl⟩), h3⟩
def tLamV (X : Cx) (k : Nat) (T : List (Addr × Str)) (t : XK → TE) : TE := fun σ H Q => Tabs T H ∧ ∀ (f : Addr) (H1 : Hp), ExtN H H1 → (∀ b, H1 b = none → H b = none) → Tabs T H1 → H f = none → LamAt X k H1 f t → Q (.ref f) H1
theorem pe_lam {X : Cx} {k : Nat} {T : List (Addr × Str)} {c P : Addr} {ar : Arguments} {bo : Expr} {sc : Scope} {pos : Pos} {t : XK → TE} (TB : TabB X.base X.mg c P) (hcode : X.env.code = .ref c) (hm : (P, X.env.qual ++ "<lambda>") ∈ T) (hu : ∀ p ∈ T, p.1 = P → p.2 = X.env.qual ++ "<lambda>")
    (hdef : defaultsOf ar X.env = ([], [])) (O : LamOk X k ar bo sc t) : PE X (.Lambda ar bo sc pos) (tLamV X k T t) := by
  refine ⟨fun pins s σ H Q I h => ?_⟩
  obtain ⟨hT, h⟩ := h
  exact lam_new I TB hcode hm hu hT hdef (O.L.has I.ok) fun f c' H1 s' I1 eN fr T1 nf hf hc => ⟨.ref f, H1, I1, rfl, h f H1 eN fr T1 nf ⟨_, _, _, _, hf, hc, O⟩⟩
/-- how a call of a thunk is read -/
def rThk (P : Program) (w : World) (K : PySem.W.Frag) (mg : Str → Option Value) (base : Heap) (k i : Nat) (W : WX) : TE := fun σ H Q => ∃ f sp, σ[i]? = some (some (.ref f)) ∧ Thk P w K mg base k H f sp ∧ sp H Q (WE W σ)
/-- a(), a thunk held by a name -/
theorem pe_thk {X : Cx} {k i : Nat} {a : Str} {W : WX} {p1 p2 : Pos} (hN : X.N[i]? = some a) (hv : Vis X.env.scope a) (hr : Room k X.A) (tk : Takes X W) (hd : (a == ("__debug__" : Str)) = false := by decide) (hcd : (a == ("__classdict__" : Str)) = false := by decide) :
    PE X (.Call (.Name a p1) [] [] p2) (rThk X.prog X.w X.K X.mg X.base k i W) := by
  refine ⟨fun pins s σ H Q I h => ?_⟩
  obtain ⟨f, sp, hs, ht, q⟩ := h
  refine wpAny_Call_Name_kw (thn ((pe_var (pos := p1) (i := i) hN hv hd hcd).run pins s σ H (fun v H1 => v = .ref f ∧ H1 = H) I ⟨.ref f, hs, rfl, rfl⟩) fun u s1 ⟨v, H1, I1, r1, ev, eH⟩ => ?_)
  subst ev
  rw [eH] at I1
  obtain rfl : u = Value.ref f := r1
  obtain ⟨fs, _, h2⟩ := ht
  obtain ⟨fa, run⟩ := h2 X.A X.stack s1 H (fun _ _ => rfl) I1.env0
  refine PySem.W.callWith_F0 fa (wpAny_call (codeAny_mono (run Q (WE W σ) hr q) fun r s' hq => ?_))
  cases r with
  | error e => exact passAt tk σ pins H s1 e s' I1 hq
  | ok fl =>
    cases fl with
    | ret u => exact I1.after hq
    | next => exact False.elim hq
    | brk => exact False.elim hq
    | cont => exact False.elim hq
/-- the cells of X's frame as they stand in h -/
structure HeldAt (X : Cx) (σ : L2.St) (H : Hp) (h : Heap) : Prop where
  off : ∀ c ∈ csOf X.env.cells, H c = none
  inj : ∀ x y c, X.env.cells.lookup x = some c → X.env.cells.lookup y = some c → x = y
  at_ : ∀ x c, X.env.cells.lookup x = some c → ∃ (o : Obj) (u : Option Value), h.get? c = some o ∧ o.data = .cell u ∧ ∀ (i : Nat) (v : V), X.N[i]? = some x → σ[i]? = some (some v) → (X.env.scope.names.lookup x = some .cell ∨ X.env.scope.names.lookup x = some .free) → ∃ u', u = some u' ∧ RelV v u'
  has : ∀ x, (X.env.scope.names.lookup x = some .cell ∨ X.env.scope.names.lookup x = some .free) → ∃ c, X.env.cells.lookup x = some c
  len : σ.length = X.N.length
theorem held_of {X : Cx} {pins : List (Addr × Obj)} {σ : L2.St} {H : Hp} {s : Shared} (I : Inv X pins σ H s) : HeldAt X σ H s.heap := by
  refine ⟨fun c hc => ?_, I.ok.inj, fun x c e => ?_, I.ok.has, I.len⟩
  · obtain ⟨x, e⟩ := mem_csOf.mp hc
    exact I.freeC x c e
  · obtain ⟨u, o, ho, hd⟩ := I.cell x c e
    refine ⟨o, u, ho, hd, fun i v e1 e2 e3 => ?_⟩
    obtain ⟨m, _, hl⟩ := I.loc
    obtain ⟨u', r, q⟩ := hl i x v e1 e2 (.inr e3)
    rcases q with ⟨k, _⟩ | ⟨_, c2, e4, o2, ho2, hd2⟩
    · exfalso
      have k : X.env.scope.names.lookup x = some .local := k
      rcases e3 with z | z <;> rw [k] at z <;> cases z
    · rw [e] at e4
      cases e4
      rw [ho] at ho2
      cases ho2
      rw [hd] at hd2
      cases hd2
      exact ⟨u', rfl, r⟩
section
variable {X : Cx} {σ : L2.St} {H : Hp} {h : Heap}
theorem HeldAt.celF (hh : HeldAt X σ H h) : CellsF (csOf X.env.cells) (heldH (csOf X.env.cells) h H) := fun b hb => by
  obtain ⟨x, e⟩ := mem_csOf.mp hb
  obtain ⟨o, u, ho, _⟩ := hh.at_ x b e
  exact ⟨o, by unfold heldH; rw [if_pos hb, ho]; rfl⟩
theorem HeldAt.same (hh : HeldAt X σ H h) : Same H (heldH (csOf X.env.cells) h H) := fun b o e => by
  rw [heldH_ne fun z => ?_]
  · exact e
  · rw [hh.off b z] at e
    cases e
theorem HeldAt.caps (hh : HeldAt X σ H h) {sc : Scope} (L : LamS X.env.scope sc) : CapsAt X sc σ (heldH (csOf X.env.cells) h H) := by
  refine ⟨hh.inj, fun y hy e => ?_, hh.len⟩
  have k := L.free y hy e
  obtain ⟨c, hc⟩ := hh.has _ k
  obtain ⟨o, u, h1, h2, h3⟩ := hh.at_ _ _ hc
  refine ⟨c, o, u, hc, ?_, h2, fun i v e1 e2 => h3 i v e1 e2 k⟩
  unfold heldH
  rw [if_pos (mem_csOf.mpr ⟨_, hc⟩), h1]
  rfl
theorem capCs_sub {sc : Scope} (hh : HeldAt X σ H h) (L : LamS X.env.scope sc) : ∀ b ∈ capCs X sc, b ∈ csOf X.env.cells := fun b hb => by
  obtain ⟨x, e⟩ := mem_csOf.mp hb
  exact mem_csOf.mpr ⟨x, (clo_in (fun y hy k => hh.has _ (L.free y hy k)) e).2⟩
/-- G is H' where the cells cs are held -/
structure Back (cs : List Addr) (H' G : Hp) : Prop where
  ne : ∀ b, b ∉ cs → G b = H' b
  cel : ∀ b ∈ cs, ∃ o, G b = some (celF o)
  off : ∀ b o, H' b = some o → (∀ ob, o ≠ celF ob) → b ∉ cs
/-- a lambda of a def that runs, as a thunk, while the cells are held -/
theorem LamAt.thk {k : Nat} {f : Addr} {t : XK → TE} (l : LamAt X k H f t) (hh : HeldAt X σ H h) : ∃ sp, Thk X.prog X.w X.K X.mg X.base (k + 1) (heldH (csOf X.env.cells) h H) f sp ∧
    ∀ (Q : VK) (E : XK), (∀ (H0 : Hp) (R : (Hp → Prop) → Hp → Prop), Same H H0 → (∀ b, H0 b = none → H b = none) → (∀ (C : Hp → Prop) (H' : Hp), (∀ G, Back (csOf X.env.cells) H' G → C G) → R C H') →
      t (fun cls d H' => R (E cls d) H') σ H0 fun v H' => R (Q v) H') → sp (heldH (csOf X.env.cells) h H) Q E := by
  obtain ⟨ar, bo, sc, c', h1, h2, O⟩ := l
  have hs := hh.same
  refine ⟨_, thk_of O (hs _ _ h1) (hs _ _ h2) (hh.caps O.L), fun Q E q => ?_⟩
  have sub := capCs_sub hh O.L
  have cf := hh.celF
  have bk : ∀ H', Und (capCs X sc) (heldH (csOf X.env.cells) h H) H' → Back (csOf X.env.cells) H' (againH (capCs X sc) (heldH (csOf X.env.cells) h H) H') := fun H' u => by
    have hcel : ∀ b ∈ csOf X.env.cells, b ∉ capCs X sc → ∃ o, H' b = some (celF o) := fun b hb n => by
      obtain ⟨o, e⟩ := cf b hb
      exact ⟨o, u.frz b o _ (by rw [freedH_ne n]; exact e)⟩
    refine ⟨fun b n => againH_ne fun z => n (sub b z), fun b hb => ?_, fun b o e ne hb => ?_⟩
    · by_cases n : b ∈ capCs X sc
      · rw [againH_in n]
        exact cf b hb
      · rw [againH_ne n]
        exact hcel b hb n
    · by_cases n : b ∈ capCs X sc
      · rw [u.off b n] at e
        cases e
      · obtain ⟨o', e'⟩ := hcel b hb n
        rw [e] at e'
        exact ne o' (Option.some.inj e')
  refine q (freedH (capCs X sc) (heldH (csOf X.env.cells) h H)) (fun C H' => Und (capCs X sc) (heldH (csOf X.env.cells) h H) H' → C (againH (capCs X sc) (heldH (csOf X.env.cells) h H) H')) (fun b o e => ?_) (fun b e => ?_) fun C H' z u => z _ (bk H' u)
  · rw [freedH_ne fun z => ?_]
    · exact hs b o e
    · rw [hh.off b (sub b z)] at e
      cases e
  · by_cases n : b ∈ csOf X.env.cells
    · exact hh.off b n
    · rw [freedH_ne (fun z => n (sub b z)), heldH_ne n] at e
      exact e
end
/-! ### a def called while the cells of the caller's frame are held -/
section
variable {X : Cx} {pins : List (Addr × Obj)} {σ : L2.St} {H : Hp} {s s' : Shared}
theorem env0_held (I : Inv X pins σ H s) (hfn : ∀ x, X.fn x = true) : Env0 X.prog X.w X.K X.mg X.base X.A X.stack s (heldH (csOf X.env.cells) s.heap H) := by
  have e0 := I.env0
  have hh := held_of I
  have ge : ∀ c ∈ csOf X.env.cells, X.s_0.heap.objs.size ≤ c := fun c hc => by
    obtain ⟨x, e⟩ := mem_csOf.mp hc
    exact I.ok.cab x c (hfn x) e
  refine ⟨e0.frames, e0.mod, fun b o q => ⟨(e0.bs b o q).1, ?_⟩, e0.bsz, e0.funs, fun b hb => ?_, fun b o e => ?_, e0.bare⟩
  · rw [heldH_ne fun z => ?_]
    · exact (e0.bs b o q).2
    · exact absurd (Nat.lt_of_lt_of_le (Heap.lt_size q) (Nat.le_trans I.ok.bsz (ge b z))) (Nat.lt_irrefl _)
  · rw [heldH_ne fun z => ?_]
    · exact e0.frf b hb
    · rcases List.mem_cons.mp (I.stkSub b hb) with e | hb
      · obtain ⟨x, q⟩ := mem_csOf.mp z
        exact I.cne x b q e
      · obtain ⟨_, o, ho, _⟩ := I.ok.funs.mem hb
        exact absurd (Nat.lt_of_lt_of_le (Heap.lt_size ho) (ge b z)) (Nat.lt_irrefl _)
  · by_cases hb : b ∈ csOf X.env.cells
    · obtain ⟨x, q⟩ := mem_csOf.mp hb
      obtain ⟨ob, u, ho, _⟩ := hh.at_ x b q
      unfold heldH at e
      rw [if_pos hb, ho] at e
      cases e
      exact ⟨ho, trivial, ⟨ob, ho⟩, fun _ _ _ _ => trivial⟩
    · rw [heldH_ne hb] at e
      refine (e0.hok b o e).stay (fun _ _ _ q => q) (fun d q => hh.same d _ q) fun d xs q => hh.same d _ q
/-- behind such a call -/
theorem ce_held {Q : VK} {u : Value} (I : Inv X pins σ H s) (hfn : ∀ x, X.fn x = true) (q : CE X.stack X.prog X.w (heldH (csOf X.env.cells) s.heap H) s (fun v G => CellsF (csOf X.env.cells) G → Q v (freedH (csOf X.env.cells) G)) u s') : CE X.stack X.prog X.w H s Q u s' := by
  obtain ⟨v, G, os, bare, un, hok, r, qq⟩ := q
  have hh := held_of I
  have cf : CellsF (csOf X.env.cells) G := fun b hb => by
    obtain ⟨o, e⟩ := hh.celF b hb
    exact ⟨o, un.frzs b o _ e⟩
  refine ⟨v, freedH (csOf X.env.cells) G, os, bare, ⟨fun b o e n hb hx => ?_, fun b o e n hb hx => ?_, fun b o e n hx => ?_, fun b o e hx => un.there b o e hx, fun b xs e => ?_, fun b o v e => ?_, fun b ps e => ?_⟩, hok_freed hok cf, r, qq cf⟩
  · by_cases z : b ∈ csOf X.env.cells
    · obtain ⟨ob, e2⟩ := hh.celF b z
      have h1 := ((env0_held I hfn).hok b _ e2).1
      rw [e] at h1
      cases h1
      exact (hok b _ (un.frzs b _ _ e2)).1
    · exact un.keep b o e (by rw [heldH_ne z]; exact n) hb hx
  · by_cases z : b ∈ csOf X.env.cells
    · obtain ⟨ob, e2⟩ := hh.celF b z
      have h1 := ((env0_held I hfn).hok b _ e2).1
      rw [e] at h1
      cases h1
      exact ⟨o.slots, (hok b _ (un.frzs b _ _ e2)).1⟩
    · exact un.slot b o e (by rw [heldH_ne z]; exact n) hb hx
  · by_cases z : b ∈ csOf X.env.cells
    · exact freedH_in z
    · rw [freedH_ne z]
      exact un.free b o e (by rw [heldH_ne z]; exact n) hx
  · have z : b ∉ csOf X.env.cells := fun z => by
      rw [hh.off b z] at e
      cases e
    rw [freedH_ne z]
    exact un.tups b xs (by rw [heldH_ne z]; exact e)
  · have z : b ∉ csOf X.env.cells := fun z => by
      rw [hh.off b z] at e
      cases e
    rw [freedH_ne z]
    exact un.frzs b o v (by rw [heldH_ne z]; exact e)
  · have z : b ∉ csOf X.env.cells := fun z => by
      rw [hh.off b z] at e
      cases e
    obtain ⟨more, q⟩ := un.tbls b ps (by rw [heldH_ne z]; exact e)
    exact ⟨more, by rw [freedH_ne z]; exact q⟩
end
/-- what is wanted behind a call while the cells are held -/
def HeldQ (X : Cx) (Q : VK) : VK := fun v G => CellsF (csOf X.env.cells) G → Q v (freedH (csOf X.env.cells) G)
def tCallH (X : Cx) (sp : Sp) (t : TA) : TE := fun σ H Q => t σ H fun vs H1 => ∀ h : Heap, HeldAt X σ H1 h → sp vs (heldH (csOf X.env.cells) h H1) (HeldQ X Q) L2.E0
/-- x(e, ..), the cells of X's frame held meanwhile -/
theorem pe_callH {X : Cx} {k : Nat} {f : Addr} {fd : FuncData} {ps : List Str} {sp : Sp} {x : Str} {p pos : Pos} {e : Expr} {es : List Expr} {t : TA} (F : FnOk X.prog X.w X.K X.mg X.base L2.CX0 k f fd ps sp) (hr : Room k X.A) (hg : Gl X x) (hm : X.mg x = some (.ref f)) (hk : PySem.W.keepIn X.K (.ref f) = true) (hb : Binds X.K fd ps [])
    (ha : PA X (e :: es) t) (hfn : ∀ x, X.fn x = true := by intro _; rfl) (hdb : (x == ("__debug__" : Str)) = false := by decide) (he : starEach (e :: es) X.env = (false, eval e X.env) :: starEach es X.env := by rfl) (hpl : (backTo pos (starEach es X.env)).any (·.1) = false := by rfl) :
    PE X (.Call (.Name x p) (e :: es) [] pos) (tCallH X sp t) := by
  refine ⟨fun pins s σ H Q I h => ?_⟩
  refine wpAny_Call_Name_kw (ld_glob I hg hm ?_ hdb)
  refine PySem.W.callWith_K (h₀ := X.base) I.ok.mod.kin hk (thn (ha.run pos pins s σ H _ I h) fun us s1 ⟨vs, H1, I1, r, q⟩ => ⟨I1.kIn, ?_⟩) he hpl
  have q := q s1.heap (held_of I1)
  have hl : us.length = ps.length := by
    rw [← r.length]
    exact F.len _ _ _ _ q
  have hl : (us ++ []).length = ps.length := by rw [List.append_nil]; exact hl
  have r2 : Vals vs (us ++ []) := by rw [List.append_nil]; exact r
  refine wpAny_call (codeAny_mono (F.run X.A X.stack s1 _ ⟨us, []⟩ (us ++ []) vs _ _ hr (env0_held I1 hfn) (hb s1 us I1.kIn hl) r2 q) fun r s' hq => ?_)
  cases r with
  | error e => exact False.elim hq
  | ok fl =>
    cases fl with
    | ret u => exact I1.after (ce_held I1 hfn hq)
    | next => exact False.elim hq
    | brk => exact False.elim hq
    | cont => exact False.elim hq
/-- what a tuple that was made while cells were held looks like behind -/
theorem freed_made {cs : List Addr} {H' G : Hp} {p : Addr} {o : HO} (bk : Back cs H' G) (np : G p = none) : p ∉ cs ∧ freedH cs (upd G p o) = upd (freedH cs H') p o := by
  have n : p ∉ cs := fun z => by
    obtain ⟨ob, e⟩ := bk.cel p z
    rw [np] at e
    cases e
  refine ⟨n, funext fun b => ?_⟩
  by_cases hb : b ∈ cs
  · rw [freedH_in hb, upd_ne (fun (z : b = p) => n (z ▸ hb)), freedH_in hb]
  · rw [freedH_ne hb]
    by_cases hp : b = p
    · rw [hp, upd_same, upd_same]
    · rw [upd_ne hp, upd_ne hp, freedH_ne hb, bk.ne b hb]

/-! ### defs that hand out lambdas: their cells are held from then on -/
/-- the end of a body: what is handed back, the cells held -/
def SPR (X : Cx) (R : VK) (f : Flow) (s' : Shared) : Prop := match f with
  | .ret u => ∃ (pins : List (Addr × Obj)) (v : V) (σ' : L2.St) (H' : Hp), Inv X pins σ' H' s' ∧ RelV v u ∧ R v (heldH (csOf X.env.cells) s'.heap H')
  | _ => False
structure PSr (X : Cx) (st : List Stmt) (t : VK → L2.St → Hp → Prop) : Prop where
  run : ∀ (pins : List (Addr × Obj)) (s : Shared) (σ : L2.St) (H : Hp) (R : VK), Inv X pins σ H s → t R σ H → wpAny (model X.prog X.w) X.A (execs st X.env) (SPR X R) X.xe s
def endR (u : L2.St → Hp → Prop) : Ends := { nx := u, rt := fun _ _ => False }
section
variable {X : Cx} {st : Stmt} {rest : List Stmt} {t : TS} {u : VK → L2.St → Hp → Prop} {e c : Expr} {te : TE} {tc : TT} {pos : Pos}
theorem psr_cons (h1 : PS X st t) (h2 : PSr X rest u) : PSr X (st :: rest) (fun R σ H => t (endR (u R)) σ H) := by
  refine ⟨fun pins s σ H R I h => wpAny_execs_cons (thn (h1.run pins s σ H (endR (u R)) I h) fun f s1 q => ?_)⟩
  cases f with
  | next =>
    obtain ⟨σ', H', I', q⟩ := q
    exact h2.run pins s1 σ' H' R I' q
  | ret v =>
    obtain ⟨_, _, _, _, _, z⟩ := q
    exact False.elim z
  | brk =>
    obtain ⟨_, _, _, z⟩ := q
    exact False.elim z
  | cont =>
    obtain ⟨_, _, _, z⟩ := q
    exact False.elim z
theorem psr_ret (he : PE X e te) : PSr X [.Return (some e) pos] (fun R σ H => te σ H fun v H1 => ∀ h, HeldAt X σ H1 h → R v (heldH (csOf X.env.cells) h H1)) := by
  refine ⟨fun pins s σ H R I h => wpAny_execs_cons (wpAny_Return_some (thn (he.run pins s σ H _ I h) fun v s1 q => ?_))⟩
  obtain ⟨x, H1, I1, r, q⟩ := q
  exact ⟨pins, x, σ, H1, I1, r, q s1.heap (held_of I1)⟩
theorem psr_if {a b : List Stmt} {ta tb : VK → L2.St → Hp → Prop} (hc : PT X c tc) (ha : PSr X a ta) (hb : PSr X b tb) : PSr X [.If c a b pos] (fun R σ H => tc σ H fun d H1 => if d = true then ta R σ H1 else tb R σ H1) := by
  refine ⟨fun pins s σ H R I h => wpAny_execs_cons (thn (wpAny_If (Q := SPR X R) (thn (hc.run pins s σ H _ I h) fun d s1 ⟨H1, I1, q1⟩ => ?_)) fun f s1 q => ?_)⟩
  · cases d with
    | true => exact ha.run pins s1 σ H1 R I1 q1
    | false => exact hb.run pins s1 σ H1 R I1 q1
  · cases f with
    | next => exact False.elim q
    | ret v => exact q
    | brk => exact q
    | cont => exact q
/-- if c: a; rest, where a hands something back -/
theorem psr_ifr {a : List Stmt} {ta : VK → L2.St → Hp → Prop} (hc : PT X c tc) (ha : PSr X a ta) (hb : PSr X rest u) : PSr X (.If c a [] pos :: rest) (fun R σ H => tc σ H fun d H1 => if d = true then ta R σ H1 else u R σ H1) := by
  refine ⟨fun pins s σ H R I h => wpAny_execs_cons (thn (wpAny_If (Q := fun f s' => match f with | .next => wpAny (model X.prog X.w) X.A (execs rest X.env) (SPR X R) X.xe s' | f => SPR X R f s') (thn (hc.run pins s σ H _ I h) fun d s1 ⟨H1, I1, q1⟩ => ?_)) fun f s1 q => ?_)⟩
  · cases d with
    | true =>
      refine thn (ha.run pins s1 σ H1 R I1 q1) fun f s2 q => ?_
      cases f with
      | next => exact False.elim q
      | ret v => exact q
      | brk => exact q
      | cont => exact q
    | false => exact wpAny_execs_nil (hb.run pins s1 σ H1 R I1 q1)
  · cases f with
    | next => exact q
    | ret v => exact q
    | brk => exact q
    | cont => exact q
end
/-- THE RULE for such a def -/
theorem FunL.okD {P : Program} {w : World} {K : PySem.W.Frag} {mg : Str → Option Value} {base : Heap} {x qual : Str} {st : Stmt} {f c : Addr} {fd : FuncData} {N ps : List Str} {k : Nat} {sp : Sp} (F : FunL K x qual st f fd c) (S : FnScope N ps (defScope st)) (len : ∀ vs H Q E, sp vs H Q E → vs.length = ps.length)
    (hbody : ∀ (A : Around) (outer : List Env) (s : Shared) (H : Hp) (vs : List V) (Q : VK) (E : XK), Room k (A.deeper (envOfC qual (defScope st) s.heap.objs.size f (.ref c))) → sp vs H Q E → ∃ t, PSr (cxOf C8.CX0 P w K mg base N qual (defScope st) f (.ref c) A outer s H E) (defBody st) t ∧ t Q (L2.start N vs) H) :
    FnOk P w K mg base CX0 (k + 1) f fd ps sp := by
  obtain ⟨oc, od, kV, doc, pm, an, ct, osl, e, lk, hcd⟩ := F.ex
  refine ⟨len, fun A outer s H args us vs Q E hr e0 hbt r h => ?_⟩
  rw [e] at lk hbt
  have hl := len _ _ _ _ h
  have keep : ∀ b o, base.get? b = some o → s.heap.get? b = some o := fun b o e => (e0.bs b o e).1
  have par : ∀ y ∈ ps.zip us, (defScope st).names.lookup y.1 = some .local ∨ ((defScope st).names.lookup y.1 = some .cell ∧ ((cellsFrom (s.heap.objs.size + 1) (defScope st).names []).lookup y.1).isSome = true) := fun ⟨n, v⟩ hy => by
    rcases S.par n (List.of_mem_zip hy).1 with q | q
    · exact .inl q
    · exact .inr ⟨q, PySem.W.cellsFrom_some _ _ _ (.inl q)⟩
  refine codeAny_call_function hr.depth ((e0.mod.kin.keeps keep) _ _ lk) rfl S.co S.gen rfl (PySem.W.codeRec_of (e0.mod.kin.keeps keep) hcd) (hbt _ _ _ _ ?_)
  refine wpAny_newFunctionEnv_cells S.kind par fun env he s1 z => ?_
  subst he
  refine ⟨(e0.mod.nolimit.keeps keep).keeps z.toInCall.keep, codeAny_func ?_⟩
  obtain ⟨t, ht, hq⟩ := hbody A outer s H vs Q E (hr.deeper _) h
  have I := inv_start (CX := C8.CX0) (E := E) (f := f) (cd := Value.ref c) S hr.hd e0 hl r z
  refine wpAny_mono (ht.run [] s1 (L2.start N vs) H Q I hq) (fun fl s' hs => ?_) fun e s' hs => hs
  cases fl with
  | next => exact False.elim hs
  | brk => exact False.elim hs
  | cont => exact False.elim hs
  | ret u =>
    obtain ⟨pins, v, σ', H', J, rv, q⟩ := hs
    have hh := held_of J
    have ge : ∀ b ∈ csOf (cxOf C8.CX0 P w K mg base N qual (defScope st) f (.ref c) A outer s H E).env.cells, s.heap.objs.size ≤ b := fun b hb => by
      obtain ⟨y, q⟩ := mem_csOf.mp hb
      exact J.ok.cab y b rfl q
    have nin : ∀ {b : Addr} {o : HO}, H' b = some o → b ∉ csOf (cxOf C8.CX0 P w K mg base N qual (defScope st) f (.ref c) A outer s H E).env.cells := fun {b o} e z => by
      rw [hh.off b z] at e
      cases e
    refine ⟨v, _, J.os, J.bare, ⟨J.base.keep, J.base.slot, fun b o e n hx => ?_, J.base.there, fun b xs e => ?_, fun b o y e => ?_, fun b ts e => ?_⟩, (env0_held J (fun _ => rfl)).hok, rv, q⟩
    · rw [heldH_ne fun z => ?_]
      · exact J.base.free b o e n hx
      · exact absurd (Nat.lt_of_lt_of_le (Heap.lt_size e) (ge b z)) (Nat.lt_irrefl _)
    · have e' := J.base.tups b xs e
      rw [heldH_ne (nin e')]
      exact e'
    · have e' := J.base.frzs b o y e
      rw [heldH_ne (nin e')]
      exact e'
    · obtain ⟨more, e'⟩ := J.base.tbls b ts e
      exact ⟨more, by rw [heldH_ne (nin e')]; exact e'⟩
/-- how a thunk is read whose cells are held for good -/
def spD (t : XK → TE) (σ : L2.St) : Hp → VK → XK → Prop := fun G Q E => ∀ (H0 : Hp) (R : (Hp → Prop) → Hp → Prop), (∀ b o, G b = some o → (∀ ob, o ≠ celF ob) → H0 b = some o) →
  (∀ (C : Hp → Prop) (H' : Hp), Same H0 H' → (∀ G', Same G G' → (∀ b o, H' b = some o → G' b = some o) → C G') → R C H') → t (fun cls d H' => R (E cls d) H') σ H0 fun v H' => R (Q v) H'
theorem LamAt.thkD {X : Cx} {σ : L2.St} {H : Hp} {h : Heap} {k : Nat} {f : Addr} {t : XK → TE} (l : LamAt X k H f t) (hh : HeldAt X σ H h) : Thk X.prog X.w X.K X.mg X.base (k + 1) (heldH (csOf X.env.cells) h H) f (spD t σ) := by
  obtain ⟨ar, bo, sc, c', h1, h2, O⟩ := l
  have hs := hh.same
  have sub := capCs_sub hh O.L
  refine (thk_of O (hs _ _ h1) (hs _ _ h2) (hh.caps O.L)).imp2 (cs := capCs X sc) (fun b hb => ?_) fun G Q E hG q => ?_
  · obtain ⟨o, e⟩ := hh.celF b (sub b hb)
    exact ⟨_, e, .inl ⟨_, _, rfl⟩⟩
  · refine q (freedH (capCs X sc) G) (fun C H' => Und (capCs X sc) G H' → C (againH (capCs X sc) G H')) (fun b o e ne => ?_) fun C H' s0 z u => z _ (fun b o e => ?_) fun b o e => ?_
    · rw [freedH_ne fun z => ?_]
      · exact e
      · obtain ⟨ob, e2⟩ := hh.celF b (sub b z)
        rw [hG b z, e2] at e
        exact ne ob (Option.some.inj e).symm
    · by_cases n : b ∈ capCs X sc
      · rw [againH_in n]
        exact e
      · rw [againH_ne n]
        exact s0 b o (by rw [freedH_ne n]; exact e)
    · rw [againH_ne fun n => ?_]
      · exact e
      · rw [u.off b n] at e
        cases e

/-! ### rows that may be wrong -/
def RowV (K : PySem.W.Frag) (H : Hp) (p : Addr) (xs : List V) : Prop := SqA K H p xs ∧ xs.length ≤ 100000 ∧ ∀ x ∈ xs, ∃ b, IsI H x b
theorem RowV.same {K : PySem.W.Frag} {H H' : Hp} {p : Addr} {xs : List V} (h : RowV K H p xs) (e : Same H H') : RowV K H' p xs := ⟨h.1.same e, h.2.1, fun x hx => by
  obtain ⟨b, hb⟩ := h.2.2 x hx
  exact ⟨b, hb.same e⟩⟩
def fwR (xs : List V) : Option Nat := fwI xs.length [] 0 xs
theorem fwR_row {xs : List Int} (h : IsRow xs) : fwR (xs.map V.int) = none := by
  unfold fwR
  rw [List.length_map]
  exact fwI_row h
theorem rowV_ints {K : PySem.W.Frag} {H : Hp} {p : Addr} {xs : List Int} (h : SqA K H p (xs.map V.int)) (hl : xs.length ≤ 100000) : RowV K H p (xs.map V.int) := ⟨h, by rw [List.length_map]; exact hl, isI_ints⟩
section
variable {P : Program} {w : World} {K : PySem.W.Frag} {mg : Str → Option Value} {base : Heap} {a : Ad}
/-- what is wished for when an error with one field is raised -/
def ErrAt (H : Hp) (E : XK) (C : Addr) (f : Str) (v : V) : Prop := ∀ H' d, Same H H' → H' d = some (.xd [(f, v)]) → E (.ref C) (some d) H'
theorem ErrAt.on {H H1 : Hp} {E : XK} {C : Addr} {f : Str} {v : V} (h : ErrAt H E C f v) (s : Same H H1) : ErrAt H1 E C f v := fun H' d s' e => h H' d (s.trans s') e
def spCheckRowX (K : PySem.W.Frag) (CR : Addr) : Sp := fun vs H Q E => ∃ p xs, vs = [.ref p] ∧ RowV K H p xs ∧ (∀ k, fwR xs = some k → ErrAt H E CR "index" (.int ((k : Nat) : Int))) ∧ (fwR xs = none → ∀ H', Same H H' → Q .non H')
theorem ok_check_row (T : Tx w K mg a) : FnOk P w K mg base (L2.CX P w) 4 a.f_check_row a.d_check_row ["row"] (spCheckRowX K a.C_BadRow) := by
  refine T.F_check_row.okX sc_check_row (fun vs H Q E h => ?_) (fun cdv A outer s H vs Q E hr h => ?_)
  · obtain ⟨p, xs, rfl, _⟩ := h
    rfl
  · obtain ⟨p, xs, rfl, ⟨hS, hL, hI⟩, hE, q⟩ := h
    refine ⟨_, 
(pss_cons (ps_set (i := 1) sc_check_row.nd rfl (.inl rfl) (pe_call (ok_first_wrong T) hr (by rfl) T.m_first_wrong T.F_first_wrong.kp T.b_first_wrong .nil pass0 (pa_cons (pv 0) (pa_cons (pe_callB call_len_seq (by rfl) T.z_len PySem.boot_len (pa_cons (pv 0) pa_nil)) pa_nil))))
  (pss_one (ps_if (pt_cmpR op_notN (pv 1) pe_non (nomark _))
  (pss_one (ps_raise rfl (takes_of rfl rfl rfl rfl) (pmk_oex T.ox_BadRow.o T.ox_BadRow.ini T.ox_BadRow.tin (ok_BadRow_init T) (hr.mono (by decide)) T.b_BadRow_init .nil pass0 (by rfl) T.c_BadRow (pa_cons (pv 1) pa_nil))))
  pss_nil))), ?_⟩
    refine ⟨.ref p, rfl, .ref p, rfl, p, _, rfl, hS, p, xs, rfl, hS, hL, hI, fun H' s' => ?_⟩
    cases e : fwI xs.length [] 0 xs with
    | none => exact ⟨_, rfl, rfl, _, rfl, iteF (q e H' s')⟩
    | some k => exact ⟨_, rfl, rfl, _, rfl, iteT ⟨_, rfl, (by decide : 1 ≤ 1000), err_end s' (hE k e)⟩⟩
theorem no_q {xs : List V} {k : Nat} (e : fwR xs = some k) {A : Prop} : fwR xs = none → A := fun z => by
  rw [e] at z
  cases z
theorem one_e {xs : List V} {k : Nat} (e : fwR xs = some k) {B : Nat → Prop} (h : B k) : ∀ j, fwR xs = some j → B j := fun j z => by
  rw [e] at z
  cases z
  exact h
theorem no_e {xs : List V} (e : fwR xs = none) {B : Nat → Prop} : ∀ j, fwR xs = some j → B j := fun j z => by
  rw [e] at z
  cases z
def spNothingX (CS : Addr) : Sp := fun vs H Q E => ∃ y b, vs = [y] ∧ IsI H y b ∧ ((∃ n : Nat, y = .int (n : Int) ∧ n ≤ 1000 ∧ ∀ p H', H p = none → H' p = some (.lst ((ri n).map V.int)) → Same H H' → Q (.ref p) H') ∨ (btM 0 1000 y = false ∧ ErrAt H E CS "size" y))
theorem ok_nothing (T : Tx w K mg a) : FnOk P w K mg base (L2.CX P w) 3 a.f_nothing a.d_nothing ["size"] (spNothingX a.C_BadSize) := by
  refine T.F_nothing.okX sc_nothing (fun vs H Q E h => ?_) (fun cdv A outer s H vs Q E hr h => ?_)
  · obtain ⟨y, b, rfl, _⟩ := h
    rfl
  · obtain ⟨y, b, rfl, hI, h⟩ := h
    refine ⟨_, 
(pss_cons (ps_if (pt_not (pt_val (pe_call (ok_is_between T) hr (by rfl) T.m_is_between T.F_is_between.kp T.b_is_between .nil pass0 (pa_cons (pv 0) (pa_cons pe_int (pa_cons (pe_glob (v := .int 1000) (by rfl) T.m_MOST_PLACES.choose_spec ⟨_, rfl⟩) pa_nil))))))
  (pss_one (ps_raise rfl (takes_of rfl rfl rfl rfl) (pmk_oex T.ox_BadSize.o T.ox_BadSize.ini T.ox_BadSize.tin (ok_BadSize_init T) hr T.b_BadSize_init .nil pass0 (by rfl) T.c_BadSize (pa_cons (pv 0) pa_nil))))
  pss_nil)
  (pss_one (ps_ret (pe_listRg rfl (by rfl) T.z_list (prg_1 (by rfl) T.z_range (pv 0)))))), ?_⟩
    refine ⟨_, rfl, y, b, 0, 1000, rfl, hI, _, rfl, ?_⟩
    rcases h with ⟨n, rfl, hn, q⟩ | ⟨hb, hE⟩
    · rw [show btM 0 1000 (.int (n : Int)) = true from by simp only [btM, Bool.and_eq_true, decide_eq_true_eq]; omega]
      refine iteF ⟨_, rfl, _, rfl, RgOk.of_le (by decide) (by omega) (by decide) (by omega), fun p hp => ?_⟩
      rw [rgV_ri]
      exact q p _ hp upd_same (same_upd hp)
    · rw [hb]
      exact iteT ⟨_, rfl, (by decide : 1 ≤ 1000), err_end (Same.refl H) hE⟩
def spJoinedX (K : PySem.W.Frag) (CR CS : Addr) : Sp := fun vs H Q E => ∃ p r xs ys, vs = [.ref p, .ref r] ∧ RowV K H p xs ∧ RowV K H r ys ∧
  ((∃ k, (fwR xs = some k ∨ (fwR xs = none ∧ fwR ys = some k)) ∧ ErrAt H E CR "index" (.int ((k : Nat) : Int))) ∨
   (fwR xs = none ∧ fwR ys = none ∧ ys.length ≠ xs.length ∧ ErrAt H E CS "size" (.int (ys.length : Int))) ∨
   (∃ is js, xs = is.map V.int ∧ ys = js.map V.int ∧ IsRow is ∧ IsRow js ∧ js.length = is.length ∧ ∀ o H', H o = none → H' o = some (.lst ((pickI is js).map V.int)) → Same H H' → Q (.ref o) H'))
theorem ok_joined (T : Tx w K mg a) : FnOk P w K mg base (L2.CX P w) 5 a.f_joined a.d_joined ["first", "second"] (spJoinedX K a.C_BadRow a.C_BadSize) := by
  refine T.F_joined.okX sc_joined (fun vs H Q E h => ?_) (fun cdv A outer s H vs Q E hr h => ?_)
  · obtain ⟨p, r, xs, ys, rfl, _⟩ := h
    rfl
  · obtain ⟨p, r, xs, ys, rfl, hX, hY, h⟩ := h
    refine ⟨_, 
(pss_cons (ps_expr (pe_callS (ok_check_row T) hr (by rfl) T.m_check_row T.F_check_row.kp T.b_check_row (fun σ => passAt (takes_of rfl rfl rfl rfl) σ) (pa_cons (pv 0) pa_nil)))
  (pss_cons (ps_expr (pe_callS (ok_check_row T) hr (by rfl) T.m_check_row T.F_check_row.kp T.b_check_row (fun σ => passAt (takes_of rfl rfl rfl rfl) σ) (pa_cons (pv 1) pa_nil)))
  (pss_cons (ps_if (pt_cmpR op_ne (pe_callB call_len_seq (by rfl) T.z_len PySem.boot_len (pa_cons (pv 0) pa_nil)) (pe_callB call_len_seq (by rfl) T.z_len PySem.boot_len (pa_cons (pv 1) pa_nil)) (nomark _))
  (pss_one (ps_raise rfl (takes_of rfl rfl rfl rfl) (pmk_oex T.ox_BadSize.o T.ox_BadSize.ini T.ox_BadSize.tin (ok_BadSize_init T) (hr.mono (by decide)) T.b_BadSize_init .nil pass0 (by rfl) T.c_BadSize (pa_cons (pe_callB call_len_seq (by rfl) T.z_len PySem.boot_len (pa_cons (pv 1) pa_nil)) pa_nil))))
  pss_nil)
  (pss_one (ps_ret (pe_call (ok_in_turn T) (hr.mono (by decide)) (by rfl) T.m_in_turn T.F_in_turn.kp T.b_in_turn .nil pass0 (pa_cons (pv 0) (pa_cons (pv 1) pa_nil)))))))), ?_⟩
    rcases h with ⟨k, hk | ⟨h0, hk⟩, hE⟩ | ⟨h0, h1, hne, hE⟩ | ⟨is, js, rfl, rfl, r1, r2, hl, q⟩
    · exact ⟨.ref p, rfl, p, _, rfl, hX, one_e hk hE, no_q hk⟩
    · exact ⟨.ref p, rfl, p, _, rfl, hX, no_e h0, fun _ H1 s1 => ⟨.ref r, rfl, r, _, rfl, (hY.same s1), one_e hk (hE.on s1), no_q hk⟩⟩
    · refine ⟨.ref p, rfl, p, _, rfl, hX, no_e h0, fun _ H1 s1 => ⟨.ref r, rfl, r, _, rfl, (hY.same s1), no_e h1, fun _ H2 s2 => ?_⟩⟩
      have s12 := s1.trans s2
      refine ⟨.ref p, rfl, p, _, rfl, (hX.same s12).1, .ref r, rfl, r, _, rfl, (hY.same s12).1, rfl, _, rfl, ?_⟩
      rw [decide_eq_false (show ¬ V.int (xs.length : Int) = V.int (ys.length : Int) from fun z => hne (by have := V.int.inj z; omega))]
      exact iteT ⟨.ref r, rfl, r, _, rfl, (hY.same s12).1, (by decide : 1 ≤ 1000), err_end s12 hE⟩
    · refine ⟨.ref p, rfl, p, _, rfl, hX, no_e (fwR_row r1), fun _ H1 s1 => ⟨.ref r, rfl, r, _, rfl, (hY.same s1), no_e (fwR_row r2), fun _ H2 s2 => ?_⟩⟩
      have s12 := s1.trans s2
      have hX2 := (hX.same s12).1
      have hY2 := (hY.same s12).1
      have hll := hY.2.1
      refine ⟨.ref p, rfl, p, _, rfl, hX2, .ref r, rfl, r, _, rfl, hY2, rfl, _, rfl, ?_⟩
      rw [List.length_map, List.length_map, hl]
      refine iteNS rfl ?_
      refine ⟨.ref p, rfl, .ref r, rfl, p, r, is, js, rfl, hX2, hY2, fun y hy => ?_, by rw [List.length_map] at hll; exact hll, fun o H' no eo s3 => q o H' (s12.free no) eo (s12.trans s3)⟩
      have := r2.mem.mp hy
      omega
def spBadRowX (K : PySem.W.Frag) (CR : Addr) : Sp := fun vs H Q E => ∃ p xs k, vs = [.ref p] ∧ RowV K H p xs ∧ fwR xs = some k ∧ ErrAt H E CR "index" (.int ((k : Nat) : Int))
theorem ok_undone (T : Tx w K mg a) : FnOk P w K mg base (L2.CX P w) 5 a.f_undone a.d_undone ["row"] (spBadRowX K a.C_BadRow) := by
  refine T.F_undone.okX sc_undone (fun vs H Q E h => ?_) (fun cdv A outer s H vs Q E hr h => ?_)
  · obtain ⟨p, xs, k, rfl, _⟩ := h
    rfl
  · obtain ⟨p, xs, k, rfl, hX, hk, hE⟩ := h
    refine ⟨_, 
(pss_cons (ps_expr (pe_callS (ok_check_row T) hr (by rfl) T.m_check_row T.F_check_row.kp T.b_check_row (fun σ => passAt (takes_of rfl rfl rfl rfl) σ) (pa_cons (pv 0) pa_nil)))
  (pss_one ps_never)), ?_⟩
    exact ⟨.ref p, rfl, p, _, rfl, hX, one_e hk hE, no_q hk⟩
theorem ok_rings (T : Tx w K mg a) : FnOk P w K mg base (L2.CX P w) 5 a.f_rings a.d_rings ["row"] (spBadRowX K a.C_BadRow) := by
  refine T.F_rings.okX sc_rings (fun vs H Q E h => ?_) (fun cdv A outer s H vs Q E hr h => ?_)
  · obtain ⟨p, xs, k, rfl, _⟩ := h
    rfl
  · obtain ⟨p, xs, k, rfl, hX, hk, hE⟩ := h
    refine ⟨_, 
(pss_cons (ps_expr (pe_callS (ok_check_row T) hr (by rfl) T.m_check_row T.F_check_row.kp T.b_check_row (fun σ => passAt (takes_of rfl rfl rfl rfl) σ) (pa_cons (pv 0) pa_nil)))
  (pss_one ps_never)), ?_⟩
    exact ⟨.ref p, rfl, p, _, rfl, hX, one_e hk hE, no_q hk⟩
theorem ok_is_even (T : Tx w K mg a) : FnOk P w K mg base (L2.CX P w) 6 a.f_is_even a.d_is_even ["row"] (spBadRowX K a.C_BadRow) := by
  refine T.F_is_even.okX sc_is_even (fun vs H Q E h => ?_) (fun cdv A outer s H vs Q E hr h => ?_)
  · obtain ⟨p, xs, k, rfl, _⟩ := h
    rfl
  · obtain ⟨p, xs, k, rfl, hX, hk, hE⟩ := h
    refine ⟨_, 
(pss_one (ps_ret (pe_cmpR op_eq (pe_op op_modN (pe_op op_sub (pe_callB call_len_seq (by rfl) T.z_len PySem.boot_len (pa_cons (pv 0) pa_nil)) (pe_callB call_len_seq (by rfl) T.z_len PySem.boot_len (pa_cons (pe_callS (ok_rings T) hr (by rfl) T.m_rings T.F_rings.kp T.b_rings (fun σ => passAt (takes_of rfl rfl rfl rfl) σ) (pa_cons (pv 0) pa_nil)) pa_nil))) pe_int) pe_int (nomark _)))), ?_⟩
    exact ⟨.ref p, rfl, p, _, rfl, hX.1, .ref p, rfl, p, xs, k, rfl, hX, hk, hE⟩
def spRepeatedX (K : PySem.W.Frag) (CR CN : Addr) : Sp := fun vs H Q E => ∃ p xs y b, vs = [.ref p, y] ∧ RowV K H p xs ∧ IsI H y b ∧ ((∃ k, fwR xs = some k ∧ ErrAt H E CR "index" (.int ((k : Nat) : Int))) ∨ (fwR xs = none ∧ b = false ∧ ErrAt H E CN "number" y))
theorem ok_repeated (T : Tx w K mg a) : FnOk P w K mg base (L2.CX P w) 5 a.f_repeated a.d_repeated ["row", "many"] (spRepeatedX K a.C_BadRow a.C_BadNumber) := by
  refine T.F_repeated.okX sc_repeated (fun vs H Q E h => ?_) (fun cdv A outer s H vs Q E hr h => ?_)
  · obtain ⟨p, xs, y, b, rfl, _⟩ := h
    rfl
  · obtain ⟨p, xs, y, b, rfl, hX, hI, h⟩ := h
    refine ⟨_, 
(pss_cons (ps_expr (pe_callS (ok_check_row T) hr (by rfl) T.m_check_row T.F_check_row.kp T.b_check_row (fun σ => passAt (takes_of rfl rfl rfl rfl) σ) (pa_cons (pv 0) pa_nil)))
  (pss_cons (ps_if (pt_not (pt_val (pe_call (ok_is_integer T) (hr.mono (by decide)) (by rfl) T.m_is_integer T.F_is_integer.kp T.b_is_integer .nil pass0 (pa_cons (pv 1) pa_nil))))
  (pss_one (ps_raise rfl (takes_of rfl rfl rfl rfl) (pmk_oex T.ox_BadNumber.o T.ox_BadNumber.ini T.ox_BadNumber.tin (ok_BadNumber_init T) (hr.mono (by decide)) T.b_BadNumber_init .nil pass0 (by rfl) T.c_BadNumber (pa_cons (pv 1) pa_nil))))
  pss_nil)
  (pss_cons ps_never
  (pss_one ps_never)))), ?_⟩
    rcases h with ⟨k, hk, hE⟩ | ⟨h0, rfl, hE⟩
    · exact ⟨.ref p, rfl, p, _, rfl, hX, one_e hk hE, no_q hk⟩
    · exact ⟨.ref p, rfl, p, _, rfl, hX, no_e h0, fun _ H1 s1 => ⟨y, rfl, y, false, rfl, hI.same s1, _, rfl, iteT ⟨y, rfl, (by decide : 1 ≤ 1000), err_end s1 hE⟩⟩⟩
def spDoneX (K : PySem.W.Frag) (CR CS : Addr) : Sp := fun vs H Q E => ∃ p r xs ts, vs = [.ref p, .ref r] ∧ RowV K H p xs ∧ SqA K H r (ts.map V.int) ∧ ts.length ≤ 100000 ∧
  ((∃ k, fwR xs = some k ∧ ErrAt H E CR "index" (.int ((k : Nat) : Int))) ∨
   (fwR xs = none ∧ ts.length ≠ xs.length ∧ ErrAt H E CS "size" (.int (ts.length : Int))) ∨
   (∃ is, xs = is.map V.int ∧ IsRow is ∧ ts.length = is.length ∧ ∀ o H', H o = none → H' o = some (.lst ((pickI ts is).map V.int)) → Same H H' → Q (.ref o) H'))
theorem ok_done (T : Tx w K mg a) : FnOk P w K mg base (L2.CX P w) 5 a.f_done a.d_done ["row", "things"] (spDoneX K a.C_BadRow a.C_BadSize) := by
  refine T.F_done.okX sc_done (fun vs H Q E h => ?_) (fun cdv A outer s H vs Q E hr h => ?_)
  · obtain ⟨p, r, xs, ts, rfl, _⟩ := h
    rfl
  · obtain ⟨p, r, xs, ts, rfl, hX, hT, hTl, h⟩ := h
    refine ⟨_, 
(pss_cons (ps_expr (pe_callS (ok_check_row T) hr (by rfl) T.m_check_row T.F_check_row.kp T.b_check_row (fun σ => passAt (takes_of rfl rfl rfl rfl) σ) (pa_cons (pv 0) pa_nil)))
  (pss_cons (ps_if (pt_cmpR op_ne (pe_callB call_len_seq (by rfl) T.z_len PySem.boot_len (pa_cons (pv 1) pa_nil)) (pe_callB call_len_seq (by rfl) T.z_len PySem.boot_len (pa_cons (pv 0) pa_nil)) (nomark _))
  (pss_one (ps_raise rfl (takes_of rfl rfl rfl rfl) (pmk_oex T.ox_BadSize.o T.ox_BadSize.ini T.ox_BadSize.tin (ok_BadSize_init T) (hr.mono (by decide)) T.b_BadSize_init .nil pass0 (by rfl) T.c_BadSize (pa_cons (pe_callB call_len_seq (by rfl) T.z_len PySem.boot_len (pa_cons (pv 1) pa_nil)) pa_nil))))
  pss_nil)
  (pss_one (ps_ret (pe_lc (own := [("place", 2)]) (g := gName 2) rfl sc_done.nd (pi_seq (pv 0)) (blkOk_by (own := [("place", 2)]) (N := ["row", "things", "place"]) (sc := defScope s_done) (by decide +kernel)) (fun _ _ _ _ _ => pg_name (i := 2) sc_done.nd rfl (Or.inl rfl)) (fun _ _ _ _ _ => pts_nil) (fun _ _ _ _ _ => (pe_ix (show IxR _ (rIx K) from ix_seq) (pv 1) (pv 2) (fun _ _ => rfl)))))))), ?_⟩
    rcases h with ⟨k, hk, hE⟩ | ⟨h0, hne, hE⟩ | ⟨is, rfl, hR, hl, q⟩
    · exact ⟨.ref p, rfl, p, _, rfl, hX, one_e hk hE, no_q hk⟩
    · refine ⟨.ref p, rfl, p, _, rfl, hX, no_e h0, fun _ H1 s1 => ?_⟩
      refine ⟨.ref r, rfl, r, _, rfl, hT.same s1, .ref p, rfl, p, _, rfl, (hX.same s1).1, rfl, _, rfl, ?_⟩
      rw [List.length_map, decide_eq_false (show ¬ V.int (ts.length : Int) = V.int (xs.length : Int) from fun z => hne (by have := V.int.inj z; omega))]
      refine iteT ⟨.ref r, rfl, r, _, rfl, hT.same s1, (by decide : 1 ≤ 1000), err_end s1 ?_⟩
      rw [List.length_map]
      exact hE
    · refine ⟨.ref p, rfl, p, _, rfl, hX, no_e (fwR_row hR), fun _ H1 s1 => ?_⟩
      have hX1 := (hX.same s1).1
      have hT1 := hT.same s1
      refine ⟨.ref r, rfl, r, _, rfl, hT1, .ref p, rfl, p, _, rfl, hX1, rfl, _, rfl, ?_⟩
      rw [List.length_map, List.length_map, hl]
      refine iteNS rfl ?_
      refine ⟨.ref p, rfl, p, is.map V.int, rfl, ?_⟩
      have hll := hX.2.1
      rw [List.length_map] at hll
      refine hX1.elim (fun hS => .inl ⟨hS, fun o ho => ?_⟩) (fun hS => .inr ⟨hS, fun o ho => ?_⟩)
      all_goals
        refine lc_it (by first | exact walk_list (xs := is.map V.int) | exact walk_tup (xs := is.map V.int)) (fun i H' => Same H1 H' ∧ H' o = some (.lst (((pickI ts is).take i).map V.int))) ?h0 ?hG ?hs ?hd
        case h0 => exact ⟨same_upd ho, upd_same⟩
        case hG =>
          rintro i H' _ ⟨sm, _⟩
          first | exact sm.seq hS | exact Same.seqT sm hS
        case hd =>
          rintro H' ⟨sm, e⟩
          rw [List.length_map, List.take_of_length_le (by rw [pick_len]; exact Nat.le_refl _)] at e
          exact q o H' (s1.free ho) e (s1.trans sm)
        case hs =>
          rintro i x H3 H4 hi ⟨sm, e⟩ ⟨rfl, ex⟩
          rw [List.length_map] at hi
          rw [List.getElem?_map, List.getElem?_eq_getElem hi] at ex
          cases ex
          have hb := hR.at hi
          refine ⟨rfl, _, rfl, _, rfl, SqA.at_get (hT1.same sm) hb.1 (show is[i].toNat < ts.length by have := hb.2; omega) ?_⟩
          refine ⟨_, e, ?_, ?_, ?_⟩
          · rw [List.length_map, List.length_take]
            exact szlt (Nat.le_trans (Nat.min_le_right _ _) (by rw [pick_len]; exact hll))
          · intro b u hb'
            rw [upd_ne (ne_of_none hb' ho)]
            exact sm b u hb'
          · rw [upd_same, List.take_add_one, List.getElem?_eq_getElem (by rw [pick_len]; exact hi), pick_get hi, List.map_append]
            rfl
end

/-! ### what a call comes to, as a law asks it: ('told', value) or the error's tuple -/
/-- an error of one of these classes has come: the tuple is made -/
def MetX (rs : List (Addr × Str × Str)) (Q : VK) : XK := fun cls d H' => ∃ (C : Addr) (tag fld : Str) (dd : Addr) (v : V), (C, tag, fld) ∈ rs ∧ cls = .ref C ∧ d = some dd ∧ H' dd = some (.xd [(fld, v)]) ∧ ∀ o, H' o = none → Q (.ref o) (upd H' o (.tup [.str tag, v, .bl true]))
def spMet (P : Program) (w : World) (K : PySem.W.Frag) (mg : Str → Option Value) (base : Heap) (k : Nat) (rs : List (Addr × Str × Str)) : Sp := fun vs H Q _ => ∃ (f : Addr) (sp : Hp → VK → XK → Prop), vs = [.ref f] ∧ Thk P w K mg base k H f sp ∧
  ∀ (Q' : VK) (E' : XK), (∀ v H', (∀ p, H' p = none → Q (.ref p) (upd H' p (.tup [.str "told", v]))) → Q' v H') → (∀ cls d H', MetX rs Q cls d H' → E' cls d H') → sp H Q' E'
/-- what has been made while the cells were held is there when they are let go -/
def Over (H' G : Hp) : Prop := ∀ b o, H' b = some o → (∀ ob, o ≠ celF ob) → G b = some o
/-- asked of a lambda that is made on the spot -/
theorem met_live {X : Cx} {σ : L2.St} {H1 : Hp} {h : Heap} {k kk : Nat} {t : XK → TE} {f : Addr} {rs : List (Addr × Str × Str)} {Q : VK} {E : XK} (hh : HeldAt X σ H1 h) (l : LamAt X k H1 f t) (hk : k + 1 ≤ kk)
    (q : ∀ (H0 : Hp) (told : VK) (err : XK), Same H1 H0 → (∀ b, H0 b = none → H1 b = none) →
      (∀ v H', Same H0 H' → (∀ p Hf, Same H1 Hf → Over H' Hf → Hf p = some (.tup [.str "told", v]) → Q (.ref p) Hf) → told v H') →
      (∀ C tag fld dd v H', (C, tag, fld) ∈ rs → Same H0 H' → H' dd = some (.xd [(fld, v)]) → (∀ p Hf, Same H1 Hf → Hf p = some (.tup [.str tag, v, .bl true]) → Q (.ref p) Hf) → err (.ref C) (some dd) H') →
      t err σ H0 told) :
    spMet X.prog X.w X.K X.mg X.base kk rs [.ref f] (heldH (csOf X.env.cells) h H1) (HeldQ X Q) E := by
  obtain ⟨sp, th, run⟩ := l.thk hh
  refine ⟨f, sp, rfl, th.mono hk, fun Q' E' hQ hE => run Q' E' fun H0 R s1 fr hR => ?_⟩
  have fin : ∀ {H' G : Hp} {p : Addr} {o : HO}, Same H0 H' → Back (csOf X.env.cells) H' G → G p = none → (∀ ob, o ≠ celF ob) →
      (Same H1 (freedH (csOf X.env.cells) (upd G p o)) ∧ Over H' (freedH (csOf X.env.cells) (upd G p o))) ∧ freedH (csOf X.env.cells) (upd G p o) p = some o := fun {H' G p o} s' bk np ne => by
    obtain ⟨n, e⟩ := freed_made (o := o) bk np
    rw [e]
    have up : ∀ b u, b ∉ csOf X.env.cells → H' b = some u → upd (freedH (csOf X.env.cells) H') p o b = some u := fun b u nb hb => by
      have nbp : b ≠ p := fun z => by
        rw [← z, bk.ne b nb, hb] at np
        cases np
      rw [upd_ne nbp, freedH_ne nb]
      exact hb
    refine ⟨⟨fun b u hb => up b u (fun z => ?_) (s' b u (s1 b u hb)), fun b u hb nu => up b u (bk.off b u hb nu) hb⟩, upd_same⟩
    rw [hh.off b z] at hb
    cases hb
  refine q H0 (fun v H' => R (Q' v) H') (fun cls d H' => R (E' cls d) H') s1 fr (fun v H' s' qq => hR _ _ fun G bk => hQ v G fun p np _ => ?_) (fun C tag fld dd v H' hm s' hd qq => hR _ _ fun G bk => hE _ _ _ ?_)
  · obtain ⟨⟨a1, a2⟩, a3⟩ := fin (o := .tup [.str "told", v]) s' bk np (fun ob z => by cases z)
    exact qq p _ a1 a2 a3
  · refine ⟨C, tag, fld, dd, v, hm, rfl, rfl, ?_, fun p np _ => ?_⟩
    · rw [bk.ne dd (bk.off dd _ hd fun ob z => by cases z)]
      exact hd
    · obtain ⟨⟨a1, _⟩, a3⟩ := fin (o := .tup [.str tag, v, .bl true]) s' bk np (fun ob z => by cases z)
      exact qq p _ a1 a3

section
variable {P : Program} {w : World} {K : PySem.W.Frag} {mg : Str → Option Value} {base : Heap} {a : Ad}
def rs4 (a : Ad) : List (Addr × Str × Str) := [(a.C_BadRow, "row", "index"), (a.C_BadSize, "size", "size"), (a.C_BadNumber, "number", "number")]
theorem ok__law_met (T : Tx w K mg a) : FnOk P w K mg base CX0 9 a.f__law_met a.d__law_met ["call"] (spMet P w K mg base 8 (rs4 a)) := by
  refine T.F__law_met.ok sc__law_met (fun vs H Q E h => ?_) (fun cdv A outer s H vs Q E hr h => ?_)
  · obtain ⟨f, sp, rfl, _⟩ := h
    rfl
  · obtain ⟨f, sp, rfl, hT, hsp⟩ := h
    refine ⟨_, 
(pss_one (ps_try_manyAs rfl rfl sc__law_met.nd takes0 (fun W pn xe tk po => (pss_one (ps_ret (pe_tup (pa_cons pe_str (pa_cons (show PE _ _ (rThk P w K mg base _ 0 W) from pe_thk (i := 0) rfl (.inl rfl) hr tk) pa_nil))))))
  (.cons (i := 1) rfl rfl ⟨rfl, by decide, .inl T.c_BadRow⟩ (fun x oe cls d pn hz hf => (pss_one (ps_ret (pe_tup (pa_cons pe_str (pa_cons (pe_xf T.ox_BadRow.x T.ox_BadRow.no hz hf (pv 1)) (pa_cons (pe_callB (call_isD T.ox_BadRow.i hz hf) (by rfl) T.z_isinstance (by decide +kernel) (pa_cons (pv 1) (pa_cons (pe_glob (v := .ref a.C_EveryError) (by rfl) T.c_EveryError rfl) pa_nil))) pa_nil)))))))
  (.cons (i := 1) rfl rfl ⟨rfl, by decide, .inl T.c_BadSize⟩ (fun x oe cls d pn hz hf => (pss_one (ps_ret (pe_tup (pa_cons pe_str (pa_cons (pe_xf T.ox_BadSize.x T.ox_BadSize.no hz hf (pv 1)) (pa_cons (pe_callB (call_isD T.ox_BadSize.i hz hf) (by rfl) T.z_isinstance (by decide +kernel) (pa_cons (pv 1) (pa_cons (pe_glob (v := .ref a.C_EveryError) (by rfl) T.c_EveryError rfl) pa_nil))) pa_nil)))))))
  (.cons (i := 1) rfl rfl ⟨rfl, by decide, .inl T.c_BadNumber⟩ (fun x oe cls d pn hz hf => (pss_one (ps_ret (pe_tup (pa_cons pe_str (pa_cons (pe_xf T.ox_BadNumber.x T.ox_BadNumber.no hz hf (pv 1)) (pa_cons (pe_callB (call_isD T.ox_BadNumber.i hz hf) (by rfl) T.z_isinstance (by decide +kernel) (pa_cons (pv 1) (pa_cons (pe_glob (v := .ref a.C_EveryError) (by rfl) T.c_EveryError rfl) pa_nil))) pa_nil)))))))
  .nil))))), ?_⟩
    refine ⟨f, sp, rfl, hT, hsp _ _ (fun v H' q => ?_) (fun cls d H' hx => ?_)⟩
    · exact ⟨sz (show 2 ≤ 100000 by decide), fun o no => q o no⟩
    · obtain ⟨C, tag, fld, dd, v, hm, rfl, rfl, hd, q⟩ := hx
      have hm : (C, tag, fld) = (a.C_BadRow, Str.ofString "row", Str.ofString "index") ∨ (C, tag, fld) = (a.C_BadSize, Str.ofString "size", Str.ofString "size") ∨ (C, tag, fld) = (a.C_BadNumber, Str.ofString "number", Str.ofString "number") := by simpa [rs4] using hm
      rcases hm with e | e | e
      · cases e
        refine ⟨true, T.em_BadRow_BadRow, fun _ x hx => ?_, fun q => Bool.noConfusion q⟩
        refine ⟨.ref x, rfl, rfl, rfl, dd, _, _, rfl, hd, rfl, .ref x, rfl, dd, _, .ref a.C_EveryError, .ref a.C_EveryError, true, rfl, rfl, hd, rfl, fun u r => r, T.kt_BadRow_EveryError, ?_⟩
        exact ⟨sz (show 3 ≤ 100000 by decide), fun o no => q o no⟩
      · cases e
        refine ⟨false, T.em_BadSize_BadRow, fun q => Bool.noConfusion q, fun _ => ⟨true, T.em_BadSize_BadSize, fun _ x hx => ?_, fun q => Bool.noConfusion q⟩⟩
        refine ⟨.ref x, rfl, rfl, rfl, dd, _, _, rfl, hd, rfl, .ref x, rfl, dd, _, .ref a.C_EveryError, .ref a.C_EveryError, true, rfl, rfl, hd, rfl, fun u r => r, T.kt_BadSize_EveryError, ?_⟩
        exact ⟨sz (show 3 ≤ 100000 by decide), fun o no => q o no⟩
      · cases e
        refine ⟨false, T.em_BadNumber_BadRow, fun q => Bool.noConfusion q, fun _ => ⟨false, T.em_BadNumber_BadSize, fun q => Bool.noConfusion q, fun _ => ⟨true, T.em_BadNumber_BadNumber, fun _ x hx => ?_, fun q => Bool.noConfusion q⟩⟩⟩
        refine ⟨.ref x, rfl, rfl, rfl, dd, _, _, rfl, hd, rfl, .ref x, rfl, dd, _, .ref a.C_EveryError, .ref a.C_EveryError, true, rfl, rfl, hd, rfl, fun u r => r, T.kt_BadNumber_EveryError, ?_⟩
        exact ⟨sz (show 3 ≤ 100000 by decide), fun o no => q o no⟩
end

/-! ### rows with one wrong member -/
theorem fwI_bad (n : Nat) : ∀ (xs : List Int) (seen : List Int) (k m : Nat) (v : V), xs.Nodup → (∀ x ∈ xs, 0 ≤ x ∧ x < (n : Int) ∧ x ∉ seen) → m < xs.length → (∀ i, v = .int i → ¬ (0 ≤ i ∧ i < (n : Int) ∧ i ∉ seen)) → fwI n seen k ((xs.map V.int).set m v) = some (k + m)
  | [], _, _, _, _, _, _, hm, _ => absurd hm (Nat.not_lt_zero _)
  | x :: r, seen, k, 0, v, _, _, _, hv => by
    show fwI n seen k (v :: r.map V.int) = some (k + 0)
    cases v with
    | int i => rw [fwI, if_neg (hv i rfl)]; rfl
    | non => rfl
    | bl b => rfl
    | str z => rfl
    | byt z => rfl
    | flt z => rfl
    | ref z => rfl
    | ty z => rfl
  | x :: r, seen, k, m + 1, v, hn, hb, hm, hv => by
    have hx := hb x List.mem_cons_self
    have hn' := List.nodup_cons.mp hn
    show fwI n seen k (V.int x :: (r.map V.int).set m v) = some (k + (m + 1))
    rw [fwI, if_pos hx, fwI_bad n r (x :: seen) (k + 1) m v hn'.2 (fun y hy => ?_) (by simpa using hm) (fun i e z => hv i e ⟨z.1, z.2.1, fun q => z.2.2 (List.mem_cons_of_mem _ q)⟩)]
    · congr 1
      omega
    · obtain ⟨h1, h2, h3⟩ := hb y (List.mem_cons_of_mem _ hy)
      refine ⟨h1, h2, fun q => ?_⟩
      rcases List.mem_cons.mp q with e | q
      · exact hn'.1 (e ▸ hy)
      · exact h3 q
/-- a member that has come ahead -/
theorem fwI_come (n : Nat) : ∀ (xs : List Int) (seen : List Int) (k j : Nat) (hj : j < xs.length), xs.Nodup → (∀ x ∈ xs, 0 ≤ x ∧ x < (n : Int) ∧ (x ∈ seen → x = xs[j])) → xs[j] ∈ seen → fwI n seen k (xs.map V.int) = some (k + j)
  | [], _, _, _, hj, _, _, _ => absurd hj (Nat.not_lt_zero _)
  | x :: r, seen, k, 0, _, _, _, hs => by
    show fwI n seen k (V.int x :: r.map V.int) = some (k + 0)
    rw [fwI, if_neg (fun z => z.2.2 hs)]
    rfl
  | x :: r, seen, k, j + 1, hj, hn, hb, hs => by
    have hn' := List.nodup_cons.mp hn
    have hj' : j < r.length := by simpa using hj
    have ne : x ≠ r[j] := fun e => hn'.1 (e ▸ List.getElem_mem hj')
    obtain ⟨h1, h2, h3⟩ := hb x List.mem_cons_self
    show fwI n seen k (V.int x :: r.map V.int) = some (k + (j + 1))
    rw [fwI, if_pos ⟨h1, h2, fun z => ne (h3 z)⟩, fwI_come n r (x :: seen) (k + 1) j hj' hn'.2 (fun y hy => ?_) (List.mem_cons_of_mem _ hs)]
    · congr 1
      omega
    · obtain ⟨g1, g2, g3⟩ := hb y (List.mem_cons_of_mem _ hy)
      refine ⟨g1, g2, fun q => ?_⟩
      rcases List.mem_cons.mp q with e | q
      · exact absurd (e ▸ hy) hn'.1
      · exact g3 q
theorem fwI_dup (n : Nat) : ∀ (xs : List Int) (seen : List Int) (k m j : Nat) (hj : j < xs.length), xs.Nodup → (∀ x ∈ xs, 0 ≤ x ∧ x < (n : Int) ∧ x ∉ seen) → m < xs.length → j ≠ m → fwI n seen k ((xs.map V.int).set m (.int xs[j])) = some (k + max m j)
  | [], _, _, _, _, hj, _, _, _, _ => absurd hj (Nat.not_lt_zero _)
  | x :: r, seen, k, 0, 0, _, _, _, _, h => absurd rfl h
  | x :: r, seen, k, 0, j + 1, hj, hn, hb, _, _ => by
    have hn' := List.nodup_cons.mp hn
    have hj' : j < r.length := by simpa using hj
    have hx := hb r[j] (List.mem_cons_of_mem _ (List.getElem_mem hj'))
    show fwI n seen k (V.int r[j] :: r.map V.int) = some (k + max 0 (j + 1))
    rw [fwI, if_pos hx, fwI_come n r (r[j] :: seen) (k + 1) j hj' hn'.2 (fun y hy => ?_) List.mem_cons_self]
    · congr 1
      omega
    · obtain ⟨g1, g2, g3⟩ := hb y (List.mem_cons_of_mem _ hy)
      refine ⟨g1, g2, fun q => ?_⟩
      rcases List.mem_cons.mp q with e | q
      · exact e
      · exact absurd q g3
  | x :: r, seen, k, m + 1, 0, _, hn, hb, hm, _ => by
    have hn' := List.nodup_cons.mp hn
    have hx := hb x List.mem_cons_self
    show fwI n seen k (V.int x :: (r.map V.int).set m (.int x)) = some (k + max (m + 1) 0)
    rw [fwI, if_pos hx, fwI_bad n r (x :: seen) (k + 1) m _ hn'.2 (fun y hy => ?_) (by simpa using hm) (fun i e z => ?_)]
    · congr 1
      omega
    · obtain ⟨g1, g2, g3⟩ := hb y (List.mem_cons_of_mem _ hy)
      refine ⟨g1, g2, fun q => ?_⟩
      rcases List.mem_cons.mp q with e | q
      · exact hn'.1 (e ▸ hy)
      · exact g3 q
    · cases e
      exact z.2.2 List.mem_cons_self
  | x :: r, seen, k, m + 1, j + 1, hj, hn, hb, hm, h => by
    have hn' := List.nodup_cons.mp hn
    have hx := hb x List.mem_cons_self
    have hj' : j < r.length := by simpa using hj
    show fwI n seen k (V.int x :: (r.map V.int).set m (.int r[j])) = some (k + max (m + 1) (j + 1))
    rw [fwI, if_pos hx, fwI_dup n r (x :: seen) (k + 1) m j hj' hn'.2 (fun y hy => ?_) (by simpa using hm) (fun e => h (by omega))]
    · congr 1
      omega
    · obtain ⟨g1, g2, g3⟩ := hb y (List.mem_cons_of_mem _ hy)
      refine ⟨g1, g2, fun q => ?_⟩
      rcases List.mem_cons.mp q with e | q
      · exact hn'.1 (e ▸ hy)
      · exact g3 q
/-- a member of such a row, and its data -/
inductive WM (H : Hp) : V → PyData → Prop where
  | int (i : Int) : WM H (.int i) (.int i)
  | non : WM H .non .none
  | bl (b : Bool) : WM H (.bl b) (.bool b)
  | str {z : Str} (h : PyData.strOk z = true) : WM H (.str z) (.str z)
  | tup {t : Addr} {j : Int} (e : H t = some (.tup [.int j])) : WM H (.ref t) (.tuple [.int j])
theorem WM.keep {H H' : Hp} {v : V} {D : PyData} (h : WM H v D) (e : ∀ t j, H t = some (.tup [.int j]) → H' t = some (.tup [.int j])) : WM H' v D := by
  cases h with
  | int i => exact .int i
  | non => exact .non
  | bl b => exact .bl b
  | str hz => exact .str hz
  | tup q => exact .tup (e _ _ q)
theorem WM.isI {H : Hp} {v : V} {D : PyData} (h : WM H v D) : ∃ b, IsI H v b := by
  cases h with
  | int i => exact ⟨_, .int i⟩
  | non => exact ⟨_, .non⟩
  | bl b => exact ⟨_, .bl b⟩
  | str hz => exact ⟨_, .str _⟩
  | tup q => exact ⟨_, .tup q⟩
theorem WM.dp {K : PySem.W.Frag} {H : Hp} {v : V} {D : PyData} (h : WM H v D) : Dp K H v D := by
  cases h with
  | int i => exact .int _
  | non => exact .non
  | bl b => exact .bl _
  | str hz => exact .str _
  | tup q => exact .tup (SqT.at q) (.cons (.int _) .nil)
theorem WM.lay {H : Hp} {v : V} {D : PyData} (h : WM H v D) : PyData.canLay0 D = true ∧ PyData.depth D ≤ 2 := by
  cases h with
  | int i => exact ⟨by simp [PyData.canLay0], by simp [PyData.depth]⟩
  | non => exact ⟨by simp [PyData.canLay0], by simp [PyData.depth]⟩
  | bl b => exact ⟨by simp [PyData.canLay0], by simp [PyData.depth]⟩
  | str hz => exact ⟨by simp [PyData.canLay0, hz], by simp [PyData.depth]⟩
  | tup q => exact ⟨by simp [PyData.canLay0, PyData.canLayAll0], by simp [PyData.depth, PyData.depthAll]⟩
theorem wm_dp {K : PySem.W.Frag} {H : Hp} : ∀ {zs : List V} {D : List PyData}, Paired (WM H) zs D → DpAll K H zs D ∧ PyData.canLayAll0 D = true ∧ PyData.depthAll D ≤ 3
  | _, _, .nil => ⟨.nil, by simp [PyData.canLayAll0], by simp [PyData.depthAll]⟩
  | _, _, .cons h t => by
    obtain ⟨a1, a2, a3⟩ := wm_dp (K := K) t
    refine ⟨.cons h.dp a1, by simp [PyData.canLayAll0, h.lay.1, a2], ?_⟩
    have := h.lay.2
    simp only [PyData.depthAll]
    omega
theorem wm_shaped {H : Hp} {zs : List V} {D : List PyData} (h : Paired (WM H) zs D) : SeqAt.shaped (.list D) = true ∧ PyData.eqv (.list D) (.list D) = true := by
  have s : SeqAt.shaped (.list D) = true := by
    obtain ⟨_, a2, a3⟩ := wm_dp (K := []) h
    unfold SeqAt.shaped
    rw [Bool.and_eq_true, decide_eq_true_eq]
    refine ⟨by rw [PyData.canLay0]; exact a2, ?_⟩
    rw [PyData.depth]
    omega
  exact ⟨s, SeqAt.eqv_refl _ (SeqAt.canLay_of_shaped s)⟩
theorem wm_ints {H : Hp} : ∀ xs : List Int, Paired (WM H) (xs.map V.int) (xs.map PyData.int)
  | [] => .nil
  | x :: r => .cons (.int x) (wm_ints r)
theorem wm_set {H : Hp} {v : V} {d : PyData} (h : WM H v d) : ∀ {zs : List V} {D : List PyData} (m : Nat), Paired (WM H) zs D → Paired (WM H) (zs.set m v) (D.set m d)
  | _, _, _, .nil => .nil
  | _, _, 0, .cons _ t => .cons h t
  | _, _, m + 1, .cons q t => .cons q (wm_set h m t)
theorem wm_keep {H H' : Hp} (e : ∀ t j, H t = some (.tup [.int j]) → H' t = some (.tup [.int j])) : ∀ {zs : List V} {D : List PyData}, Paired (WM H) zs D → Paired (WM H') zs D
  | _, _, .nil => .nil
  | _, _, .cons h t => .cons (h.keep e) (wm_keep e t)
theorem wm_isI {H : Hp} : ∀ {zs : List V} {D : List PyData}, Paired (WM H) zs D → ∀ x ∈ zs, ∃ b, IsI H x b
  | _, _, .nil, x, hx => by cases hx
  | _, _, .cons h t, x, hx => by
    rcases List.mem_cons.mp hx with rfl | hx
    · exact h.isI
    · exact wm_isI t x hx
/-- a row of n members stands at f, and is wrong first at k -/
structure WrongAt (H : Hp) (f : Addr) (zs : List V) (k n : Nat) : Prop where
  at_ : H f = some (.lst zs)
  len : zs.length = n
  fw : fwR zs = some k
  wm : ∃ D, Paired (WM H) zs D
theorem WrongAt.keep {H H' : Hp} {f : Addr} {zs : List V} {k n : Nat} (h : WrongAt H f zs k n) (e1 : H' f = some (.lst zs)) (e : ∀ t j, H t = some (.tup [.int j]) → H' t = some (.tup [.int j])) : WrongAt H' f zs k n := by
  obtain ⟨D, hD⟩ := h.wm
  exact ⟨e1, h.len, h.fw, D, wm_keep e hD⟩
theorem WrongAt.same {H H' : Hp} {f : Addr} {zs : List V} {k n : Nat} (h : WrongAt H f zs k n) (s : Same H H') : WrongAt H' f zs k n := h.keep (s _ _ h.at_) fun t j e => s _ _ e
theorem WrongAt.but {H H' : Hp} {d f : Addr} {kvs : List (Key × V)} {zs : List V} {k n : Nat} (h : WrongAt H f zs k n) (s : But d H H') (hd : H d = some (.dK kvs)) : WrongAt H' f zs k n := h.keep (s.list hd h.at_) fun t j e => s.tup hd e
theorem WrongAt.row {K : PySem.W.Frag} {H : Hp} {f : Addr} {zs : List V} {k n : Nat} (h : WrongAt H f zs k n) (hn : n ≤ 100000) : RowV K H f zs := by
  obtain ⟨D, hD⟩ := h.wm
  exact ⟨.inl (SqL.at h.at_), by rw [h.len]; exact hn, wm_isI hD⟩
section
variable {P : Program} {w : World} {K : PySem.W.Frag} {mg : Str → Option Value} {base : Heap} {a : Ad}
def spWrongRow : Sp := fun vs H Q _ => ∃ (d c p : Addr) (n : Nat) (xs : List Int), vs = [.ref d, .ref p] ∧ Pen H d c n ∧ n + 10 < 2 ^ 40 ∧ H p = some (.lst (xs.map V.int)) ∧ IsRow xs ∧ 1 ≤ xs.length ∧ xs.length ≤ 100 ∧
  ∀ o f zs k H', H o = none → H f = none → H' o = some (.tup [.ref f, .int ((k : Nat) : Int)]) → WrongAt H' f zs k xs.length → Pen H' d c (n + 4) → But d H H' → Q (.ref o) H'
theorem ok__law_wrong_row (T : Tx w K mg a) : FnOk P w K mg base CX0 3 a.f__law_wrong_row a.d__law_wrong_row ["pen", "row"] spWrongRow := by
  refine T.F__law_wrong_row.ok sc__law_wrong_row (fun vs H Q E h => ?_) (fun cdv A outer s H vs Q E hr h => ?_)
  · obtain ⟨d, c, p, n, xs, rfl, _⟩ := h
    rfl
  · obtain ⟨d, c, p, n, xs, rfl, hp, hn, eP, hR, h1, hl, q⟩ := h
    refine ⟨_, 
(pss_cons (ps_par (i := 2) (j := 3) (by rfl) sc__law_wrong_row.nd rfl rfl (by decide) rfl rfl (pa_cons (pe_callTy call_list_of (by rfl) T.z_list (by decide +kernel) (pa_cons (pv 1) pa_nil)) (pa_cons (pe_call (ok__law_draw T) (hr.mono (by decide)) (by rfl) T.m__law_draw T.F__law_draw.kp T.b__law_draw .nil pass0 (pa_cons (pv 0) (pa_cons (pe_callB call_len_seq (by rfl) T.z_len PySem.boot_len (pa_cons (pv 1) pa_nil)) pa_nil))) pa_nil)) (by rfl))
  (pss_cons (ps_set (i := 4) sc__law_wrong_row.nd rfl (.inl rfl) (pe_call (ok__law_draw T) (hr.mono (by decide)) (by rfl) T.m__law_draw T.F__law_draw.kp T.b__law_draw .nil pass0 (pa_cons (pv 0) (pa_cons (pe_callB call_len_seq (by rfl) T.z_len PySem.boot_len (pa_cons (pv 1) pa_nil)) pa_nil))))
  (C8.pss_cut (ps_if (PW.pt (pw_and (pt_cmpR op_ne (pv 4) (pv 3) (nomark _)) (pw_and1 (pt_cmpR op_eq (pe_call (ok__law_draw T) (hr.mono (by decide)) (by rfl) T.m__law_draw T.F__law_draw.kp T.b__law_draw .nil pass0 (pa_cons (pv 0) (pa_cons pe_int pa_nil))) pe_int (nomark _)))))
  (pss_cons (ps_asg (pe_ix ix_list (pv 2) (pv 4) (fun _ _ => rfl)) (pg_sub (pv 2) (pv 3) set_list))
  (pss_one (ps_ret (pe_tup (pa_cons (pv 2) (pa_cons (pe_callB (call_max2 rfl) (by rfl) T.z_max (by decide +kernel) (pa_cons (pe_callTy call_int1 (by rfl) T.z_int (by decide +kernel) (pa_cons (pv 3) pa_nil)) (pa_cons (pe_callTy call_int1 (by rfl) T.z_int (by decide +kernel) (pa_cons (pv 4) pa_nil)) pa_nil))) pa_nil))))))
  pss_nil)
  (pss_cons (ps_asg (pe_call (ok__law_pick T) hr (by rfl) T.m__law_pick T.F__law_pick.kp T.b__law_pick .nil pass0 (pa_cons (pv 0) (pa_cons (pe_lst (pa_cons (pe_callB call_len_seq (by rfl) T.z_len PySem.boot_len (pa_cons (pv 1) pa_nil)) (pa_cons (pe_un un_neg pe_int) (pa_cons pe_non (pa_cons pe_str (pa_cons (pe_tup (pa_cons pe_int pa_nil)) (pa_cons (pe_op op_add (pe_callB call_len_seq (by rfl) T.z_len PySem.boot_len (pa_cons (pv 1) pa_nil)) (pe_op op_pow pe_int pe_int)) (pa_cons (pe_un un_neg (pe_callB call_len_seq (by rfl) T.z_len PySem.boot_len (pa_cons (pv 1) pa_nil))) (pa_cons pe_bl (pa_cons pe_bl pa_nil)))))))))) pa_nil))) (pg_sub (pv 2) (pv 3) set_list))
  (pss_one (ps_ret (pe_tup (pa_cons (pv 2) (pa_cons (pv 3) pa_nil))))))))), ?_⟩
    have hpl : (xs.map V.int).length = xs.length := List.length_map ..
    have big : ∀ m : Nat, m ≤ 100 → (m : Int) < 2 ^ 200 := fun m hm => by
      have : ((100 : Nat) : Int) < 2 ^ 200 := by decide
      omega
    -- found, at = list(row), _law_draw(pen, len(row))
    refine ⟨_, rfl, p, _, rfl, .inl (SqL.at eP), fun f nf => ?_⟩
    have u1 := same_upd (o := .lst (xs.map V.int)) nf
    have e1 : (upd H f (.lst (xs.map V.int))) f = some (.lst (xs.map V.int)) := upd_same
    have hp1 := hp.same u1
    generalize upd H f (.lst (xs.map V.int)) = H1 at u1 e1 hp1 ⊢
    refine ⟨_, rfl, _, rfl, p, _, rfl, .inl (SqL.at (u1 _ _ eP)), d, c, n, _, rfl, hp1, by omega, by rw [hpl]; omega, by rw [hpl]; exact big _ hl, fun v H2 v0 v1 hp2 b2 => ⟨_, _, rfl, ?_⟩⟩
    rw [hpl] at v1
    obtain ⟨_, hd1⟩ := hp1.dict
    obtain ⟨_, hd0⟩ := hp.dict
    obtain ⟨_, hc0⟩ := hp.cells
    have e2 := b2.list hd1 e1
    have df : d ≠ f := ne_of_none hd0 nf
    have cf : c ≠ f := ne_of_none hc0 nf
    have hv : v.toNat < xs.length := by omega
    -- other = _law_draw(pen, len(row))
    refine ⟨_, rfl, _, rfl, p, _, rfl, .inl (SqL.at (b2.list hd1 (u1 _ _ eP))), d, c, _, _, rfl, hp2, by omega, by rw [hpl]; omega, by rw [hpl]; exact big _ hl, fun y H3 y0 y1 hp3 b3 => ?_⟩
    rw [hpl] at y1
    obtain ⟨_, hd2⟩ := hp2.dict
    have e3 := b3.list hd2 e2
    have hy : y.toNat < xs.length := by omega
    have b03 : But d H H3 := (but_same u1).trans (b2.trans b3)
    have nod := hR.nodup
    have inr : ∀ x ∈ xs, 0 ≤ x ∧ x < (xs.length : Int) ∧ x ∉ ([] : List Int) := fun x hx => ⟨(hR.mem.mp hx).1, (hR.mem.mp hx).2, List.not_mem_nil⟩
    -- what the end asks
    have fin : ∀ (H' : Hp) (val : V) (k m : Nat), H' f = some (.lst ((xs.map V.int).set m val)) → fwI xs.length [] 0 ((xs.map V.int).set m val) = some k → (∃ dd, WM H' val dd) → Pen H' d c (n + 4) → But d H H' → ∀ o, H' o = none → Q (.ref o) (upd H' o (.tup [.ref f, .int ((k : Nat) : Int)])) := fun H' val k m hf hfw ⟨dd, hdd⟩ hp' b' o no => by
      have so := same_upd (o := .tup [.ref f, .int ((k : Nat) : Int)]) no
      have noH : H o = none := by
        cases e : H o with
        | none => rfl
        | some u =>
          by_cases z : o = d
          · obtain ⟨_, hd'⟩ := hp'.dict
            rw [← z, no] at hd'
            cases hd'
          · rw [b' o u e z] at no
            cases no
      refine q o f _ k _ noH nf upd_same ⟨so _ _ hf, by rw [List.length_set, hpl], ?_, _, wm_keep (fun t j e => so _ _ e) (wm_set hdd m (wm_ints xs))⟩ (hp'.same so) (b'.trans (but_same so))
      unfold fwR
      rw [List.length_set, hpl]
      exact hfw
    have setI : ∀ (H' : Hp) (L : List V) (u : Int), L.length = xs.length → 0 ≤ u → u.toNat < xs.length → ixN L.length u = some u.toNat := fun H' L u hL u0 u1 => by
      have := ixN_nat (n := L.length) (i := u.toNat) (by omega) (by omega)
      rw [show ((u.toNat : Nat) : Int) = u by omega] at this
      exact this
    -- if other != at and _law_draw(pen, 2) == 0: ..
    refine ⟨fun σ' H' => σ' = [some (.ref d), some (.ref p), some (.ref f), some (.int v), some (.int y)] ∧ H' f = some (.lst (xs.map V.int)) ∧ Pen H' d c (n + 3) ∧ But d H H', ?_, ?_⟩
    · refine ⟨_, rfl, _, rfl, rfl, _, rfl, ?_⟩
      by_cases hne : v = y
      · rw [hne, decide_eq_true rfl]
        exact iteF (iteF ⟨rfl, e3, hp3.up (by omega), b03⟩)
      · rw [decide_eq_false (show ¬ V.int y = V.int v from fun z => hne (V.int.inj z).symm)]
        refine iteT ⟨_, rfl, d, c, _, 2, rfl, hp3, by omega, by decide, by decide, fun v2 H4 _ _ hp4 b4 => ⟨rfl, _, rfl, ite2 (fun _ => ?_) (fun _ => ?_)⟩⟩
        · obtain ⟨_, hd3⟩ := hp3.dict
          have e4 := b4.list hd3 e3
          have b04 := b03.trans b4
          refine ⟨.ref f, rfl, .int y, rfl, f, _, y, _, rfl, rfl, SqL.at e4, atI_ints y0 hy, .ref f, rfl, .int v, rfl, f, _, _, v.toNat, rfl, rfl, e4, setI H4 _ v hpl v0 hv, ?_⟩
          refine ⟨.ref f, rfl, .int v, rfl, .inl ⟨v, rfl, .int y, rfl, .inl ⟨y, rfl, v, y, rfl, sz (show 2 ≤ 100000 by decide), ?_⟩⟩⟩
          have em : V.int (if y > v then y else v) = V.int ((max v.toNat y.toNat : Nat) : Int) := by
            congr 1
            split <;> omega
          rw [em]
          exact fin _ _ (max v.toNat y.toNat) v.toNat upd_same (by rw [fwI_dup xs.length xs [] 0 v.toNat y.toNat hy nod inr hv (by omega)]; simp) ⟨_, .int _⟩ (((hp4.mut df cf)).up (by omega)) (b04.mut nf)
        · obtain ⟨_, hd3⟩ := hp3.dict
          exact ⟨rfl, b4.list hd3 e3, hp4.up (by omega), b03.trans b4⟩
    rintro σ' H5 ⟨rfl, e5, hp5, b05⟩
    have eP5 := b05.list hd0 eP
    refine ⟨.ref d, rfl, .ref p, rfl, p, _, rfl, .inl (SqL.at eP5), 1, rfl, sz (show 1 ≤ 100000 by decide), fun t nt => ?_⟩
    have u6 := same_upd (o := .tup [.int 0]) nt
    have e6 : (upd H5 t (.tup [.int 0])) t = some (.tup [.int 0]) := upd_same
    generalize upd H5 t (.tup [.int 0]) = H6 at u6 e6 ⊢
    have q6 : SqL K H6 p (xs.map V.int) := SqL.at (u6 _ _ eP5)
    refine ⟨.ref p, rfl, p, _, rfl, .inl q6, 10, 30, rfl, rfl, ⟨by decide, by decide, by decide⟩, _, _, rfl, rfl, .ref p, rfl, p, _, rfl, .inl q6, _, rfl, sz (show 9 ≤ 100000 by decide), fun l nl => ?_⟩
    rw [hpl]
    have u7 := same_upd (o := .lst [.int (xs.length : Int), .int (-1), .non, .str "0", .ref t, .int ((xs.length : Int) + 10 ^ (30 : Int).toNat), .int (-(xs.length : Int)), .bl true, .bl false]) nl
    refine ⟨d, c, l, n + 3, [.int (xs.length : Int), .int (-1), .non, .str "0", .ref t, .int ((xs.length : Int) + 10 ^ (30 : Int).toNat), .int (-(xs.length : Int)), .bl true, .bl false], rfl, (hp5.same u6).same u7, by omega, SqL.at upd_same, (show 0 < 9 by decide), (show 9 ≤ 100000 by decide), fun val H8 hval hp8 b8 => ?_⟩
    have s57 := u6.trans u7
    obtain ⟨_, hd7⟩ := ((hp5.same u6).same u7).dict
    have e8 := b8.list hd7 (s57 _ _ e5)
    have t8 := b8.tup hd7 (u7 _ _ e6)
    have b08 : But d H H8 := b05.trans ((but_same s57).trans b8)
    have hbad : (∃ dd, WM H8 val dd) ∧ ∀ i, val = .int i → ¬ (0 ≤ i ∧ i < (xs.length : Int) ∧ i ∉ ([] : List Int)) := by
      have big30 : (0 : Int) < 10 ^ (30 : Int).toNat := by decide +kernel
      generalize (10 : Int) ^ (30 : Int).toNat = B at hval big30
      simp only [List.mem_cons, List.not_mem_nil, or_false] at hval
      rcases hval with rfl | rfl | rfl | rfl | rfl | rfl | rfl | rfl | rfl
      · exact ⟨⟨_, .int _⟩, fun i e => by have := V.int.inj e; omega⟩
      · exact ⟨⟨_, .int _⟩, fun i e => by have := V.int.inj e; omega⟩
      · exact ⟨⟨_, .non⟩, fun i e => by cases e⟩
      · exact ⟨⟨_, .str (by decide +kernel)⟩, fun i e => by cases e⟩
      · exact ⟨⟨_, .tup t8⟩, fun i e => by cases e⟩
      · exact ⟨⟨_, .int _⟩, fun i e => by have := V.int.inj e; omega⟩
      · exact ⟨⟨_, .int _⟩, fun i e => by have := V.int.inj e; omega⟩
      · exact ⟨⟨_, .bl _⟩, fun i e => by cases e⟩
      · exact ⟨⟨_, .bl _⟩, fun i e => by cases e⟩
    refine ⟨.ref f, rfl, .int v, rfl, f, _, _, v.toNat, rfl, rfl, e8, setI H8 _ v hpl v0 hv, ?_⟩
    refine ⟨.ref f, rfl, .int v, rfl, sz (show 2 ≤ 100000 by decide), ?_⟩
    have em : V.int v = V.int ((v.toNat : Nat) : Int) := by rw [Int.toNat_of_nonneg v0]
    rw [em]
    obtain ⟨⟨dd, hdd⟩, hb⟩ := hbad
    exact fin _ val v.toNat v.toNat upd_same (by rw [fwI_bad xs.length xs [] 0 v.toNat val nod inr hv hb]; simp) ⟨dd, hdd.keep fun t1 j e => by rw [upd_ne (ne_of e e8 (by intro z; cases z))]; exact e⟩ ((hp8.mut df cf).up (by omega)) (b08.mut nf)
end

section
variable {P : Program} {w : World} {K : PySem.W.Frag} {mg : Str → Option Value} {base : Heap} {a : Ad}
/-- what stands while the calls are made: the good row, the wrong one, the things -/
structure BadSet (H : Hp) (g b t : Addr) (gs ts : List Int) (zs : List V) (k n : Nat) : Prop where
  g : H g = some (.lst (gs.map V.int))
  row : IsRow gs
  gl : gs.length = n
  b : WrongAt H b zs k n
  t : H t = some (.lst (ts.map V.int))
  tl : ts.length = n
  nn : n ≤ 100
theorem BadSet.keep {H H' : Hp} {g b t : Addr} {gs ts : List Int} {zs : List V} {k n : Nat} (h : BadSet H g b t gs ts zs k n) (e : ∀ b o, H b = some o → (∃ xs, o = .lst xs ∨ o = .tup xs) → H' b = some o) : BadSet H' g b t gs ts zs k n :=
  ⟨e _ _ h.g ⟨_, .inl rfl⟩, h.row, h.gl, h.b.keep (e _ _ h.b.at_ ⟨_, .inl rfl⟩) fun t j q => e _ _ q ⟨_, .inr rfl⟩, e _ _ h.t ⟨_, .inl rfl⟩, h.tl, h.nn⟩
theorem BadSet.same {H H' : Hp} {g b t : Addr} {gs ts : List Int} {zs : List V} {k n : Nat} (h : BadSet H g b t gs ts zs k n) (s : Same H H') : BadSet H' g b t gs ts zs k n := h.keep fun b o e _ => s b o e
/-- a call that tells BadRow(k) -/
def spBadT (CR : Addr) (g b t : Addr) (gs ts : List Int) (zs : List V) (k n : Nat) : Hp → VK → XK → Prop := fun G _ E => BadSet G g b t gs ts zs k n ∧ ErrAt G E CR "index" (.int ((k : Nat) : Int))
def spCalls (P : Program) (w : World) (K : PySem.W.Frag) (mg : Str → Option Value) (base : Heap) (TT : List (Addr × Str)) (CR : Addr) : Sp := fun vs H Q _ => ∃ (p g b t : Addr) (gs ts : List Int) (zs : List V) (k n : Nat), vs = [.ref p, .ref g, .ref b, .ref t] ∧ BadSet H g b t gs ts zs k n ∧ LamX.Tabs TT H ∧
  ∀ (o : Addr) (fs : List Addr) (H' : Hp), LamX.ExtN H H' → LamX.Tabs TT H' → H o = none → H' o = some (.lst (fs.map V.ref)) → fs.length = 10 → (∀ f ∈ fs, Thk P w K mg base 8 H' f (spBadT CR g b t gs ts zs k n)) → Q (.ref o) H'
theorem extN_upd {H H1 : Hp} {o : Addr} {xs ys : List V} (e : LamX.ExtN H H1) (n : H o = none) : LamX.ExtN H (upd H1 o (.lst ys)) := fun b u hb nt => by
  rw [upd_ne (ne_of_none hb n)]
  exact e b u hb nt
theorem tabs_upd {TT : List (Addr × Str)} {H : Hp} {o : Addr} {xs ys : List V} (h : LamX.Tabs TT H) (e : H o = some (.lst xs)) : LamX.Tabs TT (upd H o (.lst ys)) := fun p hp => by
  obtain ⟨ps, h1, h2, h3⟩ := h p hp
  refine ⟨ps, by rw [upd_ne (ne_of h1 e (by intro z; cases z))]; exact h1, h2, fun pos cv hc => ?_⟩
  obtain ⟨c, e1, e2⟩ := h3 pos cv hc
  exact ⟨c, e1, by rw [upd_ne (ne_of e2 e (by intro z; unfold LamX.CodeO at z; cases z))]; exact e2⟩
theorem BadSet.rowb {H : Hp} {g b t : Addr} {gs ts : List Int} {zs : List V} {k n : Nat} (h : BadSet H g b t gs ts zs k n) : RowV K H b zs := h.b.row (by have := h.nn; omega)
theorem BadSet.rowg {H : Hp} {g b t : Addr} {gs ts : List Int} {zs : List V} {k n : Nat} (h : BadSet H g b t gs ts zs k n) : RowV K H g (gs.map V.int) := rowV_ints (.inl (SqL.at h.g)) (by have := h.nn; have := h.gl; omega)
theorem badD {CR g b t : Addr} {gs ts : List Int} {zs : List V} {k n : Nat} {t' : XK → TE} {σ : L2.St} (hq : ∀ (H0 : Hp) (E' : XK) (Q' : VK), BadSet H0 g b t gs ts zs k n → ErrAt H0 E' CR "index" (.int ((k : Nat) : Int)) → t' E' σ H0 Q') :
    ∀ G Q E, spBadT CR g b t gs ts zs k n G Q E → spD t' σ G Q E := fun G Q E ⟨hG, hE⟩ H0 R th hR =>
  hq H0 _ _ (hG.keep fun x u hx hu => th x u hx fun ob z => by
    obtain ⟨xs, rfl | rfl⟩ := hu <;> cases z) fun H' d s' ed => hR _ _ s' fun G' sG up => hE G' d sG (up _ _ ed)
theorem firm_tbl {o : HO} (f : Firm o) : ∀ ps, o ≠ .tbl ps := fun ps z => by
  rcases f with ⟨_, _, rfl⟩ | ⟨_, rfl⟩ <;> cases z
theorem firm_lst {o : HO} {xs : List V} (f : Firm o) : o ≠ .lst xs := fun z => by
  rcases f with ⟨_, _, rfl⟩ | ⟨_, rfl⟩ <;> cases z
theorem ok__law_calls (T : Tx w K mg a) (B : Tb base mg a) : FnOk P w K mg base CX0 7 a.f__law_calls a.d__law_calls ["row", "good", "bad", "things"] (spCalls P w K mg base (tabsOf a) a.C_BadRow) := by
  refine T.L__law_calls.okD sc__law_calls (fun vs H Q E h => ?_) (fun A outer s H vs Q E hr h => ?_)
  · obtain ⟨p, g, b, t, gs, ts, zs, k, n, rfl, _⟩ := h
    rfl
  · obtain ⟨p, g, b, t, gs, ts, zs, k, n, rfl, hS, hT, q⟩ := h
    refine ⟨_, 
(psr_cons (ps_set (i := 4) sc__law_calls.nd rfl (.inl rfl) (pe_lst (pa_cons (pe_lam (k := 5) (T := tabsOf a) B.tb__law_calls rfl (.head _) B.hu__law_calls rfl ⟨LamX.lamS_by (sc := defScope s__law_calls) (by decide +kernel), fun _ _ _ _ _ => rfl, fun A outer s H E f c hr => (pe_callS (ok_joined T) hr (by rfl) T.m_joined T.F_joined.kp T.b_joined (fun σ => passAt (takes_of rfl rfl rfl rfl) σ) (pa_cons (pv 2) (pa_cons (pv 1) pa_nil)))⟩) pa_nil)))
  (psr_cons (ps_expr (pe_bm PySem.F.plainAttrs_list PySem.F.slot_list_append PySem.F.type_list_append mt_append (pv 4) (pa_cons (pe_lam (k := 5) (T := tabsOf a) B.tb__law_calls rfl (.head _) B.hu__law_calls rfl ⟨LamX.lamS_by (sc := defScope s__law_calls) (by decide +kernel), fun _ _ _ _ _ => rfl, fun A outer s H E f c hr => (pe_callS (ok_joined T) hr (by rfl) T.m_joined T.F_joined.kp T.b_joined (fun σ => passAt (takes_of rfl rfl rfl rfl) σ) (pa_cons (pv 1) (pa_cons (pv 2) pa_nil)))⟩) pa_nil)))
  (psr_cons (ps_expr (pe_bm PySem.F.plainAttrs_list PySem.F.slot_list_append PySem.F.type_list_append mt_append (pv 4) (pa_cons (pe_lam (k := 5) (T := tabsOf a) B.tb__law_calls rfl (.head _) B.hu__law_calls rfl ⟨LamX.lamS_by (sc := defScope s__law_calls) (by decide +kernel), fun _ _ _ _ _ => rfl, fun A outer s H E f c hr => (pe_callS (ok_joined T) hr (by rfl) T.m_joined T.F_joined.kp T.b_joined (fun σ => passAt (takes_of rfl rfl rfl rfl) σ) (pa_cons (pv 2) (pa_cons (pe_op op_cat (pv 1) (pe_lst (pa_cons pe_int (pa_cons pe_int pa_nil)))) pa_nil)))⟩) pa_nil)))
  (psr_cons (ps_expr (pe_bm PySem.F.plainAttrs_list PySem.F.slot_list_append PySem.F.type_list_append mt_append (pv 4) (pa_cons (pe_lam (k := 5) (T := tabsOf a) B.tb__law_calls rfl (.head _) B.hu__law_calls rfl ⟨LamX.lamS_by (sc := defScope s__law_calls) (by decide +kernel), fun _ _ _ _ _ => rfl, fun A outer s H E f c hr => (pe_callS (ok_undone T) hr (by rfl) T.m_undone T.F_undone.kp T.b_undone (fun σ => passAt (takes_of rfl rfl rfl rfl) σ) (pa_cons (pv 2) pa_nil))⟩) pa_nil)))
  (psr_cons (ps_expr (pe_bm PySem.F.plainAttrs_list PySem.F.slot_list_append PySem.F.type_list_append mt_append (pv 4) (pa_cons (pe_lam (k := 5) (T := tabsOf a) B.tb__law_calls rfl (.head _) B.hu__law_calls rfl ⟨LamX.lamS_by (sc := defScope s__law_calls) (by decide +kernel), fun _ _ _ _ _ => rfl, fun A outer s H E f c hr => (pe_callS (ok_done T) hr (by rfl) T.m_done T.F_done.kp T.b_done (fun σ => passAt (takes_of rfl rfl rfl rfl) σ) (pa_cons (pv 2) (pa_cons (pv 3) pa_nil)))⟩) pa_nil)))
  (psr_cons (ps_expr (pe_bm PySem.F.plainAttrs_list PySem.F.slot_list_append PySem.F.type_list_append mt_append (pv 4) (pa_cons (pe_lam (k := 5) (T := tabsOf a) B.tb__law_calls rfl (.head _) B.hu__law_calls rfl ⟨LamX.lamS_by (sc := defScope s__law_calls) (by decide +kernel), fun _ _ _ _ _ => rfl, fun A outer s H E f c hr => (pe_callS (ok_done T) hr (by rfl) T.m_done T.F_done.kp T.b_done (fun σ => passAt (takes_of rfl rfl rfl rfl) σ) (pa_cons (pe_callTy (call_tuple_ofK (K := K) rfl) (by rfl) T.z_tuple (by decide +kernel) (pa_cons (pv 2) pa_nil)) (pa_cons (pe_op op_cat (pv 3) (pe_lst (pa_cons pe_int pa_nil))) pa_nil)))⟩) pa_nil)))
  (psr_cons (ps_expr (pe_bm PySem.F.plainAttrs_list PySem.F.slot_list_append PySem.F.type_list_append mt_append (pv 4) (pa_cons (pe_lam (k := 5) (T := tabsOf a) B.tb__law_calls rfl (.head _) B.hu__law_calls rfl ⟨LamX.lamS_by (sc := defScope s__law_calls) (by decide +kernel), fun _ _ _ _ _ => rfl, fun A outer s H E f c hr => (pe_callS (ok_rings T) hr (by rfl) T.m_rings T.F_rings.kp T.b_rings (fun σ => passAt (takes_of rfl rfl rfl rfl) σ) (pa_cons (pv 2) pa_nil))⟩) pa_nil)))
  (psr_cons (ps_expr (pe_bm PySem.F.plainAttrs_list PySem.F.slot_list_append PySem.F.type_list_append mt_append (pv 4) (pa_cons (pe_lam (k := 5) (T := tabsOf a) B.tb__law_calls rfl (.head _) B.hu__law_calls rfl ⟨LamX.lamS_by (sc := defScope s__law_calls) (by decide +kernel), fun _ _ _ _ _ => rfl, fun A outer s H E f c hr => (pe_callS (ok_repeated T) hr (by rfl) T.m_repeated T.F_repeated.kp T.b_repeated (fun σ => passAt (takes_of rfl rfl rfl rfl) σ) (pa_cons (pv 2) (pa_cons pe_int pa_nil)))⟩) pa_nil)))
  (psr_cons (ps_expr (pe_bm PySem.F.plainAttrs_list PySem.F.slot_list_append PySem.F.type_list_append mt_append (pv 4) (pa_cons (pe_lam (k := 5) (T := tabsOf a) B.tb__law_calls rfl (.head _) B.hu__law_calls rfl ⟨LamX.lamS_by (sc := defScope s__law_calls) (by decide +kernel), fun _ _ _ _ _ => rfl, fun A outer s H E f c hr => (pe_callS (ok_repeated T) hr (by rfl) T.m_repeated T.F_repeated.kp T.b_repeated (fun σ => passAt (takes_of rfl rfl rfl rfl) σ) (pa_cons (pv 2) (pa_cons pe_non pa_nil)))⟩) pa_nil)))
  (psr_cons (ps_expr (pe_bm PySem.F.plainAttrs_list PySem.F.slot_list_append PySem.F.type_list_append mt_append (pv 4) (pa_cons (pe_lam (k := 6) (T := tabsOf a) B.tb__law_calls rfl (.head _) B.hu__law_calls rfl ⟨LamX.lamS_by (sc := defScope s__law_calls) (by decide +kernel), fun _ _ _ _ _ => rfl, fun A outer s H E f c hr => (pe_callS (ok_is_even T) hr (by rfl) T.m_is_even T.F_is_even.kp T.b_is_even (fun σ => passAt (takes_of rfl rfl rfl rfl) σ) (pa_cons (pv 2) pa_nil))⟩) pa_nil)))
  (psr_ret (pv 4)))))))))))), ?_⟩
    have S0 : ∀ {G : Hp}, LamX.ExtN H G → BadSet G g b t gs ts zs k n := fun {G} e => hS.keep fun x u hx hu => e x u hx fun ps z => by
      obtain ⟨xs, rfl | rfl⟩ := hu <;> cases z
    refine ⟨hT, fun f1 H1 e1 r1 T1 n1 l1 => ⟨sz (show 1 ≤ 100000 by decide), fun o no => ?_⟩⟩
    have noH := r1 o no
    have x1 : LamX.ExtN H (upd H1 o (.lst ([f1].map V.ref))) := extN_upd (xs := []) e1 noH
    have w1 : LamX.Tabs (tabsOf a) (upd H1 o (.lst ([f1].map V.ref))) := T1.ext (same_upd no)
    have o1 : (upd H1 o (.lst ([f1].map V.ref))) o = some (.lst ([f1].map V.ref)) := upd_same
    have z1 := l1.keep (G := upd H1 o (.lst ([f1].map V.ref))) fun b u hb _ => (same_upd no) b u hb
    generalize hg1 : upd H1 o (.lst ([f1].map V.ref)) = G1 at x1 w1 o1 z1
    rw [show (upd H1 o (.lst [V.ref f1])) = G1 from hg1]
    clear hg1
    refine ⟨_, rfl, .inl ⟨rfl, _, SqL.at o1⟩, w1, fun f2 H2 e2 r2 T2 n2 l2 => ?_⟩
    have o2' := e2 _ _ o1 (fun ps z => by cases z)
    refine ⟨o, _, _, rfl, rfl, o2', szlt (show 1 ≤ 100000 by decide), ?_⟩
    have kp2 : ∀ b u, H2 b = some u → Firm u → (upd H2 o (.lst ([f1, f2].map V.ref))) b = some u := fun b u hb fu => by
      rw [upd_ne (ne_of hb o2' (firm_lst fu))]
      exact hb
    have x2 : LamX.ExtN H (upd H2 o (.lst ([f1, f2].map V.ref))) := extN_upd (xs := []) (x1.trans e2) noH
    have w2 : LamX.Tabs (tabsOf a) (upd H2 o (.lst ([f1, f2].map V.ref))) := tabs_upd T2 o2'
    have o2 : (upd H2 o (.lst ([f1, f2].map V.ref))) o = some (.lst ([f1, f2].map V.ref)) := upd_same
    have z2 := l2.keep kp2
    have z1 := (z1.keep fun b u hb fu => e2 b u hb (firm_tbl fu)).keep fun b u hb fu => kp2 b u hb fu
    generalize hg2 : upd H2 o (.lst ([f1, f2].map V.ref)) = G2 at x2 w2 o2 z1 z2
    rw [show (upd H2 o (.lst ([f1].map V.ref ++ [V.ref f2]))) = G2 from hg2]
    clear hg2 kp2 o2' o1 w1 x1
    refine ⟨_, rfl, .inl ⟨rfl, _, SqL.at o2⟩, w2, fun f3 H3 e3 r3 T3 n3 l3 => ?_⟩
    have o3' := e3 _ _ o2 (fun ps z => by cases z)
    refine ⟨o, _, _, rfl, rfl, o3', szlt (show 2 ≤ 100000 by decide), ?_⟩
    have kp3 : ∀ b u, H3 b = some u → Firm u → (upd H3 o (.lst ([f1, f2, f3].map V.ref))) b = some u := fun b u hb fu => by
      rw [upd_ne (ne_of hb o3' (firm_lst fu))]
      exact hb
    have x3 : LamX.ExtN H (upd H3 o (.lst ([f1, f2, f3].map V.ref))) := extN_upd (xs := []) (x2.trans e3) noH
    have w3 : LamX.Tabs (tabsOf a) (upd H3 o (.lst ([f1, f2, f3].map V.ref))) := tabs_upd T3 o3'
    have o3 : (upd H3 o (.lst ([f1, f2, f3].map V.ref))) o = some (.lst ([f1, f2, f3].map V.ref)) := upd_same
    have z3 := l3.keep kp3
    have z1 := (z1.keep fun b u hb fu => e3 b u hb (firm_tbl fu)).keep fun b u hb fu => kp3 b u hb fu
    have z2 := (z2.keep fun b u hb fu => e3 b u hb (firm_tbl fu)).keep fun b u hb fu => kp3 b u hb fu
    generalize hg3 : upd H3 o (.lst ([f1, f2, f3].map V.ref)) = G3 at x3 w3 o3 z1 z2 z3
    rw [show (upd H3 o (.lst ([f1, f2].map V.ref ++ [V.ref f3]))) = G3 from hg3]
    clear hg3 kp3 o3' o2 w2 x2
    refine ⟨_, rfl, .inl ⟨rfl, _, SqL.at o3⟩, w3, fun f4 H4 e4 r4 T4 n4 l4 => ?_⟩
    have o4' := e4 _ _ o3 (fun ps z => by cases z)
    refine ⟨o, _, _, rfl, rfl, o4', szlt (show 3 ≤ 100000 by decide), ?_⟩
    have kp4 : ∀ b u, H4 b = some u → Firm u → (upd H4 o (.lst ([f1, f2, f3, f4].map V.ref))) b = some u := fun b u hb fu => by
      rw [upd_ne (ne_of hb o4' (firm_lst fu))]
      exact hb
    have x4 : LamX.ExtN H (upd H4 o (.lst ([f1, f2, f3, f4].map V.ref))) := extN_upd (xs := []) (x3.trans e4) noH
    have w4 : LamX.Tabs (tabsOf a) (upd H4 o (.lst ([f1, f2, f3, f4].map V.ref))) := tabs_upd T4 o4'
    have o4 : (upd H4 o (.lst ([f1, f2, f3, f4].map V.ref))) o = some (.lst ([f1, f2, f3, f4].map V.ref)) := upd_same
    have z4 := l4.keep kp4
    have z1 := (z1.keep fun b u hb fu => e4 b u hb (firm_tbl fu)).keep fun b u hb fu => kp4 b u hb fu
    have z2 := (z2.keep fun b u hb fu => e4 b u hb (firm_tbl fu)).keep fun b u hb fu => kp4 b u hb fu
    have z3 := (z3.keep fun b u hb fu => e4 b u hb (firm_tbl fu)).keep fun b u hb fu => kp4 b u hb fu
    generalize hg4 : upd H4 o (.lst ([f1, f2, f3, f4].map V.ref)) = G4 at x4 w4 o4 z1 z2 z3 z4
    rw [show (upd H4 o (.lst ([f1, f2, f3].map V.ref ++ [V.ref f4]))) = G4 from hg4]
    clear hg4 kp4 o4' o3 w3 x3
    refine ⟨_, rfl, .inl ⟨rfl, _, SqL.at o4⟩, w4, fun f5 H5 e5 r5 T5 n5 l5 => ?_⟩
    have o5' := e5 _ _ o4 (fun ps z => by cases z)
    refine ⟨o, _, _, rfl, rfl, o5', szlt (show 4 ≤ 100000 by decide), ?_⟩
    have kp5 : ∀ b u, H5 b = some u → Firm u → (upd H5 o (.lst ([f1, f2, f3, f4, f5].map V.ref))) b = some u := fun b u hb fu => by
      rw [upd_ne (ne_of hb o5' (firm_lst fu))]
      exact hb
    have x5 : LamX.ExtN H (upd H5 o (.lst ([f1, f2, f3, f4, f5].map V.ref))) := extN_upd (xs := []) (x4.trans e5) noH
    have w5 : LamX.Tabs (tabsOf a) (upd H5 o (.lst ([f1, f2, f3, f4, f5].map V.ref))) := tabs_upd T5 o5'
    have o5 : (upd H5 o (.lst ([f1, f2, f3, f4, f5].map V.ref))) o = some (.lst ([f1, f2, f3, f4, f5].map V.ref)) := upd_same
    have z5 := l5.keep kp5
    have z1 := (z1.keep fun b u hb fu => e5 b u hb (firm_tbl fu)).keep fun b u hb fu => kp5 b u hb fu
    have z2 := (z2.keep fun b u hb fu => e5 b u hb (firm_tbl fu)).keep fun b u hb fu => kp5 b u hb fu
    have z3 := (z3.keep fun b u hb fu => e5 b u hb (firm_tbl fu)).keep fun b u hb fu => kp5 b u hb fu
    have z4 := (z4.keep fun b u hb fu => e5 b u hb (firm_tbl fu)).keep fun b u hb fu => kp5 b u hb fu
    generalize hg5 : upd H5 o (.lst ([f1, f2, f3, f4, f5].map V.ref)) = G5 at x5 w5 o5 z1 z2 z3 z4 z5
    rw [show (upd H5 o (.lst ([f1, f2, f3, f4].map V.ref ++ [V.ref f5]))) = G5 from hg5]
    clear hg5 kp5 o5' o4 w4 x4
    refine ⟨_, rfl, .inl ⟨rfl, _, SqL.at o5⟩, w5, fun f6 H6 e6 r6 T6 n6 l6 => ?_⟩
    have o6' := e6 _ _ o5 (fun ps z => by cases z)
    refine ⟨o, _, _, rfl, rfl, o6', szlt (show 5 ≤ 100000 by decide), ?_⟩
    have kp6 : ∀ b u, H6 b = some u → Firm u → (upd H6 o (.lst ([f1, f2, f3, f4, f5, f6].map V.ref))) b = some u := fun b u hb fu => by
      rw [upd_ne (ne_of hb o6' (firm_lst fu))]
      exact hb
    have x6 : LamX.ExtN H (upd H6 o (.lst ([f1, f2, f3, f4, f5, f6].map V.ref))) := extN_upd (xs := []) (x5.trans e6) noH
    have w6 : LamX.Tabs (tabsOf a) (upd H6 o (.lst ([f1, f2, f3, f4, f5, f6].map V.ref))) := tabs_upd T6 o6'
    have o6 : (upd H6 o (.lst ([f1, f2, f3, f4, f5, f6].map V.ref))) o = some (.lst ([f1, f2, f3, f4, f5, f6].map V.ref)) := upd_same
    have z6 := l6.keep kp6
    have z1 := (z1.keep fun b u hb fu => e6 b u hb (firm_tbl fu)).keep fun b u hb fu => kp6 b u hb fu
    have z2 := (z2.keep fun b u hb fu => e6 b u hb (firm_tbl fu)).keep fun b u hb fu => kp6 b u hb fu
    have z3 := (z3.keep fun b u hb fu => e6 b u hb (firm_tbl fu)).keep fun b u hb fu => kp6 b u hb fu
    have z4 := (z4.keep fun b u hb fu => e6 b u hb (firm_tbl fu)).keep fun b u hb fu => kp6 b u hb fu
    have z5 := (z5.keep fun b u hb fu => e6 b u hb (firm_tbl fu)).keep fun b u hb fu => kp6 b u hb fu
    generalize hg6 : upd H6 o (.lst ([f1, f2, f3, f4, f5, f6].map V.ref)) = G6 at x6 w6 o6 z1 z2 z3 z4 z5 z6
    rw [show (upd H6 o (.lst ([f1, f2, f3, f4, f5].map V.ref ++ [V.ref f6]))) = G6 from hg6]
    clear hg6 kp6 o6' o5 w5 x5
    refine ⟨_, rfl, .inl ⟨rfl, _, SqL.at o6⟩, w6, fun f7 H7 e7 r7 T7 n7 l7 => ?_⟩
    have o7' := e7 _ _ o6 (fun ps z => by cases z)
    refine ⟨o, _, _, rfl, rfl, o7', szlt (show 6 ≤ 100000 by decide), ?_⟩
    have kp7 : ∀ b u, H7 b = some u → Firm u → (upd H7 o (.lst ([f1, f2, f3, f4, f5, f6, f7].map V.ref))) b = some u := fun b u hb fu => by
      rw [upd_ne (ne_of hb o7' (firm_lst fu))]
      exact hb
    have x7 : LamX.ExtN H (upd H7 o (.lst ([f1, f2, f3, f4, f5, f6, f7].map V.ref))) := extN_upd (xs := []) (x6.trans e7) noH
    have w7 : LamX.Tabs (tabsOf a) (upd H7 o (.lst ([f1, f2, f3, f4, f5, f6, f7].map V.ref))) := tabs_upd T7 o7'
    have o7 : (upd H7 o (.lst ([f1, f2, f3, f4, f5, f6, f7].map V.ref))) o = some (.lst ([f1, f2, f3, f4, f5, f6, f7].map V.ref)) := upd_same
    have z7 := l7.keep kp7
    have z1 := (z1.keep fun b u hb fu => e7 b u hb (firm_tbl fu)).keep fun b u hb fu => kp7 b u hb fu
    have z2 := (z2.keep fun b u hb fu => e7 b u hb (firm_tbl fu)).keep fun b u hb fu => kp7 b u hb fu
    have z3 := (z3.keep fun b u hb fu => e7 b u hb (firm_tbl fu)).keep fun b u hb fu => kp7 b u hb fu
    have z4 := (z4.keep fun b u hb fu => e7 b u hb (firm_tbl fu)).keep fun b u hb fu => kp7 b u hb fu
    have z5 := (z5.keep fun b u hb fu => e7 b u hb (firm_tbl fu)).keep fun b u hb fu => kp7 b u hb fu
    have z6 := (z6.keep fun b u hb fu => e7 b u hb (firm_tbl fu)).keep fun b u hb fu => kp7 b u hb fu
    generalize hg7 : upd H7 o (.lst ([f1, f2, f3, f4, f5, f6, f7].map V.ref)) = G7 at x7 w7 o7 z1 z2 z3 z4 z5 z6 z7
    rw [show (upd H7 o (.lst ([f1, f2, f3, f4, f5, f6].map V.ref ++ [V.ref f7]))) = G7 from hg7]
    clear hg7 kp7 o7' o6 w6 x6
    refine ⟨_, rfl, .inl ⟨rfl, _, SqL.at o7⟩, w7, fun f8 H8 e8 r8 T8 n8 l8 => ?_⟩
    have o8' := e8 _ _ o7 (fun ps z => by cases z)
    refine ⟨o, _, _, rfl, rfl, o8', szlt (show 7 ≤ 100000 by decide), ?_⟩
    have kp8 : ∀ b u, H8 b = some u → Firm u → (upd H8 o (.lst ([f1, f2, f3, f4, f5, f6, f7, f8].map V.ref))) b = some u := fun b u hb fu => by
      rw [upd_ne (ne_of hb o8' (firm_lst fu))]
      exact hb
    have x8 : LamX.ExtN H (upd H8 o (.lst ([f1, f2, f3, f4, f5, f6, f7, f8].map V.ref))) := extN_upd (xs := []) (x7.trans e8) noH
    have w8 : LamX.Tabs (tabsOf a) (upd H8 o (.lst ([f1, f2, f3, f4, f5, f6, f7, f8].map V.ref))) := tabs_upd T8 o8'
    have o8 : (upd H8 o (.lst ([f1, f2, f3, f4, f5, f6, f7, f8].map V.ref))) o = some (.lst ([f1, f2, f3, f4, f5, f6, f7, f8].map V.ref)) := upd_same
    have z8 := l8.keep kp8
    have z1 := (z1.keep fun b u hb fu => e8 b u hb (firm_tbl fu)).keep fun b u hb fu => kp8 b u hb fu
    have z2 := (z2.keep fun b u hb fu => e8 b u hb (firm_tbl fu)).keep fun b u hb fu => kp8 b u hb fu
    have z3 := (z3.keep fun b u hb fu => e8 b u hb (firm_tbl fu)).keep fun b u hb fu => kp8 b u hb fu
    have z4 := (z4.keep fun b u hb fu => e8 b u hb (firm_tbl fu)).keep fun b u hb fu => kp8 b u hb fu
    have z5 := (z5.keep fun b u hb fu => e8 b u hb (firm_tbl fu)).keep fun b u hb fu => kp8 b u hb fu
    have z6 := (z6.keep fun b u hb fu => e8 b u hb (firm_tbl fu)).keep fun b u hb fu => kp8 b u hb fu
    have z7 := (z7.keep fun b u hb fu => e8 b u hb (firm_tbl fu)).keep fun b u hb fu => kp8 b u hb fu
    generalize hg8 : upd H8 o (.lst ([f1, f2, f3, f4, f5, f6, f7, f8].map V.ref)) = G8 at x8 w8 o8 z1 z2 z3 z4 z5 z6 z7 z8
    rw [show (upd H8 o (.lst ([f1, f2, f3, f4, f5, f6, f7].map V.ref ++ [V.ref f8]))) = G8 from hg8]
    clear hg8 kp8 o8' o7 w7 x7
    refine ⟨_, rfl, .inl ⟨rfl, _, SqL.at o8⟩, w8, fun f9 H9 e9 r9 T9 n9 l9 => ?_⟩
    have o9' := e9 _ _ o8 (fun ps z => by cases z)
    refine ⟨o, _, _, rfl, rfl, o9', szlt (show 8 ≤ 100000 by decide), ?_⟩
    have kp9 : ∀ b u, H9 b = some u → Firm u → (upd H9 o (.lst ([f1, f2, f3, f4, f5, f6, f7, f8, f9].map V.ref))) b = some u := fun b u hb fu => by
      rw [upd_ne (ne_of hb o9' (firm_lst fu))]
      exact hb
    have x9 : LamX.ExtN H (upd H9 o (.lst ([f1, f2, f3, f4, f5, f6, f7, f8, f9].map V.ref))) := extN_upd (xs := []) (x8.trans e9) noH
    have w9 : LamX.Tabs (tabsOf a) (upd H9 o (.lst ([f1, f2, f3, f4, f5, f6, f7, f8, f9].map V.ref))) := tabs_upd T9 o9'
    have o9 : (upd H9 o (.lst ([f1, f2, f3, f4, f5, f6, f7, f8, f9].map V.ref))) o = some (.lst ([f1, f2, f3, f4, f5, f6, f7, f8, f9].map V.ref)) := upd_same
    have z9 := l9.keep kp9
    have z1 := (z1.keep fun b u hb fu => e9 b u hb (firm_tbl fu)).keep fun b u hb fu => kp9 b u hb fu
    have z2 := (z2.keep fun b u hb fu => e9 b u hb (firm_tbl fu)).keep fun b u hb fu => kp9 b u hb fu
    have z3 := (z3.keep fun b u hb fu => e9 b u hb (firm_tbl fu)).keep fun b u hb fu => kp9 b u hb fu
    have z4 := (z4.keep fun b u hb fu => e9 b u hb (firm_tbl fu)).keep fun b u hb fu => kp9 b u hb fu
    have z5 := (z5.keep fun b u hb fu => e9 b u hb (firm_tbl fu)).keep fun b u hb fu => kp9 b u hb fu
    have z6 := (z6.keep fun b u hb fu => e9 b u hb (firm_tbl fu)).keep fun b u hb fu => kp9 b u hb fu
    have z7 := (z7.keep fun b u hb fu => e9 b u hb (firm_tbl fu)).keep fun b u hb fu => kp9 b u hb fu
    have z8 := (z8.keep fun b u hb fu => e9 b u hb (firm_tbl fu)).keep fun b u hb fu => kp9 b u hb fu
    generalize hg9 : upd H9 o (.lst ([f1, f2, f3, f4, f5, f6, f7, f8, f9].map V.ref)) = G9 at x9 w9 o9 z1 z2 z3 z4 z5 z6 z7 z8 z9
    rw [show (upd H9 o (.lst ([f1, f2, f3, f4, f5, f6, f7, f8].map V.ref ++ [V.ref f9]))) = G9 from hg9]
    clear hg9 kp9 o9' o8 w8 x8
    refine ⟨_, rfl, .inl ⟨rfl, _, SqL.at o9⟩, w9, fun f10 H10 e10 r10 T10 n10 l10 => ?_⟩
    have o10' := e10 _ _ o9 (fun ps z => by cases z)
    refine ⟨o, _, _, rfl, rfl, o10', szlt (show 9 ≤ 100000 by decide), ?_⟩
    have kp10 : ∀ b u, H10 b = some u → Firm u → (upd H10 o (.lst ([f1, f2, f3, f4, f5, f6, f7, f8, f9, f10].map V.ref))) b = some u := fun b u hb fu => by
      rw [upd_ne (ne_of hb o10' (firm_lst fu))]
      exact hb
    have x10 : LamX.ExtN H (upd H10 o (.lst ([f1, f2, f3, f4, f5, f6, f7, f8, f9, f10].map V.ref))) := extN_upd (xs := []) (x9.trans e10) noH
    have w10 : LamX.Tabs (tabsOf a) (upd H10 o (.lst ([f1, f2, f3, f4, f5, f6, f7, f8, f9, f10].map V.ref))) := tabs_upd T10 o10'
    have o10 : (upd H10 o (.lst ([f1, f2, f3, f4, f5, f6, f7, f8, f9, f10].map V.ref))) o = some (.lst ([f1, f2, f3, f4, f5, f6, f7, f8, f9, f10].map V.ref)) := upd_same
    have z10 := l10.keep kp10
    have z1 := (z1.keep fun b u hb fu => e10 b u hb (firm_tbl fu)).keep fun b u hb fu => kp10 b u hb fu
    have z2 := (z2.keep fun b u hb fu => e10 b u hb (firm_tbl fu)).keep fun b u hb fu => kp10 b u hb fu
    have z3 := (z3.keep fun b u hb fu => e10 b u hb (firm_tbl fu)).keep fun b u hb fu => kp10 b u hb fu
    have z4 := (z4.keep fun b u hb fu => e10 b u hb (firm_tbl fu)).keep fun b u hb fu => kp10 b u hb fu
    have z5 := (z5.keep fun b u hb fu => e10 b u hb (firm_tbl fu)).keep fun b u hb fu => kp10 b u hb fu
    have z6 := (z6.keep fun b u hb fu => e10 b u hb (firm_tbl fu)).keep fun b u hb fu => kp10 b u hb fu
    have z7 := (z7.keep fun b u hb fu => e10 b u hb (firm_tbl fu)).keep fun b u hb fu => kp10 b u hb fu
    have z8 := (z8.keep fun b u hb fu => e10 b u hb (firm_tbl fu)).keep fun b u hb fu => kp10 b u hb fu
    have z9 := (z9.keep fun b u hb fu => e10 b u hb (firm_tbl fu)).keep fun b u hb fu => kp10 b u hb fu
    generalize hg10 : upd H10 o (.lst ([f1, f2, f3, f4, f5, f6, f7, f8, f9, f10].map V.ref)) = G10 at x10 w10 o10 z1 z2 z3 z4 z5 z6 z7 z8 z9 z10
    rw [show (upd H10 o (.lst ([f1, f2, f3, f4, f5, f6, f7, f8, f9].map V.ref ++ [V.ref f10]))) = G10 from hg10]
    clear hg10 kp10 o10' o9 w9 x9
    refine ⟨_, rfl, fun h hh => ?_⟩
    have same := hh.same
    have key : ∀ {k' : Nat} {f : Addr} {t' : XK → TE}, LamAt _ k' G10 f t' → k' + 1 ≤ 8 → (∀ (H0 : Hp) (E' : XK) (Q' : VK), BadSet H0 g b t gs ts zs k n → ErrAt H0 E' a.C_BadRow "index" (.int ((k : Nat) : Int)) → t' E' [some (.ref p), some (.ref g), some (.ref b), some (.ref t), some (.ref o)] H0 Q') → Thk P w K mg base 8 _ f (spBadT a.C_BadRow g b t gs ts zs k n) := fun l hk hq => ((l.thkD hh).mono hk).imp fun G Q E hS' => badD hq G Q E hS'
    refine q o [f1, f2, f3, f4, f5, f6, f7, f8, f9, f10] _ (x10.trans (LamX.ExtN.of same)) (w10.ext same) noH (same _ _ o10) rfl ?_
    have hnn := hS.nn
    simp only [List.forall_mem_cons, List.not_mem_nil, false_implies, implies_true, and_true]
    refine ⟨key z1 (by decide) fun H0 E' Q' hB he => ?_, key z2 (by decide) fun H0 E' Q' hB he => ?_, key z3 (by decide) fun H0 E' Q' hB he => ?_, key z4 (by decide) fun H0 E' Q' hB he => ?_, key z5 (by decide) fun H0 E' Q' hB he => ?_, key z6 (by decide) fun H0 E' Q' hB he => ?_, key z7 (by decide) fun H0 E' Q' hB he => ?_, key z8 (by decide) fun H0 E' Q' hB he => ?_, key z9 (by decide) fun H0 E' Q' hB he => ?_, key z10 (by decide) fun H0 E' Q' hB he => ?_⟩
    · exact ⟨.ref b, rfl, .ref g, rfl, b, g, zs, _, rfl, hB.rowb, hB.rowg, .inl ⟨k, .inl hB.b.fw, he⟩⟩
    · exact ⟨.ref g, rfl, .ref b, rfl, g, b, _, zs, rfl, hB.rowg, hB.rowb, .inl ⟨k, .inr ⟨fwR_row hB.row, hB.b.fw⟩, he⟩⟩
    · refine ⟨.ref b, rfl, .ref g, rfl, sz (show 2 ≤ 100000 by decide), fun l nl => ?_⟩
      have u1 := same_upd (o := .lst [.int 0, .int 0]) nl
      refine ⟨g, l, _, [.int 0, .int 0], rfl, rfl, u1 _ _ hB.g, upd_same, sz (by rw [List.length_map]; have := hB.gl; show gs.length + 2 ≤ _; omega), fun m nm => ?_⟩
      have u2 := same_upd (o := .lst (gs.map V.int ++ [.int 0, .int 0])) nm
      have e2 : (upd (upd H0 l (.lst [.int 0, .int 0])) m (.lst (gs.map V.int ++ [.int 0, .int 0]))) m = some (.lst ((gs ++ [0, 0]).map V.int)) := by rw [upd_same, List.map_append]; rfl
      exact ⟨b, m, zs, _, rfl, hB.rowb.same (u1.trans u2), rowV_ints (.inl (SqL.at e2)) (by rw [List.length_append]; have := hB.gl; show gs.length + 2 ≤ _; omega), .inl ⟨k, .inl hB.b.fw, he.on (u1.trans u2)⟩⟩
    · exact ⟨.ref b, rfl, b, zs, k, rfl, hB.rowb, hB.b.fw, he⟩
    · exact ⟨.ref b, rfl, .ref t, rfl, b, t, zs, ts, rfl, hB.rowb, .inl (SqL.at hB.t), by have := hB.tl; omega, .inl ⟨k, hB.b.fw, he⟩⟩
    · refine ⟨.ref b, rfl, b, zs, rfl, .inl ⟨SqL.at hB.b.at_, fun l nl => ?_⟩⟩
      have u0 := same_upd (o := .tup zs) nl
      have e0 : (upd H0 l (.tup zs)) l = some (.tup zs) := upd_same
      have hB2 := hB.same u0
      generalize upd H0 l (.tup zs) = H2 at u0 e0 hB2 ⊢
      refine ⟨.ref t, rfl, sz (show 1 ≤ 100000 by decide), fun l2 nl2 => ?_⟩
      have u1 := same_upd (o := .lst [.int 1]) nl2
      refine ⟨t, l2, _, [.int 1], rfl, rfl, u1 _ _ hB2.t, upd_same, sz (by rw [List.length_map]; have := hB.tl; show ts.length + 1 ≤ _; omega), fun m nm => ?_⟩
      have u2 := same_upd (o := .lst (ts.map V.int ++ [.int 1])) nm
      have e2 : (upd (upd H2 l2 (.lst [.int 1])) m (.lst (ts.map V.int ++ [.int 1]))) m = some (.lst ((ts ++ [1]).map V.int)) := by rw [upd_same, List.map_append]; rfl
      have u02 := u0.trans (u1.trans u2)
      exact ⟨l, m, zs, ts ++ [1], rfl, ⟨.inr (SqT.at (u2 _ _ (u1 _ _ e0))), ((BadSet.rowb (K := K) hB).same u02).2⟩, .inl (SqL.at e2), by rw [List.length_append]; have := hB.tl; show ts.length + 1 ≤ _; omega, .inl ⟨k, hB.b.fw, he.on u02⟩⟩
    · exact ⟨.ref b, rfl, b, zs, k, rfl, hB.rowb, hB.b.fw, he⟩
    · exact ⟨.ref b, rfl, b, zs, .int 3, true, rfl, hB.rowb, .int _, .inl ⟨k, hB.b.fw, he⟩⟩
    · exact ⟨.ref b, rfl, b, zs, .non, false, rfl, hB.rowb, .non, .inl ⟨k, hB.b.fw, he⟩⟩
    · exact ⟨.ref b, rfl, b, zs, k, rfl, hB.rowb, hB.b.fw, he⟩
end

/-! ### what stands behind draws, lambdas and calls -/
/-- lists and tuples stand as they stood -/
def KLT (H H' : Hp) : Prop := ∀ b o, H b = some o → (∃ xs, o = .lst xs ∨ o = .tup xs) → H' b = some o
theorem KLT.refl {H : Hp} : KLT H H := fun _ _ e _ => e
theorem KLT.trans {H H1 H2 : Hp} (x : KLT H H1) (y : KLT H1 H2) : KLT H H2 := fun b o e h => y b o (x b o e h) h
theorem klt_same {H H' : Hp} (s : Same H H') : KLT H H' := fun b o e _ => s b o e
theorem klt_but {d : Addr} {kvs : List (Key × V)} {H H' : Hp} (s : But d H H') (hd : H d = some (.dK kvs)) : KLT H H' := fun b o e ⟨xs, h⟩ => s b o e (ne_of e hd (by rcases h with rfl | rfl <;> intro z <;> cases z))
theorem klt_ext {H H' : Hp} (s : LamX.ExtN H H') : KLT H H' := fun b o e ⟨xs, h⟩ => s b o e fun ps z => by rcases h with rfl | rfl <;> cases z
theorem KLT.lst {H H' : Hp} (k : KLT H H') {b : Addr} {xs : List V} (e : H b = some (.lst xs)) : H' b = some (.lst xs) := k _ _ e ⟨_, .inl rfl⟩
theorem KLT.tup {H H' : Hp} (k : KLT H H') {b : Addr} {xs : List V} (e : H b = some (.tup xs)) : H' b = some (.tup xs) := k _ _ e ⟨_, .inr rfl⟩
theorem Pen.ext {H H' : Hp} {d c : Addr} {n : Nat} (p : Pen H d c n) (s : LamX.ExtN H H') : Pen H' d c n := by
  obtain ⟨ns, t, l, q, e⟩ := p
  exact ⟨ns, t, l, ⟨s _ _ q.dc (fun ps z => by unfold penD at z; cases z), s _ _ q.cs (fun ps z => by cases z), q.len, q.t0⟩, e⟩
theorem tabs_but {TT : List (Addr × Str)} {d : Addr} {kvs : List (Key × V)} {H H' : Hp} (h : LamX.Tabs TT H) (s : But d H H') (hd : H d = some (.dK kvs)) : LamX.Tabs TT H' := fun p hp => by
  obtain ⟨ps, h1, h2, h3⟩ := h p hp
  refine ⟨ps, s _ _ h1 (ne_of h1 hd (by intro z; cases z)), h2, fun pos cv hc => ?_⟩
  obtain ⟨c, e1, e2⟩ := h3 pos cv hc
  exact ⟨c, e1, s _ _ e2 (ne_of e2 hd (by intro z; unfold LamX.CodeO at z; cases z))⟩
/-- a pen, and the tables of code objects -/
structure PT2 (TT : List (Addr × Str)) (H : Hp) (d c : Addr) (n : Nat) : Prop where
  pen : Pen H d c n
  tabs : LamX.Tabs TT H
theorem PT2.same {TT : List (Addr × Str)} {H H' : Hp} {d c : Addr} {n : Nat} (p : PT2 TT H d c n) (s : Same H H') : PT2 TT H' d c n := ⟨p.pen.same s, p.tabs.ext s⟩
theorem PT2.but {TT : List (Addr × Str)} {H H' : Hp} {d c : Addr} {n m : Nat} (p : PT2 TT H d c n) (q : Pen H' d c m) (s : But d H H') : PT2 TT H' d c m ∧ KLT H H' := by
  obtain ⟨_, hd⟩ := p.pen.dict
  exact ⟨⟨q, tabs_but p.tabs s hd⟩, klt_but s hd⟩
theorem PT2.up {TT : List (Addr × Str)} {H : Hp} {d c : Addr} {n m : Nat} (p : PT2 TT H d c n) (h : n ≤ m) : PT2 TT H d c m := ⟨p.pen.up h, p.tabs⟩

theorem ne_false {xs ys : List Int} {A B : Prop} (h : xs = ys) (q : B) : if (!PyData.eqv (iD xs) (iD ys)) = true then A else B := by
  subst h
  rw [eqv_ints, decide_eq_true rfl]
  exact q
theorem perm_ints {vs : List V} {xs : List Int} (h : vs.Perm (xs.map V.int)) : ∃ ys : List Int, vs = ys.map V.int ∧ ys.Perm xs := by
  let un : V → Int := fun v => match v with
    | .int i => i
    | _ => 0
  have e : vs = (vs.map un).map V.int := by
    rw [List.map_map]
    conv => lhs; rw [← List.map_id vs]
    refine List.map_congr_left fun v hv => ?_
    obtain ⟨i, _, rfl⟩ := List.mem_map.mp (h.mem_iff.mp hv)
    rfl
  refine ⟨vs.map un, e, ?_⟩
  have p := h.map un
  rw [List.map_map] at p
  have e2 : xs.map (un ∘ V.int) = xs := by
    conv => rhs; rw [← List.map_id xs]
    exact List.map_congr_left fun _ _ => rfl
  rw [e2] at p
  exact p
/-- the comprehension [xs[y] for y in ys]: names at i (ys), j (xs), k (y) -/
theorem lc_pick {K : PySem.W.Frag} {σ : L2.St} {H : Hp} {Q : VK} {p r : Addr} {xs ys : List Int} {i j k : Nat} (hi : σ[i]? = some (some (.ref r))) (hj : σ[j]? = some (some (.ref p))) (hjk : k ≠ j) (hk : k < σ.length)
    (hy : SqL K H r (ys.map V.int)) (hx : SqL K H p (xs.map V.int)) (hb : ∀ y ∈ ys, 0 ≤ y ∧ y.toNat < xs.length) (hl : ys.length ≤ 100000)
    (q : ∀ o H', H o = none → H' o = some (.lst ((pickI xs ys).map V.int)) → Same H H' → Q (.ref o) H') :
    tLc (iList K (tVar i)) (gName k) tYes (tOp (rIxL K) (tVar j) (tVar k)) [k] σ H Q := by
  refine ⟨_, hi, r, rfl, ⟨_, hy⟩, fun o ho => ?_⟩
  refine lc_it (walk_list (xs := ys.map V.int)) (fun i H' => Same H H' ∧ H' o = some (.lst (((pickI xs ys).take i).map V.int))) ?h0 ?hG ?hs ?hd
  case h0 => exact ⟨same_upd ho, upd_same⟩
  case hG =>
    rintro i H' _ ⟨sm, _⟩
    exact sm.seq hy
  case hd =>
    rintro H' ⟨sm, e⟩
    rw [List.length_map, List.take_of_length_le (by rw [pick_len]; exact Nat.le_refl _)] at e
    exact q o H' ho e sm
  case hs =>
    rintro i x H3 H4 hi' ⟨sm, e⟩ ⟨rfl, ex⟩
    rw [List.length_map] at hi'
    rw [List.getElem?_map, List.getElem?_eq_getElem hi'] at ex
    cases ex
    have hbi := hb _ (List.getElem_mem hi')
    refine ⟨?_, .ref p, ?_, .int ys[i], ?_, p, _, ys[i], _, rfl, rfl, sm.seq hx, atI_ints hbi.1 hbi.2, ?_⟩
    · show ((σ.set k none).set k _).set k none = σ.set k none
      simp
    · show ((σ.set k none).set k _)[j]? = _
      rw [List.getElem?_set_ne hjk, List.getElem?_set_ne hjk]
      exact hj
    · show ((σ.set k none).set k _)[k]? = _
      rw [List.getElem?_set_self (by simp; exact hk)]
    · refine ⟨_, e, ?_, ?_, ?_⟩
      · rw [List.length_map, List.length_take]
        exact szlt (Nat.le_trans (Nat.min_le_right _ _) (by rw [pick_len]; exact hl))
      · intro b u hb'
        rw [upd_ne (ne_of_none hb' ho)]
        exact sm b u hb'
      · rw [upd_same, List.take_add_one, List.getElem?_eq_getElem (by rw [pick_len]; exact hi'), pick_get hi', List.map_append, getD_get hbi.2]
        rfl
section
variable {P : Program} {w : World} {K : PySem.W.Frag} {mg : Str → Option Value} {base : Heap} {a : Ad}
def spLawRow : Sp := fun vs H Q _ => ∃ (d c : Addr) (n m : Nat), vs = [.ref d, .int (m : Int)] ∧ Pen H d c n ∧ n + m < 2 ^ 40 ∧ m ≤ 100000 ∧
  ∀ p ys H', IsRow ys → ys.length = m → H p = none → H' p = some (.lst (ys.map V.int)) → Pen H' d c (n + m) → But d H H' → Q (.ref p) H'
theorem ok__law_row (T : Tx w K mg a) : FnOk P w K mg base CX0 3 a.f__law_row a.d__law_row ["pen", "size"] spLawRow := by
  refine T.F__law_row.ok sc__law_row (fun vs H Q E h => ?_) (fun cdv A outer s H vs Q E hr h => ?_)
  · obtain ⟨d, c, n, m, rfl, _⟩ := h
    rfl
  · obtain ⟨d, c, n, m, rfl, hp, hn, hm, q⟩ := h
    refine ⟨_, 
(pss_one (ps_ret (pe_call (ok__law_shuffled T) hr (by rfl) T.m__law_shuffled T.F__law_shuffled.kp T.b__law_shuffled .nil pass0 (pa_cons (pv 0) (pa_cons (pe_listRg rfl (by rfl) T.z_list (prg_1 (by rfl) T.z_range (pv 1))) pa_nil))))), ?_⟩
    refine ⟨.ref d, rfl, _, rfl, _, rfl, RgOk.of_le (by decide) (by omega) (by decide) (by omega), fun l hl => ?_⟩
    rw [rgV_ri]
    have s1 : Same H (upd H l (.lst ((ri m).map V.int))) := same_upd hl
    have hlen : ((ri m).map V.int).length = m := by rw [List.length_map, ri_len]
    refine ⟨d, c, l, n, _, rfl, hp.same s1, by rw [hlen]; exact hn, SqL.at upd_same, by rw [hlen]; exact hm, fun p ys H' pm hp0 hpl hpen hb => ?_⟩
    obtain ⟨zs, rfl, pz⟩ := perm_ints pm
    have zl : zs.length = m := by
      have := pz.length_eq
      rw [ri_len] at this
      exact this
    rw [hlen] at hpen
    exact q p zs H' (isRow_of m pz) zl (s1.free hp0) hpl hpen fun b o e n => hb b o (s1 b o e) n
end

/-- ('row', k, True) and the like -/
def tD (tag : Str) (D : PyData) : PyData := .tuple [.str tag, D, .bool true]
theorem tD_ok {tag : Str} {D : PyData} (ht : PyData.strOk tag = true) (h1 : PyData.canLay0 D = true) (h2 : PyData.depth D ≤ 2) : SeqAt.shaped (tD tag D) = true ∧ PyData.eqv (tD tag D) (tD tag D) = true := by
  have h : SeqAt.shaped (tD tag D) = true := by
    unfold SeqAt.shaped tD
    rw [Bool.and_eq_true, decide_eq_true_eq]
    refine ⟨by simp [PyData.canLay0, PyData.canLayAll0, ht, h1], ?_⟩
    simp only [PyData.depth, PyData.depthAll]
    omega
  exact ⟨h, SeqAt.eqv_refl _ (SeqAt.canLay_of_shaped h)⟩
theorem tD_dp {K : PySem.W.Frag} {H : Hp} {p : Addr} {tag : Str} {v : V} {D : PyData} (e : H p = some (.tup [.str tag, v, .bl true])) (h : Dp K H v D) : Dp K H (.ref p) (tD tag D) := .tup (SqT.at e) (.cons (.str _) (.cons h (.cons (.bl _) .nil)))
theorem dp_reps {K : PySem.W.Frag} {H : Hp} {D : PyData} : ∀ {vs : List V}, (∀ v ∈ vs, Dp K H v D) → DpAll K H vs (List.replicate vs.length D)
  | [], _ => .nil
  | v :: r, h => .cons (h v List.mem_cons_self) (dp_reps fun x hx => h x (List.mem_cons_of_mem _ hx))
theorem reps_ok {D : PyData} (n : Nat) (h1 : PyData.canLay0 D = true) (h2 : PyData.depth D ≤ 3) : SeqAt.shaped (.list (List.replicate n D)) = true ∧ PyData.eqv (.list (List.replicate n D)) (.list (List.replicate n D)) = true := by
  have a1 : ∀ n, PyData.canLayAll0 (List.replicate n D) = true := fun n => by
    induction n with
    | zero => simp [PyData.canLayAll0]
    | succ n ih => simp [List.replicate_succ, PyData.canLayAll0, h1, ih]
  have a2 : ∀ n, PyData.depthAll (List.replicate n D) ≤ 4 := fun n => by
    induction n with
    | zero => simp [PyData.depthAll]
    | succ n ih =>
      simp only [List.replicate_succ, PyData.depthAll]
      omega
  have h : SeqAt.shaped (.list (List.replicate n D)) = true := by
    unfold SeqAt.shaped
    rw [Bool.and_eq_true, decide_eq_true_eq]
    refine ⟨by rw [PyData.canLay0]; exact a1 n, ?_⟩
    have := a2 n
    rw [PyData.depth]
    omega
  exact ⟨h, SeqAt.eqv_refl _ (SeqAt.canLay_of_shaped h)⟩
theorem ne_self9 {d : PyData} {A B : Prop} (h : PyData.eqv d d = true) (q : B) : if (!PyData.eqv d d) = true then A else B := by
  rw [h]
  exact q
theorem ntD_ok (tag : Str) (i : Int) (h : PyData.strOk tag = true) : SeqAt.shaped (tD tag (.int i)) = true ∧ PyData.eqv (tD tag (.int i)) (tD tag (.int i)) = true := tD_ok h (by simp [PyData.canLay0]) (by simp [PyData.depth])
/-- ('told', [..]) -/
def toldD (xs : List Int) : PyData := .tuple [.str "told", iD xs]
theorem toldD_ok (xs : List Int) : SeqAt.shaped (toldD xs) = true ∧ PyData.eqv (toldD xs) (toldD xs) = true := by
  have h : SeqAt.shaped (toldD xs) = true := by
    unfold SeqAt.shaped toldD iD
    rw [Bool.and_eq_true, decide_eq_true_eq]
    have := deep_ints xs
    refine ⟨by simp [PyData.canLay0, PyData.canLayAll0, lay_ints, show PyData.strOk (Str.ofString "told") = true from by decide +kernel], ?_⟩
    simp only [PyData.depth, PyData.depthAll]
    omega
  exact ⟨h, SeqAt.eqv_refl _ (SeqAt.canLay_of_shaped h)⟩
theorem told_dp {K : PySem.W.Frag} {H : Hp} {p o : Addr} {xs : List Int} (e : H p = some (.tup [.str "told", .ref o])) (h : H o = some (.lst (xs.map V.int))) : Dp K H (.ref p) (toldD xs) := .tup (SqT.at e) (.cons (.str _) (.cons (dp_ints (SqL.at h)) .nil))
theorem errAt_of {H : Hp} {E : XK} {C : Addr} {f : Str} {x y : Int} (e : y = x) (h : ErrAt H E C f (.int x)) : ErrAt H E C f (.int y) := by
  rw [e]
  exact h
theorem isI_klt {H H' : Hp} {v : V} {b : Bool} (k : KLT H H') (h : IsI H v b) : IsI H' v b := by
  cases h with
  | int i => exact .int i
  | non => exact .non
  | bl b => exact .bl b
  | str z => exact .str z
  | tup q => exact .tup (k.tup q)
  | lst q => exact .lst (k.lst q)
section
variable {P : Program} {w : World} {K : PySem.W.Frag} {mg : Str → Option Value} {base : Heap} {a : Ad}
def spLaw (K : PySem.W.Frag) (TT : List (Addr × Str)) : Sp := fun vs H Q _ => ∃ (s : Addr) (ns : List Int), vs = [.ref s] ∧ SqL K H s (ns.map V.int) ∧ ns.length ≤ 63 ∧ LamX.Tabs TT H ∧ ∀ H', Q (.bl true) H'
theorem ok_law (T : Tx w K mg a) (B : Tb base mg a) : FnOk P w K mg base CX0 10 a.f_law a.d_law ["script"] (spLaw K (tabsOf a)) := by
  refine T.L_law.ok T.b_law sc_law (fun vs H Q E h => ?_) (fun A outer s H vs Q E hr h => ?_)
  · obtain ⟨x, ns, rfl, _⟩ := h
    rfl
  · obtain ⟨x, ns, rfl, hS, hlen, hTb, q⟩ := h
    refine ⟨_, 
(pss_cons (ps_set (i := 1) sc_law.nd rfl (.inl rfl) (pe_call (ok__law_pen T) (hr.mono (by decide)) (by rfl) T.m__law_pen T.F__law_pen.kp T.b__law_pen .nil pass0 (pa_cons (pv 0) pa_nil)))
  (pss_cons (ps_for PassesOwn.never rfl (pi_range1 (by rfl) T.z_range (pa_cons pe_int pa_nil)) (pg_name (i := 2) sc_law.nd rfl (.inl rfl))
  (pss_cons (ps_set (i := 3) sc_law.nd rfl (.inl rfl) (pe_op op_add pe_int (pe_call (ok__law_draw T) (hr.mono (by decide)) (by rfl) T.m__law_draw T.F__law_draw.kp T.b__law_draw .nil pass0 (pa_cons (pv 1) (pa_cons pe_int pa_nil)))))
  (pss_cons (ps_asg (pe_tup (pa_cons (pe_call (ok__law_row T) (hr.mono (by decide)) (by rfl) T.m__law_row T.F__law_row.kp T.b__law_row .nil pass0 (pa_cons (pv 1) (pa_cons (pv 3) pa_nil))) (pa_cons (pe_call (ok__law_row T) (hr.mono (by decide)) (by rfl) T.m__law_row T.F__law_row.kp T.b__law_row .nil pass0 (pa_cons (pv 1) (pa_cons (pv 3) pa_nil))) pa_nil))) (pg_tup rfl (pgs_cons (pg_name (i := 11) sc_law.nd rfl (.inr rfl)) (pgs_cons (pg_name (i := 8) sc_law.nd rfl (.inr rfl)) pgs_nil))))
  (pss_cons (ps_set (i := 12) sc_law.nd rfl (.inr rfl) (pe_lc (own := [("k", 14)]) (g := gName 14) rfl sc_law.nd (pi_range1 (by rfl) T.z_range (pa_cons (pv 3) pa_nil)) (blkOk_by (own := [("k", 14)]) (N := ["script", "pen", "lap", "size", "at", "kept", "first", "bad", "good", "longer", "odd", "row", "things", "worse", "k", "call", "part"]) (sc := defScope s_law) (by decide +kernel)) (fun _ _ _ _ _ => pg_name (i := 14) sc_law.nd rfl (Or.inl rfl)) (fun _ _ _ _ _ => pts_nil) (fun _ _ _ _ _ => (pe_op op_mul pe_int (pv 14)))))
  (pss_cons (ps_asg (pe_call (ok__law_wrong_row T) (hr.mono (by decide)) (by rfl) T.m__law_wrong_row T.F__law_wrong_row.kp T.b__law_wrong_row .nil pass0 (pa_cons (pv 1) (pa_cons (pv 11) pa_nil))) (pg_tup rfl (pgs_cons (pg_name (i := 7) sc_law.nd rfl (.inr rfl)) (pgs_cons (pg_name (i := 4) sc_law.nd rfl (.inl rfl)) pgs_nil))))
  (pss_cons (ps_set (i := 5) sc_law.nd rfl (.inl rfl) (pe_callTy call_list_of (by rfl) T.z_list (by decide +kernel) (pa_cons (pv 7) pa_nil)))
  (pss_cons (ps_if (pt_cmpR (op_neD hr.units) (pe_lc (own := [("call", 15)]) (g := gName 15) rfl sc_law.nd (pi_list (pe_call (ok__law_calls (P := P) (base := base) T B) (hr.mono (by decide)) (by rfl) T.m__law_calls T.F__law_calls.kp T.b__law_calls .nil pass0 (pa_cons (pv 11) (pa_cons (pv 8) (pa_cons (pv 7) (pa_cons (pv 12) pa_nil)))))) (blkOk_by (own := [("call", 15)]) (N := ["script", "pen", "lap", "size", "at", "kept", "first", "bad", "good", "longer", "odd", "row", "things", "worse", "k", "call", "part"]) (sc := defScope s_law) (by decide +kernel)) (fun _ _ _ _ _ => pg_name (i := 15) sc_law.nd rfl (Or.inl rfl)) (fun _ _ _ _ _ => pts_nil) (fun _ _ _ _ _ => (pe_call (ok__law_met (P := P) (base := base) T) hr (by rfl) T.m__law_met T.F__law_met.kp T.b__law_met .nil pass0 (pa_cons (pv 15) pa_nil)))) (pe_op op_rep (pe_lst (pa_cons (pe_tup (pa_cons pe_str (pa_cons (pv 4) (pa_cons pe_bl pa_nil)))) pa_nil)) pe_int) (nomark _))
  (pss_one (ps_ret pe_bl))
  pss_nil)
  (pss_cons (ps_if (pt_cmpR (op_neD hr.units) (pv 7) (pv 5) (nomark _))
  (pss_one (ps_ret pe_bl))
  pss_nil)
  (pss_cons (ps_asg (pe_call (ok__law_wrong_row T) (hr.mono (by decide)) (by rfl) T.m__law_wrong_row T.F__law_wrong_row.kp T.b__law_wrong_row .nil pass0 (pa_cons (pv 1) (pa_cons (pv 8) pa_nil))) (pg_tup rfl (pgs_cons (pg_name (i := 13) sc_law.nd rfl (.inr rfl)) (pgs_cons (pg_name (i := 6) sc_law.nd rfl (.inl rfl)) pgs_nil))))
  (pss_cons (ps_if (pt_cmpR (op_neD hr.units) (pe_callH (ok__law_met (P := P) (base := base) T) hr (by rfl) T.m__law_met T.F__law_met.kp T.b__law_met (pa_cons (pe_lam (k := 5) (T := tabsOf a) B.tb_law rfl (.tail _ (.head _)) B.hu_law rfl ⟨LamX.lamS_by (sc := defScope s_law) (by decide +kernel), fun _ _ _ _ _ => rfl, fun A outer s H E f c hr => (pe_callS (ok_joined T) hr (by rfl) T.m_joined T.F_joined.kp T.b_joined (fun σ => passAt (takes_of rfl rfl rfl rfl) σ) (pa_cons (pv 13) (pa_cons (pv 7) pa_nil)))⟩) pa_nil)) (pe_tup (pa_cons pe_str (pa_cons (pv 6) (pa_cons pe_bl pa_nil)))) (nomark _))
  (pss_one (ps_ret pe_bl))
  pss_nil)
  (pss_cons (ps_set (i := 9) sc_law.nd rfl (.inr rfl) (pe_call (ok__law_row T) (hr.mono (by decide)) (by rfl) T.m__law_row T.F__law_row.kp T.b__law_row .nil pass0 (pa_cons (pv 1) (pa_cons (pe_op op_add (pe_op op_add (pv 3) pe_int) (pe_call (ok__law_draw T) (hr.mono (by decide)) (by rfl) T.m__law_draw T.F__law_draw.kp T.b__law_draw .nil pass0 (pa_cons (pv 1) (pa_cons pe_int pa_nil)))) pa_nil))))
  (pss_cons (ps_if (pt_cmpR (op_neD hr.units) (pe_callH (ok__law_met (P := P) (base := base) T) hr (by rfl) T.m__law_met T.F__law_met.kp T.b__law_met (pa_cons (pe_lam (k := 5) (T := tabsOf a) B.tb_law rfl (.tail _ (.head _)) B.hu_law rfl ⟨LamX.lamS_by (sc := defScope s_law) (by decide +kernel), fun _ _ _ _ _ => rfl, fun A outer s H E f c hr => (pe_callS (ok_joined T) hr (by rfl) T.m_joined T.F_joined.kp T.b_joined (fun σ => passAt (takes_of rfl rfl rfl rfl) σ) (pa_cons (pv 11) (pa_cons (pv 9) pa_nil)))⟩) pa_nil)) (pe_tup (pa_cons pe_str (pa_cons (pe_callB call_len_seq (by rfl) T.z_len PySem.boot_len (pa_cons (pv 9) pa_nil)) (pa_cons pe_bl pa_nil)))) (nomark _))
  (pss_one (ps_ret pe_bl))
  pss_nil)
  (pss_cons (ps_if (pt_cmpR (op_neD hr.units) (pe_callH (ok__law_met (P := P) (base := base) T) hr (by rfl) T.m__law_met T.F__law_met.kp T.b__law_met (pa_cons (pe_lam (k := 5) (T := tabsOf a) B.tb_law rfl (.tail _ (.head _)) B.hu_law rfl ⟨LamX.lamS_by (sc := defScope s_law) (by decide +kernel), fun _ _ _ _ _ => rfl, fun A outer s H E f c hr => (pe_callS (ok_joined T) hr (by rfl) T.m_joined T.F_joined.kp T.b_joined (fun σ => passAt (takes_of rfl rfl rfl rfl) σ) (pa_cons (pv 9) (pa_cons (pv 11) pa_nil)))⟩) pa_nil)) (pe_tup (pa_cons pe_str (pa_cons (pv 3) (pa_cons pe_bl pa_nil)))) (nomark _))
  (pss_one (ps_ret pe_bl))
  pss_nil)
  (pss_cons (ps_if (pt_cmpR (op_neD hr.units) (pe_callH (ok__law_met (P := P) (base := base) T) hr (by rfl) T.m__law_met T.F__law_met.kp T.b__law_met (pa_cons (pe_lam (k := 5) (T := tabsOf a) B.tb_law rfl (.tail _ (.head _)) B.hu_law rfl ⟨LamX.lamS_by (sc := defScope s_law) (by decide +kernel), fun _ _ _ _ _ => rfl, fun A outer s H E f c hr => (pe_callS (ok_done T) hr (by rfl) T.m_done T.F_done.kp T.b_done (fun σ => passAt (takes_of rfl rfl rfl rfl) σ) (pa_cons (pv 11) (pa_cons (pe_op op_cat (pv 12) (pe_lst (pa_cons pe_int pa_nil))) pa_nil)))⟩) pa_nil)) (pe_tup (pa_cons pe_str (pa_cons (pe_op op_add (pv 3) pe_int) (pa_cons pe_bl pa_nil)))) (nomark _))
  (pss_one (ps_ret pe_bl))
  pss_nil)
  (pss_cons (ps_if (pt_cmpR (op_neD hr.units) (pe_callH (ok__law_met (P := P) (base := base) T) hr (by rfl) T.m__law_met T.F__law_met.kp T.b__law_met (pa_cons (pe_lam (k := 5) (T := tabsOf a) B.tb_law rfl (.tail _ (.head _)) B.hu_law rfl ⟨LamX.lamS_by (sc := defScope s_law) (by decide +kernel), fun _ _ _ _ _ => rfl, fun A outer s H E f c hr => (pe_callS (ok_done T) hr (by rfl) T.m_done T.F_done.kp T.b_done (fun σ => passAt (takes_of rfl rfl rfl rfl) σ) (pa_cons (pv 9) (pa_cons (pv 12) pa_nil)))⟩) pa_nil)) (pe_tup (pa_cons pe_str (pa_cons (pv 3) (pa_cons pe_bl pa_nil)))) (nomark _))
  (pss_one (ps_ret pe_bl))
  pss_nil)
  (pss_cons (ps_set (i := 10) sc_law.nd rfl (.inr rfl) (pe_call (ok__law_pick T) (hr.mono (by decide)) (by rfl) T.m__law_pick T.F__law_pick.kp T.b__law_pick .nil pass0 (pa_cons (pv 1) (pa_cons (pe_lst (pa_cons pe_non (pa_cons pe_bl (pa_cons pe_str (pa_cons (pe_tup (pa_cons pe_int pa_nil)) pa_nil))))) pa_nil))))
  (pss_cons (ps_if (pt_cmpR (op_neD hr.units) (pe_callH (ok__law_met (P := P) (base := base) T) hr (by rfl) T.m__law_met T.F__law_met.kp T.b__law_met (pa_cons (pe_lam (k := 5) (T := tabsOf a) B.tb_law rfl (.tail _ (.head _)) B.hu_law rfl ⟨LamX.lamS_by (sc := defScope s_law) (by decide +kernel), fun _ _ _ _ _ => rfl, fun A outer s H E f c hr => (pe_callS (ok_repeated T) hr (by rfl) T.m_repeated T.F_repeated.kp T.b_repeated (fun σ => passAt (takes_of rfl rfl rfl rfl) σ) (pa_cons (pv 11) (pa_cons (pv 10) pa_nil)))⟩) pa_nil)) (pe_tup (pa_cons pe_str (pa_cons (pv 10) (pa_cons pe_bl pa_nil)))) (nomark _))
  (pss_one (ps_ret pe_bl))
  pss_nil)
  (pss_cons (ps_if (pt_cmpR (op_neD hr.units) (pe_callH (ok__law_met (P := P) (base := base) T) hr (by rfl) T.m__law_met T.F__law_met.kp T.b__law_met (pa_cons (pe_lam (k := 5) (T := tabsOf a) B.tb_law rfl (.tail _ (.head _)) B.hu_law rfl ⟨LamX.lamS_by (sc := defScope s_law) (by decide +kernel), fun _ _ _ _ _ => rfl, fun A outer s H E f c hr => (pe_callS (ok_joined T) hr (by rfl) T.m_joined T.F_joined.kp T.b_joined (fun σ => passAt (takes_of rfl rfl rfl rfl) σ) (pa_cons (pv 11) (pa_cons (pv 8) pa_nil)))⟩) pa_nil)) (pe_tup (pa_cons pe_str (pa_cons (pe_lc (own := [("part", 16)]) (g := gName 16) rfl sc_law.nd (pi_list (pv 8)) (blkOk_by (own := [("part", 16)]) (N := ["script", "pen", "lap", "size", "at", "kept", "first", "bad", "good", "longer", "odd", "row", "things", "worse", "k", "call", "part"]) (sc := defScope s_law) (by decide +kernel)) (fun _ _ _ _ _ => pg_name (i := 16) sc_law.nd rfl (Or.inl rfl)) (fun _ _ _ _ _ => pts_nil) (fun _ _ _ _ _ => (pe_ix (show IxR _ (rIxL K) from ix_list) (pv 11) (pv 16) (fun _ _ => rfl)))) pa_nil))) (nomark _))
  (pss_one (ps_ret pe_bl))
  pss_nil)
  (pss_one (ps_if (pt_cmpR (op_neD hr.units) (pe_callH (ok__law_met (P := P) (base := base) T) hr (by rfl) T.m__law_met T.F__law_met.kp T.b__law_met (pa_cons (pe_lam (k := 5) (T := tabsOf a) B.tb_law rfl (.tail _ (.head _)) B.hu_law rfl ⟨LamX.lamS_by (sc := defScope s_law) (by decide +kernel), fun _ _ _ _ _ => rfl, fun A outer s H E f c hr => (pe_callS (ok_done T) hr (by rfl) T.m_done T.F_done.kp T.b_done (fun σ => passAt (takes_of rfl rfl rfl rfl) σ) (pa_cons (pv 11) (pa_cons (pv 12) pa_nil)))⟩) pa_nil)) (pe_tup (pa_cons pe_str (pa_cons (pe_lc (own := [("part", 16)]) (g := gName 16) rfl sc_law.nd (pi_list (pv 11)) (blkOk_by (own := [("part", 16)]) (N := ["script", "pen", "lap", "size", "at", "kept", "first", "bad", "good", "longer", "odd", "row", "things", "worse", "k", "call", "part"]) (sc := defScope s_law) (by decide +kernel)) (fun _ _ _ _ _ => pg_name (i := 16) sc_law.nd rfl (Or.inl rfl)) (fun _ _ _ _ _ => pts_nil) (fun _ _ _ _ _ => (pe_ix (show IxR _ (rIxL K) from ix_list) (pv 12) (pv 16) (fun _ _ => rfl)))) pa_nil))) (nomark _))
  (pss_one (ps_ret pe_bl))
  pss_nil))))))))))))))))))))
  (pss_cons (ps_set (i := 10) sc_law.nd rfl (.inr rfl) (pe_call (ok__law_pick T) (hr.mono (by decide)) (by rfl) T.m__law_pick T.F__law_pick.kp T.b__law_pick .nil pass0 (pa_cons (pv 1) (pa_cons (pe_lst (pa_cons (pe_un un_neg pe_int) (pa_cons pe_int (pa_cons pe_bl (pa_cons pe_non (pa_cons pe_str (pa_cons (pe_op op_pow pe_int pe_int) pa_nil))))))) pa_nil))))
  (pss_cons (ps_if (pt_cmpR (op_neD hr.units) (pe_callH (ok__law_met (P := P) (base := base) T) hr (by rfl) T.m__law_met T.F__law_met.kp T.b__law_met (pa_cons (pe_lam (k := 3) (T := tabsOf a) B.tb_law rfl (.tail _ (.head _)) B.hu_law rfl ⟨LamX.lamS_by (sc := defScope s_law) (by decide +kernel), fun _ _ _ _ _ => rfl, fun A outer s H E f c hr => (pe_callS (ok_nothing T) hr (by rfl) T.m_nothing T.F_nothing.kp T.b_nothing (fun σ => passAt (takes_of rfl rfl rfl rfl) σ) (pa_cons (pv 10) pa_nil))⟩) pa_nil)) (pe_tup (pa_cons pe_str (pa_cons (pv 10) (pa_cons pe_bl pa_nil)))) (nomark _))
  (pss_one (ps_ret pe_bl))
  pss_nil)
  (pss_one (ps_ret (pe_and (pe_cmpR (op_eqD hr.units) (pe_callS (ok_nothing T) (hr.mono (by decide)) (by rfl) T.m_nothing T.F_nothing.kp T.b_nothing (fun σ => passAt takes0 σ) (pa_cons pe_int pa_nil)) (pe_listRg rfl (by rfl) T.z_list (prg_1 (by rfl) T.z_range pe_int)) (nomark _)) (pe_one (pe_cmpR (op_eqD hr.units) (pe_callS (ok_nothing T) (hr.mono (by decide)) (by rfl) T.m_nothing T.F_nothing.kp T.b_nothing (fun σ => passAt takes0 σ) (pa_cons pe_int pa_nil)) (pe_lst pa_nil) (nomark _)))))))))), ?_⟩
    refine ⟨.ref x, rfl, x, ns, rfl, hS, hlen, fun d c H1 hdn hcn hp s1 => ?_⟩
    have hT1 := hTb.ext s1
    refine ⟨5, rfl, by decide, by decide, ?_⟩
    refine for_range (lo := 0) (n := 5) (fun i σ H2 => (∃ y2 y3 y4 y5 y6 y7 y8 y9 y10 y11 y12 y13 y14 y15 y16 : Option V, σ = [some (.ref x), some (.ref d), y2, y3, y4, y5, y6, y7, y8, y9, y10, y11, y12, y13, y14, y15, y16]) ∧ PT2 (tabsOf a) H2 d c (i * 1000)) ?_ ?_ ?_
    · exact ⟨⟨none, none, none, none, none, none, none, none, none, none, none, none, none, none, none, rfl⟩, hp, hT1⟩
    · rintro i σ H2 hi ⟨⟨y2, y3, y4, y5, y6, y7, y8, y9, y10, y11, y12, y13, y14, y15, y16, rfl⟩, hp2⟩
      -- size = 1 + _law_draw(pen, 20)
      refine ⟨_, rfl, d, c, i * 1000, 20, rfl, hp2.pen, by omega, by decide, by decide, fun v H3 v0 v1 hp3 b3 => ⟨1, v, rfl, rfl, ?_⟩⟩
      obtain ⟨pt3, _⟩ := hp2.but hp3 b3
      obtain ⟨n, hn⟩ : ∃ n : Nat, 1 + v = (n : Int) := ⟨(1 + v).toNat, by omega⟩
      change gName 3 (V.int (1 + v)) _ _ _
      rw [hn]
      have n1 : 1 ≤ n := by omega
      have n2 : n ≤ 20 := by omega
      clear hn v0 v1 hp3 b3
      -- row, good = _law_row(pen, size), _law_row(pen, size)
      refine ⟨_, rfl, _, rfl, d, c, _, n, rfl, pt3.pen, by omega, by omega, fun ro rs H4 hR1 hl1 nro ero hp4 b4 => ?_⟩
      obtain ⟨pt4, _⟩ := pt3.but hp4 b4
      refine ⟨_, rfl, _, rfl, d, c, _, n, rfl, pt4.pen, by omega, by omega, fun go gs H5 hR2 hl2 ngo ego hp5 b5 => ?_⟩
      obtain ⟨pt5, k5⟩ := pt4.but hp5 b5
      have ero5 := k5.lst ero
      refine ⟨sz (show 2 ≤ 100000 by decide), fun tt ntt => ⟨tt, [.ref ro, .ref go], rfl, SqT.at upd_same, rfl, .ref ro, [.ref go], rfl, .ref go, [], rfl, rfl, ?_⟩⟩
      have u6 := same_upd (o := .tup [.ref ro, .ref go]) ntt
      have pt6 := pt5.same u6
      have ero6 := u6 _ _ ero5
      have ego6 := u6 _ _ ego
      generalize upd H5 tt (.tup [.ref ro, .ref go]) = H6 at u6 pt6 ero6 ego6 ⊢
      clear u6 ero5 ego ero pt5 pt4 pt3 k5 b4 b5 hp4 hp5
      -- things = [3 * k for k in range(size)]
      refine ⟨_, rfl, _, rfl, by omega, by omega, fun to nto => ?_⟩
      refine lc_range (lo := 0) (n := ((n : Nat) : Int).toNat) (fun l H' => Same H6 H' ∧ H' to = some (.lst (((List.range l).map fun j : Nat => 3 * ((0 : Int) + (j : Nat))).map V.int))) ?c0 ?cs ?cd
      case c0 => exact ⟨same_upd nto, upd_same⟩
      case cs =>
        rintro l H' hl ⟨sm, e⟩
        refine ⟨rfl, _, rfl, 3, _, rfl, rfl, .inl ⟨by decide, by decide⟩, _, e, ?_, keep_upd sm nto, ?_⟩
        · rw [List.length_map, List.length_map, List.length_range]
          exact szlt (by omega)
        · rw [upd_same, List.range_succ, List.map_append, List.map_append]
          rfl
      rintro H7 ⟨s7, eto7⟩
      rw [show ((n : Nat) : Int).toNat = n from rfl] at eto7
      have pt7 := pt6.same s7
      have ero7 := s7 _ _ ero6
      have ego7 := s7 _ _ ego6
      obtain ⟨ts, hts, htl⟩ : ∃ ts : List Int, ((List.range n).map fun j : Nat => 3 * ((0 : Int) + (j : Nat))) = ts ∧ ts.length = n := ⟨_, rfl, by rw [List.length_map, List.length_range]⟩
      rw [hts] at eto7
      clear hts s7 ero6 ego6 pt6 nto
      -- bad, at = _law_wrong_row(pen, row)
      refine ⟨_, rfl, _, rfl, d, c, ro, _, rs, rfl, pt7.pen, by omega, ero7, hR1, by omega, by omega, fun wo bo zs k H8 nwo nbo ewo hW hp8 b8 => ?_⟩
      refine ⟨wo, [.ref bo, .int ((k : Nat) : Int)], rfl, SqT.at ewo, rfl, .ref bo, [.int ((k : Nat) : Int)], rfl, .int ((k : Nat) : Int), [], rfl, rfl, ?_⟩
      obtain ⟨pt8, k8⟩ := pt7.but hp8 b8
      rw [hl1] at hW
      have hB8 : BadSet H8 go bo to gs ts zs k n := ⟨k8.lst ego7, hR2, hl2, hW, k8.lst eto7, htl, by omega⟩
      have ero8 := k8.lst ero7
      clear k8 b8 hp8 pt7 ero7 ego7 eto7 ewo nwo nbo
      -- kept = list(bad)
      refine ⟨_, rfl, bo, zs, rfl, .inl (SqL.at hW.at_), fun ko nko => ?_⟩
      have u9 := same_upd (o := .lst zs) nko
      have eko : (upd H8 ko (.lst zs)) ko = some (.lst zs) := upd_same
      have pt9 := pt8.same u9
      have hB9 := hB8.same u9
      have ero9 := u9 _ _ ero8
      generalize upd H8 ko (.lst zs) = H9 at u9 eko pt9 hB9 ero9 ⊢
      clear pt8 hB8 ero8 u9 hW
      -- [_law_met(call) for call in _law_calls(row, good, bad, things)] != [('row', at, True)] * 10
      refine ⟨.ref ro, rfl, .ref go, rfl, .ref bo, rfl, .ref to, rfl, ro, go, bo, to, gs, ts, zs, k, n, rfl, hB9, pt9.tabs, fun co fs H10 eN10 T10 nco eco hfl hthk => ⟨co, rfl, ⟨_, SqL.at eco⟩, fun D hD => ?_⟩⟩
      have k10 := klt_ext eN10
      have pt10 : PT2 (tabsOf a) H10 d c (i * 1000 + 1 + n + n + 4) := ⟨pt9.pen.ext eN10, T10⟩
      have hB10 := hB9.keep fun b o e h => k10 b o e h
      have eko10 := k10.lst eko
      have ero10 := k10.lst ero9
      refine lc_it (walk_list (xs := fs.map V.ref)) (fun j H' => Same H10 H' ∧ ∃ ps : List Addr, ps.length = j ∧ H' D = some (.lst (ps.map V.ref)) ∧ ∀ p ∈ ps, H' p = some (.tup [.str "row", .int ((k : Nat) : Int), .bl true])) ?h0 ?hG ?hs ?hd
      case h0 => exact ⟨same_upd hD, [], rfl, upd_same, fun p hp => absurd hp List.not_mem_nil⟩
      case hG =>
        rintro j H' _ ⟨sm, _⟩
        exact sm.seq (SqL.at eco)
      case hs =>
        rintro j y H3 H4 hj ⟨sm, ps, hpl, hpD, hps⟩ ⟨rfl, ex⟩
        rw [List.length_map] at hj
        rw [List.getElem?_map, List.getElem?_eq_getElem hj] at ex
        cases ex
        refine ⟨rfl, _, rfl, fs[j], _, rfl, (hthk _ (List.getElem_mem hj)).keep fun b o e _ => sm b o e, fun Q' E' hQ hE => ⟨hB10.same sm, fun H' d' s' ed => hE _ _ _ ⟨a.C_BadRow, "row", "index", d', _, List.mem_cons_self, rfl, rfl, ed, fun o no => ?_⟩⟩⟩
        have so := same_upd (o := .tup [.str "row", .int ((k : Nat) : Int), .bl true]) no
        have eD := so _ _ (s' _ _ hpD)
        refine ⟨_, eD, ?_, ?_, ps ++ [o], by rw [List.length_append, hpl]; rfl, ?_, fun p hp => ?_⟩
        · rw [List.length_map]
          exact szlt (by omega)
        · exact keep_upd (sm.trans (s'.trans so)) hD
        · rw [upd_same, List.map_append]
          rfl
        · have ne : p ≠ D := fun z => by
            rcases List.mem_append.mp hp with h | h
            · have := hps p h
              rw [z, hpD] at this
              cases this
            · rw [List.mem_singleton.mp h] at z
              rw [z, s' _ _ hpD] at no
              cases no
          rw [upd_ne ne]
          rcases List.mem_append.mp hp with h | h
          · exact so _ _ (s' _ _ (hps p h))
          · rw [List.mem_singleton.mp h]
            exact upd_same
      case hd =>
        rintro H11 ⟨s11, ps, hpl, epD, hps⟩
        have pt11 := pt10.same s11
        have hB11 := hB10.same s11
        have eko11 := s11 _ _ eko10
        have ero11 := s11 _ _ ero10
        clear pt10 hB10 eko10 ero10 s11 hthk eco hD nco T10 eN10 k10
        refine ⟨_, rfl, sz (show 3 ≤ 100000 by decide), fun q1 nq1 => ?_⟩
        have u1 := same_upd (o := .tup [.str "row", .int ((k : Nat) : Int), .bl true]) nq1
        have eq1 : (upd H11 q1 (.tup [.str "row", .int ((k : Nat) : Int), .bl true])) q1 = some (.tup [.str "row", .int ((k : Nat) : Int), .bl true]) := upd_same
        generalize upd H11 q1 (.tup [.str "row", .int ((k : Nat) : Int), .bl true]) = H12 at u1 eq1 ⊢
        refine ⟨sz (show 1 ≤ 100000 by decide), fun q2 nq2 => ⟨q2, 10, [.ref q1], rfl, rfl, upd_same, by decide, by decide, sz (show 1 * 10 ≤ 100000 by decide), fun q3 nq3 => ?_⟩⟩
        have u3 := (same_upd (o := .lst [.ref q1]) nq2).trans (same_upd (o := .lst (List.replicate (10 : Int).toNat [V.ref q1]).flatten) nq3)
        have eq3 : (upd (upd H12 q2 (.lst [.ref q1])) q3 (.lst (List.replicate (10 : Int).toNat [V.ref q1]).flatten)) q3 = some (.lst (List.replicate 10 (.ref q1))) := by rw [upd_same]; rfl
        generalize upd (upd H12 q2 (.lst [.ref q1])) q3 (.lst (List.replicate (10 : Int).toNat [V.ref q1]).flatten) = H13 at u3 eq3 ⊢
        have u13 := u1.trans u3
        have hok := reps_ok (D := tD "row" (.int ((k : Nat) : Int))) 10 (by simp [tD, PyData.canLay0, PyData.canLayAll0, show PyData.strOk (Str.ofString "row") = true from by decide +kernel]) (by simp [tD, PyData.depth, PyData.depthAll])
        have dA : Dp K H13 (.ref D) (.list (List.replicate 10 (tD "row" (.int ((k : Nat) : Int))))) := by
          have z := dp_reps (K := K) (H := H13) (D := tD "row" (.int ((k : Nat) : Int))) (vs := ps.map V.ref) fun v hv => by
            obtain ⟨p, hp, rfl⟩ := List.mem_map.mp hv
            exact tD_dp (u13 _ _ (hps p hp)) (.int _)
          rw [List.length_map, hpl, List.length_map, hfl] at z
          exact .lst (SqL.at (u13 _ _ epD)) z
        have dB : Dp K H13 (.ref q3) (.list (List.replicate 10 (tD "row" (.int ((k : Nat) : Int))))) := by
          have z := dp_reps (K := K) (H := H13) (D := tD "row" (.int ((k : Nat) : Int))) (vs := List.replicate 10 (V.ref q1)) fun v hv => by
            rw [List.eq_of_mem_replicate hv]
            exact tD_dp (u3 _ _ eq1) (.int _)
          rw [List.length_replicate] at z
          exact .lst (SqL.at eq3) z
        refine ⟨_, _, dA, dB, hok.1, hok.1, _, rfl, ne_self9 hok.2 ?_⟩
        have pt13 := pt11.same u13
        have hB13 := hB11.same u13
        have eko13 := u13 _ _ eko11
        have ero13 := u13 _ _ ero11
        clear dA dB hok pt11 hB11 eko11 ero11 u13 u1 u3 eq1 eq3 hps epD hpl
        -- if bad != kept
        obtain ⟨D0, hD0⟩ := hB13.b.wm
        refine ⟨_, rfl, _, rfl, .list D0, .list D0, .lst (SqL.at hB13.b.at_) (wm_dp hD0).1, .lst (SqL.at eko13) (wm_dp hD0).1, (wm_shaped hD0).1, (wm_shaped hD0).1, _, rfl, ne_self9 (wm_shaped hD0).2 ?_⟩
        clear hD0 D0 eko13
        -- worse, first = _law_wrong_row(pen, good)
        refine ⟨_, rfl, _, rfl, d, c, go, _, gs, rfl, pt13.pen, by omega, hB13.g, hR2, by omega, by omega, fun wo2 ho zs2 k2 H14 nwo2 nho ewo2 hW2 hp14 b14 => ?_⟩
        refine ⟨wo2, [.ref ho, .int ((k2 : Nat) : Int)], rfl, SqT.at ewo2, rfl, .ref ho, [.int ((k2 : Nat) : Int)], rfl, .int ((k2 : Nat) : Int), [], rfl, rfl, ?_⟩
        obtain ⟨pt14, k14⟩ := pt13.but hp14 b14
        have hB14 := hB13.keep fun b o e h => k14 b o e h
        have ero14 := k14.lst ero13
        clear pt13 hB13 ero13 k14 b14 hp14 ewo2 nwo2
        -- joined(worse, bad)
        refine ⟨pt14.tabs, fun f1 H15 e15 r15 T15 n15 l15 h15 hh15 => met_live hh15 l15 (by decide) fun H0 told err s0 r0 htold herr => ?_⟩
        have k15 := klt_ext e15
        have hW0 := (hW2.keep (k15.lst hW2.at_) fun t j e => k15.tup e).same s0
        have hB0 := (hB14.keep fun b o e h => k15 b o e h).same s0
        refine ⟨_, rfl, _, rfl, ho, bo, zs2, zs, rfl, hW0.row (by omega), hB0.rowb, .inl ⟨k2, .inl hW0.fw, fun H' d' s' ed => herr a.C_BadRow "row" "index" d' _ H' List.mem_cons_self s' ed fun p16 H16 s16 ep16 => ?_⟩⟩
        clear hW0 hB0 htold herr
        refine ⟨_, rfl, sz (show 3 ≤ 100000 by decide), fun q17 nq17 => ?_⟩
        have u17 := same_upd (o := .tup [.str "row", .int ((k2 : Nat) : Int), .bl true]) nq17
        refine ⟨_, _, tD_dp (u17 _ _ ep16) (.int _), tD_dp upd_same (.int _), (ntD_ok "row" _ (by decide +kernel)).1, (ntD_ok "row" _ (by decide +kernel)).1, _, rfl, ne_self9 (ntD_ok "row" _ (by decide +kernel)).2 ?_⟩
        have k17 := k15.trans (klt_same (s16.trans u17))
        have pt17 := (PT2.mk (pt14.pen.ext e15) T15).same (s16.trans u17)
        generalize upd H16 q17 (.tup [.str "row", .int ((k2 : Nat) : Int), .bl true]) = H17 at k17 pt17 ⊢
        have hB17 := hB14.keep fun b o e h => k17 b o e h
        have ero17 := k17.lst ero14
        clear pt14 hB14 ero14 k17 u17 s16 ep16 e15 r15 T15 n15 l15 h15 hh15 k15 hW2
        -- longer = _law_row(pen, size + 1 + _law_draw(pen, 3))
        refine ⟨.ref d, rfl, _, rfl, _, 1, rfl, rfl, .ref d, rfl, d, c, _, 3, rfl, pt17.pen, by omega, by decide, by decide, fun v18 H18 y0 y1 hp18 b18 => ?_⟩
        obtain ⟨m, hm⟩ : ∃ m : Nat, (n : Int) + 1 + v18 = (m : Int) := ⟨((n : Int) + 1 + v18).toNat, by omega⟩
        obtain ⟨pt18, k18⟩ := pt17.but hp18 b18
        refine ⟨_, _, rfl, rfl, d, c, _, m, (show [V.ref d, V.int ((n : Int) + 1 + v18)] = [V.ref d, V.int (m : Int)] by rw [hm]), pt18.pen, by omega, by omega, fun lo ls H19 hR3 hl3 nlo elo hp19 b19 => ?_⟩
        obtain ⟨pt19, k19⟩ := pt18.but hp19 b19
        have k119 := k18.trans k19
        have hB19 := hB17.keep fun b o e h => k119 b o e h
        have ero19 := k119.lst ero17
        clear pt17 pt18 hB17 ero17 k18 k19 k119 b18 b19 hp18 hp19
        have lne : ls.length ≠ rs.length := by omega
        have lle : ls.length ≤ 100000 := by omega
        have rle : rs.length ≤ 100000 := by omega
        have elo19 := elo
        clear elo
        -- joined(row, longer) tells the size of the longer one
        refine ⟨pt19.tabs, fun f19 Ha e19 r19 T19 n19 l19 h19 hh19 => met_live hh19 l19 (by decide) fun H0 told err s0 r0 htold herr => ?_⟩
        have ka := klt_ext e19
        have hB0 := (hB19.keep fun b o e h => ka b o e h).same s0
        have ero0 := s0 _ _ (ka.lst ero19)
        have elo0 := s0 _ _ (ka.lst elo19)
        refine ⟨_, rfl, _, rfl, ro, lo, rs.map V.int, ls.map V.int, rfl, rowV_ints (.inl (SqL.at ero0)) rle, rowV_ints (.inl (SqL.at elo0)) lle, .inr (.inl ⟨fwR_row hR1, fwR_row hR3, by rw [List.length_map, List.length_map]; exact lne, errAt_of (x := (ls.length : Int)) (by rw [List.length_map]) (fun H' d' s' ed => herr a.C_BadSize "size" "size" d' (.int (ls.length : Int)) H' (List.mem_cons_of_mem _ List.mem_cons_self) (s') ed fun pa Hb sa epa => ?_)⟩)⟩
        clear hB0 ero0 elo0 htold herr
        refine ⟨_, rfl, lo, ls.map V.int, rfl, .inl (SqL.at (sa _ _ (ka.lst elo19))), sz (show 3 ≤ 100000 by decide), fun qa nqa => ?_⟩
        rw [List.length_map]
        have ua := same_upd (o := .tup [.str "size", .int (ls.length : Int), .bl true]) nqa
        refine ⟨_, _, tD_dp (ua _ _ epa) (.int _), tD_dp upd_same (.int _), (ntD_ok "size" _ (by decide +kernel)).1, (ntD_ok "size" _ (by decide +kernel)).1, _, rfl, ne_self9 (ntD_ok "size" _ (by decide +kernel)).2 ?_⟩
        have kb := ka.trans (klt_same (sa.trans ua))
        have pt20 := (PT2.mk (pt19.pen.ext e19) T19).same (sa.trans ua)
        generalize upd Hb qa (.tup [.str "size", .int (ls.length : Int), .bl true]) = H20 at kb pt20 ⊢
        have hB20 := hB19.keep fun b o e h => kb b o e h
        have ero20 := kb.lst ero19
        have elo20 := kb.lst elo19
        clear pt19 hB19 ero19 elo19 kb ua sa epa e19 r19 T19 n19 l19 h19 hh19 ka
        -- joined(longer, row) tells the size of the row
        refine ⟨pt20.tabs, fun f20 Ha e20 r20 T20 n20 l20 h20 hh20 => met_live hh20 l20 (by decide) fun H0 told err s0 r0 htold herr => ?_⟩
        have ka := klt_ext e20
        have hB0 := (hB20.keep fun b o e h => ka b o e h).same s0
        have ero0 := s0 _ _ (ka.lst ero20)
        have elo0 := s0 _ _ (ka.lst elo20)
        refine ⟨_, rfl, _, rfl, lo, ro, ls.map V.int, rs.map V.int, rfl, rowV_ints (.inl (SqL.at elo0)) lle, rowV_ints (.inl (SqL.at ero0)) rle, .inr (.inl ⟨fwR_row hR3, fwR_row hR1, by rw [List.length_map, List.length_map]; exact fun z => lne z.symm, errAt_of (x := (n : Int)) (by rw [List.length_map, hl1]) (fun H' d' s' ed => herr a.C_BadSize "size" "size" d' (.int (n : Int)) H' (List.mem_cons_of_mem _ List.mem_cons_self) (s') ed fun pa Hb sa epa => ?_)⟩)⟩
        clear hB0 ero0 elo0 htold herr
        refine ⟨_, rfl, sz (show 3 ≤ 100000 by decide), fun qa nqa => ?_⟩
        have ua := same_upd (o := .tup [.str "size", .int (n : Int), .bl true]) nqa
        refine ⟨_, _, tD_dp (ua _ _ epa) (.int _), tD_dp upd_same (.int _), (ntD_ok "size" _ (by decide +kernel)).1, (ntD_ok "size" _ (by decide +kernel)).1, _, rfl, ne_self9 (ntD_ok "size" _ (by decide +kernel)).2 ?_⟩
        have kb := ka.trans (klt_same (sa.trans ua))
        have pt21 := (PT2.mk (pt20.pen.ext e20) T20).same (sa.trans ua)
        generalize upd Hb qa (.tup [.str "size", .int (n : Int), .bl true]) = H21 at kb pt21 ⊢
        have hB21 := hB20.keep fun b o e h => kb b o e h
        have ero21 := kb.lst ero20
        have elo21 := kb.lst elo20
        clear pt20 hB20 ero20 elo20 kb ua sa epa e20 r20 T20 n20 l20 h20 hh20 ka
        -- done(row, things + [5]) tells how many things there are
        refine ⟨pt21.tabs, fun f21 Ha e21 r21 T21 n21 l21 h21 hh21 => met_live hh21 l21 (by decide) fun H0 told err s0 r0 htold herr => ?_⟩
        have ka := klt_ext e21
        have hB0 := (hB21.keep fun b o e h => ka b o e h).same s0
        have ero0 := s0 _ _ (ka.lst ero21)
        have elo0 := s0 _ _ (ka.lst elo21)
        refine ⟨_, rfl, _, rfl, sz (show 1 ≤ 100000 by decide), fun l5 nl5 => ?_⟩
        have v1 := same_upd (o := .lst [.int 5]) nl5
        refine ⟨to, l5, _, [.int 5], rfl, rfl, v1 _ _ hB0.t, upd_same, sz (by rw [List.length_map]; show ts.length + 1 ≤ _; omega), fun m5 nm5 => ?_⟩
        have v2 := v1.trans (same_upd (o := .lst (ts.map V.int ++ [.int 5])) nm5)
        have ev : (upd (upd H0 l5 (.lst [.int 5])) m5 (.lst (ts.map V.int ++ [.int 5]))) m5 = some (.lst ((ts ++ [5]).map V.int)) := by
          rw [upd_same, List.map_append]
          rfl
        have tl5 : (ts ++ [5]).length = n + 1 := by
          rw [List.length_append, htl]
          rfl
        refine ⟨ro, m5, rs.map V.int, ts ++ [5], rfl, rowV_ints (.inl (SqL.at (v2 _ _ ero0))) rle, .inl (SqL.at ev), by omega, .inr (.inl ⟨fwR_row hR1, by rw [List.length_map]; omega, errAt_of (x := ((n + 1 : Nat) : Int)) (by rw [tl5]) (fun H' d' s' ed => herr a.C_BadSize "size" "size" d' (.int ((n + 1 : Nat) : Int)) H' (List.mem_cons_of_mem _ List.mem_cons_self) (v2.trans s') ed fun pa Hb sa epa => ?_)⟩)⟩
        clear v1 v2 ev
        clear hB0 ero0 elo0 htold herr
        refine ⟨_, rfl, _, 1, rfl, rfl, sz (show 3 ≤ 100000 by decide), fun qa nqa => ?_⟩
        have ua := same_upd (o := .tup [.str "size", .int ((n : Int) + 1), .bl true]) nqa
        refine ⟨_, _, tD_dp (ua _ _ epa) (.int _), tD_dp upd_same (.int _), (ntD_ok "size" _ (by decide +kernel)).1, (ntD_ok "size" _ (by decide +kernel)).1, _, rfl, ne_self9 (ntD_ok "size" _ (by decide +kernel)).2 ?_⟩
        have kb := ka.trans (klt_same (sa.trans ua))
        have pt22 := (PT2.mk (pt21.pen.ext e21) T21).same (sa.trans ua)
        generalize upd Hb qa (.tup [.str "size", .int ((n : Int) + 1), .bl true]) = H22 at kb pt22 ⊢
        have hB22 := hB21.keep fun b o e h => kb b o e h
        have ero22 := kb.lst ero21
        have elo22 := kb.lst elo21
        clear pt21 hB21 ero21 elo21 kb ua sa epa e21 r21 T21 n21 l21 h21 hh21 ka
        -- done(longer, things) tells how many things there are
        refine ⟨pt22.tabs, fun f22 Ha e22 r22 T22 n22 l22 h22 hh22 => met_live hh22 l22 (by decide) fun H0 told err s0 r0 htold herr => ?_⟩
        have ka := klt_ext e22
        have hB0 := (hB22.keep fun b o e h => ka b o e h).same s0
        have ero0 := s0 _ _ (ka.lst ero22)
        have elo0 := s0 _ _ (ka.lst elo22)
        refine ⟨_, rfl, _, rfl, lo, to, ls.map V.int, ts, rfl, rowV_ints (.inl (SqL.at elo0)) lle, .inl (SqL.at hB0.t), by omega, .inr (.inl ⟨fwR_row hR3, by rw [List.length_map]; omega, errAt_of (x := (n : Int)) (by rw [htl]) (fun H' d' s' ed => herr a.C_BadSize "size" "size" d' (.int (n : Int)) H' (List.mem_cons_of_mem _ List.mem_cons_self) (s') ed fun pa Hb sa epa => ?_)⟩)⟩
        clear hB0 ero0 elo0 htold herr
        refine ⟨_, rfl, sz (show 3 ≤ 100000 by decide), fun qa nqa => ?_⟩
        have ua := same_upd (o := .tup [.str "size", .int (n : Int), .bl true]) nqa
        refine ⟨_, _, tD_dp (ua _ _ epa) (.int _), tD_dp upd_same (.int _), (ntD_ok "size" _ (by decide +kernel)).1, (ntD_ok "size" _ (by decide +kernel)).1, _, rfl, ne_self9 (ntD_ok "size" _ (by decide +kernel)).2 ?_⟩
        have kb := ka.trans (klt_same (sa.trans ua))
        have pt23 := (PT2.mk (pt22.pen.ext e22) T22).same (sa.trans ua)
        generalize upd Hb qa (.tup [.str "size", .int (n : Int), .bl true]) = H23 at kb pt23 ⊢
        have hB23 := hB22.keep fun b o e h => kb b o e h
        have ero23 := kb.lst ero22
        clear pt22 hB22 ero22 elo22 kb ua sa epa e22 r22 T22 n22 l22 h22 hh22 ka
        -- odd = _law_pick(pen, [None, True, '2', (1,)])
        refine ⟨_, rfl, sz (show 1 ≤ 100000 by decide), fun tu ntu => ?_⟩
        have x1 := same_upd (o := .tup [.int 1]) ntu
        have etu : (upd H23 tu (.tup [.int 1])) tu = some (.tup [.int 1]) := upd_same
        generalize upd H23 tu (.tup [.int 1]) = H24 at x1 etu ⊢
        refine ⟨sz (show 4 ≤ 100000 by decide), fun lu nlu => ?_⟩
        have x2 := same_upd (o := .lst [.non, .bl true, .str "2", .ref tu]) nlu
        refine ⟨d, c, lu, _, [.non, .bl true, .str "2", .ref tu], rfl, (pt23.pen.same x1).same x2, by omega, SqL.at upd_same, (show 0 < 4 by decide), (show 4 ≤ 100000 by decide), fun od H25 hod hp25 b25 => ?_⟩
        obtain ⟨pt25, k25⟩ := (pt23.same (x1.trans x2)).but hp25 b25
        have etu25 := k25.tup (x2 _ _ etu)
        have k2325 := (klt_same (x1.trans x2)).trans k25
        have hB25 := hB23.keep fun b o e h => k2325 b o e h
        have ero25 := k2325.lst ero23
        have hod : ∃ D, WM H25 od D ∧ IsI H25 od false := by
          simp only [List.mem_cons, List.not_mem_nil, or_false] at hod
          rcases hod with rfl | rfl | rfl | rfl
          · exact ⟨_, .non, .non⟩
          · exact ⟨_, .bl _, .bl _⟩
          · exact ⟨_, .str (by decide +kernel), .str _⟩
          · exact ⟨_, .tup etu25, .tup etu25⟩
        obtain ⟨D, hD1, hD2⟩ := hod
        clear pt23 hB23 ero23 x1 x2 etu k25 k2325 b25 hp25 etu25
        -- repeated(row, odd)
        refine ⟨pt25.tabs, fun f25 Ha e25 r25 T25 n25 l25 h25 hh25 => met_live hh25 l25 (by decide) fun H0 told err s0 r0 htold herr => ?_⟩
        have ka := klt_ext e25
        have ero0 := s0 _ _ (ka.lst ero25)
        refine ⟨_, rfl, _, rfl, ro, rs.map V.int, od, false, rfl, rowV_ints (.inl (SqL.at ero0)) rle, isI_klt (ka.trans (klt_same s0)) hD2, .inr ⟨fwR_row hR1, rfl, fun H' d' s' ed => herr a.C_BadNumber "number" "number" d' od H' (List.mem_cons_of_mem _ (List.mem_cons_of_mem _ List.mem_cons_self)) s' ed fun pa Hb sa epa => ?_⟩⟩
        clear ero0 htold herr
        refine ⟨_, rfl, sz (show 3 ≤ 100000 by decide), fun qa nqa => ?_⟩
        have ua := same_upd (o := .tup [.str "number", od, .bl true]) nqa
        have kb := ka.trans (klt_same (sa.trans ua))
        have hDd := (hD1.keep fun t j e => kb.tup e).dp (K := K)
        have hok := tD_ok (tag := "number") (by decide +kernel) hD1.lay.1 hD1.lay.2
        refine ⟨_, _, tD_dp (ua _ _ epa) hDd, tD_dp upd_same hDd, hok.1, hok.1, _, rfl, ne_self9 hok.2 ?_⟩
        have pt26 := (PT2.mk (pt25.pen.ext e25) T25).same (sa.trans ua)
        clear hDd hok
        generalize upd Hb qa (.tup [.str "number", od, .bl true]) = H26 at kb pt26 ⊢
        have hB26 := hB25.keep fun b o e h => kb b o e h
        have ero26 := kb.lst ero25
        clear pt25 hB25 ero25 kb ua sa epa e25 r25 T25 n25 l25 h25 hh25 ka hD1 hD2 D
        -- joined(row, good)
        refine ⟨pt26.tabs, fun f26 Ha e26 r26 T26 n26 l26 h26 hh26 => met_live hh26 l26 (by decide) fun H0 told err s0 r0 htold herr => ?_⟩
        have ka := klt_ext e26
        have hB0 := (hB26.keep fun b o e h => ka b o e h).same s0
        have ero0 := s0 _ _ (ka.lst ero26)
        refine ⟨_, rfl, _, rfl, ro, go, rs.map V.int, gs.map V.int, rfl, rowV_ints (.inl (SqL.at ero0)) rle, hB0.rowg, .inr (.inr ⟨rs, gs, rfl, rfl, hR1, hR2, by omega, fun o H' no eo s' => htold (.ref o) H' s' fun pa Hb sa ov epa => ?_⟩)⟩
        have eoa := ov _ _ eo (fun ob z => by cases z)
        clear hB0 ero0 htold herr ov
        have kc := ka.trans (klt_same sa)
        have hBb := hB26.keep fun b o e h => kc b o e h
        have erob := kc.lst ero26
        dsimp only [tTup, tCons, tC, tNil]
        refine lc_pick (i := 8) (j := 11) (k := 16) rfl rfl (by decide) (show 16 < 17 by decide) (SqL.at hBb.g) (SqL.at erob) (fun y hy => by have := hR2.mem.mp hy; omega) (by omega) fun o2 H2 no2 eo2 s2 => ?_
        refine ⟨sz (show 2 ≤ 100000 by decide), fun qa nqa => ?_⟩
        have ua := same_upd (o := .tup [.str "told", .ref o2]) nqa
        refine ⟨_, _, told_dp (ua _ _ (s2 _ _ epa)) (ua _ _ (s2 _ _ eoa)), told_dp upd_same (ua _ _ eo2), (toldD_ok _).1, (toldD_ok _).1, _, rfl, ne_self9 (toldD_ok _).2 ?_⟩
        have kb := kc.trans (klt_same (s2.trans ua))
        have pt27 := (PT2.mk (pt26.pen.ext e26) T26).same (sa.trans (s2.trans ua))
        generalize upd H2 qa (.tup [.str "told", .ref o2]) = H27 at kb pt27 ⊢
        have hB27 := hB26.keep fun b o e h => kb b o e h
        have ero27 := kb.lst ero26
        clear pt26 hB26 ero26 kb ua sa epa e26 r26 T26 n26 l26 h26 hh26 ka kc hBb erob eo eoa eo2 no2 s2 s' no
        -- done(row, things)
        refine ⟨pt27.tabs, fun f27 Ha e27 r27 T27 n27 l27 h27 hh27 => met_live hh27 l27 (by decide) fun H0 told err s0 r0 htold herr => ?_⟩
        have ka := klt_ext e27
        have hB0 := (hB27.keep fun b o e h => ka b o e h).same s0
        have ero0 := s0 _ _ (ka.lst ero27)
        refine ⟨_, rfl, _, rfl, ro, to, rs.map V.int, ts, rfl, rowV_ints (.inl (SqL.at ero0)) rle, .inl (SqL.at hB0.t), by omega, .inr (.inr ⟨rs, rfl, hR1, by omega, fun o H' no eo s' => htold (.ref o) H' s' fun pa Hb sa ov epa => ?_⟩)⟩
        have eoa := ov _ _ eo (fun ob z => by cases z)
        clear hB0 ero0 htold herr ov
        have kc := ka.trans (klt_same sa)
        have hBb := hB27.keep fun b o e h => kc b o e h
        have erob := kc.lst ero27
        dsimp only [tTup, tCons, tC, tNil]
        refine lc_pick (i := 11) (j := 12) (k := 16) rfl rfl (by decide) (show 16 < 17 by decide) (SqL.at erob) (SqL.at hBb.t) (fun y hy => by have := hR1.mem.mp hy; omega) (by omega) fun o2 H2 no2 eo2 s2 => ?_
        refine ⟨sz (show 2 ≤ 100000 by decide), fun qa nqa => ?_⟩
        have ua := same_upd (o := .tup [.str "told", .ref o2]) nqa
        refine ⟨_, _, told_dp (ua _ _ (s2 _ _ epa)) (ua _ _ (s2 _ _ eoa)), told_dp upd_same (ua _ _ eo2), (toldD_ok _).1, (toldD_ok _).1, _, rfl, ne_self9 (toldD_ok _).2 ?_⟩
        have kb := kc.trans (klt_same (s2.trans ua))
        have pt28 := (PT2.mk (pt27.pen.ext e27) T27).same (sa.trans (s2.trans ua))
        generalize upd H2 qa (.tup [.str "told", .ref o2]) = H28 at kb pt28 ⊢
        have hB28 := hB27.keep fun b o e h => kb b o e h
        have ero28 := kb.lst ero27
        clear pt27 hB27 ero27 kb ua sa epa e27 r27 T27 n27 l27 h27 hh27 ka kc hBb erob eo eoa eo2 no2 s2 s' no
        exact ⟨⟨_, _, _, _, _, _, _, _, _, _, _, _, _, _, _, rfl⟩, pt28.up (by omega)⟩
    · rintro σ H2 ⟨⟨y2, y3, y4, y5, y6, y7, y8, y9, y10, y11, y12, y13, y14, y15, y16, rfl⟩, pt2⟩
      -- odd = _law_pick(pen, [-1, 1001, True, None, '3', 10 ** 30])
      refine ⟨_, rfl, 1, rfl, 10, 30, rfl, rfl, ⟨by decide, by decide, by decide⟩, sz (show 6 ≤ 100000 by decide), fun lu nlu => ?_⟩
      have x2 := same_upd (o := .lst [.int (-1), .int 1001, .bl true, .non, .str "3", .int (10 ^ (30 : Int).toNat)]) nlu
      refine ⟨d, c, lu, _, [.int (-1), .int 1001, .bl true, .non, .str "3", .int (10 ^ (30 : Int).toNat)], rfl, pt2.pen.same x2, by omega, SqL.at upd_same, (show 0 < 6 by decide), (show 6 ≤ 100000 by decide), fun od H3 hod hp3 b3 => ?_⟩
      obtain ⟨pt3, k3⟩ := (pt2.same x2).but hp3 b3
      have hod : (∃ D, ∀ H, WM H od D) ∧ (∃ b, ∀ H, IsI H od b) ∧ btM 0 1000 od = false := by
        simp only [List.mem_cons, List.not_mem_nil, or_false] at hod
        rcases hod with rfl | rfl | rfl | rfl | rfl | rfl
        · exact ⟨⟨_, fun _ => .int _⟩, ⟨_, fun _ => .int _⟩, by decide⟩
        · exact ⟨⟨_, fun _ => .int _⟩, ⟨_, fun _ => .int _⟩, by decide⟩
        · exact ⟨⟨_, fun _ => .bl _⟩, ⟨_, fun _ => .bl _⟩, rfl⟩
        · exact ⟨⟨_, fun _ => .non⟩, ⟨_, fun _ => .non⟩, rfl⟩
        · exact ⟨⟨_, fun _ => .str (by decide +kernel)⟩, ⟨_, fun _ => .str _⟩, rfl⟩
        · exact ⟨⟨_, fun _ => .int _⟩, ⟨_, fun _ => .int _⟩, by decide +kernel⟩
      obtain ⟨⟨D, hD⟩, ⟨ob, hI⟩, hbt⟩ := hod
      refine ⟨pt3.tabs, fun f3 Ha e3 r3 T3 n3 l3 h3 hh3 => met_live hh3 l3 (by decide) fun H0 told err s0 r0 htold herr => ?_⟩
      refine ⟨_, rfl, od, ob, rfl, hI _, .inr ⟨hbt, fun H' d' s' ed => herr a.C_BadSize "size" "size" d' od H' (List.mem_cons_of_mem _ List.mem_cons_self) s' ed fun pa Hb sa epa => ?_⟩⟩
      refine ⟨_, rfl, sz (show 3 ≤ 100000 by decide), fun qa nqa => ?_⟩
      have ua := same_upd (o := .tup [.str "size", od, .bl true]) nqa
      have hok := tD_ok (tag := "size") (by decide +kernel) (hD Hb).lay.1 (hD Hb).lay.2
      refine ⟨_, _, tD_dp (ua _ _ epa) ((hD _).dp), tD_dp upd_same ((hD _).dp), hok.1, hok.1, _, rfl, ne_self9 hok.2 ?_⟩
      -- nothing(1000) == list(range(1000)) and nothing(0) == []
      refine ⟨.int 1000, true, rfl, .int _, .inl ⟨1000, rfl, Nat.le_refl _, fun p4 H4 np4 ep4 s4 => ?_⟩⟩
      refine ⟨1000, rfl, RgOk.of_le (by decide) (by decide) (by decide) (by decide), fun p5 np5 => ?_⟩
      rw [show (1000 : Int) = ((1000 : Nat) : Int) from rfl, rgV_ri]
      have s5 := same_upd (o := .lst ((ri 1000).map V.int)) np5
      refine ⟨_, _, dp_ints (SqL.at (s5 _ _ ep4)), dp_ints (SqL.at upd_same), shaped_ints, shaped_ints, _, rfl, ?_⟩
      rw [eqv_ints, decide_eq_true rfl]
      refine iteT ⟨.int 0, true, rfl, .int _, .inl ⟨0, rfl, by decide, fun p6 H6 np6 ep6 s6 => ⟨Nat.zero_le _, fun p7 np7 => ?_⟩⟩⟩
      have s7 := same_upd (o := .lst []) np7
      refine ⟨_, _, dp_ints (SqL.at (s7 _ _ ep6)), dp_ints (ns := []) (SqL.at upd_same), shaped_ints, shaped_ints, ?_⟩
      rw [eqv_ints, decide_eq_true (show ri 0 = [] from rfl)]
      exact q _
end


theorem all_mk {l : PySem.W.OpenLaw} {w : World} {K : PySem.W.Frag} {h : Heap} {mg : Str → Option Value} {fa : Addr} (X : K.In h) (G : h.Ns mainGlobals mg) (hfa : mg "law" = some (.ref fa)) {ts : List Addr} (hts : ∀ P ∈ ts, h.get? P = some (PySem.W.tabObj #[]))
    {f0 : Addr} {od0 an0 : Option Addr} {sl0 : Array (Option Value)} {oc0 kV0 dc0 pm0 cd0 ct0 : Value}
    {f1 : Addr} {od1 an1 : Option Addr} {sl1 : Array (Option Value)} {oc1 kV1 dc1 pm1 cd1 ct1 : Value}
    {f2 : Addr} {od2 an2 : Option Addr} {sl2 : Array (Option Value)} {oc2 kV2 dc2 pm2 cd2 ct2 : Value}
    {f3 : Addr} {od3 an3 : Option Addr} {sl3 : Array (Option Value)} {oc3 kV3 dc3 pm3 cd3 ct3 : Value}
    {f4 : Addr} {od4 an4 : Option Addr} {sl4 : Array (Option Value)} {oc4 kV4 dc4 pm4 cd4 ct4 : Value}
    {f5 : Addr} {od5 an5 : Option Addr} {sl5 : Array (Option Value)} {oc5 kV5 dc5 pm5 cd5 ct5 : Value}
    {f6 : Addr} {od6 an6 : Option Addr} {sl6 : Array (Option Value)} {oc6 kV6 dc6 pm6 cd6 ct6 : Value}
    {f7 : Addr} {od7 an7 : Option Addr} {sl7 : Array (Option Value)} {oc7 kV7 dc7 pm7 cd7 ct7 : Value}
    {f8 : Addr} {od8 an8 : Option Addr} {sl8 : Array (Option Value)} {oc8 kV8 dc8 pm8 cd8 ct8 : Value}
    {f9 : Addr} {od9 an9 : Option Addr} {sl9 : Array (Option Value)} {oc9 kV9 dc9 pm9 cd9 ct9 : Value}
    {f10 : Addr} {od10 an10 : Option Addr} {sl10 : Array (Option Value)} {oc10 kV10 dc10 pm10 cd10 ct10 : Value}
    {f11 : Addr} {od11 an11 : Option Addr} {sl11 : Array (Option Value)} {oc11 kV11 dc11 pm11 cd11 ct11 : Value}
    {f12 : Addr} {od12 an12 : Option Addr} {sl12 : Array (Option Value)} {oc12 kV12 dc12 pm12 cd12 ct12 : Value}
    {f13 : Addr} {od13 an13 : Option Addr} {sl13 : Array (Option Value)} {oc13 kV13 dc13 pm13 cd13 ct13 : Value}
    {f14 : Addr} {od14 an14 : Option Addr} {sl14 : Array (Option Value)} {oc14 kV14 dc14 pm14 cd14 ct14 : Value}
    {f15 : Addr} {od15 an15 : Option Addr} {sl15 : Array (Option Value)} {oc15 kV15 dc15 pm15 cd15 ct15 : Value}
    {f16 : Addr} {od16 an16 : Option Addr} {sl16 : Array (Option Value)} {oc16 kV16 dc16 pm16 cd16 ct16 : Value}
    {f17 : Addr} {od17 an17 : Option Addr} {sl17 : Array (Option Value)} {oc17 kV17 dc17 pm17 cd17 ct17 : Value}
    {f18 : Addr} {od18 an18 : Option Addr} {sl18 : Array (Option Value)} {oc18 kV18 dc18 pm18 cd18 ct18 : Value}
    {f19 : Addr} {od19 an19 : Option Addr} {sl19 : Array (Option Value)} {oc19 kV19 dc19 pm19 cd19 ct19 : Value}
    {f20 : Addr} {od20 an20 : Option Addr} {sl20 : Array (Option Value)} {oc20 kV20 dc20 pm20 cd20 ct20 : Value}
    {f21 : Addr} {od21 an21 : Option Addr} {sl21 : Array (Option Value)} {oc21 kV21 dc21 pm21 cd21 ct21 : Value}
    {f22 : Addr} {od22 an22 : Option Addr} {sl22 : Array (Option Value)} {oc22 kV22 dc22 pm22 cd22 ct22 : Value}
    {f23 : Addr} {od23 an23 : Option Addr} {sl23 : Array (Option Value)} {oc23 kV23 dc23 pm23 cd23 ct23 : Value}
    {f24 : Addr} {od24 an24 : Option Addr} {sl24 : Array (Option Value)} {oc24 kV24 dc24 pm24 cd24 ct24 : Value}
    {f25 : Addr} {od25 an25 : Option Addr} {sl25 : Array (Option Value)} {oc25 kV25 dc25 pm25 cd25 ct25 : Value}
    {f26 : Addr} {od26 an26 : Option Addr} {sl26 : Array (Option Value)} {oc26 kV26 dc26 pm26 cd26 ct26 : Value}
    {f27 cA27 : Addr} {od27 an27 : Option Addr} {sl27 : Array (Option Value)} {oc27 kV27 dc27 pm27 ct27 : Value}
    {f28 cA28 : Addr} {od28 an28 : Option Addr} {sl28 : Array (Option Value)} {oc28 kV28 dc28 pm28 ct28 : Value}
    {C_EveryError : Addr}
    {C_BadSize : Addr}
    {C_BadNumber : Addr}
    {C_BadRow : Addr}
    {en_BadSize eq_BadSize : Str} {eN_BadSize : Addr} {eb_BadSize em_BadSize : List Value} {es_BadSize : List Str} {eu_BadSize : List Value} {ea_BadSize : Bool} {eo_BadSize : Option Bool} {ed_BadSize : Option Addr} {e0_BadSize e1_BadSize e2_BadSize e3_BadSize e5_BadSize : Option Value}
    {en_BadNumber eq_BadNumber : Str} {eN_BadNumber : Addr} {eb_BadNumber em_BadNumber : List Value} {es_BadNumber : List Str} {eu_BadNumber : List Value} {ea_BadNumber : Bool} {eo_BadNumber : Option Bool} {ed_BadNumber : Option Addr} {e0_BadNumber e1_BadNumber e2_BadNumber e3_BadNumber e5_BadNumber : Option Value}
    {en_BadRow eq_BadRow : Str} {eN_BadRow : Addr} {eb_BadRow em_BadRow : List Value} {es_BadRow : List Str} {eu_BadRow : List Value} {ea_BadRow : Bool} {eo_BadRow : Option Bool} {ed_BadRow : Option Addr} {e0_BadRow e1_BadRow e2_BadRow e3_BadRow e5_BadRow : Option Value}
    {t_MOST_PLACES : Tok}
    (c_EveryError : PySem.W.nsIn K mainGlobals "EveryError" = some (some (.ref C_EveryError)))
    (c_BadSize : PySem.W.nsIn K mainGlobals "BadSize" = some (some (.ref C_BadSize)))
    (c_BadNumber : PySem.W.nsIn K mainGlobals "BadNumber" = some (some (.ref C_BadNumber)))
    (c_BadRow : PySem.W.nsIn K mainGlobals "BadRow" = some (some (.ref C_BadRow)))
    (a0 : PySem.W.nsIn K mainGlobals "is_integer" = some (some (.ref f0)))
    (l0 : K.lookup f0 = some ⟨oc0, od0, .func (PySem.W.fnOf "is_integer" "is_integer" (defArgs s_is_integer) (defBody s_is_integer) (defScope s_is_integer) .none kV0 dc0 pm0 an0 cd0 ct0), sl0⟩)
    (e0 : PySem.W.codeIn K cd0 "is_integer" = true)
    (k0 : PySem.W.keepIn K (.ref f0) = true)
    (a1 : PySem.W.nsIn K mainGlobals "is_between" = some (some (.ref f1)))
    (l1 : K.lookup f1 = some ⟨oc1, od1, .func (PySem.W.fnOf "is_between" "is_between" (defArgs s_is_between) (defBody s_is_between) (defScope s_is_between) .none kV1 dc1 pm1 an1 cd1 ct1), sl1⟩)
    (e1 : PySem.W.codeIn K cd1 "is_between" = true)
    (k1 : PySem.W.keepIn K (.ref f1) = true)
    (a2 : PySem.W.nsIn K mainGlobals "first_wrong" = some (some (.ref f2)))
    (l2 : K.lookup f2 = some ⟨oc2, od2, .func (PySem.W.fnOf "first_wrong" "first_wrong" (defArgs s_first_wrong) (defBody s_first_wrong) (defScope s_first_wrong) .none kV2 dc2 pm2 an2 cd2 ct2), sl2⟩)
    (e2 : PySem.W.codeIn K cd2 "first_wrong" = true)
    (k2 : PySem.W.keepIn K (.ref f2) = true)
    (a3 : PySem.W.findIn K (.ref C_BadSize) "__init__" = some (some (.ref f3)))
    (l3 : K.lookup f3 = some ⟨oc3, od3, .func (PySem.W.fnOf "__init__" "BadSize.__init__" (defArgs s_BadSize_init) (defBody s_BadSize_init) (defScope s_BadSize_init) .none kV3 dc3 pm3 an3 cd3 ct3), sl3⟩)
    (e3 : PySem.W.codeIn K cd3 "BadSize.__init__" = true)
    (k3 : PySem.W.keepIn K (.ref f3) = true)
    (a4 : PySem.W.findIn K (.ref C_BadNumber) "__init__" = some (some (.ref f4)))
    (l4 : K.lookup f4 = some ⟨oc4, od4, .func (PySem.W.fnOf "__init__" "BadNumber.__init__" (defArgs s_BadNumber_init) (defBody s_BadNumber_init) (defScope s_BadNumber_init) .none kV4 dc4 pm4 an4 cd4 ct4), sl4⟩)
    (e4 : PySem.W.codeIn K cd4 "BadNumber.__init__" = true)
    (k4 : PySem.W.keepIn K (.ref f4) = true)
    (a5 : PySem.W.findIn K (.ref C_BadRow) "__init__" = some (some (.ref f5)))
    (l5 : K.lookup f5 = some ⟨oc5, od5, .func (PySem.W.fnOf "__init__" "BadRow.__init__" (defArgs s_BadRow_init) (defBody s_BadRow_init) (defScope s_BadRow_init) .none kV5 dc5 pm5 an5 cd5 ct5), sl5⟩)
    (e5 : PySem.W.codeIn K cd5 "BadRow.__init__" = true)
    (k5 : PySem.W.keepIn K (.ref f5) = true)
    (a6 : PySem.W.nsIn K mainGlobals "check_row" = some (some (.ref f6)))
    (l6 : K.lookup f6 = some ⟨oc6, od6, .func (PySem.W.fnOf "check_row" "check_row" (defArgs s_check_row) (defBody s_check_row) (defScope s_check_row) .none kV6 dc6 pm6 an6 cd6 ct6), sl6⟩)
    (e6 : PySem.W.codeIn K cd6 "check_row" = true)
    (k6 : PySem.W.keepIn K (.ref f6) = true)
    (a7 : PySem.W.nsIn K mainGlobals "nothing" = some (some (.ref f7)))
    (l7 : K.lookup f7 = some ⟨oc7, od7, .func (PySem.W.fnOf "nothing" "nothing" (defArgs s_nothing) (defBody s_nothing) (defScope s_nothing) .none kV7 dc7 pm7 an7 cd7 ct7), sl7⟩)
    (e7 : PySem.W.codeIn K cd7 "nothing" = true)
    (k7 : PySem.W.keepIn K (.ref f7) = true)
    (a8 : PySem.W.nsIn K mainGlobals "joined" = some (some (.ref f8)))
    (l8 : K.lookup f8 = some ⟨oc8, od8, .func (PySem.W.fnOf "joined" "joined" (defArgs s_joined) (defBody s_joined) (defScope s_joined) .none kV8 dc8 pm8 an8 cd8 ct8), sl8⟩)
    (e8 : PySem.W.codeIn K cd8 "joined" = true)
    (k8 : PySem.W.keepIn K (.ref f8) = true)
    (a9 : PySem.W.nsIn K mainGlobals "in_turn" = some (some (.ref f9)))
    (l9 : K.lookup f9 = some ⟨oc9, od9, .func (PySem.W.fnOf "in_turn" "in_turn" (defArgs s_in_turn) (defBody s_in_turn) (defScope s_in_turn) .none kV9 dc9 pm9 an9 cd9 ct9), sl9⟩)
    (e9 : PySem.W.codeIn K cd9 "in_turn" = true)
    (k9 : PySem.W.keepIn K (.ref f9) = true)
    (a10 : PySem.W.nsIn K mainGlobals "undone" = some (some (.ref f10)))
    (l10 : K.lookup f10 = some ⟨oc10, od10, .func (PySem.W.fnOf "undone" "undone" (defArgs s_undone) (defBody s_undone) (defScope s_undone) .none kV10 dc10 pm10 an10 cd10 ct10), sl10⟩)
    (e10 : PySem.W.codeIn K cd10 "undone" = true)
    (k10 : PySem.W.keepIn K (.ref f10) = true)
    (a11 : PySem.W.nsIn K mainGlobals "back_from" = some (some (.ref f11)))
    (l11 : K.lookup f11 = some ⟨oc11, od11, .func (PySem.W.fnOf "back_from" "back_from" (defArgs s_back_from) (defBody s_back_from) (defScope s_back_from) .none kV11 dc11 pm11 an11 cd11 ct11), sl11⟩)
    (e11 : PySem.W.codeIn K cd11 "back_from" = true)
    (k11 : PySem.W.keepIn K (.ref f11) = true)
    (a12 : PySem.W.nsIn K mainGlobals "done" = some (some (.ref f12)))
    (l12 : K.lookup f12 = some ⟨oc12, od12, .func (PySem.W.fnOf "done" "done" (defArgs s_done) (defBody s_done) (defScope s_done) .none kV12 dc12 pm12 an12 cd12 ct12), sl12⟩)
    (e12 : PySem.W.codeIn K cd12 "done" = true)
    (k12 : PySem.W.keepIn K (.ref f12) = true)
    (a13 : PySem.W.nsIn K mainGlobals "repeated" = some (some (.ref f13)))
    (l13 : K.lookup f13 = some ⟨oc13, od13, .func (PySem.W.fnOf "repeated" "repeated" (defArgs s_repeated) (defBody s_repeated) (defScope s_repeated) .none kV13 dc13 pm13 an13 cd13 ct13), sl13⟩)
    (e13 : PySem.W.codeIn K cd13 "repeated" = true)
    (k13 : PySem.W.keepIn K (.ref f13) = true)
    (a14 : PySem.W.nsIn K mainGlobals "seats_of" = some (some (.ref f14)))
    (l14 : K.lookup f14 = some ⟨oc14, od14, .func (PySem.W.fnOf "seats_of" "seats_of" (defArgs s_seats_of) (defBody s_seats_of) (defScope s_seats_of) .none kV14 dc14 pm14 an14 cd14 ct14), sl14⟩)
    (e14 : PySem.W.codeIn K cd14 "seats_of" = true)
    (k14 : PySem.W.keepIn K (.ref f14) = true)
    (a15 : PySem.W.nsIn K mainGlobals "led" = some (some (.ref f15)))
    (l15 : K.lookup f15 = some ⟨oc15, od15, .func (PySem.W.fnOf "led" "led" (defArgs s_led) (defBody s_led) (defScope s_led) .none kV15 dc15 pm15 an15 cd15 ct15), sl15⟩)
    (e15 : PySem.W.codeIn K cd15 "led" = true)
    (k15 : PySem.W.keepIn K (.ref f15) = true)
    (a16 : PySem.W.nsIn K mainGlobals "rings" = some (some (.ref f16)))
    (l16 : K.lookup f16 = some ⟨oc16, od16, .func (PySem.W.fnOf "rings" "rings" (defArgs s_rings) (defBody s_rings) (defScope s_rings) .none kV16 dc16 pm16 an16 cd16 ct16), sl16⟩)
    (e16 : PySem.W.codeIn K cd16 "rings" = true)
    (k16 : PySem.W.keepIn K (.ref f16) = true)
    (a17 : PySem.W.nsIn K mainGlobals "rings_in" = some (some (.ref f17)))
    (l17 : K.lookup f17 = some ⟨oc17, od17, .func (PySem.W.fnOf "rings_in" "rings_in" (defArgs s_rings_in) (defBody s_rings_in) (defScope s_rings_in) .none kV17 dc17 pm17 an17 cd17 ct17), sl17⟩)
    (e17 : PySem.W.codeIn K cd17 "rings_in" = true)
    (k17 : PySem.W.keepIn K (.ref f17) = true)
    (a18 : PySem.W.nsIn K mainGlobals "ring_from" = some (some (.ref f18)))
    (l18 : K.lookup f18 = some ⟨oc18, od18, .func (PySem.W.fnOf "ring_from" "ring_from" (defArgs s_ring_from) (defBody s_ring_from) (defScope s_ring_from) .none kV18 dc18 pm18 an18 cd18 ct18), sl18⟩)
    (e18 : PySem.W.codeIn K cd18 "ring_from" = true)
    (k18 : PySem.W.keepIn K (.ref f18) = true)
    (a19 : PySem.W.nsIn K mainGlobals "is_even" = some (some (.ref f19)))
    (l19 : K.lookup f19 = some ⟨oc19, od19, .func (PySem.W.fnOf "is_even" "is_even" (defArgs s_is_even) (defBody s_is_even) (defScope s_is_even) .none kV19 dc19 pm19 an19 cd19 ct19), sl19⟩)
    (e19 : PySem.W.codeIn K cd19 "is_even" = true)
    (k19 : PySem.W.keepIn K (.ref f19) = true)
    (a20 : PySem.W.nsIn K mainGlobals "_law_pen" = some (some (.ref f20)))
    (l20 : K.lookup f20 = some ⟨oc20, od20, .func (PySem.W.fnOf "_law_pen" "_law_pen" (defArgs s__law_pen) (defBody s__law_pen) (defScope s__law_pen) .none kV20 dc20 pm20 an20 cd20 ct20), sl20⟩)
    (e20 : PySem.W.codeIn K cd20 "_law_pen" = true)
    (k20 : PySem.W.keepIn K (.ref f20) = true)
    (a21 : PySem.W.nsIn K mainGlobals "_law_draw" = some (some (.ref f21)))
    (l21 : K.lookup f21 = some ⟨oc21, od21, .func (PySem.W.fnOf "_law_draw" "_law_draw" (defArgs s__law_draw) (defBody s__law_draw) (defScope s__law_draw) .none kV21 dc21 pm21 an21 cd21 ct21), sl21⟩)
    (e21 : PySem.W.codeIn K cd21 "_law_draw" = true)
    (k21 : PySem.W.keepIn K (.ref f21) = true)
    (a22 : PySem.W.nsIn K mainGlobals "_law_pick" = some (some (.ref f22)))
    (l22 : K.lookup f22 = some ⟨oc22, od22, .func (PySem.W.fnOf "_law_pick" "_law_pick" (defArgs s__law_pick) (defBody s__law_pick) (defScope s__law_pick) .none kV22 dc22 pm22 an22 cd22 ct22), sl22⟩)
    (e22 : PySem.W.codeIn K cd22 "_law_pick" = true)
    (k22 : PySem.W.keepIn K (.ref f22) = true)
    (a23 : PySem.W.nsIn K mainGlobals "_law_shuffled" = some (some (.ref f23)))
    (l23 : K.lookup f23 = some ⟨oc23, od23, .func (PySem.W.fnOf "_law_shuffled" "_law_shuffled" (defArgs s__law_shuffled) (defBody s__law_shuffled) (defScope s__law_shuffled) .none kV23 dc23 pm23 an23 cd23 ct23), sl23⟩)
    (e23 : PySem.W.codeIn K cd23 "_law_shuffled" = true)
    (k23 : PySem.W.keepIn K (.ref f23) = true)
    (a24 : PySem.W.nsIn K mainGlobals "_law_row" = some (some (.ref f24)))
    (l24 : K.lookup f24 = some ⟨oc24, od24, .func (PySem.W.fnOf "_law_row" "_law_row" (defArgs s__law_row) (defBody s__law_row) (defScope s__law_row) .none kV24 dc24 pm24 an24 cd24 ct24), sl24⟩)
    (e24 : PySem.W.codeIn K cd24 "_law_row" = true)
    (k24 : PySem.W.keepIn K (.ref f24) = true)
    (a25 : PySem.W.nsIn K mainGlobals "_law_met" = some (some (.ref f25)))
    (l25 : K.lookup f25 = some ⟨oc25, od25, .func (PySem.W.fnOf "_law_met" "_law_met" (defArgs s__law_met) (defBody s__law_met) (defScope s__law_met) .none kV25 dc25 pm25 an25 cd25 ct25), sl25⟩)
    (e25 : PySem.W.codeIn K cd25 "_law_met" = true)
    (k25 : PySem.W.keepIn K (.ref f25) = true)
    (a26 : PySem.W.nsIn K mainGlobals "_law_wrong_row" = some (some (.ref f26)))
    (l26 : K.lookup f26 = some ⟨oc26, od26, .func (PySem.W.fnOf "_law_wrong_row" "_law_wrong_row" (defArgs s__law_wrong_row) (defBody s__law_wrong_row) (defScope s__law_wrong_row) .none kV26 dc26 pm26 an26 cd26 ct26), sl26⟩)
    (e26 : PySem.W.codeIn K cd26 "_law_wrong_row" = true)
    (k26 : PySem.W.keepIn K (.ref f26) = true)
    (a27 : PySem.W.nsIn K mainGlobals "_law_calls" = some (some (.ref f27)))
    (l27 : K.lookup f27 = some ⟨oc27, od27, .func (PySem.W.fnOf "_law_calls" "_law_calls" (defArgs s__law_calls) (defBody s__law_calls) (defScope s__law_calls) .none kV27 dc27 pm27 an27 (.ref cA27) ct27), sl27⟩)
    (e27 : PySem.W.codeIn K (.ref cA27) "_law_calls" = true)
    (k27 : PySem.W.keepIn K (.ref f27) = true)
    (a28 : PySem.W.nsIn K mainGlobals "law" = some (some (.ref f28)))
    (l28 : K.lookup f28 = some ⟨oc28, od28, .func (PySem.W.fnOf "law" "law" (defArgs s_law) (defBody s_law) (defScope s_law) .none kV28 dc28 pm28 an28 (.ref cA28) ct28), sl28⟩)
    (e28 : PySem.W.codeIn K (.ref cA28) "law" = true)
    (k28 : PySem.W.keepIn K (.ref f28) = true)
    (xl_BadSize : K.lookup C_BadSize = some (excClassObj en_BadSize eq_BadSize C_BadSize eN_BadSize eb_BadSize em_BadSize true es_BadSize eu_BadSize ea_BadSize eo_BadSize ed_BadSize e0_BadSize e1_BadSize e2_BadSize e3_BadSize e5_BadSize "ValueError.__new__"))
    (xr_BadSize : PySem.HandSPX.refsVE em_BadSize = true)
    (xsa_BadSize : PySem.W.findIn K (.ref C_BadSize) "__setattr__" = some (some (.builtin "object.__setattr__")))
    (xex_BadSize : PySem.W.subIn K (.ref C_BadSize) (.type "BaseException") = some true)
    (xty_BadSize : PySem.W.typeIn K (.ref C_BadSize) = some (.type "type"))
    (xkc_BadSize : PySem.W.keepIn K (.ref C_BadSize) = true)
    (xga_BadSize : PySem.W.findIn K (.ref C_BadSize) "__getattribute__" = some (some (.builtin "BaseException.__getattribute__")))
    (xgg_BadSize : PySem.W.findIn K (.ref C_BadSize) "__getattr__" = some none)
    (xhd_BadSize : PySem.W.hasDictIn K C_BadSize = true)
    (xha_BadSize : PySem.W.findIn K (.ref C_BadSize) "__class__" = some (some (.builtin "object.__class__")))
    (xhm_BadSize : PySem.W.mroIn K C_BadSize (.type "object") = some true)
    (xno_BadSize : PySem.W.findIn K (.ref C_BadSize) "size" = some none)
    (xhn_BadSize : PySem.W.specialIn K (.builtin "object.__class__") "__get__" = some (some (.builtin "getset_descriptor.__get__")))
    (xht_BadSize : PySem.W.takesIn K (.builtin "object.__class__") = some true)
    (xti_BadSize : PySem.W.typeIn K (.ref f3) = some (.type "function"))
    (xs_BadSize_BadNumber : PySem.W.subIn K (.ref C_BadSize) (.ref C_BadNumber) = some false)
    (xs_BadSize_BadRow : PySem.W.subIn K (.ref C_BadSize) (.ref C_BadRow) = some false)
    (xs_BadSize_BadSize : PySem.W.subIn K (.ref C_BadSize) (.ref C_BadSize) = some true)
    (ok_BadSize_EveryError : PySem.W.kitOne K (.ref C_BadSize) (.ref C_EveryError) = some true)
    (xl_BadNumber : K.lookup C_BadNumber = some (excClassObj en_BadNumber eq_BadNumber C_BadNumber eN_BadNumber eb_BadNumber em_BadNumber true es_BadNumber eu_BadNumber ea_BadNumber eo_BadNumber ed_BadNumber e0_BadNumber e1_BadNumber e2_BadNumber e3_BadNumber e5_BadNumber "ValueError.__new__"))
    (xr_BadNumber : PySem.HandSPX.refsVE em_BadNumber = true)
    (xsa_BadNumber : PySem.W.findIn K (.ref C_BadNumber) "__setattr__" = some (some (.builtin "object.__setattr__")))
    (xex_BadNumber : PySem.W.subIn K (.ref C_BadNumber) (.type "BaseException") = some true)
    (xty_BadNumber : PySem.W.typeIn K (.ref C_BadNumber) = some (.type "type"))
    (xkc_BadNumber : PySem.W.keepIn K (.ref C_BadNumber) = true)
    (xga_BadNumber : PySem.W.findIn K (.ref C_BadNumber) "__getattribute__" = some (some (.builtin "BaseException.__getattribute__")))
    (xgg_BadNumber : PySem.W.findIn K (.ref C_BadNumber) "__getattr__" = some none)
    (xhd_BadNumber : PySem.W.hasDictIn K C_BadNumber = true)
    (xha_BadNumber : PySem.W.findIn K (.ref C_BadNumber) "__class__" = some (some (.builtin "object.__class__")))
    (xhm_BadNumber : PySem.W.mroIn K C_BadNumber (.type "object") = some true)
    (xno_BadNumber : PySem.W.findIn K (.ref C_BadNumber) "number" = some none)
    (xhn_BadNumber : PySem.W.specialIn K (.builtin "object.__class__") "__get__" = some (some (.builtin "getset_descriptor.__get__")))
    (xht_BadNumber : PySem.W.takesIn K (.builtin "object.__class__") = some true)
    (xti_BadNumber : PySem.W.typeIn K (.ref f4) = some (.type "function"))
    (xs_BadNumber_BadNumber : PySem.W.subIn K (.ref C_BadNumber) (.ref C_BadNumber) = some true)
    (xs_BadNumber_BadRow : PySem.W.subIn K (.ref C_BadNumber) (.ref C_BadRow) = some false)
    (xs_BadNumber_BadSize : PySem.W.subIn K (.ref C_BadNumber) (.ref C_BadSize) = some false)
    (ok_BadNumber_EveryError : PySem.W.kitOne K (.ref C_BadNumber) (.ref C_EveryError) = some true)
    (xl_BadRow : K.lookup C_BadRow = some (excClassObj en_BadRow eq_BadRow C_BadRow eN_BadRow eb_BadRow em_BadRow true es_BadRow eu_BadRow ea_BadRow eo_BadRow ed_BadRow e0_BadRow e1_BadRow e2_BadRow e3_BadRow e5_BadRow "ValueError.__new__"))
    (xr_BadRow : PySem.HandSPX.refsVE em_BadRow = true)
    (xsa_BadRow : PySem.W.findIn K (.ref C_BadRow) "__setattr__" = some (some (.builtin "object.__setattr__")))
    (xex_BadRow : PySem.W.subIn K (.ref C_BadRow) (.type "BaseException") = some true)
    (xty_BadRow : PySem.W.typeIn K (.ref C_BadRow) = some (.type "type"))
    (xkc_BadRow : PySem.W.keepIn K (.ref C_BadRow) = true)
    (xga_BadRow : PySem.W.findIn K (.ref C_BadRow) "__getattribute__" = some (some (.builtin "BaseException.__getattribute__")))
    (xgg_BadRow : PySem.W.findIn K (.ref C_BadRow) "__getattr__" = some none)
    (xhd_BadRow : PySem.W.hasDictIn K C_BadRow = true)
    (xha_BadRow : PySem.W.findIn K (.ref C_BadRow) "__class__" = some (some (.builtin "object.__class__")))
    (xhm_BadRow : PySem.W.mroIn K C_BadRow (.type "object") = some true)
    (xno_BadRow : PySem.W.findIn K (.ref C_BadRow) "index" = some none)
    (xhn_BadRow : PySem.W.specialIn K (.builtin "object.__class__") "__get__" = some (some (.builtin "getset_descriptor.__get__")))
    (xht_BadRow : PySem.W.takesIn K (.builtin "object.__class__") = some true)
    (xti_BadRow : PySem.W.typeIn K (.ref f5) = some (.type "function"))
    (xs_BadRow_BadNumber : PySem.W.subIn K (.ref C_BadRow) (.ref C_BadNumber) = some false)
    (xs_BadRow_BadRow : PySem.W.subIn K (.ref C_BadRow) (.ref C_BadRow) = some true)
    (xs_BadRow_BadSize : PySem.W.subIn K (.ref C_BadRow) (.ref C_BadSize) = some false)
    (ok_BadRow_EveryError : PySem.W.kitOne K (.ref C_BadRow) (.ref C_EveryError) = some true)
    (z_bool : PySem.W.nsIn K mainGlobals "bool" = some none)
    (z_enumerate : PySem.W.nsIn K mainGlobals "enumerate" = some none)
    (z_int : PySem.W.nsIn K mainGlobals "int" = some none)
    (z_isinstance : PySem.W.nsIn K mainGlobals "isinstance" = some none)
    (z_len : PySem.W.nsIn K mainGlobals "len" = some none)
    (z_list : PySem.W.nsIn K mainGlobals "list" = some none)
    (z_max : PySem.W.nsIn K mainGlobals "max" = some none)
    (z_range : PySem.W.nsIn K mainGlobals "range" = some none)
    (z_tuple : PySem.W.nsIn K mainGlobals "tuple" = some none)
    (m_MOST_PLACES : PySem.W.nsIn K mainGlobals "MOST_PLACES" = some (some (.int 1000 t_MOST_PLACES)))
    (kr_t27 : PySem.W.codeHdIn K cA27 (tabAddr K cA27) = true)
    (kr_u27 : (K.lookup (tabAddr K cA27)).isNone = true)
    (kr_v27 : ts.contains (tabAddr K cA27) = true)
    (kr_t28 : PySem.W.codeHdIn K cA28 (tabAddr K cA28) = true)
    (kr_u28 : (K.lookup (tabAddr K cA28)).isNone = true)
    (kr_v28 : ts.contains (tabAddr K cA28) = true)
    (kr_d28_27 : (tabAddr K cA28 == tabAddr K cA27) = false)
    : LamX.LawAtS l w K CX0 10 63 "script" mg fa h := by
  have e := hfa.symm.trans (PySem.W.mg_of X G a28)
  cases e
  let a : Ad := ⟨f0, PySem.W.fnOf "is_integer" "is_integer" (defArgs s_is_integer) (defBody s_is_integer) (defScope s_is_integer) .none kV0 dc0 pm0 an0 cd0 ct0, f1, PySem.W.fnOf "is_between" "is_between" (defArgs s_is_between) (defBody s_is_between) (defScope s_is_between) .none kV1 dc1 pm1 an1 cd1 ct1, f2, PySem.W.fnOf "first_wrong" "first_wrong" (defArgs s_first_wrong) (defBody s_first_wrong) (defScope s_first_wrong) .none kV2 dc2 pm2 an2 cd2 ct2, f3, PySem.W.fnOf "__init__" "BadSize.__init__" (defArgs s_BadSize_init) (defBody s_BadSize_init) (defScope s_BadSize_init) .none kV3 dc3 pm3 an3 cd3 ct3, f4, PySem.W.fnOf "__init__" "BadNumber.__init__" (defArgs s_BadNumber_init) (defBody s_BadNumber_init) (defScope s_BadNumber_init) .none kV4 dc4 pm4 an4 cd4 ct4, f5, PySem.W.fnOf "__init__" "BadRow.__init__" (defArgs s_BadRow_init) (defBody s_BadRow_init) (defScope s_BadRow_init) .none kV5 dc5 pm5 an5 cd5 ct5, f6, PySem.W.fnOf "check_row" "check_row" (defArgs s_check_row) (defBody s_check_row) (defScope s_check_row) .none kV6 dc6 pm6 an6 cd6 ct6, f7, PySem.W.fnOf "nothing" "nothing" (defArgs s_nothing) (defBody s_nothing) (defScope s_nothing) .none kV7 dc7 pm7 an7 cd7 ct7, f8, PySem.W.fnOf "joined" "joined" (defArgs s_joined) (defBody s_joined) (defScope s_joined) .none kV8 dc8 pm8 an8 cd8 ct8, f9, PySem.W.fnOf "in_turn" "in_turn" (defArgs s_in_turn) (defBody s_in_turn) (defScope s_in_turn) .none kV9 dc9 pm9 an9 cd9 ct9, f10, PySem.W.fnOf "undone" "undone" (defArgs s_undone) (defBody s_undone) (defScope s_undone) .none kV10 dc10 pm10 an10 cd10 ct10, f11, PySem.W.fnOf "back_from" "back_from" (defArgs s_back_from) (defBody s_back_from) (defScope s_back_from) .none kV11 dc11 pm11 an11 cd11 ct11, f12, PySem.W.fnOf "done" "done" (defArgs s_done) (defBody s_done) (defScope s_done) .none kV12 dc12 pm12 an12 cd12 ct12, f13, PySem.W.fnOf "repeated" "repeated" (defArgs s_repeated) (defBody s_repeated) (defScope s_repeated) .none kV13 dc13 pm13 an13 cd13 ct13, f14, PySem.W.fnOf "seats_of" "seats_of" (defArgs s_seats_of) (defBody s_seats_of) (defScope s_seats_of) .none kV14 dc14 pm14 an14 cd14 ct14, f15, PySem.W.fnOf "led" "led" (defArgs s_led) (defBody s_led) (defScope s_led) .none kV15 dc15 pm15 an15 cd15 ct15, f16, PySem.W.fnOf "rings" "rings" (defArgs s_rings) (defBody s_rings) (defScope s_rings) .none kV16 dc16 pm16 an16 cd16 ct16, f17, PySem.W.fnOf "rings_in" "rings_in" (defArgs s_rings_in) (defBody s_rings_in) (defScope s_rings_in) .none kV17 dc17 pm17 an17 cd17 ct17, f18, PySem.W.fnOf "ring_from" "ring_from" (defArgs s_ring_from) (defBody s_ring_from) (defScope s_ring_from) .none kV18 dc18 pm18 an18 cd18 ct18, f19, PySem.W.fnOf "is_even" "is_even" (defArgs s_is_even) (defBody s_is_even) (defScope s_is_even) .none kV19 dc19 pm19 an19 cd19 ct19, f20, PySem.W.fnOf "_law_pen" "_law_pen" (defArgs s__law_pen) (defBody s__law_pen) (defScope s__law_pen) .none kV20 dc20 pm20 an20 cd20 ct20, f21, PySem.W.fnOf "_law_draw" "_law_draw" (defArgs s__law_draw) (defBody s__law_draw) (defScope s__law_draw) .none kV21 dc21 pm21 an21 cd21 ct21, f22, PySem.W.fnOf "_law_pick" "_law_pick" (defArgs s__law_pick) (defBody s__law_pick) (defScope s__law_pick) .none kV22 dc22 pm22 an22 cd22 ct22, f23, PySem.W.fnOf "_law_shuffled" "_law_shuffled" (defArgs s__law_shuffled) (defBody s__law_shuffled) (defScope s__law_shuffled) .none kV23 dc23 pm23 an23 cd23 ct23, f24, PySem.W.fnOf "_law_row" "_law_row" (defArgs s__law_row) (defBody s__law_row) (defScope s__law_row) .none kV24 dc24 pm24 an24 cd24 ct24, f25, PySem.W.fnOf "_law_met" "_law_met" (defArgs s__law_met) (defBody s__law_met) (defScope s__law_met) .none kV25 dc25 pm25 an25 cd25 ct25, f26, PySem.W.fnOf "_law_wrong_row" "_law_wrong_row" (defArgs s__law_wrong_row) (defBody s__law_wrong_row) (defScope s__law_wrong_row) .none kV26 dc26 pm26 an26 cd26 ct26, f27, PySem.W.fnOf "_law_calls" "_law_calls" (defArgs s__law_calls) (defBody s__law_calls) (defScope s__law_calls) .none kV27 dc27 pm27 an27 (.ref cA27) ct27, fa, PySem.W.fnOf "law" "law" (defArgs s_law) (defBody s_law) (defScope s_law) .none kV28 dc28 pm28 an28 (.ref cA28) ct28, C_EveryError, C_BadSize, C_BadNumber, C_BadRow, cA27, tabAddr K cA27, cA28, tabAddr K cA28⟩
  have F0 : Fun K "is_integer" "is_integer" s_is_integer a.f_is_integer a.d_is_integer := fun_mk (st := s_is_integer) l0 e0 k0
  have F1 : Fun K "is_between" "is_between" s_is_between a.f_is_between a.d_is_between := fun_mk (st := s_is_between) l1 e1 k1
  have F2 : Fun K "first_wrong" "first_wrong" s_first_wrong a.f_first_wrong a.d_first_wrong := fun_mk (st := s_first_wrong) l2 e2 k2
  have F3 : Fun K "__init__" "BadSize.__init__" s_BadSize_init a.f_BadSize_init a.d_BadSize_init := fun_mk (st := s_BadSize_init) l3 e3 k3
  have F4 : Fun K "__init__" "BadNumber.__init__" s_BadNumber_init a.f_BadNumber_init a.d_BadNumber_init := fun_mk (st := s_BadNumber_init) l4 e4 k4
  have F5 : Fun K "__init__" "BadRow.__init__" s_BadRow_init a.f_BadRow_init a.d_BadRow_init := fun_mk (st := s_BadRow_init) l5 e5 k5
  have F6 : Fun K "check_row" "check_row" s_check_row a.f_check_row a.d_check_row := fun_mk (st := s_check_row) l6 e6 k6
  have F7 : Fun K "nothing" "nothing" s_nothing a.f_nothing a.d_nothing := fun_mk (st := s_nothing) l7 e7 k7
  have F8 : Fun K "joined" "joined" s_joined a.f_joined a.d_joined := fun_mk (st := s_joined) l8 e8 k8
  have F9 : Fun K "in_turn" "in_turn" s_in_turn a.f_in_turn a.d_in_turn := fun_mk (st := s_in_turn) l9 e9 k9
  have F10 : Fun K "undone" "undone" s_undone a.f_undone a.d_undone := fun_mk (st := s_undone) l10 e10 k10
  have F11 : Fun K "back_from" "back_from" s_back_from a.f_back_from a.d_back_from := fun_mk (st := s_back_from) l11 e11 k11
  have F12 : Fun K "done" "done" s_done a.f_done a.d_done := fun_mk (st := s_done) l12 e12 k12
  have F13 : Fun K "repeated" "repeated" s_repeated a.f_repeated a.d_repeated := fun_mk (st := s_repeated) l13 e13 k13
  have F14 : Fun K "seats_of" "seats_of" s_seats_of a.f_seats_of a.d_seats_of := fun_mk (st := s_seats_of) l14 e14 k14
  have F15 : Fun K "led" "led" s_led a.f_led a.d_led := fun_mk (st := s_led) l15 e15 k15
  have F16 : Fun K "rings" "rings" s_rings a.f_rings a.d_rings := fun_mk (st := s_rings) l16 e16 k16
  have F17 : Fun K "rings_in" "rings_in" s_rings_in a.f_rings_in a.d_rings_in := fun_mk (st := s_rings_in) l17 e17 k17
  have F18 : Fun K "ring_from" "ring_from" s_ring_from a.f_ring_from a.d_ring_from := fun_mk (st := s_ring_from) l18 e18 k18
  have F19 : Fun K "is_even" "is_even" s_is_even a.f_is_even a.d_is_even := fun_mk (st := s_is_even) l19 e19 k19
  have F20 : Fun K "_law_pen" "_law_pen" s__law_pen a.f__law_pen a.d__law_pen := fun_mk (st := s__law_pen) l20 e20 k20
  have F21 : Fun K "_law_draw" "_law_draw" s__law_draw a.f__law_draw a.d__law_draw := fun_mk (st := s__law_draw) l21 e21 k21
  have F22 : Fun K "_law_pick" "_law_pick" s__law_pick a.f__law_pick a.d__law_pick := fun_mk (st := s__law_pick) l22 e22 k22
  have F23 : Fun K "_law_shuffled" "_law_shuffled" s__law_shuffled a.f__law_shuffled a.d__law_shuffled := fun_mk (st := s__law_shuffled) l23 e23 k23
  have F24 : Fun K "_law_row" "_law_row" s__law_row a.f__law_row a.d__law_row := fun_mk (st := s__law_row) l24 e24 k24
  have F25 : Fun K "_law_met" "_law_met" s__law_met a.f__law_met a.d__law_met := fun_mk (st := s__law_met) l25 e25 k25
  have F26 : Fun K "_law_wrong_row" "_law_wrong_row" s__law_wrong_row a.f__law_wrong_row a.d__law_wrong_row := fun_mk (st := s__law_wrong_row) l26 e26 k26
  have F27 : Fun K "_law_calls" "_law_calls" s__law_calls a.f__law_calls a.d__law_calls := fun_mk (st := s__law_calls) l27 e27 k27
  have F28 : Fun K "law" "law" s_law a.f_law a.d_law := fun_mk (st := s_law) l28 e28 k28
  have T : Tx w K mg a := ⟨(F0),
    (F0.binds (ps := ["value"]) fun _ _ _ _ _ _ us hl => match us, hl with | [_], _ => rfl),
    (PySem.W.mg_of X G a0),
    (F1),
    (F1.binds (ps := ["value", "low", "high"]) fun _ _ _ _ _ _ us hl => match us, hl with | [_, _, _], _ => rfl),
    (PySem.W.mg_of X G a1),
    (F2),
    (F2.binds (ps := ["row", "size"]) fun _ _ _ _ _ _ us hl => match us, hl with | [_, _], _ => rfl),
    (PySem.W.mg_of X G a2),
    (F3),
    (F3.binds (ps := ["self", "size"]) fun _ _ _ _ _ _ us hl => match us, hl with | [_, _], _ => rfl),
    (F4),
    (F4.binds (ps := ["self", "number"]) fun _ _ _ _ _ _ us hl => match us, hl with | [_, _], _ => rfl),
    (F5),
    (F5.binds (ps := ["self", "index"]) fun _ _ _ _ _ _ us hl => match us, hl with | [_, _], _ => rfl),
    (F6),
    (F6.binds (ps := ["row"]) fun _ _ _ _ _ _ us hl => match us, hl with | [_], _ => rfl),
    (PySem.W.mg_of X G a6),
    (F7),
    (F7.binds (ps := ["size"]) fun _ _ _ _ _ _ us hl => match us, hl with | [_], _ => rfl),
    (PySem.W.mg_of X G a7),
    (F8),
    (F8.binds (ps := ["first", "second"]) fun _ _ _ _ _ _ us hl => match us, hl with | [_, _], _ => rfl),
    (PySem.W.mg_of X G a8),
    (F9),
    (F9.binds (ps := ["first", "second"]) fun _ _ _ _ _ _ us hl => match us, hl with | [_, _], _ => rfl),
    (PySem.W.mg_of X G a9),
    (F10),
    (F10.binds (ps := ["row"]) fun _ _ _ _ _ _ us hl => match us, hl with | [_], _ => rfl),
    (PySem.W.mg_of X G a10),
    (F11),
    (F11.binds (ps := ["row"]) fun _ _ _ _ _ _ us hl => match us, hl with | [_], _ => rfl),
    (PySem.W.mg_of X G a11),
    (F12),
    (F12.binds (ps := ["row", "things"]) fun _ _ _ _ _ _ us hl => match us, hl with | [_, _], _ => rfl),
    (PySem.W.mg_of X G a12),
    (F13),
    (F13.binds (ps := ["row", "many"]) fun _ _ _ _ _ _ us hl => match us, hl with | [_, _], _ => rfl),
    (PySem.W.mg_of X G a13),
    (F14),
    (F14.binds (ps := ["row"]) fun _ _ _ _ _ _ us hl => match us, hl with | [_], _ => rfl),
    (PySem.W.mg_of X G a14),
    (F15),
    (F15.binds (ps := ["seats", "place", "many"]) fun _ _ _ _ _ _ us hl => match us, hl with | [_, _, _], _ => rfl),
    (PySem.W.mg_of X G a15),
    (F16),
    (F16.binds (ps := ["row"]) fun _ _ _ _ _ _ us hl => match us, hl with | [_], _ => rfl),
    (PySem.W.mg_of X G a16),
    (F17),
    (F17.binds (ps := ["row"]) fun _ _ _ _ _ _ us hl => match us, hl with | [_], _ => rfl),
    (PySem.W.mg_of X G a17),
    (F18),
    (F18.binds (ps := ["row", "start"]) fun _ _ _ _ _ _ us hl => match us, hl with | [_, _], _ => rfl),
    (PySem.W.mg_of X G a18),
    (F19),
    (F19.binds (ps := ["row"]) fun _ _ _ _ _ _ us hl => match us, hl with | [_], _ => rfl),
    (PySem.W.mg_of X G a19),
    (F20),
    (F20.binds (ps := ["script"]) fun _ _ _ _ _ _ us hl => match us, hl with | [_], _ => rfl),
    (PySem.W.mg_of X G a20),
    (F21),
    (F21.binds (ps := ["pen", "many"]) fun _ _ _ _ _ _ us hl => match us, hl with | [_, _], _ => rfl),
    (PySem.W.mg_of X G a21),
    (F22),
    (F22.binds (ps := ["pen", "some"]) fun _ _ _ _ _ _ us hl => match us, hl with | [_, _], _ => rfl),
    (PySem.W.mg_of X G a22),
    (F23),
    (F23.binds (ps := ["pen", "some"]) fun _ _ _ _ _ _ us hl => match us, hl with | [_, _], _ => rfl),
    (PySem.W.mg_of X G a23),
    (F24),
    (F24.binds (ps := ["pen", "size"]) fun _ _ _ _ _ _ us hl => match us, hl with | [_, _], _ => rfl),
    (PySem.W.mg_of X G a24),
    (F25),
    (F25.binds (ps := ["call"]) fun _ _ _ _ _ _ us hl => match us, hl with | [_], _ => rfl),
    (PySem.W.mg_of X G a25),
    (F26),
    (F26.binds (ps := ["pen", "row"]) fun _ _ _ _ _ _ us hl => match us, hl with | [_, _], _ => rfl),
    (PySem.W.mg_of X G a26),
    (F27),
    (⟨_, _, _, _, _, _, _, _, rfl, l27, e27⟩),
    (F27.binds (ps := ["row", "good", "bad", "things"]) fun _ _ _ _ _ _ us hl => match us, hl with | [_, _, _, _], _ => rfl),
    (PySem.W.mg_of X G a27),
    (F28),
    (⟨_, _, _, _, _, _, _, _, rfl, l28, e28⟩),
    (F28.binds (ps := ["script"]) fun _ _ _ _ _ _ us hl => match us, hl with | [_], _ => rfl),
    (PySem.W.mg_of X G a28),
    (PySem.W.mg_of X G c_EveryError),
    (PySem.W.mg_of X G c_BadSize),
    (PySem.W.mg_of X G c_BadNumber),
    (PySem.W.mg_of X G c_BadRow),
    (⟨⟨⟨en_BadSize, eq_BadSize, eN_BadSize, eb_BadSize, em_BadSize, es_BadSize, eu_BadSize, ea_BadSize, eo_BadSize, ed_BadSize, e0_BadSize, e1_BadSize, e2_BadSize, e3_BadSize, e5_BadSize, xl_BadSize, xr_BadSize⟩, xsa_BadSize, xex_BadSize, xty_BadSize, xkc_BadSize⟩, a3, xti_BadSize, xno_BadSize, ⟨xga_BadSize, xgg_BadSize, xex_BadSize, xhd_BadSize⟩, ⟨xga_BadSize, xgg_BadSize, xex_BadSize, xhd_BadSize, xha_BadSize, xhn_BadSize, xht_BadSize, xhm_BadSize⟩⟩),
    (exm_ofHd xex_BadNumber xhd_BadNumber xty_BadNumber xs_BadSize_BadNumber),
    (exm_ofHd xex_BadRow xhd_BadRow xty_BadRow xs_BadSize_BadRow),
    (exm_ofHd xex_BadSize xhd_BadSize xty_BadSize xs_BadSize_BadSize),
    (ok_BadSize_EveryError),
    (⟨⟨⟨en_BadNumber, eq_BadNumber, eN_BadNumber, eb_BadNumber, em_BadNumber, es_BadNumber, eu_BadNumber, ea_BadNumber, eo_BadNumber, ed_BadNumber, e0_BadNumber, e1_BadNumber, e2_BadNumber, e3_BadNumber, e5_BadNumber, xl_BadNumber, xr_BadNumber⟩, xsa_BadNumber, xex_BadNumber, xty_BadNumber, xkc_BadNumber⟩, a4, xti_BadNumber, xno_BadNumber, ⟨xga_BadNumber, xgg_BadNumber, xex_BadNumber, xhd_BadNumber⟩, ⟨xga_BadNumber, xgg_BadNumber, xex_BadNumber, xhd_BadNumber, xha_BadNumber, xhn_BadNumber, xht_BadNumber, xhm_BadNumber⟩⟩),
    (exm_ofHd xex_BadNumber xhd_BadNumber xty_BadNumber xs_BadNumber_BadNumber),
    (exm_ofHd xex_BadRow xhd_BadRow xty_BadRow xs_BadNumber_BadRow),
    (exm_ofHd xex_BadSize xhd_BadSize xty_BadSize xs_BadNumber_BadSize),
    (ok_BadNumber_EveryError),
    (⟨⟨⟨en_BadRow, eq_BadRow, eN_BadRow, eb_BadRow, em_BadRow, es_BadRow, eu_BadRow, ea_BadRow, eo_BadRow, ed_BadRow, e0_BadRow, e1_BadRow, e2_BadRow, e3_BadRow, e5_BadRow, xl_BadRow, xr_BadRow⟩, xsa_BadRow, xex_BadRow, xty_BadRow, xkc_BadRow⟩, a5, xti_BadRow, xno_BadRow, ⟨xga_BadRow, xgg_BadRow, xex_BadRow, xhd_BadRow⟩, ⟨xga_BadRow, xgg_BadRow, xex_BadRow, xhd_BadRow, xha_BadRow, xhn_BadRow, xht_BadRow, xhm_BadRow⟩⟩),
    (exm_ofHd xex_BadNumber xhd_BadNumber xty_BadNumber xs_BadRow_BadNumber),
    (exm_ofHd xex_BadRow xhd_BadRow xty_BadRow xs_BadRow_BadRow),
    (exm_ofHd xex_BadSize xhd_BadSize xty_BadSize xs_BadRow_BadSize),
    (ok_BadRow_EveryError),
    (PySem.W.mg_none_of X G z_bool),
    (PySem.W.mg_none_of X G z_enumerate),
    (PySem.W.mg_none_of X G z_int),
    (PySem.W.mg_none_of X G z_isinstance),
    (PySem.W.mg_none_of X G z_len),
    (PySem.W.mg_none_of X G z_list),
    (PySem.W.mg_none_of X G z_max),
    (PySem.W.mg_none_of X G z_range),
    (PySem.W.mg_none_of X G z_tuple),
    (⟨_, PySem.W.mg_of X G m_MOST_PLACES⟩)⟩
  refine ⟨a.d_law, [(cA27, tabAddr K cA27), (cA28, tabAddr K cA28)], spLaw K (tabsOf a), (List.forall_mem_cons.mpr ⟨tabs_at hts kr_v27, (List.forall_mem_cons.mpr ⟨tabs_at hts kr_v28, (fun _ h => nomatch h)⟩)⟩), (List.forall_mem_cons.mpr ⟨Option.isNone_iff_eq_none.mp kr_u27, (List.forall_mem_cons.mpr ⟨Option.isNone_iff_eq_none.mp kr_u28, (fun _ h => nomatch h)⟩)⟩), (List.forall_mem_cons.mpr ⟨PySem.W.codeHd_of_K X kr_t27, (List.forall_mem_cons.mpr ⟨PySem.W.codeHd_of_K X kr_t28, (fun _ h => nomatch h)⟩)⟩), fun s v => .of_eq rfl, fun H p ns hl hb hT hS => ?_, fun base KB GB hB => ?_⟩
  · exact ⟨p, ns, rfl, hS, hl, tabs_nil (T := tabsOf a) (cs := [(cA27, tabAddr K cA27), (cA28, tabAddr K cA28)]) rfl hT, fun _ => rfl⟩
  · have B : Tb base mg a := ⟨hB _ (.head _), (List.forall_mem_cons.mpr ⟨fun _ => rfl, (List.forall_mem_cons.mpr ⟨fun z => absurd z (beq_eq_false_iff_ne.mp kr_d28_27), (fun _ h => nomatch h)⟩)⟩), hB _ (.tail _ (.head _)), (List.forall_mem_cons.mpr ⟨fun z => absurd z.symm (beq_eq_false_iff_ne.mp kr_d28_27), (List.forall_mem_cons.mpr ⟨fun _ => rfl, (fun _ h => nomatch h)⟩)⟩)⟩
    exact ok_law T B
end Pf04
open PySem PySem.W PyProof.Rows
set_option maxRecDepth 100000 in
set_option maxHeartbeats 0 in
theorem PySem.Challenge.cw_everyorder_k04_rows_that_are_no_rearrang_holds : PySem.Challenge.rw_everyorder_k04_rows_that_are_no_rearrang.Holds := by
  w_on; o_law; k_head; (case hw => w_witness2)
  k_fill
  refine LamX.walk_ofTs (l := PySem.Challenge.rw_everyorder_k04_rows_that_are_no_rearrang) (n := 63) (k := 10) (x := "script") (CX := fun _ => L2.CX0) rfl (by decide) rfl ⟨rfl, by decide, by decide⟩ (fun w h Y => PySem.W.km_in_of Y) ?F (fun _ _ _ _ _ h => h)
  case F =>
    intro w mg fa h Y KX G hmg
    refine' Pf04.all_mk KX G hmg (PySem.W.km_tabs_of Y) ?c_EveryError ?c_BadSize ?c_BadNumber ?c_BadRow ?a0 ?l0 ?e0 ?k0 ?a1 ?l1 ?e1 ?k1 ?a2 ?l2 ?e2 ?k2 ?a3 ?l3 ?e3 ?k3 ?a4 ?l4 ?e4 ?k4 ?a5 ?l5 ?e5 ?k5 ?a6 ?l6 ?e6 ?k6 ?a7 ?l7 ?e7 ?k7 ?a8 ?l8 ?e8 ?k8 ?a9 ?l9 ?e9 ?k9 ?a10 ?l10 ?e10 ?k10 ?a11 ?l11 ?e11 ?k11 ?a12 ?l12 ?e12 ?k12 ?a13 ?l13 ?e13 ?k13 ?a14 ?l14 ?e14 ?k14 ?a15 ?l15 ?e15 ?k15 ?a16 ?l16 ?e16 ?k16 ?a17 ?l17 ?e17 ?k17 ?a18 ?l18 ?e18 ?k18 ?a19 ?l19 ?e19 ?k19 ?a20 ?l20 ?e20 ?k20 ?a21 ?l21 ?e21 ?k21 ?a22 ?l22 ?e22 ?k22 ?a23 ?l23 ?e23 ?k23 ?a24 ?l24 ?e24 ?k24 ?a25 ?l25 ?e25 ?k25 ?a26 ?l26 ?e26 ?k26 ?a27 ?l27 ?e27 ?k27 ?a28 ?l28 ?e28 ?k28 ?xl_BadSize ?xr_BadSize ?xsa_BadSize ?xex_BadSize ?xty_BadSize ?xkc_BadSize ?xga_BadSize ?xgg_BadSize ?xhd_BadSize ?xha_BadSize ?xhm_BadSize ?xno_BadSize ?xhn_BadSize ?xht_BadSize ?xti_BadSize ?xs_BadSize_BadNumber ?xs_BadSize_BadRow ?xs_BadSize_BadSize ?ok_BadSize_EveryError ?xl_BadNumber ?xr_BadNumber ?xsa_BadNumber ?xex_BadNumber ?xty_BadNumber ?xkc_BadNumber ?xga_BadNumber ?xgg_BadNumber ?xhd_BadNumber ?xha_BadNumber ?xhm_BadNumber ?xno_BadNumber ?xhn_BadNumber ?xht_BadNumber ?xti_BadNumber ?xs_BadNumber_BadNumber ?xs_BadNumber_BadRow ?xs_BadNumber_BadSize ?ok_BadNumber_EveryError ?xl_BadRow ?xr_BadRow ?xsa_BadRow ?xex_BadRow ?xty_BadRow ?xkc_BadRow ?xga_BadRow ?xgg_BadRow ?xhd_BadRow ?xha_BadRow ?xhm_BadRow ?xno_BadRow ?xhn_BadRow ?xht_BadRow ?xti_BadRow ?xs_BadRow_BadNumber ?xs_BadRow_BadRow ?xs_BadRow_BadSize ?ok_BadRow_EveryError ?z_bool ?z_enumerate ?z_int ?z_isinstance ?z_len ?z_list ?z_max ?z_range ?z_tuple ?m_MOST_PLACES ?kr_t27 ?kr_u27 ?kr_v27 ?kr_t28 ?kr_u28 ?kr_v28 ?kr_d28_27
    (case c_EveryError => k_is)
    (case c_BadSize => k_is)
    (case c_BadNumber => k_is)
    (case c_BadRow => k_is)
    (case a0 => k_is)
    (case l0 => k_is)
    (case e0 => k_is)
    (case k0 => k_is)
    (case a1 => k_is)
    (case l1 => k_is)
    (case e1 => k_is)
    (case k1 => k_is)
    (case a2 => k_is)
    (case l2 => k_is)
    (case e2 => k_is)
    (case k2 => k_is)
    (case a3 => k_is)
    (case l3 => k_is)
    (case e3 => k_is)
    (case k3 => k_is)
    (case a4 => k_is)
    (case l4 => k_is)
    (case e4 => k_is)
    (case k4 => k_is)
    (case a5 => k_is)
    (case l5 => k_is)
    (case e5 => k_is)
    (case k5 => k_is)
    (case a6 => k_is)
    (case l6 => k_is)
    (case e6 => k_is)
    (case k6 => k_is)
    (case a7 => k_is)
    (case l7 => k_is)
    (case e7 => k_is)
    (case k7 => k_is)
    (case a8 => k_is)
    (case l8 => k_is)
    (case e8 => k_is)
    (case k8 => k_is)
    (case a9 => k_is)
    (case l9 => k_is)
    (case e9 => k_is)
    (case k9 => k_is)
    (case a10 => k_is)
    (case l10 => k_is)
    (case e10 => k_is)
    (case k10 => k_is)
    (case a11 => k_is)
    (case l11 => k_is)
    (case e11 => k_is)
    (case k11 => k_is)
    (case a12 => k_is)
    (case l12 => k_is)
    (case e12 => k_is)
    (case k12 => k_is)
    (case a13 => k_is)
    (case l13 => k_is)
    (case e13 => k_is)
    (case k13 => k_is)
    (case a14 => k_is)
    (case l14 => k_is)
    (case e14 => k_is)
    (case k14 => k_is)
    (case a15 => k_is)
    (case l15 => k_is)
    (case e15 => k_is)
    (case k15 => k_is)
    (case a16 => k_is)
    (case l16 => k_is)
    (case e16 => k_is)
    (case k16 => k_is)
    (case a17 => k_is)
    (case l17 => k_is)
    (case e17 => k_is)
    (case k17 => k_is)
    (case a18 => k_is)
    (case l18 => k_is)
    (case e18 => k_is)
    (case k18 => k_is)
    (case a19 => k_is)
    (case l19 => k_is)
    (case e19 => k_is)
    (case k19 => k_is)
    (case a20 => k_is)
    (case l20 => k_is)
    (case e20 => k_is)
    (case k20 => k_is)
    (case a21 => k_is)
    (case l21 => k_is)
    (case e21 => k_is)
    (case k21 => k_is)
    (case a22 => k_is)
    (case l22 => k_is)
    (case e22 => k_is)
    (case k22 => k_is)
    (case a23 => k_is)
    (case l23 => k_is)
    (case e23 => k_is)
    (case k23 => k_is)
    (case a24 => k_is)
    (case l24 => k_is)
    (case e24 => k_is)
    (case k24 => k_is)
    (case a25 => k_is)
    (case l25 => k_is)
    (case e25 => k_is)
    (case k25 => k_is)
    (case a26 => k_is)
    (case l26 => k_is)
    (case e26 => k_is)
    (case k26 => k_is)
    (case a27 => k_is)
    (case l27 => k_is)
    (case e27 => k_is)
    (case k27 => k_is)
    (case a28 => k_is)
    (case l28 => k_is)
    (case e28 => k_is)
    (case k28 => k_is)
    (case xl_BadSize => k_is)
    (case xr_BadSize => first | rfl | decide +kernel)
    (case xsa_BadSize => k_is)
    (case xex_BadSize => k_is)
    (case xty_BadSize => k_is)
    (case xkc_BadSize => k_is)
    (case xga_BadSize => k_is)
    (case xgg_BadSize => k_is)
    (case xhd_BadSize => k_is)
    (case xha_BadSize => k_is)
    (case xhm_BadSize => k_is)
    (case xno_BadSize => k_is)
    (case xhn_BadSize => k_is)
    (case xht_BadSize => k_is)
    (case xti_BadSize => k_is)
    (case xs_BadSize_BadNumber => k_is)
    (case xs_BadSize_BadRow => k_is)
    (case xs_BadSize_BadSize => k_is)
    (case ok_BadSize_EveryError => kit_is)
    (case xl_BadNumber => k_is)
    (case xr_BadNumber => first | rfl | decide +kernel)
    (case xsa_BadNumber => k_is)
    (case xex_BadNumber => k_is)
    (case xty_BadNumber => k_is)
    (case xkc_BadNumber => k_is)
    (case xga_BadNumber => k_is)
    (case xgg_BadNumber => k_is)
    (case xhd_BadNumber => k_is)
    (case xha_BadNumber => k_is)
    (case xhm_BadNumber => k_is)
    (case xno_BadNumber => k_is)
    (case xhn_BadNumber => k_is)
    (case xht_BadNumber => k_is)
    (case xti_BadNumber => k_is)
    (case xs_BadNumber_BadNumber => k_is)
    (case xs_BadNumber_BadRow => k_is)
    (case xs_BadNumber_BadSize => k_is)
    (case ok_BadNumber_EveryError => kit_is)
    (case xl_BadRow => k_is)
    (case xr_BadRow => first | rfl | decide +kernel)
    (case xsa_BadRow => k_is)
    (case xex_BadRow => k_is)
    (case xty_BadRow => k_is)
    (case xkc_BadRow => k_is)
    (case xga_BadRow => k_is)
    (case xgg_BadRow => k_is)
    (case xhd_BadRow => k_is)
    (case xha_BadRow => k_is)
    (case xhm_BadRow => k_is)
    (case xno_BadRow => k_is)
    (case xhn_BadRow => k_is)
    (case xht_BadRow => k_is)
    (case xti_BadRow => k_is)
    (case xs_BadRow_BadNumber => k_is)
    (case xs_BadRow_BadRow => k_is)
    (case xs_BadRow_BadSize => k_is)
    (case ok_BadRow_EveryError => kit_is)
    (case z_bool => k_is)
    (case z_enumerate => k_is)
    (case z_int => k_is)
    (case z_isinstance => k_is)
    (case z_len => k_is)
    (case z_list => k_is)
    (case z_max => k_is)
    (case z_range => k_is)
    (case z_tuple => k_is)
    (case m_MOST_PLACES => k_is)
    (case kr_t27 => kernel_rfl)
    (case kr_u27 => kernel_rfl)
    (case kr_v27 => kernel_rfl)
    (case kr_t28 => kernel_rfl)
    (case kr_u28 => kernel_rfl)
    (case kr_v28 => kernel_rfl)
    (case kr_d28_27 => kernel_rfl)
