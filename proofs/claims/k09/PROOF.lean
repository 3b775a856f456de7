import PyProof.Rows.All
import Wide.All
import OpenK.AllK
import Wide.FinOn
import HandS.ForMost
import HandS.Exc
import HandS.ExcOwn
import HandS.ExcField
import HandS.ExcIs
import HandS.ExcInit
import HandS.WordsExc
import HandS.TryMany
import KE.KExcIs
import KE.KIsAll
import KE.RegKIsAll
import HandS.Codes
import HandS.Conv
import HandS.IsInst
import HandS.Style
import HandS.Walk
import HandS.Wide
import KE.GoesEnum
import KE.GoesMore
import HandS.More
import HandS.StrMore
import KE.GoesEnumKw
import PyProof.Rows.CallKwBuiltin
import HandS.Deep
import HandS.Star
import HandS.Text
import HandS.SortInts
import KE.KSortedM
import HandS.Lambda
import HandS.EndTab
import KE.KNestM
import KE.KLam
import HandS.ForMost
import HandS.Defaults
import HandS.OwnEq
import OpenK.AllK
import PyProof.ReprRoads
import PySem.Challenge.RW_everyorder_k09_whole_levels_and_their_st
set_option Elab.async false
set_option linter.all false
set_option maxRecDepth 100000
set_option maxHeartbeats 4000000
namespace Pf09
open PySem PySem.Spec PyProof.Rows L2
/-! ### tuples of texts that the top has written -/
def strB : List V → List Value → Bool
  | [], [] => true
  | .str x :: r, .str y _ :: u => decide (x = y) && strB r u
  | _, _ => false
theorem strB_ok : ∀ {xs : List V} {us : List Value}, strB xs us = true → Vals xs us
  | [], [], _ => .nil
  | .str x :: r, .str y t :: u, h => by
    rw [strB, Bool.and_eq_true, decide_eq_true_eq] at h
    obtain ⟨rfl, h2⟩ := h
    exact .cons ⟨t, rfl⟩ (strB_ok h2)
def tupB (o : Obj) (xs : List V) : Bool := match o.cls, o.data with
  | .type c, .seq its _ => decide (c = "tuple") && (decide (its.size ≤ 1000) && strB xs its.toList)
  | _, _ => false
theorem tupB_ok {K : PySem.W.Frag} {H : Hp} {p : Addr} {o : Obj} {xs : List V} (l : K.lookup p = some o) (h : tupB o xs = true) : SqT K H p xs := by
  unfold tupB at h
  split at h
  · rename_i c its n hc hd
    simp only [Bool.and_eq_true, decide_eq_true_eq] at h
    obtain ⟨rfl, h1, h2⟩ := h
    exact .inr ⟨o, its, n, l, hc, hd, Nat.le_trans h1 (by decide), strB_ok h2⟩
  · cases h
/-! ### dicts of texts that the top has written: no other keys -/
def keyB (ks : List Str) (l : List PySem.DictEntry) : Bool := l.all fun e => match e.key with
  | .str x _ => decide (x ∈ ks)
  | _ => false
/-! ### the text by places -/
def topS (i : Nat) : Stmt := PySem.Challenge.pw_everyorder_k09_whole_levels_and_their_st.main.body.getD i (.Pass ⟨0, 0, 0, 0⟩)
abbrev s__wall : Stmt := topS 0
abbrev s_is_integer : Stmt := topS 2
abbrev s_is_from : Stmt := topS 3
abbrev s_is_between : Stmt := topS 4
abbrev s_BadWord_init : Stmt := inClass (topS 7) 0
abbrev s_BadSize_init : Stmt := inClass (topS 8) 0
abbrev s_BadCall_init : Stmt := inClass (topS 9) 0
abbrev s_is_figure_behind : Stmt := topS 18
abbrev s_is_place_word : Stmt := topS 19
abbrev s_is_amount : Stmt := topS 20
abbrev s_place_of : Stmt := topS 21
abbrev s_amount_of : Stmt := topS 22
abbrev s_is_part : Stmt := topS 23
abbrev s_read_move : Stmt := topS 24
abbrev s_read_moves : Stmt := topS 25
abbrev s_exchanged : Stmt := topS 26
abbrev s_rolled : Stmt := topS 27
abbrev s_moved : Stmt := topS 28
abbrev s_Word_init : Stmt := inClass (topS 29) 0
abbrev s_Word_eq : Stmt := inClass (topS 29) 1
abbrev s_Word_at : Stmt := inClass (topS 29) 2
abbrev s_read_along : Stmt := topS 34
abbrev s_read_list : Stmt := topS 35
abbrev s_read_body : Stmt := topS 36
abbrev s_read_level : Stmt := topS 37
abbrev s_Level_init : Stmt := inClass (topS 38) 0
abbrev s_Level_eq : Stmt := inClass (topS 38) 1
abbrev s_Level_many_steps : Stmt := inClass (topS 38) 2
abbrev s_Level_partner : Stmt := inClass (topS 38) 3
abbrev s_Level_partners : Stmt := inClass (topS 38) 4
abbrev s_Level_step : Stmt := inClass (topS 38) 5
abbrev s__law_pen : Stmt := topS 40
abbrev s__law_draw : Stmt := topS 41
abbrev s__law_pick : Stmt := topS 42
abbrev s__law_place_word : Stmt := topS 43
abbrev s__law_value : Stmt := topS 44
abbrev s__law_amount : Stmt := topS 45
abbrev s__law_move : Stmt := topS 46
abbrev s__law_moves : Stmt := topS 47
abbrev s__law_word_text : Stmt := topS 48
abbrev s__law_moved : Stmt := topS 49
abbrev s__law_all_moved : Stmt := topS 50
abbrev s__law_level : Stmt := topS 51
abbrev s__law_level_text : Stmt := topS 52
abbrev s__law_partner : Stmt := topS 53
abbrev s__law_step : Stmt := topS 54
abbrev s__law_met : Stmt := topS 55
abbrev s__law_parts_right : Stmt := topS 56
abbrev s__law_at_right : Stmt := topS 57
abbrev s__law_equal_right : Stmt := topS 58
abbrev s_law : Stmt := topS 59
theorem sc__wall : FnScope ["k"] ["k"] (defScope s__wall) := ⟨rfl, rfl, rfl, by decide +kernel, rfl, by decide +kernel, by decide +kernel⟩
theorem sc_is_integer : FnScope ["value"] ["value"] (defScope s_is_integer) := ⟨rfl, rfl, rfl, by decide +kernel, rfl, by decide +kernel, by decide +kernel⟩
theorem sc_is_from : FnScope ["value", "low"] ["value", "low"] (defScope s_is_from) := ⟨rfl, rfl, rfl, by decide +kernel, rfl, by decide +kernel, by decide +kernel⟩
theorem sc_is_between : FnScope ["value", "low", "high"] ["value", "low", "high"] (defScope s_is_between) := ⟨rfl, rfl, rfl, by decide +kernel, rfl, by decide +kernel, by decide +kernel⟩
theorem sc_BadWord_init : FnScope ["self", "index"] ["self", "index"] (defScope s_BadWord_init) := ⟨rfl, rfl, rfl, by decide +kernel, rfl, by decide +kernel, by decide +kernel⟩
theorem sc_BadSize_init : FnScope ["self", "size"] ["self", "size"] (defScope s_BadSize_init) := ⟨rfl, rfl, rfl, by decide +kernel, rfl, by decide +kernel, by decide +kernel⟩
theorem sc_BadCall_init : FnScope ["self", "call"] ["self", "call"] (defScope s_BadCall_init) := ⟨rfl, rfl, rfl, by decide +kernel, rfl, by decide +kernel, by decide +kernel⟩
theorem sc_is_figure_behind : FnScope ["fronts", "text"] ["fronts", "text"] (defScope s_is_figure_behind) := ⟨rfl, rfl, rfl, by decide +kernel, rfl, by decide +kernel, by decide +kernel⟩
theorem sc_is_place_word : FnScope ["text"] ["text"] (defScope s_is_place_word) := ⟨rfl, rfl, rfl, by decide +kernel, rfl, by decide +kernel, by decide +kernel⟩
theorem sc_is_amount : FnScope ["text"] ["text"] (defScope s_is_amount) := ⟨rfl, rfl, rfl, by decide +kernel, rfl, by decide +kernel, by decide +kernel⟩
theorem sc_place_of : FnScope ["word", "size"] ["word", "size"] (defScope s_place_of) := ⟨rfl, rfl, rfl, by decide +kernel, rfl, by decide +kernel, by decide +kernel⟩
theorem sc_amount_of : FnScope ["text", "length"] ["text", "length"] (defScope s_amount_of) := ⟨rfl, rfl, rfl, by decide +kernel, rfl, by decide +kernel, by decide +kernel⟩
theorem sc_is_part : FnScope ["text", "kind"] ["text", "kind"] (defScope s_is_part) := ⟨rfl, rfl, rfl, by decide +kernel, rfl, by decide +kernel, by decide +kernel⟩
theorem sc_read_move : FnScope ["parts", "start", "may_turn", "head", "shape", "index", "kind"] ["parts", "start", "may_turn"] (defScope s_read_move) := ⟨rfl, rfl, rfl, by decide +kernel, rfl, by decide +kernel, by decide +kernel⟩
theorem sc_read_moves : FnScope ["parts", "start", "moves", "end", "move"] ["parts", "start"] (defScope s_read_moves) := ⟨rfl, rfl, rfl, by decide +kernel, rfl, by decide +kernel, by decide +kernel⟩
theorem sc_exchanged : FnScope ["old", "x", "y", "new"] ["old", "x", "y"] (defScope s_exchanged) := ⟨rfl, rfl, rfl, by decide +kernel, rfl, by decide +kernel, by decide +kernel⟩
theorem sc_rolled : FnScope ["old", "x", "y", "amount", "block", "cut"] ["old", "x", "y", "amount"] (defScope s_rolled) := ⟨rfl, rfl, rfl, by decide +kernel, rfl, by decide +kernel, by decide +kernel⟩
theorem sc_moved : FnScope ["old", "move", "x", "y"] ["old", "move"] (defScope s_moved) := ⟨rfl, rfl, rfl, by decide +kernel, rfl, by decide +kernel, by decide +kernel⟩
theorem sc_Word_init : FnScope ["self", "text", "parts", "moves", "end"] ["self", "text"] (defScope s_Word_init) := ⟨rfl, rfl, rfl, by decide +kernel, rfl, by decide +kernel, by decide +kernel⟩
theorem sc_Word_eq : FnScope ["self", "other"] ["self", "other"] (defScope s_Word_eq) := ⟨rfl, rfl, rfl, by decide +kernel, rfl, by decide +kernel, by decide +kernel⟩
theorem sc_Word_at : FnScope ["self", "k", "row", "move"] ["self", "k"] (defScope s_Word_at) := ⟨rfl, rfl, rfl, by decide +kernel, rfl, by decide +kernel, by decide +kernel⟩
theorem sc_read_along : FnScope ["parts"] ["parts"] (defScope s_read_along) := ⟨rfl, rfl, rfl, by decide +kernel, rfl, by decide +kernel, by decide +kernel⟩
theorem sc_read_list : FnScope ["parts", "size", "places", "behind", "place"] ["parts", "size"] (defScope s_read_list) := ⟨rfl, rfl, rfl, by decide +kernel, rfl, by decide +kernel, by decide +kernel⟩
theorem sc_read_body : FnScope ["parts", "size"] ["parts", "size"] (defScope s_read_body) := ⟨rfl, rfl, rfl, by decide +kernel, rfl, by decide +kernel, by decide +kernel⟩
theorem sc_read_level : FnScope ["parts", "size", "behind", "stop", "goes_on", "index", "told", "end"] ["parts", "size"] (defScope s_read_level) := ⟨rfl, rfl, rfl, by decide +kernel, rfl, by decide +kernel, by decide +kernel⟩
theorem sc_Level_init : FnScope ["self", "text", "size", "parts", "behind", "goes_on", "part"] ["self", "text", "size"] (defScope s_Level_init) := ⟨rfl, rfl, rfl, by decide +kernel, rfl, by decide +kernel, by decide +kernel⟩
theorem sc_Level_eq : FnScope ["self", "other"] ["self", "other"] (defScope s_Level_eq) := ⟨rfl, rfl, rfl, by decide +kernel, rfl, by decide +kernel, by decide +kernel⟩
theorem sc_Level_many_steps : FnScope ["self", "k", "many"] ["self", "k"] (defScope s_Level_many_steps) := ⟨rfl, rfl, rfl, by decide +kernel, rfl, by decide +kernel, by decide +kernel⟩
theorem sc_Level_partner : FnScope ["self", "k", "i"] ["self", "k", "i"] (defScope s_Level_partner) := ⟨rfl, rfl, rfl, by decide +kernel, rfl, by decide +kernel, by decide +kernel⟩
theorem sc_Level_partners : FnScope ["self", "k", "many"] ["self", "k", "many"] (defScope s_Level_partners) := ⟨rfl, rfl, rfl, by decide +kernel, rfl, by decide +kernel, by decide +kernel⟩
theorem sc_Level_step : FnScope ["self", "k", "i", "place"] ["self", "k", "i"] (defScope s_Level_step) := ⟨rfl, rfl, rfl, by decide +kernel, rfl, by decide +kernel, by decide +kernel⟩
theorem sc__law_pen : FnScope ["script"] ["script"] (defScope s__law_pen) := ⟨rfl, rfl, rfl, by decide +kernel, rfl, by decide +kernel, by decide +kernel⟩
theorem sc__law_draw : FnScope ["pen", "many", "digit", "at", "cell", "mixed"] ["pen", "many"] (defScope s__law_draw) := ⟨rfl, rfl, rfl, by decide +kernel, rfl, by decide +kernel, by decide +kernel⟩
theorem sc__law_pick : FnScope ["pen", "some"] ["pen", "some"] (defScope s__law_pick) := ⟨rfl, rfl, rfl, by decide +kernel, rfl, by decide +kernel, by decide +kernel⟩
theorem sc__law_place_word : FnScope ["pen", "k"] ["pen"] (defScope s__law_place_word) := ⟨rfl, rfl, rfl, by decide +kernel, rfl, by decide +kernel, by decide +kernel⟩
theorem sc__law_value : FnScope ["word", "k"] ["word", "k"] (defScope s__law_value) := ⟨rfl, rfl, rfl, by decide +kernel, rfl, by decide +kernel, by decide +kernel⟩
theorem sc__law_amount : FnScope ["pen", "k"] ["pen"] (defScope s__law_amount) := ⟨rfl, rfl, rfl, by decide +kernel, rfl, by decide +kernel, by decide +kernel⟩
theorem sc__law_move : FnScope ["pen", "has_turn", "way", "x", "y"] ["pen", "has_turn"] (defScope s__law_move) := ⟨rfl, rfl, rfl, by decide +kernel, rfl, by decide +kernel, by decide +kernel⟩
theorem sc__law_moves : FnScope ["pen", "found", "k"] ["pen"] (defScope s__law_moves) := ⟨rfl, rfl, rfl, by decide +kernel, rfl, by decide +kernel, by decide +kernel⟩
theorem sc__law_word_text : FnScope ["moves", "move"] ["moves"] (defScope s__law_word_text) := ⟨rfl, rfl, rfl, by decide +kernel, rfl, by decide +kernel, by decide +kernel⟩
theorem sc__law_moved : FnScope ["row", "move", "k", "x", "y", "found", "block", "c", "cut"] ["row", "move"] (defScope s__law_moved) := ⟨rfl, rfl, rfl, by decide +kernel, rfl, by decide +kernel, by decide +kernel⟩
theorem sc__law_all_moved : FnScope ["row", "moves", "found", "move"] ["row", "moves"] (defScope s__law_all_moved) := ⟨rfl, rfl, rfl, by decide +kernel, rfl, by decide +kernel, by decide +kernel⟩
theorem sc__law_level : FnScope ["pen", "size", "end", "way", "k"] ["pen", "size"] (defScope s__law_level) := ⟨rfl, rfl, rfl, by decide +kernel, rfl, by decide +kernel, by decide +kernel⟩
theorem sc__law_level_text : FnScope ["level", "kind", "one", "other", "end", "text", "place"] ["level"] (defScope s__law_level_text) := ⟨rfl, rfl, rfl, by decide +kernel, rfl, by decide +kernel, by decide +kernel⟩
theorem sc__law_partner : FnScope ["level", "k", "i", "kind", "one", "other", "end"] ["level", "k", "i"] (defScope s__law_partner) := ⟨rfl, rfl, rfl, by decide +kernel, rfl, by decide +kernel, by decide +kernel⟩
theorem sc__law_step : FnScope ["level", "k", "i", "found", "p"] ["level", "k", "i"] (defScope s__law_step) := ⟨rfl, rfl, rfl, by decide +kernel, rfl, by decide +kernel, by decide +kernel⟩
theorem sc__law_met : FnScope ["call", "e"] ["call"] (defScope s__law_met) := ⟨rfl, rfl, rfl, by decide +kernel, rfl, by decide +kernel, by decide +kernel⟩
theorem sc__law_parts_right : FnScope ["made", "level", "kind", "one", "other", "end"] ["made", "level"] (defScope s__law_parts_right) := ⟨rfl, rfl, rfl, by decide +kernel, rfl, by decide +kernel, by decide +kernel⟩
theorem sc__law_at_right : FnScope ["pen", "made", "level", "size", "many", "call", "odd"] ["pen", "made", "level", "size"] (defScope s__law_at_right) := ⟨rfl, rfl, rfl, by decide +kernel, rfl, by decide +kernel, by decide +kernel⟩
theorem sc__law_equal_right : FnScope ["made", "level", "own", "text", "end", "other"] ["made", "level", "own"] (defScope s__law_equal_right) := ⟨rfl, rfl, rfl, by decide +kernel, rfl, by decide +kernel, by decide +kernel⟩
theorem sc_law : FnScope ["script", "pen", "lap", "own", "level", "sizes", "size", "calls", "made", "odd", "call"] ["script"] (defScope s_law) := ⟨rfl, rfl, rfl, by decide +kernel, rfl, by decide +kernel, by decide +kernel⟩
/-- where the defs and classes stand -/
structure Ad where
  f__wall : Addr
  d__wall : FuncData
  f_is_integer : Addr
  d_is_integer : FuncData
  f_is_from : Addr
  d_is_from : FuncData
  f_is_between : Addr
  d_is_between : FuncData
  f_BadWord_init : Addr
  d_BadWord_init : FuncData
  f_BadSize_init : Addr
  d_BadSize_init : FuncData
  f_BadCall_init : Addr
  d_BadCall_init : FuncData
  f_is_figure_behind : Addr
  d_is_figure_behind : FuncData
  f_is_place_word : Addr
  d_is_place_word : FuncData
  f_is_amount : Addr
  d_is_amount : FuncData
  f_place_of : Addr
  d_place_of : FuncData
  f_amount_of : Addr
  d_amount_of : FuncData
  f_is_part : Addr
  d_is_part : FuncData
  f_read_move : Addr
  d_read_move : FuncData
  f_read_moves : Addr
  d_read_moves : FuncData
  f_exchanged : Addr
  d_exchanged : FuncData
  f_rolled : Addr
  d_rolled : FuncData
  f_moved : Addr
  d_moved : FuncData
  f_Word_init : Addr
  d_Word_init : FuncData
  f_Word_eq : Addr
  d_Word_eq : FuncData
  f_Word_at : Addr
  d_Word_at : FuncData
  f_read_along : Addr
  d_read_along : FuncData
  f_read_list : Addr
  d_read_list : FuncData
  f_read_body : Addr
  d_read_body : FuncData
  f_read_level : Addr
  d_read_level : FuncData
  f_Level_init : Addr
  d_Level_init : FuncData
  f_Level_eq : Addr
  d_Level_eq : FuncData
  f_Level_many_steps : Addr
  d_Level_many_steps : FuncData
  f_Level_partner : Addr
  d_Level_partner : FuncData
  f_Level_partners : Addr
  d_Level_partners : FuncData
  f_Level_step : Addr
  d_Level_step : FuncData
  f__law_pen : Addr
  d__law_pen : FuncData
  f__law_draw : Addr
  d__law_draw : FuncData
  f__law_pick : Addr
  d__law_pick : FuncData
  f__law_place_word : Addr
  d__law_place_word : FuncData
  f__law_value : Addr
  d__law_value : FuncData
  f__law_amount : Addr
  d__law_amount : FuncData
  f__law_move : Addr
  d__law_move : FuncData
  f__law_moves : Addr
  d__law_moves : FuncData
  f__law_word_text : Addr
  d__law_word_text : FuncData
  f__law_moved : Addr
  d__law_moved : FuncData
  f__law_all_moved : Addr
  d__law_all_moved : FuncData
  f__law_level : Addr
  d__law_level : FuncData
  f__law_level_text : Addr
  d__law_level_text : FuncData
  f__law_partner : Addr
  d__law_partner : FuncData
  f__law_step : Addr
  d__law_step : FuncData
  f__law_met : Addr
  d__law_met : FuncData
  f__law_parts_right : Addr
  d__law_parts_right : FuncData
  f__law_at_right : Addr
  d__law_at_right : FuncData
  f__law_equal_right : Addr
  d__law_equal_right : FuncData
  f_law : Addr
  d_law : FuncData
  C_EveryError : Addr
  C_BadWord : Addr
  C_BadSize : Addr
  C_BadCall : Addr
  C_Word : Addr
  C_Level : Addr
  a_FIGURES : Addr
  a_PLACE_FRONTS : Addr
  a_AMOUNT_FRONTS : Addr
  a_SHAPES : Addr
  a_ENDING : Addr
  c__law_at_right : Addr
  p__law_at_right : Addr
  c_law : Addr
  p_law : Addr
/-- a def that makes lambdas: its code object stands at c -/
structure FunL (K : PySem.W.Frag) (x qual : Str) (st : Stmt) (f : Addr) (fd : FuncData) (c : Addr) : Prop where
  ex : ∃ (oc : Value) (od : Option Addr) (kV doc pm : Value) (an : Option Addr) (ct : Value) (osl : Array (Option Value)), fd = PySem.W.fnOf x qual (defArgs st) (defBody st) (defScope st) .none kV doc pm an (.ref c) ct ∧ K.lookup f = some ⟨oc, od, .func fd, osl⟩ ∧ PySem.W.codeIn K (.ref c) qual = true
theorem FunL.ok {P : Program} {w : World} {K : PySem.W.Frag} {mg : Str → Option Value} {base : Heap} {x qual : Str} {st : Stmt} {f c : Addr} {fd : FuncData} {N ps : List Str} {k : Nat} {sp : Sp} (F : FunL K x qual st f fd c) (hb : Binds K fd ps []) (S : FnScope N ps (defScope st)) (len : ∀ vs H Q E, sp vs H Q E → vs.length = ps.length)
    (hbody : ∀ (A : Around) (outer : List Env) (s : Shared) (H : Hp) (vs : List V) (Q : VK) (E : XK), Room k (A.deeper (envOfC qual (defScope st) s.heap.objs.size f (.ref c))) → sp vs H Q E → ∃ t, PSs (cxOf C8.CX0 P w K mg base N qual (defScope st) f (.ref c) A outer s H E).nox (defBody st) t ∧ t { nx := fun _ H' => Q .non H', rt := Q } (L2.start N vs) H) :
    FnOk P w K mg base CX0 (k + 1) f fd ps sp := by
  obtain ⟨oc, od, kV, doc, pm, an, ct, osl, e, lk, hcd⟩ := F.ex
  refine ⟨len, fun A outer s H args us vs Q E hr e0 hbt r h => ?_⟩
  rw [e] at lk hbt
  refine LamX.run_ofS lk hcd S hr e0 hbt r (len _ _ _ _ h) fun hr' => ?_
  obtain ⟨t, ht, q⟩ := hbody A outer s H vs Q E hr' h
  exact ⟨t, ht.nox, q⟩
/-- the table of a code object -/
def tabAddr (K : PySem.W.Frag) (c : Addr) : Addr := match K.lookup c with
  | some ⟨_, _, .fields vs, _⟩ => (match (vs[11]? : Option Value) with | some (.ref P) => P | _ => 0)
  | _ => 0
theorem tabs_at {h : Heap} {ts : List Addr} {p : Addr} (hts : ∀ P ∈ ts, h.get? P = some (PySem.W.tabObj #[])) (e : ts.contains p = true) : h.get? p = some { cls := .none, data := .fields #[] } := hts p (List.contains_iff_mem.mp e)
theorem tabs_nil {T : List (Addr × Str)} {cs : List (Addr × Addr)} {H : Hp} (e : T.map (·.1) = cs.map (·.2)) (hT : ∀ p ∈ cs, H p.2 = some (.tbl #[])) : LamX.Tabs T H := fun p hp => by
  have m : p.1 ∈ cs.map (·.2) := by
    rw [← e]
    exact List.mem_map.mpr ⟨p, hp, rfl⟩
  obtain ⟨q, hq, eq⟩ := List.mem_map.mp m
  refine LamX.TabS.nil ?_
  rw [← eq]
  exact hT q hq
/-- a class with its own ==: what its instances answer -/
structure OwnC (K : PySem.W.Frag) (C f : Addr) : Prop where
  eq : PySem.W.findIn K (.ref C) "__eq__" = some (some (.ref f))
  fn : PySem.W.isFn K (.ref f) = true
  cls : PySem.W.findIn K (.ref C) "__class__" = some (some (.builtin "object.__class__"))
  get : PySem.W.specialIn K (.builtin "object.__class__") "__get__" = some (some (.builtin "getset_descriptor.__get__"))
  tak : PySem.W.takesIn K (.builtin "object.__class__") = some true
  mro : PySem.W.mroIn K C (.type "object") = some true
  fst : PySem.W.notFirst K C (.type "str") = true
  kit : PySem.W.kitOne K (.type "str") (.ref C) = some false
/-- the same class beside numbers and tuples, and its != -/
structure OwnC2 (K : PySem.W.Frag) (C : Addr) : Prop where
  ne : PySem.W.findIn K (.ref C) "__ne__" = some (some (.builtin "object.__ne__"))
  fsi : PySem.W.notFirst K C (.type "int") = true
  fst : PySem.W.notFirst K C (.type "tuple") = true
  kti : PySem.W.kitOne K (.type "int") (.ref C) = some false
  ktt : PySem.W.kitOne K (.type "tuple") (.ref C) = some false
/-- isinstance of a caught error that has its own dict -/
structure ExcD (K : PySem.W.Frag) (D : Addr) : Prop where
  hg : PySem.W.findIn K (.ref D) "__getattribute__" = some (some (.builtin "BaseException.__getattribute__"))
  hk : PySem.W.findIn K (.ref D) "__getattr__" = some none
  hs : PySem.W.subIn K (.ref D) (.type "BaseException") = some true
  hd : PySem.W.hasDictIn K D = true
  ha : PySem.W.findIn K (.ref D) "__class__" = some (some (.builtin "object.__class__"))
  hn : PySem.W.specialIn K (.builtin "object.__class__") "__get__" = some (some (.builtin "getset_descriptor.__get__"))
  ht : PySem.W.takesIn K (.builtin "object.__class__") = some true
  hm : PySem.W.mroIn K D (.type "object") = some true
/-- an own error class: made, its field read, asked by isinstance -/
structure ErrC (K : PySem.W.Frag) (C fI : Addr) (f : Str) : Prop where
  o : OexC K C
  ini : PySem.W.findIn K (.ref C) "__init__" = some (some (.ref fI))
  tin : PySem.W.typeIn K (.ref fI) = some (.type "function")
  no : PySem.W.findIn K (.ref C) f = some none
  x : XfC K C
  i : ExcD K C
/-- an own error class without own __init__ -/
structure ErrZ (K : PySem.W.Frag) (C : Addr) : Prop where
  x : PySem.W.excIn K C [.type "ValueError", .type "Exception", .type "BaseException", .type "object"] "ValueError.__new__" = true
  k : PySem.W.keepIn K (.ref C) = true
  i : ExcD K C
/-! ### defaults -/
def dvB : V → Value → Bool
  | .non, .none => true
  | .bl a, .bool b => decide (a = b)
  | .int i, .int j _ => decide (i = j)
  | .str x, .str y _ => decide (x = y)
  | _, _ => false
def dvsB : List V → List Value → Bool
  | [], [] => true
  | x :: r, y :: u => dvB x y && dvsB r u
  | _, _ => false
theorem dvB_ok : ∀ {x : V} {u : Value}, dvB x u = true → RelV x u
  | .non, .none, _ => rfl
  | .bl a, .bool b, h => by
    have := of_decide_eq_true h
    subst this
    rfl
  | .int i, .int j t, h => by
    have := of_decide_eq_true h
    subst this
    exact ⟨t, rfl⟩
  | .str x, .str y t, h => by
    have := of_decide_eq_true h
    subst this
    exact ⟨t, rfl⟩
theorem dvsB_ok : ∀ {xs : List V} {us : List Value}, dvsB xs us = true → Vals xs us
  | [], [], _ => .nil
  | x :: r, y :: u, h => by
    rw [dvsB, Bool.and_eq_true] at h
    exact .cons (dvB_ok h.1) (dvsB_ok h.2)
def dfB (o : Obj) (xs : List V) : Bool := match o.data with
  | .seq its _ => !xs.isEmpty && dvsB xs its.toList
  | _ => false
theorem dfB_ok {K : PySem.W.Frag} {T : Addr} {o : Obj} {xs : List V} (l : K.lookup T = some o) (h : dfB o xs = true) : DflV K (.ref T) xs := by
  unfold dfB at h
  split at h
  · rename_i its n hd
    rw [Bool.and_eq_true] at h
    refine .inr ⟨fun e => ?_, T, o, its.toList, n, rfl, l, by simpa using hd, dvsB_ok h.2⟩
    rw [e] at h
    simp at h
  · cases h
theorem binds_full {K : PySem.W.Frag} {fd : FuncData} {ps : List Str} (h : ∃ ds, Vals [] ds ∧ Binds K fd ps ds) : Binds K fd ps [] := by
  obtain ⟨ds, h1, h2⟩ := h
  cases h1
  exact h2
/-- what the top has written -/
structure Tx (w : World) (K : PySem.W.Frag) (mg : Str → Option Value) (a : Ad) : Prop where
  F__wall : Fun K "_wall" "_wall" s__wall a.f__wall a.d__wall
  b__wall : Binds K a.d__wall ["k"] []
  m__wall : mg "_wall" = some (.ref a.f__wall)
  F_is_integer : Fun K "is_integer" "is_integer" s_is_integer a.f_is_integer a.d_is_integer
  b_is_integer : Binds K a.d_is_integer ["value"] []
  m_is_integer : mg "is_integer" = some (.ref a.f_is_integer)
  F_is_from : Fun K "is_from" "is_from" s_is_from a.f_is_from a.d_is_from
  b_is_from : Binds K a.d_is_from ["value", "low"] []
  m_is_from : mg "is_from" = some (.ref a.f_is_from)
  F_is_between : Fun K "is_between" "is_between" s_is_between a.f_is_between a.d_is_between
  b_is_between : Binds K a.d_is_between ["value", "low", "high"] []
  m_is_between : mg "is_between" = some (.ref a.f_is_between)
  F_BadWord_init : Fun K "__init__" "BadWord.__init__" s_BadWord_init a.f_BadWord_init a.d_BadWord_init
  b_BadWord_init : Binds K a.d_BadWord_init ["self", "index"] []
  F_BadSize_init : Fun K "__init__" "BadSize.__init__" s_BadSize_init a.f_BadSize_init a.d_BadSize_init
  b_BadSize_init : Binds K a.d_BadSize_init ["self", "size"] []
  F_BadCall_init : Fun K "__init__" "BadCall.__init__" s_BadCall_init a.f_BadCall_init a.d_BadCall_init
  b_BadCall_init : Binds K a.d_BadCall_init ["self", "call"] []
  F_is_figure_behind : Fun K "is_figure_behind" "is_figure_behind" s_is_figure_behind a.f_is_figure_behind a.d_is_figure_behind
  b_is_figure_behind : Binds K a.d_is_figure_behind ["fronts", "text"] []
  m_is_figure_behind : mg "is_figure_behind" = some (.ref a.f_is_figure_behind)
  F_is_place_word : Fun K "is_place_word" "is_place_word" s_is_place_word a.f_is_place_word a.d_is_place_word
  b_is_place_word : Binds K a.d_is_place_word ["text"] []
  m_is_place_word : mg "is_place_word" = some (.ref a.f_is_place_word)
  F_is_amount : Fun K "is_amount" "is_amount" s_is_amount a.f_is_amount a.d_is_amount
  b_is_amount : Binds K a.d_is_amount ["text"] []
  m_is_amount : mg "is_amount" = some (.ref a.f_is_amount)
  F_place_of : Fun K "place_of" "place_of" s_place_of a.f_place_of a.d_place_of
  b_place_of : Binds K a.d_place_of ["word", "size"] []
  m_place_of : mg "place_of" = some (.ref a.f_place_of)
  F_amount_of : Fun K "amount_of" "amount_of" s_amount_of a.f_amount_of a.d_amount_of
  b_amount_of : Binds K a.d_amount_of ["text", "length"] []
  m_amount_of : mg "amount_of" = some (.ref a.f_amount_of)
  F_is_part : Fun K "is_part" "is_part" s_is_part a.f_is_part a.d_is_part
  b_is_part : Binds K a.d_is_part ["text", "kind"] []
  m_is_part : mg "is_part" = some (.ref a.f_is_part)
  F_read_move : Fun K "read_move" "read_move" s_read_move a.f_read_move a.d_read_move
  b_read_move : Binds K a.d_read_move ["parts", "start", "may_turn"] []
  m_read_move : mg "read_move" = some (.ref a.f_read_move)
  F_read_moves : Fun K "read_moves" "read_moves" s_read_moves a.f_read_moves a.d_read_moves
  b_read_moves : Binds K a.d_read_moves ["parts", "start"] []
  m_read_moves : mg "read_moves" = some (.ref a.f_read_moves)
  F_exchanged : Fun K "exchanged" "exchanged" s_exchanged a.f_exchanged a.d_exchanged
  b_exchanged : Binds K a.d_exchanged ["old", "x", "y"] []
  m_exchanged : mg "exchanged" = some (.ref a.f_exchanged)
  F_rolled : Fun K "rolled" "rolled" s_rolled a.f_rolled a.d_rolled
  b_rolled : Binds K a.d_rolled ["old", "x", "y", "amount"] []
  m_rolled : mg "rolled" = some (.ref a.f_rolled)
  F_moved : Fun K "moved" "moved" s_moved a.f_moved a.d_moved
  b_moved : Binds K a.d_moved ["old", "move"] []
  m_moved : mg "moved" = some (.ref a.f_moved)
  F_Word_init : Fun K "__init__" "Word.__init__" s_Word_init a.f_Word_init a.d_Word_init
  b_Word_init : Binds K a.d_Word_init ["self", "text"] []
  F_Word_eq : Fun K "__eq__" "Word.__eq__" s_Word_eq a.f_Word_eq a.d_Word_eq
  b_Word_eq : Binds K a.d_Word_eq ["self", "other"] []
  F_Word_at : Fun K "at" "Word.at" s_Word_at a.f_Word_at a.d_Word_at
  b_Word_at : Binds K a.d_Word_at ["self", "k"] []
  F_read_along : Fun K "read_along" "read_along" s_read_along a.f_read_along a.d_read_along
  b_read_along : Binds K a.d_read_along ["parts"] []
  m_read_along : mg "read_along" = some (.ref a.f_read_along)
  F_read_list : Fun K "read_list" "read_list" s_read_list a.f_read_list a.d_read_list
  b_read_list : Binds K a.d_read_list ["parts", "size"] []
  m_read_list : mg "read_list" = some (.ref a.f_read_list)
  F_read_body : Fun K "read_body" "read_body" s_read_body a.f_read_body a.d_read_body
  b_read_body : Binds K a.d_read_body ["parts", "size"] []
  m_read_body : mg "read_body" = some (.ref a.f_read_body)
  F_read_level : Fun K "read_level" "read_level" s_read_level a.f_read_level a.d_read_level
  b_read_level : Binds K a.d_read_level ["parts", "size"] []
  m_read_level : mg "read_level" = some (.ref a.f_read_level)
  F_Level_init : FunD K "__init__" "Level.__init__" (defArgs s_Level_init) (defBody s_Level_init) (defScope s_Level_init) [V.non] [] a.f_Level_init a.d_Level_init
  b_Level_init : Binds K a.d_Level_init ["self", "text", "size"] []
  bd_Level_init : ∃ ds, Vals [V.non] ds ∧ Binds K a.d_Level_init ["self", "text", "size"] ds
  F_Level_eq : Fun K "__eq__" "Level.__eq__" s_Level_eq a.f_Level_eq a.d_Level_eq
  b_Level_eq : Binds K a.d_Level_eq ["self", "other"] []
  F_Level_many_steps : Fun K "many_steps" "Level.many_steps" s_Level_many_steps a.f_Level_many_steps a.d_Level_many_steps
  b_Level_many_steps : Binds K a.d_Level_many_steps ["self", "k"] []
  F_Level_partner : Fun K "partner" "Level.partner" s_Level_partner a.f_Level_partner a.d_Level_partner
  b_Level_partner : Binds K a.d_Level_partner ["self", "k", "i"] []
  F_Level_partners : Fun K "partners" "Level.partners" s_Level_partners a.f_Level_partners a.d_Level_partners
  b_Level_partners : Binds K a.d_Level_partners ["self", "k", "many"] []
  F_Level_step : Fun K "step" "Level.step" s_Level_step a.f_Level_step a.d_Level_step
  b_Level_step : Binds K a.d_Level_step ["self", "k", "i"] []
  F__law_pen : Fun K "_law_pen" "_law_pen" s__law_pen a.f__law_pen a.d__law_pen
  b__law_pen : Binds K a.d__law_pen ["script"] []
  m__law_pen : mg "_law_pen" = some (.ref a.f__law_pen)
  F__law_draw : Fun K "_law_draw" "_law_draw" s__law_draw a.f__law_draw a.d__law_draw
  b__law_draw : Binds K a.d__law_draw ["pen", "many"] []
  m__law_draw : mg "_law_draw" = some (.ref a.f__law_draw)
  F__law_pick : Fun K "_law_pick" "_law_pick" s__law_pick a.f__law_pick a.d__law_pick
  b__law_pick : Binds K a.d__law_pick ["pen", "some"] []
  m__law_pick : mg "_law_pick" = some (.ref a.f__law_pick)
  F__law_place_word : Fun K "_law_place_word" "_law_place_word" s__law_place_word a.f__law_place_word a.d__law_place_word
  b__law_place_word : Binds K a.d__law_place_word ["pen"] []
  m__law_place_word : mg "_law_place_word" = some (.ref a.f__law_place_word)
  F__law_value : Fun K "_law_value" "_law_value" s__law_value a.f__law_value a.d__law_value
  b__law_value : Binds K a.d__law_value ["word", "k"] []
  m__law_value : mg "_law_value" = some (.ref a.f__law_value)
  F__law_amount : Fun K "_law_amount" "_law_amount" s__law_amount a.f__law_amount a.d__law_amount
  b__law_amount : Binds K a.d__law_amount ["pen"] []
  m__law_amount : mg "_law_amount" = some (.ref a.f__law_amount)
  F__law_move : Fun K "_law_move" "_law_move" s__law_move a.f__law_move a.d__law_move
  b__law_move : Binds K a.d__law_move ["pen", "has_turn"] []
  m__law_move : mg "_law_move" = some (.ref a.f__law_move)
  F__law_moves : Fun K "_law_moves" "_law_moves" s__law_moves a.f__law_moves a.d__law_moves
  b__law_moves : Binds K a.d__law_moves ["pen"] []
  m__law_moves : mg "_law_moves" = some (.ref a.f__law_moves)
  F__law_word_text : Fun K "_law_word_text" "_law_word_text" s__law_word_text a.f__law_word_text a.d__law_word_text
  b__law_word_text : Binds K a.d__law_word_text ["moves"] []
  m__law_word_text : mg "_law_word_text" = some (.ref a.f__law_word_text)
  F__law_moved : Fun K "_law_moved" "_law_moved" s__law_moved a.f__law_moved a.d__law_moved
  b__law_moved : Binds K a.d__law_moved ["row", "move"] []
  m__law_moved : mg "_law_moved" = some (.ref a.f__law_moved)
  F__law_all_moved : Fun K "_law_all_moved" "_law_all_moved" s__law_all_moved a.f__law_all_moved a.d__law_all_moved
  b__law_all_moved : Binds K a.d__law_all_moved ["row", "moves"] []
  m__law_all_moved : mg "_law_all_moved" = some (.ref a.f__law_all_moved)
  F__law_level : Fun K "_law_level" "_law_level" s__law_level a.f__law_level a.d__law_level
  b__law_level : Binds K a.d__law_level ["pen", "size"] []
  m__law_level : mg "_law_level" = some (.ref a.f__law_level)
  F__law_level_text : Fun K "_law_level_text" "_law_level_text" s__law_level_text a.f__law_level_text a.d__law_level_text
  b__law_level_text : Binds K a.d__law_level_text ["level"] []
  m__law_level_text : mg "_law_level_text" = some (.ref a.f__law_level_text)
  F__law_partner : Fun K "_law_partner" "_law_partner" s__law_partner a.f__law_partner a.d__law_partner
  b__law_partner : Binds K a.d__law_partner ["level", "k", "i"] []
  m__law_partner : mg "_law_partner" = some (.ref a.f__law_partner)
  F__law_step : Fun K "_law_step" "_law_step" s__law_step a.f__law_step a.d__law_step
  b__law_step : Binds K a.d__law_step ["level", "k", "i"] []
  m__law_step : mg "_law_step" = some (.ref a.f__law_step)
  F__law_met : Fun K "_law_met" "_law_met" s__law_met a.f__law_met a.d__law_met
  b__law_met : Binds K a.d__law_met ["call"] []
  m__law_met : mg "_law_met" = some (.ref a.f__law_met)
  F__law_parts_right : Fun K "_law_parts_right" "_law_parts_right" s__law_parts_right a.f__law_parts_right a.d__law_parts_right
  b__law_parts_right : Binds K a.d__law_parts_right ["made", "level"] []
  m__law_parts_right : mg "_law_parts_right" = some (.ref a.f__law_parts_right)
  F__law_at_right : Fun K "_law_at_right" "_law_at_right" s__law_at_right a.f__law_at_right a.d__law_at_right
  L__law_at_right : FunL K "_law_at_right" "_law_at_right" s__law_at_right a.f__law_at_right a.d__law_at_right a.c__law_at_right
  b__law_at_right : Binds K a.d__law_at_right ["pen", "made", "level", "size"] []
  m__law_at_right : mg "_law_at_right" = some (.ref a.f__law_at_right)
  F__law_equal_right : Fun K "_law_equal_right" "_law_equal_right" s__law_equal_right a.f__law_equal_right a.d__law_equal_right
  b__law_equal_right : Binds K a.d__law_equal_right ["made", "level", "own"] []
  m__law_equal_right : mg "_law_equal_right" = some (.ref a.f__law_equal_right)
  F_law : Fun K "law" "law" s_law a.f_law a.d_law
  L_law : FunL K "law" "law" s_law a.f_law a.d_law a.c_law
  b_law : Binds K a.d_law ["script"] []
  m_law : mg "law" = some (.ref a.f_law)
  c_EveryError : mg "EveryError" = some (.ref a.C_EveryError)
  c_BadWord : mg "BadWord" = some (.ref a.C_BadWord)
  c_BadSize : mg "BadSize" = some (.ref a.C_BadSize)
  c_BadCall : mg "BadCall" = some (.ref a.C_BadCall)
  c_Word : mg "Word" = some (.ref a.C_Word)
  c_Level : mg "Level" = some (.ref a.C_Level)
  cl_Word : Cls K a.C_Word
  mk_Word : Mk K a.C_Word a.f_Word_init
  n_Word_text : NoAttr K a.C_Word "text"
  n_Word_moves : NoAttr K a.C_Word "moves"
  n_Word_has_turn : NoAttr K a.C_Word "has_turn"
  me_Word_at : Meth K a.C_Word "at" a.f_Word_at
  ow_Word : OwnC K a.C_Word a.f_Word_eq
  cl_Level : Cls K a.C_Level
  mk_Level : Mk K a.C_Level a.f_Level_init
  n_Level_text : NoAttr K a.C_Level "text"
  n_Level_kind : NoAttr K a.C_Level "kind"
  n_Level_to_end : NoAttr K a.C_Level "to_end"
  n_Level_word : NoAttr K a.C_Level "word"
  n_Level_factor : NoAttr K a.C_Level "factor"
  n_Level_place : NoAttr K a.C_Level "place"
  n_Level_entries : NoAttr K a.C_Level "entries"
  me_Level_many_steps : Meth K a.C_Level "many_steps" a.f_Level_many_steps
  me_Level_partner : Meth K a.C_Level "partner" a.f_Level_partner
  me_Level_partners : Meth K a.C_Level "partners" a.f_Level_partners
  me_Level_step : Meth K a.C_Level "step" a.f_Level_step
  ow_Level : OwnC K a.C_Level a.f_Level_eq
  ow2_Level : OwnC2 K a.C_Level
  ox_BadWord : ErrC K a.C_BadWord a.f_BadWord_init "index"
  em_BadWord_BadCall : PySem.W.exmOne K (.ref a.C_BadWord) (.ref a.C_BadCall) = some false
  em_BadWord_BadSize : PySem.W.exmOne K (.ref a.C_BadWord) (.ref a.C_BadSize) = some false
  kt_BadWord_EveryError : PySem.W.kitOne K (.ref a.C_BadWord) (.ref a.C_EveryError) = some true
  ox_BadSize : ErrC K a.C_BadSize a.f_BadSize_init "size"
  em_BadSize_BadCall : PySem.W.exmOne K (.ref a.C_BadSize) (.ref a.C_BadCall) = some false
  em_BadSize_BadSize : PySem.W.exmOne K (.ref a.C_BadSize) (.ref a.C_BadSize) = some true
  kt_BadSize_EveryError : PySem.W.kitOne K (.ref a.C_BadSize) (.ref a.C_EveryError) = some true
  ox_BadCall : ErrC K a.C_BadCall a.f_BadCall_init "call"
  em_BadCall_BadCall : PySem.W.exmOne K (.ref a.C_BadCall) (.ref a.C_BadCall) = some true
  em_BadCall_BadSize : PySem.W.exmOne K (.ref a.C_BadCall) (.ref a.C_BadSize) = some false
  kt_BadCall_EveryError : PySem.W.kitOne K (.ref a.C_BadCall) (.ref a.C_EveryError) = some true
  z_bool : mg "bool" = none
  z_enumerate : mg "enumerate" = none
  z_int : mg "int" = none
  z_isinstance : mg "isinstance" = none
  z_len : mg "len" = none
  z_list : mg "list" = none
  z_min : mg "min" = none
  z_range : mg "range" = none
  z_str : mg "str" = none
  z_tuple : mg "tuple" = none
  m_MOST_PLACES : ∃ t, mg "MOST_PLACES" = some (.int 1000 t)
  m_MOST_MOVES : ∃ t, mg "MOST_MOVES" = some (.int 4 t)
  m_FIGURES : mg "FIGURES" = some (.ref a.a_FIGURES)
  q_FIGURES : ∀ H : Hp, SqT K H a.a_FIGURES [.str "1", .str "2", .str "3", .str "4", .str "5", .str "6", .str "7", .str "8", .str "9"]
  m_PLACE_FRONTS : mg "PLACE_FRONTS" = some (.ref a.a_PLACE_FRONTS)
  q_PLACE_FRONTS : ∀ H : Hp, SqT K H a.a_PLACE_FRONTS [.str "", .str "-", .str "half-", .str "half+"]
  m_AMOUNT_FRONTS : mg "AMOUNT_FRONTS" = some (.ref a.a_AMOUNT_FRONTS)
  q_AMOUNT_FRONTS : ∀ H : Hp, SqT K H a.a_AMOUNT_FRONTS [.str "", .str "-"]
  m_SHAPES : mg "SHAPES" = some (.ref a.a_SHAPES)
  D_SHAPES : ∃ es n, KDict K w a.a_SHAPES es n
  e_SHAPES : PySem.W.nsIn K a.a_SHAPES "" = some none
  K_SHAPES : ∃ es n, KDict K w a.a_SHAPES es n ∧ keyB ["exchange", "roll", "turn"] es.toList = true
  v_SHAPES_0 : ∃ p, PySem.W.nsIn K a.a_SHAPES "exchange" = some (some (.ref p)) ∧ ∀ H : Hp, SqT K H p [.str "place", .str "place"]
  v_SHAPES_1 : ∃ p, PySem.W.nsIn K a.a_SHAPES "roll" = some (some (.ref p)) ∧ ∀ H : Hp, SqT K H p [.str "place", .str "place", .str "amount"]
  v_SHAPES_2 : ∃ p, PySem.W.nsIn K a.a_SHAPES "turn" = some (some (.ref p)) ∧ ∀ H : Hp, SqT K H p []
  m_NO_PART : ∃ t, mg "NO_PART" = some (.str "" t)
  m_LEAST_SINGLE : ∃ t, mg "LEAST_SINGLE" = some (.int 2 t)
  m_MOST_SINGLE : ∃ t, mg "MOST_SINGLE" = some (.int 12 t)
  m_ENDING : mg "ENDING" = some (.ref a.a_ENDING)
  q_ENDING : ∀ H : Hp, SqT K H a.a_ENDING [.str "to", .str "the", .str "end"]
def tabsOf (a : Ad) : List (Addr × Str) := [(a.p__law_at_right, (("_law_at_right" : Str) ++ ".<locals>." ++ "<lambda>")), (a.p_law, (("law" : Str) ++ ".<locals>." ++ "<lambda>"))]
/-- the tables of the code objects of lambdas -/
structure Tb (base : Heap) (mg : Str → Option Value) (a : Ad) : Prop where
  tb__law_at_right : LamX.TabB base mg a.c__law_at_right a.p__law_at_right
  hu__law_at_right : ∀ p ∈ tabsOf a, p.1 = a.p__law_at_right → p.2 = (("_law_at_right" : Str) ++ ".<locals>." ++ "<lambda>")
  tb_law : LamX.TabB base mg a.c_law a.p_law
  hu_law : ∀ p ∈ tabsOf a, p.1 = a.p_law → p.2 = (("law" : Str) ++ ".<locals>." ++ "<lambda>")




/-! ### several clauses `except X as n` -/
/-- what such clauses wish of an exception of the body, one after the other: class, slot of the name, suite -/
def wManyAs (K : PySem.W.Frag) (Wout : WX) (D : Ends) : List (Value × Nat × (Addr → Value → Option Addr → TS)) → WX
  | [] => Wout
  | (c, i, ts) :: r => fun cls d σ H => ∃ b, PySem.W.exmOne K cls c = some b ∧
      (b = true → ∀ a, H a = none → ts a cls d { nx := fun σ' H' => D.nx (σ'.set i none) H', rt := D.rt, bk := fun σ' H' => D.bk (σ'.set i none) H', ct := fun σ' H' => D.ct (σ'.set i none) H' } (σ.set i (some (.ref a))) H) ∧
      (b = false → wManyAs K Wout D r cls d σ H)
inductive HdsAs (X : Cx) : List ExceptHandler → List (Value × Nat × (Addr → Value → Option Addr → TS)) → Prop
  | nil : HdsAs X [] []
  | cons {x n : Str} {c : Value} {i : Nat} {ts : Addr → Value → Option Addr → TS} {b₀ : Stmt} {suite : List Stmt} {np pos' : Pos} {hds : List ExceptHandler} {l : List (Value × Nat × (Addr → Value → Option Addr → TS))}
      (hi : X.N[i]? = some n) (hln : X.env.kindOf n = some .local) (hc : Names X x c)
      (hsu : ∀ (a : Addr) (oe : Obj) (cls : Value) (d : Option Addr) (pn : List (Addr × Obj)), Zc cls d oe → (∃ vs, oe.data = .fields vs) → PSs (X.suite a ((a, oe) :: pn)) (b₀ :: suite) (ts a cls d)) (r : HdsAs X hds l) :
      HdsAs X (.ExceptHandler (some (.Name x np)) (some n) (b₀ :: suite) pos' :: hds) ((c, i, ts) :: l)
section
variable {X : Cx} {body : List Stmt} {h₀ : ExceptHandler} {hds : List ExceptHandler} {l : List (Value × Nat × (Addr → Value → Option Addr → TS))} {pos : Pos} {tb : WX → TS} {Wout : WX}
theorem ps_try_manyAs (hs : X.stack = X.env :: X.outer) (hf : X.env.frame = some X.env.locals) (hN : X.N.Nodup) (tk : Takes X Wout)
    (hb : ∀ (W : WX) (pn : List (Addr × Obj)) (xe : Value → Shared → Prop), Takes (X.tr pn xe) W → PassesOwn (model X.prog X.w) X.A X.env xe → PSs (X.tr pn xe) body (tb W))
    (hh : HdsAs X (h₀ :: hds) l) : PS X (.Try body (h₀ :: hds) [] [] pos) (fun D σ H => tb (wManyAs X.K Wout D l) D σ H) := by
  refine ⟨fun pins s σ H D I h => ?_⟩
  have ok := I.ok
  have hfr : X.A.frames = some (X.env :: X.outer) := by rw [ok.frames, hs]
  refine wpAny_Try_except ?_
  refine wpAny_mono ((hb (wManyAs X.K Wout D l) (X.pn ++ pins) (fun e s₁ => wpAny (model X.prog X.w) X.A (noteFrame e X.env) (fun _ s₂ => wpAny (model X.prog X.w) X.A (setFlight e none) (fun _ s₃ =>
    wpAny (model X.prog X.w) X.A (handleBy e X.env (h₀ :: hds)) (SP X pins D) X.xe s₃) X.xe s₂) X.xe s₁) (fun u s' xx => ?_) PassesOwn.looking).run [] s σ H D (I.toTry _) h) (fun f s1 hsp => ?_) (fun e s1 he => he)
  · -- an exception arrives
    obtain ⟨a, B, sI, pins', σ', H', cls, d, rfl, J', nb, up, sky, na, os, ag, want⟩ := xx
    have J : Inv X pins σ' H' sI := J'.ofTry ok
    show wpAny (model X.prog X.w) X.A (noteFrame (.ref a) X.env) _ _ _
    refine Sky.land Zc.steady hfr hf (show Sky B (X.env :: X.outer) a (Zc cls d) X.env.locals s'.heap by rw [← hs]; exact sky) fun h3 fl3 up3 => ?_
    have J3 : Inv X pins σ' H' { s' with heap := h3 } := J.landed nb fl3.1 (up.trans up3) os ag
    obtain ⟨oe3, vs3, he3, hz3, hd3⟩ := fl3.there
    have nfr : a ∉ frs (X.env :: X.outer) := fun hm => by
      obtain ⟨_, o', e', hnf⟩ := fl3.2.2.1.mem hm
      rw [he3] at e'
      cases e'
      exact hnf _ hd3
    have nL : a ≠ X.env.locals := fun z => nfr (List.mem_filterMap.mpr ⟨X.env, List.mem_cons_self, by rw [hf, z]⟩)
    have nF : a ∉ X.fs := fun hm => by
      obtain ⟨e, he, q⟩ := List.mem_filterMap.mp hm
      exact nfr (List.mem_filterMap.mpr ⟨e, List.mem_cons_of_mem _ he, q⟩)
    have S3 := J3.suite he3 hd3 na nL nF
    have LT : PySem.W.Looks (model X.prog X.w) h3 (typeOf (.ref a)) cls := fun A Q E s k q => wpAny_typeOf_ref (k _ _ he3) (by rw [hz3.1]; exact q)
    have each : ∀ {hds' : List ExceptHandler} {l' : List (Value × Nat × (Addr → Value → Option Addr → TS))}, HdsAs X hds' l' → wManyAs X.K Wout D l' cls d σ' H' →
        wpAny (model X.prog X.w) X.A (handleBy (.ref a) X.env hds') (SP X pins D) X.xe { s' with heap := h3 } := by
      intro hds' l' hk
      induction hk with
      | nil =>
        intro w
        refine wpAny_handleBy_nil ?_
        obtain ⟨_, _, _, oe, vs, T, oT, ts', he, hz, hd, h1, hr⟩ := id fl3
        unfold PySem.passOn
        refine wpAny_bind (wpAny_field he hd h1 ?_)
        rw [if_neg (show ¬ ((Value.ref T == Value.none) = true) from by simp)]
        have fin : wpAny (model X.prog X.w) X.A (setFlight (.ref a) X.env.frame) (fun _ s4 => wpAny (model X.prog X.w) X.A (throw (.ref a) : Sem Flow) (SP X pins D) X.xe s4) X.xe { s' with heap := h3 } := by
          rw [hf]
          exact HandSPX.setFlight_upZ fl3 fun h4 hh4 up4 => wpAny_throw (tk _ _ ⟨a, B, sI, pins, σ', H', cls, d, rfl, J, nb, (up.trans up3).trans up4, .inr (.inr (by rw [hs]; exact hh4)), na, os, ag, w⟩)
        first
          | exact wpAny_bind (wpAny_pure (wpAny_bind fin))
          | exact wpAny_bind fin
      | @cons x n c i ts b₀ suite np pos' hds2 l2 hi hln hc hsu r ih =>
        rintro ⟨b, hb1, hyes, hno⟩
        refine wpAny_handleBy_cons (codeAny_handlers_test ?_) (by intro q; cases q)
        have named : ∀ {Q : Value → Shared → Prop} {E : Value → Shared → Prop}, Q c { s' with heap := h3 } → wpAny (model X.prog X.w) (X.A.mark (some (.ref a))) (eval (.Name x np) X.env) Q E { s' with heap := h3 } := fun {Q E} q => by
          obtain ⟨hg, hdbg, hm | ⟨hm, hv, hnn⟩⟩ := hc
          · exact ld_glob (X := X.suite a ((a, oe3) :: (X.pn ++ pins))) S3 hg hm q hdbg
          · exact ld_blt (X := X.suite a ((a, oe3) :: (X.pn ++ pins))) S3 hg hm hv q hnn hdbg
        refine named ((PySem.W.exm_one (M := model X.prog X.w) (J3.kIn) LT hb1).here ?_)
        cases b with
        | false =>
          show wpAny _ X.A (handleBy (.ref a) X.env hds2) _ _ _
          exact ih (hno rfl)
        | true =>
          refine codeAny_handlers_suite_as ?_
          refine HandSPX.lands_againZ fl3 fun h4 fl4 up4 => ?_
          have J4 : Inv X pins σ' H' { s' with heap := h4 } := J.landed nb fl4.1 ((up.trans up3).trans up4) os ag
          obtain ⟨oe4, vs4, he4, hz4, hd4⟩ := fl4.there
          refine store_ok (X := X.suite a ((a, oe4) :: (X.pn ++ pins))) (v := .ref a) (J4.suite he4 hd4 na nL nF) hN hi (.inl hln) rfl (fun s5 S5 => ?_) (.inr hln)
          refine wpAny_mono ((hsu a oe4 cls d (X.pn ++ pins) hz4 ⟨_, hd4⟩).run [] s5 _ H' _ S5 (hyes rfl a na)) (fun f s6 hsp => ?_) (fun _ _ z => False.elim z)
          have gone : ∀ {σ6 : L2.St} {H6 : Hp} {Q : Shared → Prop}, Inv (X.suite a ((a, oe4) :: (X.pn ++ pins))) [] σ6 H6 s6 → (∀ s7, Inv X pins (σ6.set i none) H6 s7 → Q s7) →
              wpAny (model X.prog X.w) X.A (do bindName X.env n .none; unbindBehindTheSuite X.env n pos') (fun _ s7 => Q s7) X.xe s6 := fun {σ6 H6 Q} S6 hq => gone_ok (S6.unsuite ok) hN hi hln hq
          cases f with
          | next =>
            obtain ⟨σ6, H6, S6, q6⟩ := hsp
            exact gone S6 fun s7 J7 => ⟨_, _, J7, q6⟩
          | brk =>
            obtain ⟨σ6, H6, S6, q6⟩ := hsp
            exact gone S6 fun s7 J7 => ⟨_, _, J7, q6⟩
          | cont =>
            obtain ⟨σ6, H6, S6, q6⟩ := hsp
            exact gone S6 fun s7 J7 => ⟨_, _, J7, q6⟩
          | ret u =>
            obtain ⟨v6, σ6, H6, S6, r6, q6⟩ := hsp
            exact gone S6 fun s7 J7 => ⟨_, _, _, J7, r6, q6⟩
    exact each hh want
  · cases f with
    | next =>
      obtain ⟨σ', H', J', q⟩ := hsp
      exact wpAny_execs_nil ⟨σ', H', J'.ofTry ok, q⟩
    | brk =>
      obtain ⟨σ', H', J', q⟩ := hsp
      exact ⟨σ', H', J'.ofTry ok, q⟩
    | cont =>
      obtain ⟨σ', H', J', q⟩ := hsp
      exact ⟨σ', H', J'.ofTry ok, q⟩
    | ret u =>
      obtain ⟨v, σ', H', J', r, q⟩ := hsp
      exact ⟨v, σ', H', J'.ofTry ok, r, q⟩
end
/-! ### isinstance of a caught error with fields -/
theorem clsIn_of {K : PySem.W.Frag} {D : Addr} (h : PySem.W.hasDictIn K D = true) : (PySem.W.clsIn K D).isSome = true := by
  obtain ⟨cd, hc, _⟩ := PySem.W.any_some h
  rw [hc]
  rfl
theorem exm_ofHd {K : PySem.W.Frag} {C : Addr} {cls : Value} {b : Bool} (h1 : PySem.W.subIn K (.ref C) (.type "BaseException") = some true) (hd : PySem.W.hasDictIn K C = true) (ht : PySem.W.typeIn K (.ref C) = some (.type "type")) (h4 : PySem.W.subIn K cls (.ref C) = some b) :
    PySem.W.exmOne K cls (.ref C) = some b := PySem.W.exm_ref h1 hd ht h4
def rIsD (K : PySem.W.Frag) (D a : Addr) (cls : Value) (d : Option Addr) : List V → Hp → VK → Prop := fun xs H Q => ∃ (dd : Addr) (fs : List (Str × V)) (c : V) (cv : Value) (b : Bool), cls = .ref D ∧ d = some dd ∧ H dd = some (.xd fs) ∧ xs = [.ref a, c] ∧ (∀ u, RelV c u → u = cv) ∧ PySem.W.kitOne K (.ref D) cv = some b ∧ Q (.bl b) H
theorem call_isD {X : Cx} {a D : Addr} {oe : Obj} {cls : Value} {d : Option Addr} {pn : List (Addr × Obj)} (C : ExcD X.K D) (hz : Zc cls d oe) (hf : ∃ vs, oe.data = .fields vs) : CallR (X.suite a ((a, oe) :: pn)) (.builtin "isinstance") (rIsD X.K D a cls d) := by
  intro pins s σ H xs us Q I r h
  obtain ⟨dd, fs, c, cv, b, rfl, rfl, ea, rfl, hcv, e, q⟩ := h
  obtain ⟨u1, u2, rfl, r1, r2⟩ := vals2 r
  cases (show u1 = Value.ref a from r1)
  obtain rfl := hcv _ r2
  obtain ⟨hget, _⟩ := I.pin (a, oe) (List.mem_append.mpr (.inl List.mem_cons_self))
  obtain ⟨vs, hv⟩ := hf
  obtain ⟨mA, hns, hr⟩ := (show ObjOk X.prog X.w H s.heap dd (.xd fs) from I.hok dd _ ea)
  obtain ⟨od, ho, hl⟩ := lookIn_ns hns
  have J : PySem.W.InstAt s.heap a oe D (some od) := ⟨hget, hz.1, by unfold PySem.W.notCls; rw [hv] <;> rfl, by rw [hz.2]; exact ho⟩
  exact PySem.W.kia_one (PySem.W.kitx_exc (clsIn_of C.hd) C.hg C.hk C.hs C.ha C.hn C.ht C.hm) I.kIn J e (fun z => nomatch z) fun tk => ⟨.bl b, H, I.tok tk, rfl, q⟩

/-! ### an instance made, a method called, where what is raised is wished for at the caller's slots -/
def tMakeS (C : Addr) (sp : Sp) (dvs : List V) (E : L2.St → XK) (t : TA) : TE := fun σ H Q => t σ H fun vs H1 => ∀ x dx, H1 x = none → H1 dx = none → dx ≠ x →
  sp (.ref x :: (vs ++ dvs)) (upd (upd H1 dx (.own x)) x (.ins C dx [])) (fun v H2 => v = .non ∧ Q (.ref x) H2) (E σ)
section
variable {X : Cx} {k : Nat} {f C : Addr} {fd : FuncData} {ps : List Str} {sp : Sp} {W : WX} {x m : Str} {p pos apos : Pos} {e o : Expr} {es : List Expr} {ta : TE} {t : TA} {ds : List Value} {dvs : List V}
theorem run_makeS {pins : List (Addr × Obj)} {σ : L2.St} {H : Hp} {s : Shared} {Q : VK} {us : List Value} {vs : List V} (M : Mk X.K C f) (F : FnOk X.prog X.w X.K X.mg X.base (L2.CX X.prog X.w) k f fd ps sp) (hr : Room (k + 1) X.A) (hb : Binds X.K fd ps ds) (hd : Vals dvs ds)
    (tk : Takes X W) (I : Inv X pins σ H s) (r : Vals vs us)
    (h : ∀ x dx, H x = none → H dx = none → dx ≠ x → sp (.ref x :: (vs ++ dvs)) (upd (upd H dx (.own x)) x (.ins C dx [])) (fun v H2 => v = .non ∧ Q (.ref x) H2) (WE W σ)) :
    wpAny (model X.prog X.w) X.A (call (.ref C) us) (EP X pins σ Q) X.xe s := by
  have hq := h (s.heap.objs.size + 1) s.heap.objs.size (I.hok.fresh (Nat.le_succ _)) (I.hok.fresh (Nat.le_refl _)) (Nat.ne_of_lt (Nat.lt_succ_self _))
  have I2 := Inv.made (C := C) I
  have r2 : Vals (V.ref (s.heap.objs.size + 1) :: (vs ++ dvs)) (Value.ref (s.heap.objs.size + 1) :: (us ++ ds)) := .cons rfl (r.append hd)
  have hl : (Value.ref (s.heap.objs.size + 1) :: us ++ ds).length = ps.length := by
    have e := r2.length
    rw [F.len _ _ _ _ hq] at e
    exact e.symm
  refine wpAny_call (make_map (f := f) I.kIn M.makes M.init (beq_iff_eq.mp M.fn) (codeAny_mono (F.run _ X.stack _ _ ⟨Value.ref (s.heap.objs.size + 1) :: us, []⟩ (Value.ref (s.heap.objs.size + 1) :: (us ++ ds)) _ _ (WE W σ) (hr.make C us [])
    (I2.env0.make C us []) (hb _ (Value.ref (s.heap.objs.size + 1) :: us) I2.kIn hl) r2 hq) fun r s' hq' => ?_))
  cases r with
  | error e => exact passAt tk σ pins _ _ e s' I2 hq'
  | ok fl =>
    cases fl with
    | ret u =>
      obtain ⟨v, H', I3, rv, ev, q3⟩ := I2.after hq'
      subst ev
      exact ⟨rv, ⟨V.ref (s.heap.objs.size + 1), H', I3, rfl, q3⟩⟩
    | next => exact False.elim hq'
    | brk => exact False.elim hq'
    | cont => exact False.elim hq'
theorem pe_makeS (M : Mk X.K C f) (F : FnOk X.prog X.w X.K X.mg X.base (L2.CX X.prog X.w) k f fd ps sp) (hr : Room (k + 1) X.A) (hg : Gl X x) (hm : X.mg x = some (.ref C)) (hb : Binds X.K fd ps ds) (hd : Vals dvs ds) (tk : Takes X W)
    (ha : PA X (e :: es) t) (hdb : (x == ("__debug__" : Str)) = false := by decide) (he : starEach (e :: es) X.env = (false, eval e X.env) :: starEach es X.env := by rfl) (hpl : (backTo pos (starEach es X.env)).any (·.1) = false := by rfl) :
    PE X (.Call (.Name x p) (e :: es) [] pos) (tMakeS C sp dvs (WE W) t) := by
  refine ⟨fun pins s σ H Q I h => ?_⟩
  refine wpAny_Call_Name_kw (ld_glob I hg hm ?_ hdb)
  refine PySem.W.callWith_K (h₀ := X.base) I.ok.mod.kin M.kp (thn (ha.run pos pins s σ H _ I h) fun us s1 ⟨vs, H1, I1, r, q⟩ => ⟨I1.kIn, ?_⟩) he hpl
  exact run_makeS M F hr hb hd tk I1 r q
def tMethS (C : Addr) (m : Str) (sp : Sp) (E : L2.St → XK) (ta : TE) (t : TA) : TE := fun σ H Q => ta σ H fun x H1 => ∃ a dx fs, x = .ref a ∧ H1 a = some (.ins C dx fs) ∧ fs.lookup m = none ∧
  t σ H1 fun vs H2 => sp (x :: vs) H2 Q (E σ)
/-- o.m(e, ..) -/
theorem pe_methS {pl : Sem Bool} (he : PE X o ta) (c : Cls X.K C) (hm : Meth X.K C m f) (F : FnOk X.prog X.w X.K X.mg X.base (L2.CX X.prog X.w) k f fd ps sp) (hr : Room k X.A) (hb : Binds X.K fd ps []) (tk : Takes X W) (ha : PA X (e :: es) t)
    (hst : starEach (e :: es) X.env = (false, eval e X.env) :: starEach es X.env := by rfl) (hpl : (backTo pos (starEach es X.env)).any (·.1) = false := by rfl)
    (ht : eval (.Call (.Attribute o m apos) (e :: es) [] pos) X.env = (do
      let ov ← eval o X.env
      standAt apos.atName
      let (f, first) ← holding [ov] (getMethod ov m pl)
      callWith pos f first (backTo pos (starEach (e :: es) X.env)) (backToKw pos (keywordEach [] X.env))) := by rfl) :
    PE X (.Call (.Attribute o m apos) (e :: es) [] pos) (tMethS C m sp (WE W) ta t) := by
  refine ⟨fun pins s σ H Q I h => ?_⟩
  refine PySem.W.methodCall_KW (pl := pl) (thn (he.run pins s σ H _ I h) fun u s1 ⟨x, H1, I1, rx, a, dx, fs, ex, ea, l, q⟩ => ?_) ht
  subst ex
  obtain rfl : u = Value.ref a := rx
  refine getmeth_ok I1 ea c hm l ?_
  refine PySem.W.callWith_K (first := [.ref a]) (h₀ := X.base) I.ok.mod.kin hm.kp (thn (ha.run pos pins s1 σ H1 _ I1 q) fun us s2 ⟨vs, H2, I2, r, q2⟩ => ⟨I2.kIn, ?_⟩) hst hpl
  exact run_fnS (us := .ref a :: us) (vs := .ref a :: vs) F hr hb (passAt tk σ) I2 (.cons rfl r) q2
end

/-! ### heaps -/
/-- all but what stands at d is as it was -/
def But (d : Addr) (H H' : Hp) : Prop := ∀ b o, H b = some o → b ≠ d → H' b = some o
theorem But.refl {d : Addr} {H : Hp} : But d H H := fun _ _ h _ => h
theorem But.trans {d : Addr} {H H1 H2 : Hp} (x : But d H H1) (y : But d H1 H2) : But d H H2 := fun b o h n => y b o (x b o h n) n
theorem but_same {d : Addr} {H H' : Hp} (h : Same H H') : But d H H' := fun b o e _ => h b o e
theorem same_upd {H : Hp} {p : Addr} {o : HO} (h : H p = none) : Same H (upd H p o) := fun b x e => by
  rw [upd_ne (ne_of_none e h)]
  exact e
theorem but_upd {d : Addr} {H : Hp} {o : HO} : But d H (upd H d o) := fun b x e n => by
  rw [upd_ne n]
  exact e
theorem But.list {d : Addr} {H H' : Hp} {kvs : List (Key × V)} {l : Addr} {xs : List V} (x : But d H H') (hd : H d = some (.dK kvs)) (h : H l = some (.lst xs)) : H' l = some (.lst xs) :=
  x l _ h (ne_of h hd (by intro z; cases z))
theorem But.tup {d : Addr} {H H' : Hp} {kvs : List (Key × V)} {l : Addr} {xs : List V} (x : But d H H') (hd : H d = some (.dK kvs)) (h : H l = some (.tup xs)) : H' l = some (.tup xs) :=
  x l _ h (ne_of h hd (by intro z; cases z))
theorem But.seq {K : PySem.W.Frag} {d : Addr} {H H' : Hp} {kvs : List (Key × V)} {l : Addr} {xs : List V} (x : But d H H') (hd : H d = some (.dK kvs)) (h : SqL K H l xs) : SqL K H' l xs := by
  rcases h with (h | ⟨o, h⟩) | h
  · exact .inl (.inl (x l _ h (ne_of h hd (by intro z; cases z))))
  · exact .inl (.inr ⟨o, x l _ h (ne_of h hd (by intro z; cases z))⟩)
  · exact .inr h
/-- a list changes where none of what is known stood -/
theorem keep_upd {H H' : Hp} {l : Addr} {o : HO} (h : Same H H') (n : H l = none) : Same H (upd H' l o) := fun b u e => by
  rw [upd_ne (ne_of_none e n)]
  exact h b u e
theorem free_of {H H' : Hp} {p : Addr} (e : Same H H') (h : H' p = none) : H p = none := e.free h
theorem SqL.at {K : PySem.W.Frag} {H : Hp} {a : Addr} {xs : List V} (h : H a = some (.lst xs)) : SqL K H a xs := .inl (.inl h)
theorem SqT.at {K : PySem.W.Frag} {H : Hp} {a : Addr} {xs : List V} (h : H a = some (.tup xs)) : SqT K H a xs := .inl (.inl h)
theorem sz {n : Nat} (h : n ≤ 100000) : n ≤ sizeLine := Nat.le_trans h (by decide)
theorem szlt {n : Nat} (h : n ≤ 100000) : n < sizeLine := Nat.lt_of_le_of_lt h (by decide)
/-! ### data: lists of ints -/
def iD (ns : List Int) : PyData := .list (ns.map PyData.int)
theorem dp_all {K : PySem.W.Frag} {H : Hp} : ∀ ns : List Int, DpAll K H (ns.map V.int) (ns.map PyData.int)
  | [] => .nil
  | _ :: r => .cons (.int _) (dp_all r)
theorem dp_ints {K : PySem.W.Frag} {H : Hp} {p : Addr} {ns : List Int} (h : SqL K H p (ns.map V.int)) : Dp K H (.ref p) (iD ns) := .lst h (dp_all ns)
theorem dp_tints {K : PySem.W.Frag} {H : Hp} {p : Addr} {ns : List Int} (h : SqT K H p (ns.map V.int)) : Dp K H (.ref p) (.tuple (ns.map PyData.int)) := .tup h (dp_all ns)
theorem lay_ints : ∀ ns : List Int, PyData.canLayAll0 (ns.map PyData.int) = true
  | [] => by simp [PyData.canLayAll0]
  | _ :: r => by simp [PyData.canLayAll0, PyData.canLay0, lay_ints r]
theorem eqv_all_ints : ∀ ns ms : List Int, PyData.eqvAll (ns.map PyData.int) (ms.map PyData.int) = decide (ns = ms)
  | [], [] => by simp [PyData.eqvAll]
  | [], _ :: _ => by simp [PyData.eqvAll]
  | _ :: _, [] => by simp [PyData.eqvAll]
  | x :: r, y :: u => by
    simp only [List.map_cons, PyData.eqvAll, PyData.eqv, eqv_all_ints r u, List.cons.injEq]
    by_cases h1 : x = y <;> by_cases h2 : r = u <;> simp [h1, h2]
theorem eqv_ints (ns ms : List Int) : PyData.eqv (iD ns) (iD ms) = decide (ns = ms) := by
  unfold iD
  rw [PyData.eqv]
  exact eqv_all_ints ns ms
theorem deep_ints : ∀ ns : List Int, PyData.depthAll (ns.map PyData.int) ≤ 1
  | [] => by simp [PyData.depthAll]
  | _ :: r => by
    have := deep_ints r
    simp only [List.map_cons, PyData.depthAll, PyData.depth]
    omega
theorem shaped_ints {ns : List Int} : SeqAt.shaped (iD ns) = true := by
  unfold SeqAt.shaped iD
  rw [Bool.and_eq_true, decide_eq_true_eq]
  refine ⟨by rw [PyData.canLay0]; exact lay_ints ns, ?_⟩
  have := deep_ints ns
  rw [PyData.depth]
  omega
theorem atI_ints {ns : List Int} {i : Int} (h0 : 0 ≤ i) (h1 : i.toNat < ns.length) : atI (ns.map V.int) i = some (.int (ns[i.toNat]'h1)) := by
  have e : (i.toNat : Int) = i := by omega
  have z : atI (ns.map V.int) (i.toNat : Int) = some (.int (ns[i.toNat]'h1)) := by
    refine atI_nat ?_
    rw [List.getElem?_map, List.getElem?_eq_getElem h1]
    rfl
  rw [e] at z
  exact z
theorem ixN_nat {n : Nat} {i : Int} (h0 : 0 ≤ i) (h1 : i < (n : Int)) : ixN n i = some i.toNat := by
  unfold ixN
  rw [if_pos h0, if_pos h1]
theorem getD_get {ts : List Int} {i : Nat} (h : i < ts.length) : ts.getD i 0 = ts[i] := by
  rw [List.getD_eq_getElem?_getD, List.getElem?_eq_getElem h]
  rfl
theorem inV_ints {x : Int} : ∀ {xs : List Int}, inV (.int x) (xs.map V.int) = decide (x ∈ xs)
  | [] => rfl
  | y :: r => by
    have ih := inV_ints (x := x) (xs := r)
    unfold inV at ih ⊢
    rw [List.map_cons, List.any_cons, ih]
    have e : eqV (.int y) (.int x) = decide (y = x) := rfl
    rw [e]
    by_cases h : y = x
    · subst h
      simp
    · have h2 : ¬ x = y := fun z => h z.symm
      simp [h, h2]
theorem flat_ints (xs : List Int) : (xs.map V.int).all flatV = true := by
  rw [List.all_eq_true]
  intro x hx
  obtain ⟨i, _, rfl⟩ := List.mem_map.mp hx
  rfl

/-! ### the pen: a dict of the script's cells and two ints -/
def penD (c : Addr) (t l : Int) : HO := .dK [((.inr "cells" : Key), V.ref c), ((.inr "at" : Key), V.int t), ((.inr "left" : Key), V.int l)]
structure PenAt (H : Hp) (d c : Addr) (ns : List Int) (t l : Int) : Prop where
  dc : H d = some (penD c t l)
  cs : H c = some (.lst (ns.map V.int))
  len : ns.length ≤ 63
  t0 : 0 ≤ t
/-- a pen with which at most n draws were made -/
def Pen (H : Hp) (d c : Addr) (n : Nat) : Prop := ∃ ns t l, PenAt H d c ns t l ∧ t ≤ n
theorem k1 : ¬ (("cells" : Str) = "at") := by decide +kernel
theorem k2 : ¬ (("cells" : Str) = "left") := by decide +kernel
theorem k3 : ¬ (("at" : Str) = "left") := by decide +kernel
theorem kk {x y : Str} (h : ¬ x = y) : ¬ ((Sum.inr x : Key) = Sum.inr y) := fun z => h (Sum.inr.inj z)
theorem pen_valC {c : Addr} {t l : Int} : valV [((.inr "cells" : Key), V.ref c), ((.inr "at" : Key), V.int t), ((.inr "left" : Key), V.int l)] (.inr "cells") = some (.ref c) := by
  simp [valV, List.find?]
theorem pen_valA {c : Addr} {t l : Int} : valV [((.inr "cells" : Key), V.ref c), ((.inr "at" : Key), V.int t), ((.inr "left" : Key), V.int l)] (.inr "at") = some (.int t) := by
  simp [valV, List.find?, k1]
theorem pen_valL {c : Addr} {t l : Int} : valV [((.inr "cells" : Key), V.ref c), ((.inr "at" : Key), V.int t), ((.inr "left" : Key), V.int l)] (.inr "left") = some (.int l) := by
  simp [valV, List.find?, k2, k3]
theorem pen_C {H : Hp} {d c : Addr} {t l : Int} (h : H d = some (penD c t l)) : DGet H d (.str "cells") (some (.ref c)) := by
  have e := DGet.k (k := Sum.inr "cells") h
  rw [pen_valC] at e
  exact e
theorem pen_A {H : Hp} {d c : Addr} {t l : Int} (h : H d = some (penD c t l)) : DGet H d (.str "at") (some (.int t)) := by
  have e := DGet.k (k := Sum.inr "at") h
  rw [pen_valA] at e
  exact e
theorem pen_L {H : Hp} {d c : Addr} {t l : Int} (h : H d = some (penD c t l)) : DGet H d (.str "left") (some (.int l)) := by
  have e := DGet.k (k := Sum.inr "left") h
  rw [pen_valL] at e
  exact e
theorem pen_putA {c : Addr} {t l u : Int} : putK [((.inr "cells" : Key), V.ref c), ((.inr "at" : Key), V.int t), ((.inr "left" : Key), V.int l)] (.inr "at") (.int u) = [((.inr "cells" : Key), V.ref c), ((.inr "at" : Key), V.int u), ((.inr "left" : Key), V.int l)] := by
  simp [putK, k1, k3, show ¬ (("left" : Str) = "at") from fun h => k3 h.symm]
theorem pen_putL {c : Addr} {t l u : Int} : putK [((.inr "cells" : Key), V.ref c), ((.inr "at" : Key), V.int t), ((.inr "left" : Key), V.int l)] (.inr "left") (.int u) = [((.inr "cells" : Key), V.ref c), ((.inr "at" : Key), V.int t), ((.inr "left" : Key), V.int u)] := by
  simp [putK, k2, k3]
theorem pen_setA {H : Hp} {d c : Addr} {t l u : Int} (h : H d = some (penD c t l)) : DPut H d (.str "at") (.int u) (upd H d (penD c u l)) := by
  have e := DPut.k (k := Sum.inr "at") (v := .int u) h (by show 3 < sizeLine; exact szlt (by decide))
  rw [pen_putA] at e
  exact e
theorem pen_setL {H : Hp} {d c : Addr} {t l u : Int} (h : H d = some (penD c t l)) : DPut H d (.str "left") (.int u) (upd H d (penD c t u)) := by
  have e := DPut.k (k := Sum.inr "left") (v := .int u) h (by show 3 < sizeLine; exact szlt (by decide))
  rw [pen_putL] at e
  exact e
theorem pen_mk {l : Addr} : mergeK [] [((.inr "cells" : Key), V.ref l), ((.inr "at" : Key), V.int 0), ((.inr "left" : Key), V.int 0)] = [((.inr "cells" : Key), V.ref l), ((.inr "at" : Key), V.int 0), ((.inr "left" : Key), V.int 0)] := by
  simp [mergeK, putK, k1, k2, k3]
theorem Pen.same {H H' : Hp} {d c : Addr} {n : Nat} (p : Pen H d c n) (h : Same H H') : Pen H' d c n := by
  obtain ⟨ns, t, l, q, e⟩ := p
  exact ⟨ns, t, l, ⟨h _ _ q.dc, h _ _ q.cs, q.len, q.t0⟩, e⟩
theorem Pen.up {H : Hp} {d c : Addr} {n m : Nat} (p : Pen H d c n) (h : n ≤ m) : Pen H d c m := by
  obtain ⟨ns, t, l, q, e⟩ := p
  exact ⟨ns, t, l, q, by omega⟩
theorem Pen.dict {H : Hp} {d c : Addr} {n : Nat} (p : Pen H d c n) : ∃ kvs, H d = some (.dK kvs) := by
  obtain ⟨ns, t, l, q, e⟩ := p
  exact ⟨_, q.dc⟩
theorem Pen.cells {H : Hp} {d c : Addr} {n : Nat} (p : Pen H d c n) : ∃ o, H c = some o := by
  obtain ⟨ns, t, l, q, e⟩ := p
  exact ⟨_, q.cs⟩
/-- a list that is not the pen's changes -/
theorem Pen.mut {H : Hp} {d c l : Addr} {n : Nat} {o : HO} (p : Pen H d c n) (hd : d ≠ l) (hc : c ≠ l) : Pen (upd H l o) d c n := by
  obtain ⟨ns, t, u, q, e⟩ := p
  exact ⟨ns, t, u, ⟨by rw [upd_ne hd]; exact q.dc, by rw [upd_ne hc]; exact q.cs, q.len, q.t0⟩, e⟩
/-- what stands where nothing stood may change -/
theorem But.mut {d l : Addr} {H H' : Hp} {o : HO} (b : But d H H') (h : H l = none) : But d H (upd H' l o) := fun x u e n => by
  rw [upd_ne (ne_of_none e h)]
  exact b x u e n
theorem cut63 (ns : List Int) : cutV (ns.map V.int) none (some 63) = (ns.take 63).map V.int := by
  unfold cutV
  rw [show HT.sIx (ns.map V.int).length (ns.map V.int).length (some 63) = min 63 (ns.map V.int).length from HT.sIx_nat _ _ 63, HT.sIx_none, List.drop_zero, Nat.sub_zero, List.map_take, List.take_eq_take_iff]
  omega
section
variable {P : Program} {w : World} {K : PySem.W.Frag} {mg : Str → Option Value} {base : Heap} {a : Ad}
def spPen (K : PySem.W.Frag) : Sp := fun vs H Q _ => ∃ (s : Addr) (ns : List Int), vs = [.ref s] ∧ SqL K H s (ns.map V.int) ∧ ns.length ≤ 63 ∧
  ∀ d c H', H d = none → H c = none → Pen H' d c 0 → Same H H' → Q (.ref d) H'
theorem ok__law_pen (T : Tx w K mg a) : FnOk P w K mg base CX0 1 a.f__law_pen a.d__law_pen ["script"] (spPen K) := by
  refine T.F__law_pen.ok sc__law_pen (fun vs H Q E h => ?_) (fun cdv A outer s H vs Q E hr h => ?_)
  · obtain ⟨s, ns, rfl, _⟩ := h
    rfl
  · obtain ⟨x, ns, rfl, hS, hlen, q⟩ := h
    have hu := hu_of hr
    refine ⟨_, 
(pss_one (ps_ret (pe_disp (pps_cons pe_str (pe_callTy call_list_of (by rfl) T.z_list (by decide +kernel) (pa_cons (pe_slice sl_list (pv 0) po_none (po_some pe_int)) pa_nil)) (pps_cons pe_str pe_int (pps_cons pe_str pe_int pps_nil))) (by rfl) (by rfl) (fun z => by cases z) (by decide)))), ?_⟩
    intro d hd
    have s1 : Same H (upd H d (.dK [])) := same_upd hd
    refine ⟨.ref x, rfl, 63, rfl, x, ns.map V.int, rfl, s1.seq hS, fun p hp => ?_⟩
    have s2 : Same (upd H d (.dK [])) (upd (upd H d (.dK [])) p (.lst (cutV (ns.map V.int) none (some 63)))) := same_upd hp
    refine ⟨p, _, rfl, .inl (SqL.at upd_same), fun l hl => ?_⟩
    have s3 := same_upd (o := .lst (cutV (ns.map V.int) none (some 63))) hl
    have hd3 := s3 _ _ (s2 _ _ (upd_same (H := H) (a := d) (o := .dK [])))
    have hl3 : (upd (upd (upd H d (.dK [])) p (.lst (cutV (ns.map V.int) none (some 63)))) l (.lst (cutV (ns.map V.int) none (some 63)))) l = _ := upd_same
    have ndl : l ≠ d := ne_of hl3 hd3 (by intro z; cases z)
    refine ⟨hd3, [((.inr "cells" : Key), V.ref l), ((.inr "at" : Key), V.int 0), ((.inr "left" : Key), V.int 0)], rfl, (by show 3 ≤ 15; decide), ?_⟩
    rw [pen_mk]
    refine q d l _ hd (s1.free (s2.free hl)) ⟨ns.take 63, 0, 0, ⟨upd_same, ?_, ?_, by decide⟩, by decide⟩ ?_
    · rw [upd_ne ndl, hl3, cut63]
    · rw [List.length_take]
      omega
    · intro b o e
      rw [upd_ne (ne_of_none e hd)]
      exact s3 _ _ (s2 _ _ (s1 _ _ e))
/-- a draw: any int from 0 on that is less than the second argument; the pen alone changes -/
def spDraw : Sp := fun vs H Q _ => ∃ (d c : Addr) (n : Nat) (m : Int), vs = [.ref d, .int m] ∧ Pen H d c n ∧ n < 2 ^ 40 ∧ 0 < m ∧ m < 2 ^ 200 ∧
  ∀ v H', 0 ≤ v → v < m → Pen H' d c (n + 1) → But d H H' → Q (.int v) H'
theorem ok__law_draw (T : Tx w K mg a) : FnOk P w K mg base CX0 1 a.f__law_draw a.d__law_draw ["pen", "many"] spDraw := by
  refine T.F__law_draw.ok sc__law_draw (fun vs H Q E h => ?_) (fun cdv A outer s H vs Q E hr h => ?_)
  · obtain ⟨d, c, n, m, rfl, _⟩ := h
    rfl
  · obtain ⟨d, c, n, m, rfl, ⟨ns, t, l, ⟨hd, hc, hlen, t0⟩, htn⟩, hn, m0, mb, q⟩ := h
    have hu := hu_of hr
    have hmne : m ≠ 0 := by omega
    have hdiv : ∀ x : Int, CDivW x m := fun x => wide_div m0 (b := 200) (by omega) (by decide) (by decide)
    have f0 : ∀ x : Int, 0 ≤ Int.fmod x m := fun x => Int.fmod_nonneg_of_pos x m0
    have f1 : ∀ x : Int, Int.fmod x m < m := fun x => Int.fmod_lt_of_pos x m0
    refine ⟨_, 
(pss_cons (ps_if (pt_cmpR op_ge (pe_dget hu (pv 0) pe_str (fun _ _ => rfl)) (pv 1) (nomark _))
  (pss_cons (ps_set (i := 2) sc__law_draw.nd rfl (.inl rfl) (pe_op op_modN (pe_callTy call_int1 (by rfl) T.z_int (by decide +kernel) (pa_cons (pe_dget hu (pv 0) pe_str (fun _ _ => rfl)) pa_nil)) (pv 1)))
  (pss_cons (ps_dput hu (pv 0) pe_str (pe_op op_fdivW (pe_dget hu (pv 0) pe_str (fun _ _ => rfl)) (pv 1)) rfl)
  (pss_one (ps_ret (pv 2)))))
  pss_nil)
  (pss_cons (ps_set (i := 3) sc__law_draw.nd rfl (.inl rfl) (pe_dget hu (pv 0) pe_str (fun _ _ => rfl)))
  (pss_cons (ps_dput hu (pv 0) pe_str (pe_op op_add (pv 3) pe_int) rfl)
  (pss_cons (ps_set (i := 4) sc__law_draw.nd rfl (.inl rfl) (pe_op op_add (pe_op op_mul pe_int (pv 3)) pe_int))
  (C8.pss_cut (ps_if (pt_cmpR (op_neD hr.units) (pe_dget hu (pv 0) pe_str (fun _ _ => rfl)) (pe_lst pa_nil) (nomark _))
  (pss_one (ps_set (i := 4) sc__law_draw.nd rfl (.inl rfl) (pe_ix ix_list (pe_dget hu (pv 0) pe_str (fun _ _ => rfl)) (pe_op op_modN (pe_callTy call_int1 (by rfl) T.z_int (by decide +kernel) (pa_cons (pv 3) pa_nil)) (pe_callB call_len_seq (by rfl) T.z_len PySem.boot_len (pa_cons (pe_dget hu (pv 0) pe_str (fun _ _ => rfl)) pa_nil))) (fun _ _ => rfl))))
  pss_nil)
  (C8.pss_cut (ps_if (PW.pt (pw_and (pt_cmpR op_lt (pv 3) (pe_callB call_len_seq (by rfl) T.z_len PySem.boot_len (pa_cons (pe_dget hu (pv 0) pe_str (fun _ _ => rfl)) pa_nil)) (nomark _)) (pw_and1 (pt_cmpR op_ge (pv 4) (pe_op op_pow pe_int pe_int) (nomark _)))))
  (pss_cons (ps_dput hu (pv 0) pe_str (pe_op op_fdivW (pe_op op_sub (pv 4) (pe_op op_pow pe_int pe_int)) (pv 1)) rfl)
  (pss_one (ps_ret (pe_op op_modN (pe_callTy call_int1 (by rfl) T.z_int (by decide +kernel) (pa_cons (pe_op op_sub (pv 4) (pe_op op_pow pe_int pe_int)) pa_nil)) (pv 1)))))
  pss_nil)
  (pss_cons (ps_set (i := 5) sc__law_draw.nd rfl (.inl rfl) (pe_op op_add (pe_op op_add (pe_op op_add (pe_op op_mul (pe_op op_modN (pe_callTy call_int1 (by rfl) T.z_int (by decide +kernel) (pa_cons (pv 4) pa_nil)) pe_int) pe_int) (pe_op op_mul (pe_op op_mul pe_int (pv 3)) (pv 3))) (pe_op op_mul pe_int (pv 3))) pe_int))
  (pss_cons (ps_set (i := 5) sc__law_draw.nd rfl (.inl rfl) (pe_op op_modN (pe_callTy call_int1 (by rfl) T.z_int (by decide +kernel) (pa_cons (pv 5) pa_nil)) pe_int))
  (pss_cons (ps_set (i := 5) sc__law_draw.nd rfl (.inl rfl) (pe_op op_modN (pe_callTy call_int1 (by rfl) T.z_int (by decide +kernel) (pa_cons (pe_op op_mul (pv 5) (pe_op op_add (pv 5) pe_int)) pa_nil)) pe_int))
  (pss_one (ps_ret (pe_op op_modN (pe_callTy call_int1 (by rfl) T.z_int (by decide +kernel) (pa_cons (pe_op op_fdivN (pe_op op_modN (pe_callTy call_int1 (by rfl) T.z_int (by decide +kernel) (pa_cons (pe_op op_mul (pv 5) (pv 5)) pa_nil)) pe_int) pe_int) pa_nil)) (pv 1))))))))))))), ?_⟩
    -- if pen['left'] >= many
    refine ⟨.ref d, rfl, d, .int l, rfl, pen_L hd, .int m, rfl, l, m, rfl, rfl, _, rfl, ite2 (fun e => ?_) (fun e => ?_)⟩
    · -- digit = int(pen['left']) % many; pen['left'] = pen['left'] // many; return digit
      refine ⟨.ref d, rfl, d, .int l, rfl, pen_L hd, .inl ⟨l, rfl, .int m, rfl, l, m, rfl, rfl, hmne, ?_⟩⟩
      refine ⟨.ref d, rfl, d, .int l, rfl, pen_L hd, .int m, rfl, l, m, rfl, rfl, hdiv l, .ref d, rfl, d, _, rfl, pen_setL hd, ?_⟩
      exact ⟨_, rfl, q _ _ (f0 l) (f1 l) ⟨ns, t, _, ⟨upd_same, by rw [upd_ne (ne_of hc hd (by intro z; cases z))]; exact hc, hlen, t0⟩, by omega⟩ but_upd⟩
    · -- at = pen['at']; pen['at'] = at + 1; cell = 41 * at + 13
      refine ⟨.ref d, rfl, d, .int t, rfl, pen_A hd, ?_⟩
      refine ⟨.int t, rfl, t, 1, rfl, rfl, .ref d, rfl, d, _, rfl, pen_setA hd, ?_⟩
      refine ⟨.int t, rfl, 41, t, rfl, rfl, .inl ⟨by decide, by decide⟩, 41 * t, 13, rfl, rfl, ?_⟩
      have hd1 : (upd H d (penD c (t + 1) l)) d = some (penD c (t + 1) l) := upd_same
      have hc1 : (upd H d (penD c (t + 1) l)) c = some (.lst (ns.map V.int)) := by
        rw [upd_ne (ne_of hc hd (by intro z; cases z))]
        exact hc
      have b1 : But d H (upd H d (penD c (t + 1) l)) := but_upd
      generalize upd H d (penD c (t + 1) l) = H1 at hd1 hc1 b1 ⊢
      -- if pen['cells'] != []: cell = pen['cells'][int(at) % len(pen['cells'])]
      refine ⟨fun σ' H' => ∃ cell : Int, σ' = [some (.ref d), some (.int m), none, some (.int t), some (.int cell), none] ∧ H' d = some (penD c (t + 1) l) ∧ H' c = some (.lst (ns.map V.int)) ∧ But d H H', ?_, fun σ'' H'' hM => ?_⟩
      · refine ⟨.ref d, rfl, d, .ref c, rfl, pen_C hd1, Nat.zero_le _, fun p hp => ?_⟩
        have s2 : Same H1 (upd H1 p (.lst [])) := same_upd hp
        have hp2 : (upd H1 p (.lst [])) p = some (.lst []) := upd_same
        have hd2 := s2 _ _ hd1
        have hc2 := s2 _ _ hc1
        have b2 : But d H (upd H1 p (.lst [])) := b1.trans (but_same s2)
        generalize upd H1 p (.lst []) = H2 at hd2 hc2 hp2 b2 ⊢
        refine ⟨_, _, dp_ints (SqL.at hc2), dp_ints (ns := []) (SqL.at hp2), shaped_ints, shaped_ints, _, rfl, ?_⟩
        rw [eqv_ints]
        refine ite2 (fun e => ?_) (fun e => ?_)
        · have hns : ns ≠ [] := by
            intro z
            subst z
            simp at e
          have hpos : 0 < ns.length := List.length_pos_iff.mpr hns
          have g0 : (0 : Int) ≤ Int.fmod t (ns.length : Int) := Int.fmod_nonneg_of_pos _ (by omega)
          have g1 : Int.fmod t (ns.length : Int) < (ns.length : Int) := Int.fmod_lt_of_pos _ (by omega)
          refine ⟨.ref d, rfl, d, .ref c, rfl, pen_C hd2, .int t, rfl, .inl ⟨t, rfl, .ref d, rfl, d, .ref c, rfl, pen_C hd2, c, _, rfl, .inl (SqL.at hc2), t, _, rfl, rfl, ?_, c, _, _, .int (ns[(Int.fmod t (ns.length : Int)).toNat]'(by omega)), rfl, rfl, SqL.at hc2, ?_, ?_⟩⟩
          · rw [List.length_map]
            omega
          · rw [List.length_map]
            exact atI_ints g0 (by omega)
          · exact ⟨_, rfl, hd2, hc2, b2⟩
        · exact ⟨_, rfl, hd2, hc2, b2⟩
      · obtain ⟨cell, rfl, hd3, hc3, b3⟩ := hM
        have hlen' : (ns.map V.int).length ≤ 63 := by
          rw [List.length_map]
          exact hlen
        -- if at < len(pen['cells']) and cell >= 10 ** 18
        refine ⟨fun σ' H' => σ' = [some (.ref d), some (.int m), none, some (.int t), some (.int cell), none] ∧ H' = H'', ?_, fun σ' H' hM => ?_⟩
        · refine ⟨.int t, rfl, .ref d, rfl, d, .ref c, rfl, pen_C hd3, c, _, rfl, .inl (SqL.at hc3), t, _, rfl, rfl, _, rfl, ite2 (fun e1 => ?_) (fun e1 => iteF ⟨rfl, rfl⟩)⟩
          refine ⟨.int cell, rfl, 10, 18, rfl, rfl, ⟨by decide, by decide, by decide⟩, cell, _, rfl, rfl, _, rfl, ite2 (fun e2 => ?_) (fun e2 => ⟨rfl, rfl⟩)⟩
          refine ⟨.int cell, rfl, 10, 18, rfl, rfl, ⟨by decide, by decide, by decide⟩, cell, _, rfl, rfl, .int m, rfl, _, m, rfl, rfl, hdiv _, .ref d, rfl, d, _, rfl, pen_setL hd3, ?_⟩
          refine ⟨.int cell, rfl, 10, 18, rfl, rfl, ⟨by decide, by decide, by decide⟩, cell, _, rfl, rfl, .inl ⟨_, rfl, .int m, rfl, _, m, rfl, rfl, hmne, ?_⟩⟩
          exact q _ _ (f0 _) (f1 _) ⟨ns, t + 1, _, ⟨upd_same, by rw [upd_ne (ne_of hc3 hd3 (by intro z; cases z))]; exact hc3, hlen, by omega⟩, by omega⟩ (b3.trans but_upd)
        · obtain ⟨rfl, rfl⟩ := hM
          have g : ∀ x y : Int, 0 < y → 0 ≤ Int.fmod x y ∧ Int.fmod x y < y := fun x y hy => ⟨Int.fmod_nonneg_of_pos x hy, Int.fmod_lt_of_pos x hy⟩
          have g1 := g cell 2147483629 (by decide)
          have z1 : (2147483629 : Int) ≠ 0 := by decide
          have z2 : (2147483647 : Int) ≠ 0 := by decide
          have z3 : (2147483587 : Int) ≠ 0 := by decide
          have z4 : (2147483563 : Int) ≠ 0 := by decide
          have y1 : -(2 ^ 64) < Int.fmod cell 2147483629 ∧ Int.fmod cell 2147483629 < 2 ^ 64 := by omega
          have y2 : -(2 ^ 64) < t ∧ t < 2 ^ 64 := by omega
          refine ⟨.int cell, rfl, .inl ⟨cell, rfl, cell, 2147483629, rfl, rfl, z1, _, 48271, rfl, rfl, .inl y1, .int t, rfl, 69621, t, rfl, rfl, .inr y2, .int t, rfl, _, t, rfl, rfl, .inr y2, _, _, rfl, rfl, .int t, rfl, 59, t, rfl, rfl, .inr y2, _, _, rfl, rfl, _, 11, rfl, rfl, ?_⟩⟩
          have g2 := g (Int.fmod cell 2147483629 * 48271 + 69621 * t * t + 59 * t + 11) 2147483647 (by decide)
          refine ⟨_, rfl, .inl ⟨_, rfl, _, 2147483647, rfl, rfl, z2, ?_⟩⟩
          have y3 : -(2 ^ 64) < Int.fmod (Int.fmod cell 2147483629 * 48271 + 69621 * t * t + 59 * t + 11) 2147483647 ∧ Int.fmod (Int.fmod cell 2147483629 * 48271 + 69621 * t * t + 59 * t + 11) 2147483647 < 2 ^ 64 := by omega
          refine ⟨_, rfl, _, rfl, _, 40014, rfl, rfl, _, _, rfl, rfl, .inl y3, .inl ⟨_, rfl, _, 2147483587, rfl, rfl, z3, ?_⟩⟩
          have g3 := fun x => g x 2147483587 (by decide)
          have y4 : ∀ x, -(2 ^ 64) < Int.fmod x 2147483587 ∧ Int.fmod x 2147483587 < 2 ^ 64 := fun x => by
            have := g3 x
            omega
          refine ⟨_, rfl, _, rfl, _, _, rfl, rfl, .inl (y4 _), .inl ⟨_, rfl, _, 2147483563, rfl, rfl, z4, _, 64, rfl, rfl, ⟨by decide, by decide⟩, .inl ⟨_, rfl, .int m, rfl, _, m, rfl, rfl, hmne, ?_⟩⟩⟩
          exact q _ _ (f0 _) (f1 _) ⟨ns, t + 1, l, ⟨hd3, hc3, hlen, by omega⟩, by omega⟩ b3
end

section
variable {P : Program} {w : World} {K : PySem.W.Frag} {mg : Str → Option Value} {base : Heap} {a : Ad}
/-- a pick: some item of the list -/
def spPick (K : PySem.W.Frag) : Sp := fun vs H Q _ => ∃ (d c s : Addr) (n : Nat) (xs : List V), vs = [.ref d, .ref s] ∧ Pen H d c n ∧ n < 2 ^ 40 ∧ SqL K H s xs ∧ 0 < xs.length ∧ xs.length ≤ 100000 ∧
  ∀ v H', v ∈ xs → Pen H' d c (n + 1) → But d H H' → Q v H'
theorem ok__law_pick (T : Tx w K mg a) : FnOk P w K mg base CX0 2 a.f__law_pick a.d__law_pick ["pen", "some"] (spPick K) := by
  refine T.F__law_pick.ok sc__law_pick (fun vs H Q E h => ?_) (fun cdv A outer s H vs Q E hr h => ?_)
  · obtain ⟨d, c, s, n, xs, rfl, _⟩ := h
    rfl
  · obtain ⟨d, c, s, n, xs, rfl, hp, hn, hs, h0, h1, q⟩ := h
    obtain ⟨kvs, hd⟩ := hp.dict
    refine ⟨_, 
(pss_one (ps_ret (pe_ix ix_list (pv 1) (pe_call (ok__law_draw T) hr (by rfl) T.m__law_draw T.F__law_draw.kp T.b__law_draw .nil pass0 (pa_cons (pv 0) (pa_cons (pe_callB call_len_seq (by rfl) T.z_len PySem.boot_len (pa_cons (pv 1) pa_nil)) pa_nil))) (fun _ _ => rfl)))), ?_⟩
    refine ⟨.ref s, rfl, .ref d, rfl, .ref s, rfl, s, _, rfl, .inl hs, d, c, n, _, rfl, hp, hn, by omega, ?_, fun v H' v0 v1 hp' hb => ?_⟩
    · have : ((100000 : Nat) : Int) < 2 ^ 200 := by decide
      omega
    · refine ⟨s, xs, v, xs[v.toNat]'(by omega), rfl, rfl, hb.seq hd hs, ?_, q _ _ (List.getElem_mem _) hp' hb⟩
      have e : (v.toNat : Int) = v := by omega
      have z : atI xs (v.toNat : Int) = some (xs[v.toNat]'(by omega)) := atI_nat (List.getElem?_eq_getElem (by omega))
      rw [e] at z
      exact z
end

/-! ### a list or a tuple: walked, enumerated -/
def SqA (K : PySem.W.Frag) (H : Hp) (p : Addr) (xs : List V) : Prop := SqL K H p xs ∨ SqT K H p xs
theorem SqA.len {K : PySem.W.Frag} {H : Hp} {p : Addr} {xs : List V} (h : SqA K H p xs) : SqL K H p xs ∨ SqT K H p xs := h
theorem Same.seqT {K : PySem.W.Frag} {H H' : Hp} {p : Addr} {xs : List V} (e : Same H H') (h : SqT K H p xs) : SqT K H' p xs := by
  rcases h with (h | ⟨o, h⟩) | h
  · exact .inl (.inl (e _ _ h))
  · exact .inl (.inr ⟨o, e _ _ h⟩)
  · exact .inr h
theorem SqA.same {K : PySem.W.Frag} {H H' : Hp} {p : Addr} {xs : List V} (h : SqA K H p xs) (e : Same H H') : SqA K H' p xs := h.elim (fun q => .inl (e.seq q)) fun q => .inr (Same.seqT e q)
def iSeq (K : PySem.W.Frag) (tl : TE) : TI := fun σ H R => tl σ H fun x H1 => ∃ p xs, x = .ref p ∧ ((SqL K H1 p xs ∧ R (Itl K p) H1) ∨ (SqT K H1 p xs ∧ R (Itt K p) H1))
theorem pi_seq {X : Cx} {tg l : Expr} {tl : TE} (hl : PE X l tl) : PI X tg l (iSeq X.K tl) := by
  constructor
  intro pins s σ H R I h
  apply thn (hl.run pins s σ H _ I h)
  rintro v s1 ⟨x, H1, I1, r1, p, xs, rfl, hq⟩
  cases r1
  rcases hq with ⟨hq, q⟩ | ⟨hq, q⟩
  · obtain ⟨its, _, z, _⟩ := I1.list hq
    exact wpAny_pyIter_list z.isList (pi_one (tk := s1.toks) I1 _ (turn_list p _) ⟨_, Heap.get?_push_size _ rfl, rfl, rfl⟩ q)
  · obtain ⟨its, _, z, _⟩ := I1.tuple hq
    exact wpAny_pyIter_tuple (show s1.heap.IsTuple p its.toArray from z) (pi_one (tk := s1.toks) I1 _ (turn_tuple p _) ⟨_, Heap.get?_push_size _ rfl, rfl, rfl⟩ q)
/-- enumerate over a tuple -/
def IteT (K : PySem.W.Frag) (p : Addr) : It where
  go := fun i H => ∃ (xs : List V) (x : V), SqT K H p xs ∧ xs[i]? = some x
  yld := fun i H v H' => ∃ q x, v = .ref q ∧ H q = none ∧ H' = upd H q (.tup [.int (i : Nat), x]) ∧ ∀ xs, SqT K H p xs → xs[i]? = some x
  stop := fun i H => ∃ xs : List V, SqT K H p xs ∧ xs.length = i
theorem turn_enumT {P : Program} {w : World} {K : PySem.W.Frag} {elts : List Expr} {kk : Nat} {tpos : Pos} (p e it : Addr) :
    Turn P w K (.Tuple elts kk tpos) (IteT K p) [e, it] e (fun i h => (∃ old, IsEnum h e it ((i : Nat) : Int) old) ∧ h.IsTupleIter it p i ∧ e ≠ it) where
  mem := List.mem_cons_self ..
  obj := by
    rintro i h ⟨⟨old, he⟩, ⟨o, ho, hc, hd⟩, _⟩ b hb
    simp only [List.mem_cons, List.not_mem_nil, or_false] at hb
    rcases hb with rfl | rfl
    · exact ⟨_, he, fun v q => nomatch q⟩
    · exact ⟨o, ho, fun v q => by rw [hd] at q; cases q⟩
  keep := by
    rintro i h h' ⟨⟨old, he⟩, hi, hne⟩ k
    exact ⟨⟨old, k e (by simp) _ he⟩, hi.at fun o q => k it (by simp) o q, hne⟩
  item := by
    rintro X rfl rfl rfl hc i pins s σ H E I hf ⟨⟨old, he⟩, hit, hne⟩ ⟨xs, x, hq, hx⟩
    obtain ⟨its, rv, z, hz⟩ := I.tuple hq
    obtain ⟨u, hu, ru⟩ := rv.get hx
    have hel : e < s.heap.objs.size := Heap.lt_size he
    have hil : it < s.heap.objs.size := by
      obtain ⟨_, q, _⟩ := hit
      exact Heap.lt_size q
    have hpe : e ≠ p := fun q => by
      obtain ⟨o, ho, hc1, _⟩ := (show s.heap.IsTuple p its.toArray from z)
      rw [← q] at ho
      rw [Option.some.inj (ho.symm.trans he)] at hc1
      injection hc1 with hc1
      exact absurd hc1 (by decide)
    have hpi : p ≠ it := fun q => by
      obtain ⟨o, ho, hc1, _⟩ := (show s.heap.IsTuple p its.toArray from z)
      obtain ⟨o2, ho2, hc2, _⟩ := hit
      rw [q] at ho
      rw [Option.some.inj (ho.symm.trans ho2), hc2] at hc1
      injection hc1 with hc1
      exact absurd hc1 (by decide)
    have D := Draws.tuple (prog := X.prog) (w := X.w) (A := X.A.in1) (I.ok.hd hc) it p hpi its.toArray
    have hlt : i < its.toArray.size := by
      have := (List.getElem?_eq_some_iff.mp hu).1
      simpa using this
    refine wpAny_pyNext_enum_itemD (i := i) D he ⟨hit, z⟩ hlt hne (by simp [hne, hpe]) ?_
    intro v h' tk hv ho hst' hT hsz hk
    have ev : v = u := by
      have h1 : its[i]? = some v := by simpa using hv
      exact Option.some.inj (h1.symm.trans hu)
    subst ev
    refine ⟨_, rfl, wpAny_letOwnedTupleGo_enum (s := { s with heap := h', toks := tk + 1 }) ho ?_⟩
    intro h'' he' sb
    have hT2 : h''.get? s.heap.objs.size = some { cls := .type "tuple", data := .seq #[.int i tk, v] } := (sb.2 _ (Nat.ne_of_gt hel)).trans hT
    have new : ObjOk X.prog X.w (upd H s.heap.objs.size (.tup [.int (i : Nat), x])) h'' s.heap.objs.size (.tup [.int (i : Nat), x]) :=
      ⟨(by decide : 2 ≤ sizeLine), [.int i tk, v], .cons ⟨_, rfl⟩ (.cons ru .nil), _, hT2, rfl, _, rfl⟩
    have I1 : Inv X pins σ (upd H s.heap.objs.size (.tup [.int (i : Nat), x])) { s with heap := h'', toks := tk + 1 } := by
      refine I.turnedNew (ch := [e, it]) (fun b ob hb q => ?_) hf (Nat.le_refl _) new
      have n1 : b ≠ e := fun y => hb (by simp [y])
      have n2 : b ≠ it := fun y => hb (by simp [y])
      exact (sb.2 b n1).trans (hk b ob n1 n2 q)
    refine ⟨.ref s.heap.objs.size, _, I1, rfl, ⟨_, x, rfl, I.hok.fresh (Nat.le_refl _), rfl, fun ys hy => ?_⟩, ⟨⟨v, ?_⟩, hst'.1.at fun o q => (sb.2 it hne.symm).trans q, hne⟩, fun b hb => ?_⟩
    · rw [I.tuple_inj hy hq]
      exact hx
    · rw [show ((i + 1 : Nat) : Int) = (i : Int) + 1 by omega]
      exact he'
    · have hb' : b < s.heap.objs.size := by
        simp only [List.mem_cons, List.not_mem_nil, or_false] at hb
        rcases hb with rfl | rfl
        · exact hel
        · exact hil
      rw [upd_ne (Nat.ne_of_lt hb')]
      exact (hf b hb).1
  done := by
    rintro X rfl rfl rfl hc i pins s σ H E I hf ⟨⟨old, he⟩, hit, hne⟩ ⟨xs, hq, hx⟩
    obtain ⟨its, rv, z, hz⟩ := I.tuple hq
    obtain ⟨f0, f1, f2, f3, f4, f5⟩ := hf it (by simp)
    have hl := rv.length
    have hpi : p ≠ it := fun q => by
      obtain ⟨o, ho, hc1, _⟩ := (show s.heap.IsTuple p its.toArray from z)
      obtain ⟨o2, ho2, hc2, _⟩ := hit
      rw [q] at ho
      rw [Option.some.inj (ho.symm.trans ho2), hc2] at hc1
      injection hc1 with hc1
      exact absurd hc1 (by decide)
    have D := Draws.tuple (prog := X.prog) (w := X.w) (A := X.A.in1) (I.ok.hd hc) it p hpi its.toArray
    have ei : i = its.toArray.size := by
      simp only [List.size_toArray]
      omega
    subst ei
    exact wpAny_pyNext_enum_endD D he ⟨hit, z⟩ fun h' eb => ⟨rfl, I.turned (t' := s.toks) (fun b o hb e => eb b o hb e) f0 f1 f3 f4 f5⟩
  self := by
    rintro A i s Q E ⟨⟨_, he⟩, _⟩ h
    exact wpAny_pyIter_enum he h
theorem meets_enum0 {v : Value} {o : Obj} {Hh : Heap → Prop} (B : Begins v o Hh) :
    Meets (Builtin.«enumerate.__new__» ⟨[.type "enumerate", v], []⟩) (fun _ R s => Hh s.heap ∧
      R (.ok (.ret (.ref (s.heap.push o).objs.size))) { s with heap := (s.heap.push o).push { cls := .type "enumerate", data := .fields #[.none, .bool false, .ref s.heap.objs.size, rawInt 0, .none, .none] } }) := by
  refine .of_wp ?_
  rintro prog w A R ⟨hp, g, d, tk, os⟩ ⟨h1, h⟩
  have hsb := sub_enumerate
  have q1 : ∀ {A' : Around} {E : Value → Shared → Prop} {Q : Value → Shared → Prop}, Q (.ref hp.objs.size) ⟨hp.push o, g, d, tk, os⟩ → wpAny (model prog w) A' (pyIter v) Q E ⟨hp, g, d, tk, os⟩ := by
    intro A' E Q q
    exact B.iter prog w _ _ ⟨hp, g, d, tk, os⟩ _ h1 q
  wp_walk using q1
  refine wpAny_stack_any fun st => wpAny_pure ?_
  split
  · rename_i c _ _ _ _ _
    cases (c == Value.type "enumerate") <;> (wp_walk using q1; exact ⟨_, rfl, h⟩)
  · wp_walk using q1
    exact ⟨_, rfl, h⟩
theorem call_enum0 {prog : Program} {w : World} {A : Around} {E : Value → Shared → Prop} {s : Shared} {v : Value} {o : Obj} {Hh : Heap → Prop} {Q : Value → Shared → Prop} (B : Begins v o Hh) (h1 : Hh s.heap)
    (h : ∀ h', IsEnum h' (s.heap.objs.size + 1) s.heap.objs.size 0 .none → h'.get? s.heap.objs.size = some o → h'.objs.size = s.heap.objs.size + 2 → (∀ b u, s.heap.get? b = some u → h'.get? b = some u) → Q (.ref (s.heap.objs.size + 1)) { s with heap := h' }) :
    wpAny (model prog w) A (call (.type "enumerate") [v]) Q E s := by
  have hz : (s.heap.push o).objs.size = s.heap.objs.size + 1 := by rw [Heap.size_push]
  refine callType_new F.called_enumerate (by decide) (F.typeCall_enumerate_1 _) (F.newCall_enumerate_1 _) (fun obj => F.args_object_init_2 obj _) F.entry_enumerate_new (meets_enum0 B) ⟨h1, ?_⟩
  have key : IsEnum ((s.heap.push o).push { cls := .type "enumerate", data := .fields #[.none, .bool false, .ref s.heap.objs.size, rawInt 0, .none, .none] }) (s.heap.push o).objs.size s.heap.objs.size 0 .none := Heap.get?_push_size _ rfl
  show _ ∧ _
  rw [hz] at key ⊢
  exact ⟨⟨_, key, rfl⟩, h _ key (Heap.get?_push_of_some _ (Heap.get?_push_size _ B.free)) (by rw [Heap.size_push, hz]) fun b u x => Heap.get?_push_of_some _ (Heap.get?_push_of_some _ x)⟩
def iEnS (K : PySem.W.Frag) (ta : TA) : TI := fun σ H R => ta σ H fun vs H1 => ∃ p xs, vs = [.ref p] ∧ ((SqL K H1 p xs ∧ R (Ite K p) H1) ∨ (SqT K H1 p xs ∧ R (IteT K p) H1))
theorem pi_enumS {X : Cx} {e : Expr} {ta : TA} {p pos tpos : Pos} {elts : List Expr} {kk : Nat} (hg : Gl X "enumerate") (hm : X.mg "enumerate" = none) (ha : PA X [e] ta) (hs : starEach [e] X.env = [(false, eval e X.env)] := by rfl) :
    PI X (.Tuple elts kk tpos) (.Call (.Name "enumerate" p) [e] [] pos) (iEnS X.K ta) := by
  constructor
  intro pins s σ H R I h
  refine Call_ (ld_blt I hg hm boot_enumerate (PyProof.Rows.callWith_type1 (thn (ha.run pos pins s σ H _ I h) ?_) hs rfl))
  rintro us s1 ⟨vs, H1, I1, r1, q0, xs, rfl, hq⟩
  cases r1 with
  | cons r rr =>
    cases rr
    cases r
    have fp : ∀ b ∈ [s1.heap.objs.size + 1, s1.heap.objs.size], FpOk X pins H1 b := by
      intro b hb
      simp only [List.mem_cons, List.not_mem_nil, or_false] at hb
      have hle : s1.heap.objs.size ≤ b := by
        rcases hb with rfl | rfl
        · exact Nat.le_add_right _ _
        · exact Nat.le_refl _
      exact I1.fpOk hle (I1.hok.fresh hle)
    rcases hq with ⟨hq, q⟩ | ⟨hq, q⟩
    · obtain ⟨its, _, z, _⟩ := I1.list hq
      refine call_enumerate_list z.isList ?_
      intro h' he hit hsz hk
      exact wpAny_pyIter_enum he ⟨s1.heap.objs.size + 1, [s1.heap.objs.size + 1, s1.heap.objs.size], _, _, H1, rfl, I1.kept (t' := s1.toks) hk, turn_enum q0 (s1.heap.objs.size + 1) s1.heap.objs.size, ⟨⟨.none, he⟩, hit, Nat.succ_ne_self _⟩, fp, q⟩
    · obtain ⟨its, _, z, _⟩ := I1.tuple hq
      refine call_enum0 (begins_tuple q0 its.toArray) z ?_
      intro h' he hit hsz hk
      exact wpAny_pyIter_enum he ⟨s1.heap.objs.size + 1, [s1.heap.objs.size + 1, s1.heap.objs.size], _, _, H1, rfl, I1.kept (t' := s1.toks) hk, turn_enumT q0 (s1.heap.objs.size + 1) s1.heap.objs.size, ⟨⟨.none, he⟩, ⟨_, hit, rfl, rfl⟩, Nat.succ_ne_self _⟩, fp, q⟩
theorem walk_enumT {K : PySem.W.Frag} {p : Addr} {xs : List V} : Walk (IteT K p) xs.length (fun H => SqT K H p xs) (YPair (fun i => some (.int (i : Nat))) (fun i => xs[i]?)) where
  goes := fun i H hi h => ⟨xs, xs[i], h, List.getElem?_eq_getElem hi⟩
  stops := fun H h => ⟨xs, h, rfl⟩
  yields := by
    rintro i H v H' hi h ⟨q, x, rfl, hn, rfl, hx⟩
    exact ⟨q, _, x, rfl, hn, rfl, rfl, hx xs h⟩

/-! ### questions about values -/
/-- whether a value is an int that is no bool, as isinstance tells it -/
inductive IsI (H : Hp) : V → Bool → Prop where
  | int (i : Int) : IsI H (.int i) true
  | non : IsI H .non false
  | bl (b : Bool) : IsI H (.bl b) false
  | str (z : Str) : IsI H (.str z) false
  | tup {p : Addr} {xs : List V} (e : H p = some (.tup xs)) : IsI H (.ref p) false
  | lst {p : Addr} {xs : List V} (e : H p = some (.lst xs)) : IsI H (.ref p) false
theorem IsI.same {H H' : Hp} {x : V} {b : Bool} (h : IsI H x b) (e : Same H H') : IsI H' x b := by
  cases h with
  | int i => exact .int i
  | non => exact .non
  | bl b => exact .bl b
  | str z => exact .str z
  | tup q => exact .tup (e _ _ q)
  | lst q => exact .lst (e _ _ q)
section
variable {P : Program} {w : World} {K : PySem.W.Frag} {mg : Str → Option Value} {base : Heap} {a : Ad}
def spIsInteger : Sp := fun vs H Q _ => ∃ x b, vs = [x] ∧ IsI H x b ∧ Q (.bl b) H
theorem ok_is_integer (T : Tx w K mg a) : FnOk P w K mg base CX0 1 a.f_is_integer a.d_is_integer ["value"] spIsInteger := by
  refine T.F_is_integer.ok sc_is_integer (fun vs H Q E h => ?_) (fun cdv A outer s H vs Q E hr h => ?_)
  · obtain ⟨x, b, rfl, _⟩ := h
    rfl
  · obtain ⟨x, b, rfl, hb, q⟩ := h
    refine ⟨_, 
(pss_one (ps_ret (pe_and (pe_callB call_isi (by rfl) T.z_isinstance (by decide +kernel) (pa_cons (pv 0) (pa_cons (pe_bltn (v := .ty "int") (by rfl) T.z_int (by decide +kernel) rfl) pa_nil))) (pe_one (pe_not (pe_callB call_isi (by rfl) T.z_isinstance (by decide +kernel) (pa_cons (pv 0) (pa_cons (pe_bltn (v := .ty "bool") (by rfl) T.z_bool (by decide +kernel) rfl) pa_nil)))))))), ?_⟩
    refine ⟨x, rfl, ?_⟩
    cases hb with
    | int i => exact ⟨_, _, _, _, true, rfl, .ty "int", .base (.int i), kit_ty (by decide +kernel), true, rfl, iteT ⟨_, rfl, _, _, _, _, false, rfl, .ty "bool", .base (.int i), kit_ty (by decide +kernel), _, rfl, q⟩⟩
    | non => exact ⟨_, _, _, _, false, rfl, .ty "int", .base .non, kit_ty (by decide +kernel), false, rfl, iteF q⟩
    | str z => exact ⟨_, _, _, _, false, rfl, .ty "int", .base (.str z), kit_ty (by decide +kernel), false, rfl, iteF q⟩
    | tup e => exact ⟨_, _, _, _, false, rfl, .ty "int", .base (.tup e), kit_ty (by decide +kernel), false, rfl, iteF q⟩
    | lst e => exact ⟨_, _, _, _, false, rfl, .ty "int", .base (.lst e), kit_ty (by decide +kernel), false, rfl, iteF q⟩
    | bl b => exact ⟨_, _, _, _, true, rfl, .ty "int", .base (.bl b), kit_ty (by decide +kernel), true, rfl, iteT ⟨_, rfl, _, _, _, _, true, rfl, .ty "bool", .base (.bl b), kit_ty (by decide +kernel), _, rfl, q⟩⟩
def frM (lo : Int) : V → Bool
  | .int i => decide (lo ≤ i)
  | _ => false
def spIsFrom : Sp := fun vs H Q _ => ∃ x b lo, vs = [x, .int lo] ∧ IsI H x b ∧ Q (.bl (frM lo x)) H
theorem ok_is_from (T : Tx w K mg a) : FnOk P w K mg base CX0 2 a.f_is_from a.d_is_from ["value", "low"] spIsFrom := by
  refine T.F_is_from.ok sc_is_from (fun vs H Q E h => ?_) (fun cdv A outer s H vs Q E hr h => ?_)
  · obtain ⟨x, b, lo, rfl, _⟩ := h
    rfl
  · obtain ⟨x, b, lo, rfl, hb, q⟩ := h
    refine ⟨_, 
(pss_one (ps_ret (pe_and (pe_call (ok_is_integer T) hr (by rfl) T.m_is_integer T.F_is_integer.kp T.b_is_integer .nil pass0 (pa_cons (pv 0) pa_nil)) (pe_one (pe_cmpR op_le (pv 1) (pv 0) (nomark _)))))), ?_⟩
    refine ⟨x, rfl, x, b, rfl, hb, b, rfl, ?_⟩
    cases hb with
    | int i => exact iteT ⟨_, rfl, _, rfl, lo, i, rfl, rfl, q⟩
    | non => exact iteF q
    | str z => exact iteF q
    | tup e => exact iteF q
    | lst e => exact iteF q
    | bl b => exact iteF q
def btM (lo hi : Int) : V → Bool
  | .int i => decide (lo ≤ i) && decide (i ≤ hi)
  | _ => false
def spIsBetween : Sp := fun vs H Q _ => ∃ x b lo hi, vs = [x, .int lo, .int hi] ∧ IsI H x b ∧ Q (.bl (btM lo hi x)) H
theorem ok_is_between (T : Tx w K mg a) : FnOk P w K mg base CX0 2 a.f_is_between a.d_is_between ["value", "low", "high"] spIsBetween := by
  refine T.F_is_between.ok sc_is_between (fun vs H Q E h => ?_) (fun cdv A outer s H vs Q E hr h => ?_)
  · obtain ⟨x, b, lo, hi, rfl, _⟩ := h
    rfl
  · obtain ⟨x, b, lo, hi, rfl, hb, q⟩ := h
    refine ⟨_, 
(pss_one (ps_ret (pe_and (pe_call (ok_is_integer T) hr (by rfl) T.m_is_integer T.F_is_integer.kp T.b_is_integer .nil pass0 (pa_cons (pv 0) pa_nil)) (pe_one (pe_chain op_le op_le (pv 1) (pv 0) (pv 2)))))), ?_⟩
    refine ⟨x, rfl, x, b, rfl, hb, b, rfl, ?_⟩
    cases hb with
    | int i =>
      refine iteT ⟨_, rfl, _, rfl, lo, i, rfl, rfl, _, rfl, ?_⟩
      by_cases h1 : lo ≤ i
      · rw [decide_eq_true h1]
        refine iteT ⟨_, rfl, i, hi, rfl, rfl, ?_⟩
        have e : btM lo hi (.int i) = decide (i ≤ hi) := by simp [btM, h1]
        rw [e] at q
        exact q
      · rw [decide_eq_false h1]
        have e : btM lo hi (.int i) = false := by simp [btM, h1]
        rw [e] at q
        exact iteF q
    | non => exact iteF q
    | str z => exact iteF q
    | tup e => exact iteF q
    | lst e => exact iteF q
    | bl b => exact iteF q
end

/-! ### place words -/
def figs : List V := [.str "1", .str "2", .str "3", .str "4", .str "5", .str "6", .str "7", .str "8", .str "9"]
def fronts4 : List V := [.str "", .str "-", .str "half-", .str "half+"]
def figM (fr : List V) (z : Str) : Bool := inV (.str (cutS z none (some (-1)))) fr && inV (.str (cutS z (some (-1)) none)) figs
def ipM (z : Str) : Bool := inV (.str z) [.str "0", .str "half"] || figM fronts4 z
/-- the 38 place words, by their numbers -/
def wt : List Str := (["0", "1", "2", "3", "4", "5", "6", "7", "8", "9", "-1", "-2", "-3", "-4", "-5", "-6", "-7", "-8", "-9", "half", "half+1", "half+2", "half+3", "half+4", "half+5", "half+6", "half+7", "half+8", "half+9", "half-1", "half-2", "half-3", "half-4", "half-5", "half-6", "half-7", "half-8", "half-9"] : List String).map Str.ofString
/-- from where a place word counts (0: the front, 1: the end, 2: the middle), and how far -/
def poM (z : Str) : Option (Nat × Int) :=
  if z = "half" then some (2, 0)
  else if Txt.startswith z "half" then (PySem.intText? (Txt.removeprefix z "half")).map fun n => (2, n)
  else if Txt.startswith z "-" then (PySem.intText? z).map fun n => (1, n)
  else (PySem.intText? z).map fun n => (0, n)
def plB (b : Nat) (k : Int) : Int := if b = 2 then k.fdiv 2 else if b = 1 then k else 0
def plV (z : Str) (k : Int) : Int := match poM z with
  | some (b, n) => plB b k + n
  | none => 0
/-- what a law reckons of a place word -/
def loM (z : Str) : Option (Nat × Int) :=
  if cutS z none (some 4) = "half" then (if z = "half" then some (2, 0) else (PySem.intText? (cutS z (some 4) none)).map fun n => (2, n))
  else if cutS z none (some 1) = "-" then (PySem.intText? z).map fun n => (1, n)
  else (PySem.intText? z).map fun n => (0, n)
def chkW (z : Str) : Bool := (poM z).isSome && decide (z.length ≤ 100) && decide ((Txt.removeprefix z "half").length ≤ 100) && ipM z && decide (loM z = poM z) && decide ((cutS z (some 4) none).length ≤ 100) && decide (32 ∉ z.cps.toList) && PyData.strOk z
theorem wt_all : wt.all chkW = true := by decide +kernel
theorem wt_chk {z : Str} (h : z ∈ wt) : (poM z).isSome = true ∧ z.length ≤ 100 ∧ (Txt.removeprefix z "half").length ≤ 100 ∧ ipM z = true ∧ loM z = poM z ∧ (cutS z (some 4) none).length ≤ 100 ∧ 32 ∉ z.cps.toList ∧ PyData.strOk z = true := by
  have e := List.all_eq_true.mp wt_all z h
  simp only [chkW, Bool.and_eq_true, decide_eq_true_eq] at e
  obtain ⟨⟨⟨⟨⟨⟨⟨h1, h2⟩, h3⟩, h4⟩, h5⟩, h6⟩, h7⟩, h8⟩ := e
  exact ⟨h1, h2, h3, h4, h5, h6, h7, h8⟩
section
variable {P : Program} {w : World} {K : PySem.W.Frag} {mg : Str → Option Value} {base : Heap} {a : Ad}
def spFig (K : PySem.W.Frag) : Sp := fun vs H Q _ => ∃ p fr z, vs = [.ref p, .str z] ∧ SqT K H p fr ∧ fr.all flatV = true ∧ z.length ≤ sizeLine ∧ Q (.bl (figM fr z)) H
theorem ok_is_figure_behind (T : Tx w K mg a) : FnOk P w K mg base CX0 1 a.f_is_figure_behind a.d_is_figure_behind ["fronts", "text"] (spFig K) := by
  refine T.F_is_figure_behind.ok sc_is_figure_behind (fun vs H Q E h => ?_) (fun cdv A outer s H vs Q E hr h => ?_)
  · obtain ⟨p, fr, z, rfl, _⟩ := h
    rfl
  · obtain ⟨p, fr, z, rfl, hp, hf, hz, q⟩ := h
    refine ⟨_, 
(pss_one (ps_ret (pe_and (pe_cmpR op_in_seq (pe_slice sl_str (pv 1) po_none (po_some (pe_un un_neg pe_int))) (pv 0) (by rfl)) (pe_one (pe_cmpR op_in_seq (pe_slice sl_str (pv 1) (po_some (pe_un un_neg pe_int)) po_none) (pe_glob (v := .ref a.a_FIGURES) (by rfl) T.m_FIGURES rfl) (by rfl)))))), ?_⟩
    refine ⟨.str z, rfl, 1, rfl, -1, rfl, z, rfl, hz, .ref p, rfl, p, fr, rfl, .inr hp, rfl, hf, _, rfl, ?_⟩
    show if (inV (.str (cutS z none (some (-1)))) fr) = true then _ else _
    unfold figM at q
    by_cases h1 : inV (.str (cutS z none (some (-1)))) fr = true
    · rw [h1] at q ⊢
      exact ⟨.str z, rfl, 1, rfl, -1, rfl, z, rfl, hz, a.a_FIGURES, figs, rfl, .inr (T.q_FIGURES H), rfl, rfl, q⟩
    · rw [Bool.not_eq_true] at h1
      rw [h1] at q ⊢
      exact q
def spIsPlaceWord : Sp := fun vs H Q _ => ∃ z : Str, vs = [.str z] ∧ z.length ≤ sizeLine ∧ ∀ H', Same H H' → Q (.bl (ipM z)) H'
theorem ok_is_place_word (T : Tx w K mg a) : FnOk P w K mg base CX0 2 a.f_is_place_word a.d_is_place_word ["text"] spIsPlaceWord := by
  refine T.F_is_place_word.ok sc_is_place_word (fun vs H Q E h => ?_) (fun cdv A outer s H vs Q E hr h => ?_)
  · obtain ⟨z, rfl, _⟩ := h
    rfl
  · obtain ⟨z, rfl, hz, q⟩ := h
    refine ⟨_, 
(pss_one (ps_ret (pe_or (pe_cmpR op_in_seq (pv 0) (pe_tup (pa_cons pe_str (pa_cons pe_str pa_nil))) (by rfl)) (pe_one (pe_call (ok_is_figure_behind T) hr (by rfl) T.m_is_figure_behind T.F_is_figure_behind.kp T.b_is_figure_behind .nil pass0 (pa_cons (pe_glob (v := .ref a.a_PLACE_FRONTS) (by rfl) T.m_PLACE_FRONTS rfl) (pa_cons (pv 0) pa_nil))))))), ?_⟩
    refine ⟨.str z, rfl, (show 2 ≤ sizeLine by decide), fun p hp => ?_⟩
    have s1 : Same H (upd H p (.tup [.str "0", .str "half"])) := same_upd hp
    refine ⟨p, [.str "0", .str "half"], rfl, .inr (SqT.at upd_same), rfl, rfl, _, rfl, ?_⟩
    show if (inV (.str z) [.str "0", .str "half"]) = true then _ else _
    unfold ipM at q
    by_cases h1 : inV (.str z) [.str "0", .str "half"] = true
    · rw [h1] at q ⊢
      exact q _ s1
    · rw [Bool.not_eq_true] at h1
      rw [h1] at q ⊢
      exact ⟨.str z, rfl, a.a_PLACE_FRONTS, fronts4, z, rfl, T.q_PLACE_FRONTS _, rfl, hz, q _ s1⟩
def spPlaceOf : Sp := fun vs H Q _ => ∃ (z : Str) (k : Int), vs = [.str z, .int k] ∧ z ∈ wt ∧ Q (.int (plV z k)) H
theorem ok_place_of (T : Tx w K mg a) : FnOk P w K mg base CX0 1 a.f_place_of a.d_place_of ["word", "size"] spPlaceOf := by
  refine T.F_place_of.ok sc_place_of (fun vs H Q E h => ?_) (fun cdv A outer s H vs Q E hr h => ?_)
  · obtain ⟨z, k, rfl, _⟩ := h
    rfl
  · obtain ⟨z, k, rfl, hw, q⟩ := h
    obtain ⟨hp, hz, hrp, _⟩ := wt_chk hw
    refine ⟨_, 
(pss_cons (ps_if (pt_cmpR op_eq (pv 0) pe_str (nomark _))
  (pss_one (ps_ret (pe_op op_fdivN (pv 1) pe_int)))
  pss_nil)
  (pss_cons (ps_if (pt_val (pe_bm PySem.F.plainAttrs_str PySem.F.slot_str_startswith PySem.F.type_str_startswith mt_startswith (pv 0) (pa_cons pe_str pa_nil)))
  (pss_one (ps_ret (pe_op op_add (pe_op op_fdivN (pv 1) pe_int) (pe_callTy call_int_str (by rfl) T.z_int (by decide +kernel) (pa_cons (pe_bm PySem.F.plainAttrs_str PySem.F.slot_str_removeprefix PySem.F.type_str_removeprefix mt_removeprefix (pv 0) (pa_cons pe_str pa_nil)) pa_nil)))))
  pss_nil)
  (pss_cons (ps_if (pt_val (pe_bm PySem.F.plainAttrs_str PySem.F.slot_str_startswith PySem.F.type_str_startswith mt_startswith (pv 0) (pa_cons pe_str pa_nil)))
  (pss_one (ps_ret (pe_op op_add (pv 1) (pe_callTy call_int_str (by rfl) T.z_int (by decide +kernel) (pa_cons (pv 0) pa_nil)))))
  pss_nil)
  (pss_one (ps_ret (pe_callTy call_int_str (by rfl) T.z_int (by decide +kernel) (pa_cons (pv 0) pa_nil))))))), ?_⟩
    unfold plV at q
    unfold poM at q hp
    refine ⟨.str z, rfl, rfl, _, rfl, ?_⟩
    by_cases h1 : z = "half"
    · rw [if_pos h1] at q
      rw [decide_eq_true (show V.str z = V.str "half" by rw [h1])]
      refine ⟨.int k, rfl, k, 2, rfl, rfl, ⟨by decide, by decide⟩, ?_⟩
      simpa [plB] using q
    · rw [if_neg h1] at q hp
      rw [decide_eq_false (show ¬ V.str z = V.str "half" from fun e => h1 (V.str.inj e))]
      refine ⟨.str z, rfl, rfl, z, "half", rfl, rfl, _, rfl, ?_⟩
      by_cases h2 : Txt.startswith z "half" = true
      · rw [if_pos h2] at q hp
        rw [h2]
        cases hn : PySem.intText? (Txt.removeprefix z "half") with
        | none =>
          rw [hn] at hp
          cases hp
        | some n =>
          rw [hn] at q
          refine ⟨.int k, rfl, k, 2, rfl, rfl, ⟨by decide, by decide⟩, .str z, rfl, rfl, z, "half", rfl, rfl, sz (by omega), _, n, rfl, hn, by omega, _, n, rfl, rfl, q⟩
      · rw [if_neg h2] at q hp
        rw [Bool.not_eq_true] at h2
        rw [h2]
        refine ⟨.str z, rfl, rfl, z, "-", rfl, rfl, _, rfl, ?_⟩
        cases hn : PySem.intText? z with
        | none =>
          rw [hn] at hp
          simp at hp
        | some n =>
          rw [hn] at q
          by_cases h3 : Txt.startswith z "-" = true
          · rw [if_pos h3] at q
            rw [h3]
            exact ⟨.int k, rfl, .str z, rfl, z, n, rfl, hn, by omega, k, n, rfl, rfl, q⟩
          · rw [if_neg h3] at q
            rw [Bool.not_eq_true] at h3
            rw [h3]
            refine ⟨.str z, rfl, z, n, rfl, hn, by omega, ?_⟩
            simpa [plB] using q
def spLawValue : Sp := fun vs H Q _ => ∃ (z : Str) (k : Int), vs = [.str z, .int k] ∧ z ∈ wt ∧ Q (.int (plV z k)) H
theorem ok__law_value (T : Tx w K mg a) : FnOk P w K mg base CX0 1 a.f__law_value a.d__law_value ["word", "k"] spLawValue := by
  refine T.F__law_value.ok sc__law_value (fun vs H Q E h => ?_) (fun cdv A outer s H vs Q E hr h => ?_)
  · obtain ⟨z, k, rfl, _⟩ := h
    rfl
  · obtain ⟨z, k, rfl, hw, q⟩ := h
    obtain ⟨hp, hz, hrp, _, hlo, hc, _⟩ := wt_chk hw
    refine ⟨_, 
(pss_cons (ps_if (pt_cmpR op_eq (pe_slice sl_str (pv 0) po_none (po_some pe_int)) pe_str (nomark _))
  (pss_one (ps_ret (pe_op op_add (pe_op op_fdivN (pv 1) pe_int) (pe_ifExp (pt_cmpR op_eq (pv 0) pe_str (nomark _)) pe_int (pe_callTy call_int_str (by rfl) T.z_int (by decide +kernel) (pa_cons (pe_slice sl_str (pv 0) (po_some pe_int) po_none) pa_nil))))))
  pss_nil)
  (pss_one (ps_ret (pe_ifExp (pt_cmpR op_ne (pe_slice sl_str (pv 0) po_none (po_some pe_int)) pe_str (nomark _)) (pe_callTy call_int_str (by rfl) T.z_int (by decide +kernel) (pa_cons (pv 0) pa_nil)) (pe_op op_add (pv 1) (pe_callTy call_int_str (by rfl) T.z_int (by decide +kernel) (pa_cons (pv 0) pa_nil))))))), ?_⟩
    unfold plV at q
    rw [← hlo] at q hp
    unfold loM at q hp
    have hz' : z.length ≤ sizeLine := sz (by omega)
    refine ⟨.str z, rfl, 4, rfl, z, rfl, hz', rfl, _, rfl, ?_⟩
    by_cases h1 : cutS z none (some 4) = "half"
    · rw [if_pos h1] at q hp
      rw [decide_eq_true (show V.str (cutS z none (some 4)) = V.str "half" by rw [h1])]
      refine ⟨.int k, rfl, k, 2, rfl, rfl, ⟨by decide, by decide⟩, .str z, rfl, rfl, _, rfl, ?_⟩
      by_cases h2 : z = "half"
      · rw [if_pos h2] at q
        rw [decide_eq_true (show V.str z = V.str "half" by rw [h2])]
        exact ⟨_, 0, rfl, rfl, by simpa [plB] using q⟩
      · rw [if_neg h2] at q hp
        rw [decide_eq_false (show ¬ V.str z = V.str "half" from fun e => h2 (V.str.inj e))]
        cases hn : PySem.intText? (cutS z (some 4) none) with
        | none =>
          rw [hn] at hp
          cases hp
        | some n =>
          rw [hn] at q
          exact ⟨.str z, rfl, 4, rfl, z, rfl, hz', _, n, rfl, hn, by omega, _, n, rfl, rfl, q⟩
    · rw [if_neg h1] at q hp
      rw [decide_eq_false (show ¬ V.str (cutS z none (some 4)) = V.str "half" from fun e => h1 (V.str.inj e))]
      cases hn : PySem.intText? z with
      | none =>
        rw [hn] at hp
        simp at hp
      | some n =>
        rw [hn] at q
        refine ⟨.str z, rfl, 1, rfl, z, rfl, hz', rfl, _, rfl, ?_⟩
        by_cases h2 : cutS z none (some 1) = "-"
        · rw [if_pos h2] at q
          rw [decide_eq_true (show V.str (cutS z none (some 1)) = V.str "-" by rw [h2])]
          exact ⟨.int k, rfl, .str z, rfl, z, n, rfl, hn, by omega, k, n, rfl, rfl, q⟩
        · rw [if_neg h2] at q
          rw [decide_eq_false (show ¬ V.str (cutS z none (some 1)) = V.str "-" from fun e => h2 (V.str.inj e))]
          refine ⟨.str z, rfl, z, n, rfl, hn, by omega, ?_⟩
          simpa [plB] using q
def spLawPlaceWord : Sp := fun vs H Q _ => ∃ (d c : Addr) (n : Nat), vs = [.ref d] ∧ Pen H d c n ∧ n < 2 ^ 40 ∧ ∀ z H', z ∈ wt → Pen H' d c (n + 1) → But d H H' → Q (.str z) H'
def lwM (k : Int) : Str := if k < 10 then toString k else if k < 19 then Str.append "-" (toString (k - 9)) else if k = 19 then "half" else if k < 29 then Str.append "half+" (toString (k - 19)) else Str.append "half-" (toString (k - 28))
theorem lw_wt : ∀ k : Fin 38, lwM ((k.val : Nat) : Int) ∈ wt := by decide +kernel
theorem num_len : ∀ i : Fin 40, (Str.ofString (toString ((i.val : Nat) : Int))).length ≤ 20 := by decide +kernel
theorem lg (i : Int) (h0 : 0 ≤ i) (h1 : i < 40) : i.natAbs.log2 < 1920 := by
  have : i.natAbs < 2 ^ 6 := by omega
  exact Nat.lt_of_lt_of_le (PySem.Flt.log2_lt_of (by decide) this) (by decide)
theorem ln (x : Str) (i : Int) (hx : x.length ≤ 20) (h0 : 0 ≤ i) (h1 : i < 40) : x.length + (Str.ofString (toString i)).length ≤ 100000 := by
  have e := num_len ⟨i.toNat, by omega⟩
  have e2 : ((i.toNat : Nat) : Int) = i := by omega
  rw [show (((⟨i.toNat, by omega⟩ : Fin 40).val : Nat) : Int) = i from e2] at e
  omega
theorem ok__law_place_word (T : Tx w K mg a) : FnOk P w K mg base CX0 2 a.f__law_place_word a.d__law_place_word ["pen"] spLawPlaceWord := by
  refine T.F__law_place_word.ok sc__law_place_word (fun vs H Q E h => ?_) (fun cdv A outer s H vs Q E hr h => ?_)
  · obtain ⟨d, c, n, rfl, _⟩ := h
    rfl
  · obtain ⟨d, c, n, rfl, hp, hn, q⟩ := h
    refine ⟨_, 
(pss_cons (ps_set (i := 1) sc__law_place_word.nd rfl (.inl rfl) (pe_call (ok__law_draw T) hr (by rfl) T.m__law_draw T.F__law_draw.kp T.b__law_draw .nil pass0 (pa_cons (pv 0) (pa_cons pe_int pa_nil))))
  (pss_cons (ps_if (pt_cmpR op_lt (pv 1) pe_int (nomark _))
  (pss_one (ps_ret (pe_callTy call_str_int (by rfl) T.z_str (by decide +kernel) (pa_cons (pv 1) pa_nil))))
  pss_nil)
  (pss_cons (ps_if (pt_cmpR op_lt (pv 1) pe_int (nomark _))
  (pss_one (ps_ret (pe_op op_add_str pe_str (pe_callTy call_str_int (by rfl) T.z_str (by decide +kernel) (pa_cons (pe_op op_sub (pv 1) pe_int) pa_nil)))))
  pss_nil)
  (pss_cons (ps_if (pt_cmpR op_eq (pv 1) pe_int (nomark _))
  (pss_one (ps_ret pe_str))
  pss_nil)
  (pss_one (ps_ret (pe_ifExp (pt_cmpR op_lt (pv 1) pe_int (nomark _)) (pe_op op_add_str pe_str (pe_callTy call_str_int (by rfl) T.z_str (by decide +kernel) (pa_cons (pe_op op_sub (pv 1) pe_int) pa_nil))) (pe_op op_add_str pe_str (pe_callTy call_str_int (by rfl) T.z_str (by decide +kernel) (pa_cons (pe_op op_sub (pv 1) pe_int) pa_nil)))))))))), ?_⟩
    refine ⟨.ref d, rfl, d, c, n, 38, rfl, hp, hn, by decide, by decide, fun k H1 k0 k1 hp1 hb => ?_⟩
    have q1 := fun z hz => q z H1 hz hp1 hb
    have hw : lwM k ∈ wt := by
      have e := lw_wt ⟨k.toNat, by omega⟩
      have e2 : ((k.toNat : Nat) : Int) = k := by omega
      rw [show (((⟨k.toNat, by omega⟩ : Fin 38).val : Nat) : Int) = k from e2] at e
      exact e
    have hq := q1 _ hw
    unfold lwM at hq
    refine ⟨.int k, rfl, k, 10, rfl, rfl, _, rfl, ite2 (fun e1 => ?_) (fun e1 => ?_)⟩
    · rw [if_pos (of_decide_eq_true e1)] at hq
      exact ⟨.int k, rfl, k, rfl, lg k k0 (by omega), hq⟩
    have e1' : ¬ k < 10 := fun z => e1 (decide_eq_true z)
    rw [if_neg e1'] at hq
    refine ⟨.int k, rfl, k, 19, rfl, rfl, _, rfl, ite2 (fun e2 => ?_) (fun e2 => ?_)⟩
    · rw [if_pos (of_decide_eq_true e2)] at hq
      have := of_decide_eq_true e2
      exact ⟨.int k, rfl, k, 9, rfl, rfl, k - 9, rfl, lg _ (by omega) (by omega), _, _, rfl, rfl, sz (ln _ _ (by decide) (by omega) (by omega)), hq⟩
    have e2' : ¬ k < 19 := fun z => e2 (decide_eq_true z)
    rw [if_neg e2'] at hq
    refine ⟨.int k, rfl, rfl, _, rfl, ite2 (fun e3 => ?_) (fun e3 => ?_)⟩
    · rw [if_pos (V.int.inj (of_decide_eq_true e3))] at hq
      exact hq
    have e3' : ¬ k = 19 := fun z => e3 (decide_eq_true (by rw [z]))
    rw [if_neg e3'] at hq
    refine ⟨.int k, rfl, k, 29, rfl, rfl, _, rfl, ite2 (fun e4 => ?_) (fun e4 => ?_)⟩
    · rw [if_pos (of_decide_eq_true e4)] at hq
      have := of_decide_eq_true e4
      exact ⟨.int k, rfl, k, 19, rfl, rfl, k - 19, rfl, lg _ (by omega) (by omega), _, _, rfl, rfl, sz (ln _ _ (by decide) (by omega) (by omega)), hq⟩
    have e4' : ¬ k < 29 := fun z => e4 (decide_eq_true z)
    rw [if_neg e4'] at hq
    exact ⟨.int k, rfl, k, 28, rfl, rfl, k - 28, rfl, lg _ (by omega) (by omega), _, _, rfl, rfl, sz (ln _ _ (by decide) (by omega) (by omega)), hq⟩
end

/-! ### enumerate(tuple, start=k) -/
theorem callWith_typeKw {M : Model} {A : Around} {E : Value → Shared → Prop} {s : Shared} {env : Env} {pos : Pos} {T : String} {e : Expr} {rest : List Expr} {kws : List Keyword} {Q : Value → Shared → Prop}
    (h : wpAny M A (spliced (backTo pos (starEach (e :: rest) env))) (fun vs s₁ => wpAny M A (evalAll ((backToKw pos (keywordEach kws env)).map (·.2))) (fun us s₂ => wpAny M A (call (.type T) vs (((backToKw pos (keywordEach kws env)).filterMap (·.1)).zip us)) Q E s₂) E s₁) E s)
    (he : backTo pos (starEach (e :: rest) env) = (false, eval e env) :: backTo pos (starEach rest env) := by rfl)
    (hpl : (backTo pos (starEach (e :: rest) env)).any (·.1) = false := by rfl) (hall : (backToKw pos (keywordEach kws env)).all (·.1.isSome) = true := by rfl) (hkw : (backToKw pos (keywordEach kws env)).any (·.1.isNone) = false := by rfl) :
    wpAny M A (callWith pos (.type T) [] (backTo pos (starEach (e :: rest) env)) (backToKw pos (keywordEach kws env))) Q E s := by
  have key : wpAny M A (evalArgs (.type T) true (backTo pos (starEach (e :: rest) env)) (backToKw pos (keywordEach kws env))) (fun x s₁ => wpAny M A (call (.type T) ([] ++ x.pos) x.kw) Q E s₁) E s := by
    rw [he] at h ⊢
    exact evalArgs_kwB hall h
  unfold callWith
  refine wpAny_bind (wpAny_holding (thn key fun x s₁ h₁ => wpAny_bind (wpAny_standAt ?_)))
  simp only [hpl, hkw, Bool.or_false]
  exact wpAny_bind (wpAny_pure (wpAny_bind (thn h₁ fun r s₂ hr => wpAny_bind (wpAny_holding (wpAny_point (wpAny_pure hr))))))
def IteF (K : PySem.W.Frag) (p : Addr) (k : Int) : It where
  go := fun i H => ∃ (xs : List V) (x : V), SqT K H p xs ∧ xs[i]? = some x
  yld := fun i H v H' => ∃ q x, v = .ref q ∧ H q = none ∧ H' = upd H q (.tup [.int (k + (i : Nat)), x]) ∧ ∀ xs, SqT K H p xs → xs[i]? = some x
  stop := fun i H => ∃ xs : List V, SqT K H p xs ∧ xs.length = i
theorem turn_enumF {P : Program} {w : World} {K : PySem.W.Frag} {elts : List Expr} {kk : Nat} {tpos : Pos} (p e it : Addr) (k : Int) :
    Turn P w K (.Tuple elts kk tpos) (IteF K p k) [e, it] e (fun i h => (∃ old, IsEnum h e it (k + ((i : Nat) : Int)) old) ∧ h.IsTupleIter it p i ∧ e ≠ it) where
  mem := List.mem_cons_self ..
  obj := by
    rintro i h ⟨⟨old, he⟩, ⟨o, ho, hc, hd⟩, _⟩ b hb
    simp only [List.mem_cons, List.not_mem_nil, or_false] at hb
    rcases hb with rfl | rfl
    · exact ⟨_, he, fun v q => nomatch q⟩
    · exact ⟨o, ho, fun v q => by rw [hd] at q; cases q⟩
  keep := by
    rintro i h h' ⟨⟨old, he⟩, hi, hne⟩ kp
    exact ⟨⟨old, kp e (by simp) _ he⟩, hi.at fun o q => kp it (by simp) o q, hne⟩
  item := by
    rintro X rfl rfl rfl hc i pins s σ H E I hf ⟨⟨old, he⟩, hit, hne⟩ ⟨xs, x, hq, hx⟩
    obtain ⟨its, rv, z, hz⟩ := I.tuple hq
    obtain ⟨u, hu, ru⟩ := rv.get hx
    have hel : e < s.heap.objs.size := Heap.lt_size he
    have hil : it < s.heap.objs.size := by
      obtain ⟨_, q, _⟩ := hit
      exact Heap.lt_size q
    have hpe : e ≠ p := fun q => by
      obtain ⟨o, ho, hc1, _⟩ := (show s.heap.IsTuple p its.toArray from z)
      rw [← q] at ho
      rw [Option.some.inj (ho.symm.trans he)] at hc1
      injection hc1 with hc1
      exact absurd hc1 (by decide)
    have hpi : p ≠ it := fun q => by
      obtain ⟨o, ho, hc1, _⟩ := (show s.heap.IsTuple p its.toArray from z)
      obtain ⟨o2, ho2, hc2, _⟩ := hit
      rw [q] at ho
      rw [Option.some.inj (ho.symm.trans ho2), hc2] at hc1
      injection hc1 with hc1
      exact absurd hc1 (by decide)
    have D := Draws.tuple (prog := X.prog) (w := X.w) (A := X.A.in1) (I.ok.hd hc) it p hpi its.toArray
    have hlt : i < its.toArray.size := by
      have := (List.getElem?_eq_some_iff.mp hu).1
      simpa using this
    refine wpAny_pyNext_enum_itemC (i := i) (c := k + (i : Int)) D he ⟨hit, z⟩ hlt hne (by simp [hne, hpe]) ?_
    intro v h' tk hv ho hst' hT hsz hk
    have ev : v = u := by
      have h1 : its[i]? = some v := by simpa using hv
      exact Option.some.inj (h1.symm.trans hu)
    subst ev
    refine ⟨_, rfl, wpAny_letOwnedTupleGo_enum (s := { s with heap := h', toks := tk + 1 }) ho ?_⟩
    intro h'' he' sb
    have hT2 : h''.get? s.heap.objs.size = some { cls := .type "tuple", data := .seq #[.int (k + (i : Int)) tk, v] } := (sb.2 _ (Nat.ne_of_gt hel)).trans hT
    have new : ObjOk X.prog X.w (upd H s.heap.objs.size (.tup [.int (k + (i : Nat)), x])) h'' s.heap.objs.size (.tup [.int (k + (i : Nat)), x]) :=
      ⟨(by decide : 2 ≤ sizeLine), [.int (k + (i : Int)) tk, v], .cons ⟨_, rfl⟩ (.cons ru .nil), _, hT2, rfl, _, rfl⟩
    have I1 : Inv X pins σ (upd H s.heap.objs.size (.tup [.int (k + (i : Nat)), x])) { s with heap := h'', toks := tk + 1 } := by
      refine I.turnedNew (ch := [e, it]) (fun b ob hb q => ?_) hf (Nat.le_refl _) new
      have n1 : b ≠ e := fun y => hb (by simp [y])
      have n2 : b ≠ it := fun y => hb (by simp [y])
      exact (sb.2 b n1).trans (hk b ob n1 n2 q)
    refine ⟨.ref s.heap.objs.size, _, I1, rfl, ⟨_, x, rfl, I.hok.fresh (Nat.le_refl _), rfl, fun ys hy => ?_⟩, ⟨⟨v, ?_⟩, hst'.1.at fun o q => (sb.2 it hne.symm).trans q, hne⟩, fun b hb => ?_⟩
    · rw [I.tuple_inj hy hq]
      exact hx
    · rw [show k + ((i + 1 : Nat) : Int) = k + (i : Int) + 1 by omega]
      exact he'
    · have hb' : b < s.heap.objs.size := by
        simp only [List.mem_cons, List.not_mem_nil, or_false] at hb
        rcases hb with rfl | rfl
        · exact hel
        · exact hil
      rw [upd_ne (Nat.ne_of_lt hb')]
      exact (hf b hb).1
  done := by
    rintro X rfl rfl rfl hc i pins s σ H E I hf ⟨⟨old, he⟩, hit, hne⟩ ⟨xs, hq, hx⟩
    obtain ⟨its, rv, z, hz⟩ := I.tuple hq
    obtain ⟨f0, f1, f2, f3, f4, f5⟩ := hf it (by simp)
    have hl := rv.length
    have hpi : p ≠ it := fun q => by
      obtain ⟨o, ho, hc1, _⟩ := (show s.heap.IsTuple p its.toArray from z)
      obtain ⟨o2, ho2, hc2, _⟩ := hit
      rw [q] at ho
      rw [Option.some.inj (ho.symm.trans ho2), hc2] at hc1
      injection hc1 with hc1
      exact absurd hc1 (by decide)
    have D := Draws.tuple (prog := X.prog) (w := X.w) (A := X.A.in1) (I.ok.hd hc) it p hpi its.toArray
    have ei : i = its.toArray.size := by
      simp only [List.size_toArray]
      omega
    subst ei
    exact wpAny_pyNext_enum_endD D he ⟨hit, z⟩ fun h' eb => ⟨rfl, I.turned (t' := s.toks) (fun b o hb e => eb b o hb e) f0 f1 f3 f4 f5⟩
  self := by
    rintro A i s Q E ⟨⟨_, he⟩, _⟩ h
    exact wpAny_pyIter_enum he h
def iEnF (K : PySem.W.Frag) (ta : TA) (tk : TE) : TI := fun σ H R => ta σ H fun vs H1 => tk σ H1 fun y H2 => ∃ p xs k, vs = [.ref p] ∧ y = .int k ∧ -(2 ^ 63) ≤ k ∧ k < 2 ^ 63 ∧ SqT K H2 p xs ∧ R (IteF K p k) H2
theorem pi_enumF {X : Cx} {e e2 : Expr} {ta : TA} {tk : TE} {p pos tpos kp : Pos} {elts : List Expr} {kk : Nat} (hg : Gl X "enumerate") (hm : X.mg "enumerate" = none) (ha : PA X [e] ta) (hk : PE X e2 tk) (hs : starEach [e] X.env = [(false, eval e X.env)] := by rfl) :
    PI X (.Tuple elts kk tpos) (.Call (.Name "enumerate" p) [e] [⟨some "start", e2, kp⟩] pos) (iEnF X.K ta tk) := by
  constructor
  intro pins s σ H R I h
  refine wpAny_Call_Name_kw (ld_blt I hg hm boot_enumerate (callWith_typeKw (thn (ha.run pos pins s σ H _ I h) ?_) (by rw [hs]; rfl) (by rw [hs]; rfl)))
  rintro us s1 ⟨vs, H1, I1, r1, q1⟩
  refine kws_cons (thn (hk.run pins s1 σ H1 _ I1 q1) ?_)
  rintro u2 s2 ⟨y, H2, I2, r2, q0, xs, k, rfl, rfl, hk0, hk1, hq, q⟩
  refine kws_nil ?_
  obtain ⟨t2, rfl⟩ := r2
  cases r1 with
  | cons r rr =>
    cases rr
    cases r
    obtain ⟨its, _, z, _⟩ := I2.tuple hq
    refine enum_begins_start (begins_tuple q0 its.toArray) z hk0 hk1 ?_
    intro h' he hit hsz hkp
    have fp : ∀ b ∈ [s2.heap.objs.size + 1, s2.heap.objs.size], FpOk X pins H2 b := by
      intro b hb
      simp only [List.mem_cons, List.not_mem_nil, or_false] at hb
      have hle : s2.heap.objs.size ≤ b := by
        rcases hb with rfl | rfl
        · exact Nat.le_add_right _ _
        · exact Nat.le_refl _
      exact I2.fpOk hle (I2.hok.fresh hle)
    have he' : IsEnum h' (s2.heap.objs.size + 1) s2.heap.objs.size (k + ((0 : Nat) : Int)) .none := by
      rw [show k + ((0 : Nat) : Int) = k by omega]
      exact he
    exact wpAny_pyIter_enum he ⟨s2.heap.objs.size + 1, [s2.heap.objs.size + 1, s2.heap.objs.size], _, _, H2, rfl, I2.kept (t' := s2.toks) hkp, turn_enumF q0 (s2.heap.objs.size + 1) s2.heap.objs.size k, ⟨⟨.none, he'⟩, ⟨_, hit, rfl, rfl⟩, Nat.succ_ne_self _⟩, fp, q⟩
theorem walk_enumF {K : PySem.W.Frag} {p : Addr} {xs : List V} {k : Int} : Walk (IteF K p k) xs.length (fun H => SqT K H p xs) (YPair (fun i => some (.int (k + (i : Nat)))) (fun i => xs[i]?)) where
  goes := fun i H hi h => ⟨xs, xs[i], h, List.getElem?_eq_getElem hi⟩
  stops := fun H h => ⟨xs, h, rfl⟩
  yields := by
    rintro i H v H' hi h ⟨q, x, rfl, hn, rfl, hx⟩
    exact ⟨q, _, x, rfl, hn, rfl, rfl, hx xs h⟩

/-! ### rearrangements as lists of ints -/
def ri (n : Nat) : List Int := (List.range n).map fun i : Nat => (i : Int)
theorem ri_len (n : Nat) : (ri n).length = n := by
  unfold ri
  rw [List.length_map, List.length_range]
theorem ri_mem {n : Nat} {x : Int} : x ∈ ri n ↔ 0 ≤ x ∧ x < (n : Int) := by
  unfold ri
  simp only [List.mem_map, List.mem_range]
  constructor
  · rintro ⟨k, hk, rfl⟩
    omega
  · rintro ⟨h0, h1⟩
    exact ⟨x.toNat, by omega, by omega⟩
theorem ri_get {n i : Nat} (h : i < n) : (ri n)[i]? = some (i : Int) := by
  unfold ri
  rw [List.getElem?_map, List.getElem?_range h]
  rfl
theorem ri_nodup (n : Nat) : (ri n).Nodup := by
  unfold ri
  refine List.Pairwise.map _ (fun i j (h : i ≠ j) => ?_) List.nodup_range
  omega
theorem rgV_ri (n : Nat) : rgV 0 (n : Int) = (ri n).map V.int := by
  unfold rgV ri
  rw [List.map_map]
  have e : ((n : Int) - 0).toNat = n := by omega
  rw [e]
  refine List.map_congr_left fun i _ => ?_
  show V.int (0 + (i : Nat)) = V.int (i : Int)
  rw [Int.zero_add]
/-- a rearrangement: the ints from 0 on, each once -/
def IsRow (xs : List Int) : Prop := xs.Perm (ri xs.length)
theorem IsRow.mem {xs : List Int} (h : IsRow xs) {x : Int} : x ∈ xs ↔ 0 ≤ x ∧ x < (xs.length : Int) := by
  rw [h.mem_iff, ri_mem]
theorem IsRow.nodup {xs : List Int} (h : IsRow xs) : xs.Nodup := h.nodup_iff.mpr (ri_nodup _)
theorem IsRow.at {xs : List Int} (h : IsRow xs) {i : Nat} (hi : i < xs.length) : 0 ≤ xs[i] ∧ xs[i].toNat < xs.length := by
  have := h.mem.mp (List.getElem_mem hi)
  omega
theorem isRow_ri (n : Nat) : IsRow (ri n) := by
  unfold IsRow
  rw [ri_len]
theorem isRow_of {xs : List Int} (n : Nat) (h : xs.Perm (ri n)) : IsRow xs := by
  unfold IsRow
  have := h.length_eq
  rw [ri_len] at this
  rw [this]
  exact h
/-- without doubles and within bounds: a rearrangement -/
theorem nodup_sub_len : ∀ {xs ys : List Int}, xs.Nodup → (∀ x ∈ xs, x ∈ ys) → xs.length ≤ ys.length
  | [], _, _, _ => Nat.zero_le _
  | x :: r, ys, hn, hs => by
    have hx := hs x (List.mem_cons_self ..)
    have hn' := List.nodup_cons.mp hn
    have h2 := nodup_sub_len (xs := r) (ys := ys.erase x) hn'.2 fun y hy => by
      have hne : y ≠ x := fun e => hn'.1 (e ▸ hy)
      exact (List.mem_erase_of_ne hne).mpr (hs y (List.mem_cons_of_mem _ hy))
    rw [List.length_erase_of_mem hx] at h2
    have : 0 < ys.length := List.length_pos_of_mem hx
    simp only [List.length_cons]
    omega
theorem perm_of_nodup : ∀ {xs ys : List Int}, xs.Nodup → ys.Nodup → (∀ x ∈ xs, x ∈ ys) → xs.length = ys.length → xs.Perm ys
  | [], ys, _, _, _, e => by
    have : ys = [] := List.eq_nil_of_length_eq_zero e.symm
    subst this
    exact List.Perm.refl _
  | x :: r, ys, hn, hy, hs, e => by
    have hx := hs x (List.mem_cons_self ..)
    have hn' := List.nodup_cons.mp hn
    have hl : r.length = (ys.erase x).length := by
      rw [List.length_erase_of_mem hx]
      simp only [List.length_cons] at e
      omega
    have p := perm_of_nodup (xs := r) (ys := ys.erase x) hn'.2 (hy.erase x) (fun y h => by
      have hne : y ≠ x := fun e => hn'.1 (e ▸ h)
      exact (List.mem_erase_of_ne hne).mpr (hs y (List.mem_cons_of_mem _ h))) hl
    exact (p.cons x).trans (List.perm_cons_erase hx).symm
theorem isRow_mk {xs : List Int} (hn : xs.Nodup) (hb : ∀ x ∈ xs, 0 ≤ x ∧ x < (xs.length : Int)) : IsRow xs :=
  perm_of_nodup hn (ri_nodup _) (fun x hx => ri_mem.mpr (hb x hx)) (ri_len _).symm
/-- all places are there -/
theorem IsRow.all {xs : List Int} (h : IsRow xs) {v : Nat} (hv : v < xs.length) : (v : Int) ∈ xs := h.mem.mpr (by omega)
/-! ### picking members -/
def pickI (ts rs : List Int) : List Int := rs.map fun r => ts.getD r.toNat 0
theorem pick_len (ts rs : List Int) : (pickI ts rs).length = rs.length := by
  unfold pickI
  rw [List.length_map]
theorem pick_get {ts rs : List Int} {i : Nat} (h : i < rs.length) : (pickI ts rs)[i]'(by rw [pick_len]; exact h) = ts.getD rs[i].toNat 0 := by
  simp [pickI]
/-- done one behind the other -/
theorem pick_pick {ts xs ys : List Int} (hx : ∀ y ∈ ys, 0 ≤ y ∧ y.toNat < xs.length) : pickI (pickI ts xs) ys = pickI ts (pickI xs ys) := by
  unfold pickI
  rw [List.map_map]
  refine List.map_congr_left fun y hy => ?_
  have h := (hx y hy).2
  show (List.map (fun r : Int => ts.getD r.toNat 0) xs).getD y.toNat 0 = ts.getD (xs.getD y.toNat 0).toNat 0
  rw [List.getD_eq_getElem?_getD, List.getElem?_map, List.getElem?_eq_getElem h, List.getD_eq_getElem?_getD (l := xs), List.getElem?_eq_getElem h]
  rfl
theorem pick_ri (xs : List Int) : pickI xs (ri xs.length) = xs := by
  refine List.ext_getElem (by rw [pick_len, ri_len]) fun i h1 h2 => ?_
  rw [pick_get (by rw [ri_len]; exact h2)]
  have e : (ri xs.length)[i]'(by rw [ri_len]; exact h2) = (i : Int) := by
    have := ri_get h2
    rw [List.getElem?_eq_getElem (by rw [ri_len]; exact h2)] at this
    exact Option.some.inj this
  rw [e, Int.toNat_natCast, getD_get h2]
theorem ri_pick {xs : List Int} {n : Nat} (h : ∀ x ∈ xs, 0 ≤ x ∧ x < (n : Int)) : pickI (ri n) xs = xs := by
  unfold pickI
  conv => rhs; rw [← List.map_id xs]
  refine List.map_congr_left fun x hx => ?_
  have := h x hx
  show (ri n).getD x.toNat 0 = x
  rw [List.getD_eq_getElem?_getD, ri_get (by omega)]
  show ((x.toNat : Nat) : Int) = x
  omega
/-- a rearrangement of a rearrangement's members -/
theorem pick_perm {ts rs : List Int} (hr : IsRow rs) (hl : rs.length = ts.length) : (pickI ts rs).Perm ts := by
  have p : (pickI ts rs).Perm (pickI ts (ri rs.length)) := List.Perm.map _ hr
  rw [hl, pick_ri] at p
  exact p
theorem isRow_pick {xs ys : List Int} (hx : IsRow xs) (hy : IsRow ys) (hl : ys.length = xs.length) : IsRow (pickI xs ys) := by
  refine isRow_of xs.length ((pick_perm hy hl).trans hx)
/-! ### taking back -/
/-- bs takes xs back -/
def InvOf (xs bs : List Int) : Prop := bs.length = xs.length ∧ ∀ (j : Nat) (h : j < xs.length), bs[xs[j].toNat]? = some (j : Int)
theorem InvOf.pick {xs bs : List Int} (h : InvOf xs bs) (hx : IsRow xs) : pickI bs xs = ri xs.length := by
  refine List.ext_getElem (by rw [pick_len, ri_len]) fun i h1 h2 => ?_
  rw [pick_len] at h1
  rw [pick_get h1, List.getD_eq_getElem?_getD, h.2 i h1]
  have := ri_get h1
  rw [List.getElem?_eq_getElem h2] at this
  exact (Option.some.inj this).symm
theorem InvOf.mem {xs bs : List Int} (h : InvOf xs bs) (hx : IsRow xs) {v : Nat} (hv : v < xs.length) : ∃ (j : Nat) (hj : j < xs.length), xs[j] = (v : Int) ∧ bs[v]? = some (j : Int) := by
  obtain ⟨j, hj, e⟩ := List.getElem_of_mem (hx.all hv)
  have := h.2 j hj
  rw [e, Int.toNat_natCast] at this
  exact ⟨j, hj, e, this⟩
theorem InvOf.pick2 {xs bs : List Int} (h : InvOf xs bs) (hx : IsRow xs) : pickI xs bs = ri xs.length := by
  refine List.ext_getElem (by rw [pick_len, ri_len, h.1]) fun i h1 h2 => ?_
  rw [pick_len, h.1] at h1
  obtain ⟨j, hj, e, eb⟩ := h.mem hx h1
  have hb : i < bs.length := by rw [h.1]; exact h1
  rw [pick_get hb]
  have e2 : bs[i] = (j : Int) := by
    rw [List.getElem?_eq_getElem hb] at eb
    exact Option.some.inj eb
  rw [e2, Int.toNat_natCast, getD_get hj, e]
  have := ri_get h1
  rw [List.getElem?_eq_getElem h2] at this
  exact (Option.some.inj this).symm
theorem InvOf.bound {xs bs : List Int} (h : InvOf xs bs) (hx : IsRow xs) : ∀ y ∈ bs, 0 ≤ y ∧ y.toNat < xs.length := by
  intro y hy
  obtain ⟨i, hi, e⟩ := List.getElem_of_mem hy
  obtain ⟨j, hj, _, eb⟩ := h.mem hx (v := i) (by rw [← h.1]; exact hi)
  rw [List.getElem?_eq_getElem hi] at eb
  have := Option.some.inj eb
  omega
theorem InvOf.row {xs bs : List Int} (h : InvOf xs bs) (hx : IsRow xs) : IsRow bs := by
  refine isRow_mk ?_ fun y hy => ?_
  · rw [List.nodup_iff_pairwise_ne, List.pairwise_iff_getElem]
    intro i j hi hj hij e
    obtain ⟨u, hu, e1, b1⟩ := h.mem hx (v := i) (by rw [← h.1]; exact hi)
    obtain ⟨v, hv, e2, b2⟩ := h.mem hx (v := j) (by rw [← h.1]; exact hj)
    rw [List.getElem?_eq_getElem hi] at b1
    rw [List.getElem?_eq_getElem hj] at b2
    have q1 := Option.some.inj b1
    have q2 := Option.some.inj b2
    have : u = v := by omega
    subst this
    rw [e1] at e2
    omega
  · have := h.bound hx y hy
    rw [h.1]
    omega
theorem InvOf.uniq {xs b1 b2 : List Int} (h1 : InvOf xs b1) (h2 : InvOf xs b2) (hx : IsRow xs) : b1 = b2 := by
  refine List.ext_getElem (by rw [h1.1, h2.1]) fun i q1 q2 => ?_
  obtain ⟨u, hu, e1, y1⟩ := h1.mem hx (v := i) (by rw [← h1.1]; exact q1)
  have y2 := h2.2 u hu
  rw [e1, Int.toNat_natCast] at y2
  rw [List.getElem?_eq_getElem q1] at y1
  rw [List.getElem?_eq_getElem q2] at y2
  exact (Option.some.inj y1).trans (Option.some.inj y2).symm

/-! ### amounts, moves -/
def am : List Str := ([ "1", "2", "3", "4", "5", "6", "7", "8", "9", "-1", "-2", "-3", "-4", "-5", "-6", "-7", "-8", "-9", "half"] : List String).map Str.ofString
def fronts2 : List V := [.str "", .str "-"]
def iaM (z : Str) : Bool := decide (z = "half") || figM fronts2 z
def amV (z : Str) (m : Int) : Int := if z = "half" then m.fdiv 2 else (PySem.intText? z).getD 0
def chkA (z : Str) : Bool := (decide (z = "half") || (PySem.intText? z).isSome) && decide (z.length ≤ 100) && iaM z && decide (32 ∉ z.cps.toList) && PyData.strOk z
theorem am_all : am.all chkA = true := by decide +kernel
theorem am_chk {z : Str} (h : z ∈ am) : (z = "half" ∨ (PySem.intText? z).isSome = true) ∧ z.length ≤ 100 ∧ iaM z = true ∧ 32 ∉ z.cps.toList ∧ PyData.strOk z = true := by
  have e := List.all_eq_true.mp am_all z h
  simp only [chkA, Bool.and_eq_true, Bool.or_eq_true, decide_eq_true_eq] at e
  obtain ⟨⟨⟨⟨h1, h2⟩, h3⟩, h4⟩, h5⟩ := e
  exact ⟨h1, h2, h3, h4, h5⟩
inductive Mv where
  | exch (x y : Str) | roll (x y c : Str) | turn
  deriving DecidableEq
def Mv.parts : Mv → List Str
  | .exch x y => ["exchange", x, y]
  | .roll x y c => ["roll", x, y, c]
  | .turn => ["turn"]
def Mv.ok : Mv → Prop
  | .exch x y => x ∈ wt ∧ y ∈ wt
  | .roll x y c => x ∈ wt ∧ y ∈ wt ∧ c ∈ am
  | .turn => True
def strsV (zs : List Str) : List V := zs.map V.str
theorem strs_flat (zs : List Str) : (strsV zs).all flatV = true := by
  unfold strsV
  rw [List.all_map]
  exact List.all_eq_true.mpr fun z _ => rfl
theorem strs_get {zs : List Str} {i : Nat} {z : Str} (h : zs[i]? = some z) : atI (strsV zs) (i : Int) = some (.str z) := by
  refine atI_nat ?_
  unfold strsV
  rw [List.getElem?_map, h]
  rfl
section
variable {P : Program} {w : World} {K : PySem.W.Frag} {mg : Str → Option Value} {base : Heap} {a : Ad}
def spIsAmount : Sp := fun vs H Q _ => ∃ z : Str, vs = [.str z] ∧ z.length ≤ sizeLine ∧ Q (.bl (iaM z)) H
theorem ok_is_amount (T : Tx w K mg a) : FnOk P w K mg base CX0 2 a.f_is_amount a.d_is_amount ["text"] spIsAmount := by
  refine T.F_is_amount.ok sc_is_amount (fun vs H Q E h => ?_) (fun cdv A outer s H vs Q E hr h => ?_)
  · obtain ⟨z, rfl, _⟩ := h
    rfl
  · obtain ⟨z, rfl, hz, q⟩ := h
    refine ⟨_, 
(pss_one (ps_ret (pe_or (pe_cmpR op_eq (pv 0) pe_str (nomark _)) (pe_one (pe_call (ok_is_figure_behind T) hr (by rfl) T.m_is_figure_behind T.F_is_figure_behind.kp T.b_is_figure_behind .nil pass0 (pa_cons (pe_glob (v := .ref a.a_AMOUNT_FRONTS) (by rfl) T.m_AMOUNT_FRONTS rfl) (pa_cons (pv 0) pa_nil))))))), ?_⟩
    refine ⟨.str z, rfl, rfl, _, rfl, ?_⟩
    unfold iaM at q
    by_cases h1 : z = "half"
    · rw [decide_eq_true h1] at q
      rw [decide_eq_true (show V.str z = V.str "half" by rw [h1])]
      exact q
    · rw [decide_eq_false h1] at q
      rw [decide_eq_false (show ¬ V.str z = V.str "half" from fun e => h1 (V.str.inj e))]
      exact ⟨.str z, rfl, a.a_AMOUNT_FRONTS, fronts2, z, rfl, T.q_AMOUNT_FRONTS _, rfl, hz, q⟩
def spAmountOf : Sp := fun vs H Q _ => ∃ (z : Str) (m : Int), vs = [.str z, .int m] ∧ z ∈ am ∧ Q (.int (amV z m)) H
theorem ok_amount_of (T : Tx w K mg a) : FnOk P w K mg base CX0 1 a.f_amount_of a.d_amount_of ["text", "length"] spAmountOf := by
  refine T.F_amount_of.ok sc_amount_of (fun vs H Q E h => ?_) (fun cdv A outer s H vs Q E hr h => ?_)
  · obtain ⟨z, m, rfl, _⟩ := h
    rfl
  · obtain ⟨z, m, rfl, hz, q⟩ := h
    obtain ⟨hi, hl, _⟩ := am_chk hz
    refine ⟨_, 
(pss_cons (ps_if (pt_cmpR op_eq (pv 0) pe_str (nomark _))
  (pss_one (ps_ret (pe_op op_fdivN (pv 1) pe_int)))
  pss_nil)
  (pss_one (ps_ret (pe_callTy call_int_str (by rfl) T.z_int (by decide +kernel) (pa_cons (pv 0) pa_nil))))), ?_⟩
    refine ⟨.str z, rfl, rfl, _, rfl, ?_⟩
    unfold amV at q
    by_cases h1 : z = "half"
    · rw [if_pos h1] at q
      rw [decide_eq_true (show V.str z = V.str "half" by rw [h1])]
      exact ⟨.int m, rfl, m, 2, rfl, rfl, ⟨by decide, by decide⟩, q⟩
    · rw [if_neg h1] at q
      rw [decide_eq_false (show ¬ V.str z = V.str "half" from fun e => h1 (V.str.inj e))]
      obtain ⟨n, hn⟩ := Option.isSome_iff_exists.mp (hi.resolve_left h1)
      rw [hn] at q
      exact ⟨.str z, rfl, z, n, rfl, hn, by omega, q⟩
def ptM (z : Str) (k : Str) : Bool := if k = "place" then ipM z else iaM z
def spIsPart : Sp := fun vs H Q _ => ∃ z k : Str, vs = [.str z, .str k] ∧ z.length ≤ sizeLine ∧ ∀ H', Same H H' → Q (.bl (ptM z k)) H'
theorem ok_is_part (T : Tx w K mg a) : FnOk P w K mg base CX0 3 a.f_is_part a.d_is_part ["text", "kind"] spIsPart := by
  refine T.F_is_part.ok sc_is_part (fun vs H Q E h => ?_) (fun cdv A outer s H vs Q E hr h => ?_)
  · obtain ⟨z, k, rfl, _⟩ := h
    rfl
  · obtain ⟨z, k, rfl, hz, q⟩ := h
    refine ⟨_, 
(pss_cons (ps_if (pt_cmpR op_eq (pv 1) pe_str (nomark _))
  (pss_one (ps_ret (pe_call (ok_is_place_word T) hr (by rfl) T.m_is_place_word T.F_is_place_word.kp T.b_is_place_word .nil pass0 (pa_cons (pv 0) pa_nil))))
  pss_nil)
  (pss_one (ps_ret (pe_call (ok_is_amount T) hr (by rfl) T.m_is_amount T.F_is_amount.kp T.b_is_amount .nil pass0 (pa_cons (pv 0) pa_nil))))), ?_⟩
    refine ⟨.str k, rfl, rfl, _, rfl, ?_⟩
    unfold ptM at q
    by_cases h1 : k = "place"
    · simp only [if_pos h1] at q
      rw [decide_eq_true (show V.str k = V.str "place" by rw [h1])]
      exact ⟨.str z, rfl, z, rfl, hz, q⟩
    · simp only [if_neg h1] at q
      rw [decide_eq_false (show ¬ V.str k = V.str "place" from fun e => h1 (V.str.inj e))]
      exact ⟨.str z, rfl, z, rfl, hz, q H (Same.refl H)⟩
/-- the kinds of the parts behind the first one -/
def Mv.kinds : Mv → List Str
  | .exch _ _ => ["place", "place"]
  | .roll _ _ _ => ["place", "place", "amount"]
  | .turn => []
def Mv.head : Mv → Str
  | .exch _ _ => "exchange"
  | .roll _ _ _ => "roll"
  | .turn => "turn"
def Mv.args : Mv → List Str
  | .exch x y => [x, y]
  | .roll x y c => [x, y, c]
  | .turn => []
theorem Mv.parts_eq (m : Mv) : m.parts = m.head :: m.args := by cases m <;> rfl
theorem Mv.len (m : Mv) : m.kinds.length = m.args.length := by cases m <;> rfl
theorem Mv.arg_ok {m : Mv} (h : m.ok) {j : Nat} {z k : Str} (hz : m.args[j]? = some z) (hk : m.kinds[j]? = some k) : ptM z k = true ∧ z.length ≤ 100 := by
  have pw : ∀ {z : Str}, z ∈ wt → ptM z "place" = true ∧ z.length ≤ 100 := fun hz => ⟨(wt_chk hz).2.2.2.1, (wt_chk hz).2.1⟩
  have aw : ∀ {z : Str}, z ∈ am → ptM z "amount" = true ∧ z.length ≤ 100 := fun hz => ⟨(am_chk hz).2.2.1, (am_chk hz).2.1⟩
  cases m with
  | turn => simp [Mv.args] at hz
  | exch x y =>
    match j, hz, hk with
    | 0, hz, hk => cases hz; cases hk; exact pw h.1
    | 1, hz, hk => cases hz; cases hk; exact pw h.2
    | j + 2, hz, hk => simp [Mv.args] at hz
  | roll x y c =>
    match j, hz, hk with
    | 0, hz, hk => cases hz; cases hk; exact pw h.1
    | 1, hz, hk => cases hz; cases hk; exact pw h.2.1
    | 2, hz, hk => cases hz; cases hk; exact aw h.2.2
    | j + 3, hz, hk => simp [Mv.args] at hz
theorem kd_of {m : Mv} (T : Tx w K mg a) : ∃ p, PySem.W.nsIn K a.a_SHAPES m.head = some (some (.ref p)) ∧ ∀ H : Hp, SqT K H p (strsV m.kinds) := by
  cases m with
  | exch x y => exact T.v_SHAPES_0
  | roll x y c => exact T.v_SHAPES_1
  | turn => exact T.v_SHAPES_2
/-- tuples of the parts stand at these places -/
def Held (H : Hp) : List Addr → List Mv → Prop
  | [], [] => True
  | r :: rs, m :: ms => H r = some (.tup (strsV m.parts)) ∧ Held H rs ms
  | _, _ => False
theorem Held.same {H H' : Hp} (e : Same H H') : ∀ {rs : List Addr} {ms : List Mv}, Held H rs ms → Held H' rs ms
  | [], [], _ => trivial
  | _ :: _, _ :: _, h => ⟨e _ _ h.1, Held.same e h.2⟩
theorem Held.snoc {H : Hp} {t : Addr} {m : Mv} (ht : H t = some (.tup (strsV m.parts))) : ∀ {rs : List Addr} {ms : List Mv}, Held H rs ms → Held H (rs ++ [t]) (ms ++ [m])
  | [], [], _ => ⟨ht, trivial⟩
  | _ :: _, _ :: _, h => ⟨h.1, Held.snoc ht h.2⟩
theorem Held.but {H : Hp} {l : Addr} {xs : List V} {o : HO} (hl : H l = some (.lst xs)) : ∀ {rs : List Addr} {ms : List Mv}, Held H rs ms → Held (upd H l o) rs ms
  | [], [], _ => trivial
  | _ :: _, _ :: _, h => ⟨by rw [upd_ne (ne_of h.1 hl (by intro z; cases z))]; exact h.1, Held.but hl h.2⟩
theorem Held.off {H : Hp} {p C dx : Addr} {fs : List (Str × V)} {o : HO} (hp : H p = some (.ins C dx fs)) : ∀ {rs : List Addr} {ms : List Mv}, Held H rs ms → Held (upd H p o) rs ms
  | [], [], _ => trivial
  | _ :: _, _ :: _, h => ⟨by rw [upd_ne (ne_of h.1 hp (by intro z; cases z))]; exact h.1, Held.off hp h.2⟩
theorem Held.butd {d : Addr} {H H' : Hp} {kvs : List (Key × V)} (x : But d H H') (hd : H d = some (.dK kvs)) : ∀ {rs : List Addr} {ms : List Mv}, Held H rs ms → Held H' rs ms
  | [], [], _ => trivial
  | _ :: _, _ :: _, h => ⟨x.tup hd h.1, Held.butd x hd h.2⟩
theorem Held.len {H : Hp} : ∀ {rs : List Addr} {ms : List Mv}, Held H rs ms → rs.length = ms.length
  | [], [], _ => rfl
  | _ :: rs, _ :: ms, h => by
    rw [List.length_cons, List.length_cons, Held.len h.2]
def mvD (m : Mv) : PyData := .tuple (m.parts.map PyData.str)
theorem dp_strs {K : PySem.W.Frag} {H : Hp} : ∀ zs : List Str, DpAll K H (strsV zs) (zs.map PyData.str)
  | [] => .nil
  | _ :: r => .cons (.str _) (dp_strs r)
theorem dp_mvs {K : PySem.W.Frag} {H : Hp} : ∀ {rs : List Addr} {ms : List Mv}, Held H rs ms → DpAll K H (rs.map V.ref) (ms.map mvD)
  | [], [], _ => .nil
  | _ :: _, _ :: _, h => .cons (.tup (SqT.at h.1) (dp_strs _)) (dp_mvs h.2)
theorem op_inDT {X : Cx} (hu : X.A.units + 65 < cLine) : OpR X (compareOp .In) (fun x y H Q => ∃ d ds, Dp X.K H x d ∧ Dp X.K H y (.tuple ds) ∧ SeqAt.shaped d = true ∧ SeqAt.shaped (.tuple ds) = true ∧ Q (.bl (ds.any fun z => PyData.eqv z d)) H) := by
  rintro pins s σ H x y v u Q I rx ry ⟨d, ds, hd, he, sd, se, q⟩
  obtain ⟨as, r1⟩ := Dp.reads I d x v hd rx
  obtain ⟨bs, r2⟩ := Dp.reads I (.tuple ds) y u he ry
  exact SeqAt.in_tuple_reads r2 r1 (SeqAt.canLay_of_shaped se) (SeqAt.canLay_of_shaped sd) (room_in_shaped sd hu) ⟨.bl _, H, I, rfl, q⟩
theorem room65 {k : Nat} {A : Around} (hr : Room k A) : A.units + 65 < cLine := by
  have := hr.un
  omega
theorem Mv.str_ok {m : Mv} (h : m.ok) : ∀ z ∈ m.parts, PyData.strOk z = true ∧ z.length ≤ 100 ∧ 32 ∉ z.cps.toList := by
  have pw : ∀ {z : Str}, z ∈ wt → PyData.strOk z = true ∧ z.length ≤ 100 ∧ 32 ∉ z.cps.toList := fun hz => ⟨(wt_chk hz).2.2.2.2.2.2.2, (wt_chk hz).2.1, (wt_chk hz).2.2.2.2.2.2.1⟩
  have aw : ∀ {z : Str}, z ∈ am → PyData.strOk z = true ∧ z.length ≤ 100 ∧ 32 ∉ z.cps.toList := fun hz => ⟨(am_chk hz).2.2.2.2, (am_chk hz).2.1, (am_chk hz).2.2.2.1⟩
  have lit : ∀ z ∈ (["exchange", "roll", "turn"] : List Str), PyData.strOk z = true ∧ z.length ≤ 100 ∧ 32 ∉ z.cps.toList := by decide +kernel
  intro z hz
  cases m with
  | turn =>
    rw [List.mem_singleton.mp hz]
    exact lit _ (by decide +kernel)
  | exch x y =>
    simp only [Mv.parts, List.mem_cons, List.not_mem_nil, or_false] at hz
    rcases hz with rfl | rfl | rfl
    · exact lit _ (by decide +kernel)
    · exact pw h.1
    · exact pw h.2
  | roll x y c =>
    simp only [Mv.parts, List.mem_cons, List.not_mem_nil, or_false] at hz
    rcases hz with rfl | rfl | rfl | rfl
    · exact lit _ (by decide +kernel)
    · exact pw h.1
    · exact pw h.2.1
    · exact aw h.2.2
theorem lay_strs : ∀ {zs : List Str}, (∀ z ∈ zs, PyData.strOk z = true) → PyData.canLayAll0 (zs.map PyData.str) = true
  | [], _ => by simp [PyData.canLayAll0]
  | z :: r, h => by
    simp only [List.map_cons, PyData.canLayAll0, PyData.canLay0, Bool.and_eq_true]
    exact ⟨h z (List.mem_cons_self ..), lay_strs fun y hy => h y (List.mem_cons_of_mem _ hy)⟩
theorem deep_strs : ∀ zs : List Str, PyData.depthAll (zs.map PyData.str) ≤ 1
  | [] => by simp [PyData.depthAll]
  | _ :: r => by
    have := deep_strs r
    simp only [List.map_cons, PyData.depthAll, PyData.depth]
    omega
theorem shaped_strs {zs : List Str} (h : ∀ z ∈ zs, PyData.strOk z = true) : SeqAt.shaped (.tuple (zs.map PyData.str)) = true := by
  unfold SeqAt.shaped
  rw [Bool.and_eq_true, decide_eq_true_eq]
  refine ⟨by rw [PyData.canLay0]; exact lay_strs h, ?_⟩
  have := deep_strs zs
  rw [PyData.depth]
  omega
theorem shaped_mvs {ms : List Mv} (h : ∀ m ∈ ms, m.ok) : SeqAt.shaped (.tuple (ms.map mvD)) = true ∧ SeqAt.shaped (.list (ms.map mvD)) = true := by
  have hl : PyData.canLayAll0 (ms.map mvD) = true := by
    induction ms with
    | nil => simp [PyData.canLayAll0]
    | cons m r ih =>
      simp only [List.map_cons, PyData.canLayAll0, Bool.and_eq_true]
      exact ⟨by unfold mvD; rw [PyData.canLay0]; exact lay_strs fun z hz => (Mv.str_ok (h m (List.mem_cons_self ..)) z hz).1, ih fun y hy => h y (List.mem_cons_of_mem _ hy)⟩
  have hd : PyData.depthAll (ms.map mvD) ≤ 2 := by
    clear h hl
    induction ms with
    | nil => simp [PyData.depthAll]
    | cons m r ih =>
      have := deep_strs m.parts
      simp only [List.map_cons, PyData.depthAll, mvD, PyData.depth]
      omega
  unfold SeqAt.shaped
  simp only [Bool.and_eq_true, decide_eq_true_eq]
  refine ⟨⟨by rw [PyData.canLay0]; exact hl, ?_⟩, by rw [PyData.canLay0]; exact hl, ?_⟩
  · rw [PyData.depth]
    omega
  · rw [PyData.depth]
    omega
theorem eqv_all_strs : ∀ xs ys : List Str, PyData.eqvAll (xs.map PyData.str) (ys.map PyData.str) = decide (xs = ys)
  | [], [] => by simp [PyData.eqvAll]
  | [], _ :: _ => by simp [PyData.eqvAll]
  | _ :: _, [] => by simp [PyData.eqvAll]
  | x :: r, y :: u => by
    simp only [List.map_cons, PyData.eqvAll, PyData.eqv, eqv_all_strs r u, List.cons.injEq]
    by_cases h1 : x = y <;> by_cases h2 : r = u <;> simp [h1, h2]
theorem Mv.inj {m n : Mv} : m.parts = n.parts ↔ m = n := by
  constructor
  · intro h
    cases m <;> cases n <;> simp [Mv.parts] at h ⊢ <;> first | exact h | exact absurd h.1 (by decide +kernel) | skip
  · intro h
    rw [h]
theorem eqv_mv (m n : Mv) : PyData.eqv (mvD m) (mvD n) = decide (m = n) := by
  unfold mvD
  rw [PyData.eqv, eqv_all_strs]
  by_cases h : m = n
  · simp [h]
  · have : ¬ m.parts = n.parts := fun e => h (Mv.inj.mp e)
    simp [h, this]
theorem any_mv (ms : List Mv) (n : Mv) : (ms.map mvD).any (fun z => PyData.eqv z (mvD n)) = decide (n ∈ ms) := by
  induction ms with
  | nil => simp
  | cons m r ih =>
    rw [List.map_cons, List.any_cons, ih, eqv_mv]
    by_cases h : m = n
    · simp [h]
    · have : ¬ n = m := fun e => h e.symm
      simp [h, this]
abbrev sThen : Str := "then"
abbrev sNo : Str := ""
/-- the parts of a word -/
def wp : List Mv → List Str
  | [] => []
  | [m] => m.parts
  | m :: n :: r => m.parts ++ sThen :: wp (n :: r)
def oneTurn (ms : List Mv) : Prop := ∀ pre m post, ms = pre ++ m :: post → m = .turn → Mv.turn ∉ pre
theorem wp_len : ∀ ms : List Mv, (wp ms).length ≤ 5 * ms.length
  | [] => by simp [wp]
  | [m] => by cases m <;> simp [wp, Mv.parts]
  | m :: n :: r => by
    have := wp_len (n :: r)
    simp only [wp, List.length_append, List.length_cons] at this ⊢
    have hm : m.parts.length ≤ 4 := by cases m <;> simp [Mv.parts]
    omega
/-! ### what a move makes of a row -/
def exF (xs : List Int) (x y : Nat) : List Int := (xs.set x (xs.getD y 0)).set y (xs.getD x 0)
def roF (xs : List Int) (x y : Nat) (c : Int) : List Int :=
  let b := (xs.drop x).take (y + 1 - x)
  let k := (b.length - Int.fmod c b.length).toNat
  xs.take x ++ b.drop k ++ b.take k ++ xs.drop (y + 1)
def inB (v : Int) (n : Nat) : Bool := decide (0 ≤ v) && decide (v < (n : Int))
def mvF (m : Mv) (xs : List Int) : List Int := match m with
  | .turn => xs.reverse
  | .exch x y => if inB (plV x xs.length) xs.length && inB (plV y xs.length) xs.length then exF xs (plV x xs.length).toNat (plV y xs.length).toNat else xs
  | .roll x y c => if inB (plV x xs.length) xs.length && inB (plV y xs.length) xs.length && decide (plV x xs.length ≤ plV y xs.length) then roF xs (plV x xs.length).toNat (plV y xs.length).toNat (amV c ((plV y xs.length).toNat + 1 - (plV x xs.length).toNat : Nat)) else xs
theorem ex_len (xs : List Int) (x y : Nat) : (exF xs x y).length = xs.length := by
  unfold exF
  rw [List.length_set, List.length_set]
theorem ro_len (xs : List Int) (x y : Nat) (c : Int) (hxy : x ≤ y) (hy : y < xs.length) : (roF xs x y c).length = xs.length := by
  unfold roF
  simp only [List.length_append, List.length_take, List.length_drop]
  omega
theorem mv_len (m : Mv) (xs : List Int) : (mvF m xs).length = xs.length := by
  cases m with
  | turn => exact List.length_reverse
  | exch x y =>
    simp only [mvF]
    split
    · exact ex_len _ _ _
    · rfl
  | roll x y c =>
    simp only [mvF]
    split
    · rename_i h
      simp only [inB, Bool.and_eq_true, decide_eq_true_eq] at h
      exact ro_len _ _ _ _ (by omega) (by omega)
    · rfl
def spExchanged (K : PySem.W.Frag) : Sp := fun vs H Q _ => ∃ (p : Addr) (xs : List Int) (x y : Nat), vs = [.ref p, .int (x : Int), .int (y : Int)] ∧ SqL K H p (xs.map V.int) ∧ xs.length ≤ 100000 ∧ x < xs.length ∧ y < xs.length ∧
  ∀ o H', H o = none → H' o = some (.lst ((exF xs x y).map V.int)) → Same H H' → Q (.ref o) H'
theorem ok_exchanged (T : Tx w K mg a) : FnOk P w K mg base CX0 1 a.f_exchanged a.d_exchanged ["old", "x", "y"] (spExchanged K) := by
  refine T.F_exchanged.ok sc_exchanged (fun vs H Q E h => ?_) (fun cdv A outer s H vs Q E hr h => ?_)
  · obtain ⟨p, xs, x, y, rfl, _⟩ := h
    rfl
  · obtain ⟨p, xs, x, y, rfl, hp, hl, hx, hy, q⟩ := h
    have at_ : ∀ {i : Nat}, i < xs.length → atI (xs.map V.int) (i : Int) = some (.int (xs.getD i 0)) := fun {i} hi => by
      refine atI_nat ?_
      rw [List.getElem?_map, List.getElem?_eq_getElem hi, getD_get hi]
      rfl
    refine ⟨_, 
(pss_cons (ps_set (i := 3) sc_exchanged.nd rfl (.inl rfl) (pe_callTy call_list_of (by rfl) T.z_list (by decide +kernel) (pa_cons (pv 0) pa_nil)))
  (pss_cons (ps_asg (pe_ix ix_list (pv 0) (pv 2) (fun _ _ => rfl)) (pg_sub (pv 3) (pv 1) set_list))
  (pss_cons (ps_asg (pe_ix ix_list (pv 0) (pv 1) (fun _ _ => rfl)) (pg_sub (pv 3) (pv 2) set_list))
  (pss_one (ps_ret (pv 3)))))), ?_⟩
    refine ⟨.ref p, rfl, p, _, rfl, .inl hp, fun o no => ?_⟩
    have s1 := same_upd (o := .lst (xs.map V.int)) no
    refine ⟨.ref p, rfl, _, rfl, p, _, _, _, rfl, rfl, s1.seq hp, at_ hy, .ref o, rfl, _, rfl, o, _, _, x, rfl, rfl, upd_same, by rw [List.length_map]; exact ixN_nat (by omega) (by omega), ?_⟩
    have s2 := keep_upd (o := .lst ((xs.map V.int).set x (.int (xs.getD y 0)))) s1 no
    refine ⟨.ref p, rfl, _, rfl, p, _, _, _, rfl, rfl, s2.seq hp, at_ hx, .ref o, rfl, _, rfl, o, _, _, y, rfl, rfl, upd_same, by rw [List.length_set, List.length_map]; exact ixN_nat (by omega) (by omega), ?_⟩
    refine ⟨_, rfl, q o _ no ?_ (keep_upd s2 no)⟩
    rw [upd_same]
    unfold exF
    rw [List.map_set, List.map_set]
/-- slices of lists of ints -/
theorem cut_to (xs : List Int) (n : Nat) : cutV (xs.map V.int) none (some (n : Int)) = (xs.take n).map V.int := by
  unfold cutV
  rw [HT.sIx_none, HT.sIx_nat, List.drop_zero, Nat.sub_zero, List.map_take, List.take_eq_take_iff, List.length_map]
  omega
theorem cut_from (xs : List Int) (n : Nat) (h : n ≤ xs.length) : cutV (xs.map V.int) (some (n : Int)) none = (xs.drop n).map V.int := by
  unfold cutV
  rw [HT.sIx_nat, HT.sIx_none, List.length_map, Nat.min_eq_left h, ← List.map_drop, List.take_of_length_le (by rw [List.length_map, List.length_drop]; exact Nat.le_refl _)]
theorem cut_mid (xs : List Int) (n m : Nat) (h : n ≤ xs.length) (hm : m ≤ xs.length) : cutV (xs.map V.int) (some (n : Int)) (some (m : Int)) = ((xs.drop n).take (m - n)).map V.int := by
  unfold cutV
  rw [HT.sIx_nat, HT.sIx_nat, List.length_map, Nat.min_eq_left h, Nat.min_eq_left hm, ← List.map_drop, ← List.map_take]
theorem blk_len (xs : List Int) (x y : Nat) (hxy : x ≤ y) (hy : y < xs.length) : ((xs.drop x).take (y + 1 - x)).length = y + 1 - x := by
  rw [List.length_take, List.length_drop]
  omega
def spRolled (K : PySem.W.Frag) : Sp := fun vs H Q _ => ∃ (p : Addr) (xs : List Int) (x y : Nat) (c : Str), vs = [.ref p, .int (x : Int), .int (y : Int), .str c] ∧ SqL K H p (xs.map V.int) ∧ xs.length ≤ 100000 ∧ x < xs.length ∧ y < xs.length ∧ c ∈ am ∧
  ∀ o H', H o = none → H' o = some (.lst ((if x ≤ y then roF xs x y (amV c (y + 1 - x : Nat)) else xs).map V.int)) → Same H H' → Q (.ref o) H'
theorem ok_rolled (T : Tx w K mg a) : FnOk P w K mg base CX0 2 a.f_rolled a.d_rolled ["old", "x", "y", "amount"] (spRolled K) := by
  refine T.F_rolled.ok sc_rolled (fun vs H Q E h => ?_) (fun cdv A outer s H vs Q E hr h => ?_)
  · obtain ⟨p, xs, x, y, c, rfl, _⟩ := h
    rfl
  · obtain ⟨p, xs, x, y, c, rfl, hp, hl, hx, hy, hc, q⟩ := h
    refine ⟨_, 
(pss_cons (ps_if (pt_cmpR op_gt (pv 1) (pv 2) (nomark _))
  (pss_one (ps_ret (pe_callTy call_list_of (by rfl) T.z_list (by decide +kernel) (pa_cons (pv 0) pa_nil))))
  pss_nil)
  (pss_cons (ps_set (i := 4) sc_rolled.nd rfl (.inl rfl) (pe_slice sl_list (pv 0) (po_some (pv 1)) (po_some (pe_op op_add (pv 2) pe_int))))
  (pss_cons (ps_set (i := 5) sc_rolled.nd rfl (.inl rfl) (pe_op op_sub (pe_callB call_len_seq (by rfl) T.z_len PySem.boot_len (pa_cons (pv 4) pa_nil)) (pe_op op_modN (pe_call (ok_amount_of T) hr (by rfl) T.m_amount_of T.F_amount_of.kp T.b_amount_of .nil pass0 (pa_cons (pv 3) (pa_cons (pe_callB call_len_seq (by rfl) T.z_len PySem.boot_len (pa_cons (pv 4) pa_nil)) pa_nil))) (pe_callB call_len_seq (by rfl) T.z_len PySem.boot_len (pa_cons (pv 4) pa_nil)))))
  (pss_one (ps_ret (pe_op op_cat (pe_op op_cat (pe_op op_cat (pe_slice sl_list (pv 0) po_none (po_some (pv 1))) (pe_slice sl_list (pv 4) (po_some (pv 5)) po_none)) (pe_slice sl_list (pv 4) po_none (po_some (pv 5)))) (pe_slice sl_list (pv 0) (po_some (pe_op op_add (pv 2) pe_int)) po_none))))))), ?_⟩
    refine ⟨_, rfl, _, rfl, x, y, rfl, rfl, _, rfl, ite2 (fun e => ?_) (fun e => ?_)⟩
    · have hxy : ¬ x ≤ y := by
        have := of_decide_eq_true e
        omega
      refine ⟨.ref p, rfl, p, _, rfl, .inl hp, fun o no => q o _ no ?_ (same_upd no)⟩
      rw [upd_same, if_neg hxy]
    have hxy : x ≤ y := by
      have : ¬ (y : Int) < x := fun z => e (decide_eq_true z)
      omega
    rw [if_pos hxy] at q
    have bl := blk_len xs x y hxy hy
    have em := cut_mid xs x (y + 1) (by omega) (by omega)
    have et := cut_to xs x
    have ef := cut_from xs (y + 1) (by omega)
    -- block = old[x:y + 1]
    refine ⟨.ref p, rfl, _, rfl, _, rfl, _, rfl, y, 1, rfl, rfl, _, rfl, p, _, rfl, hp, fun b nb => ?_⟩
    rw [show (y : Int) + 1 = ((y + 1 : Nat) : Int) by omega, em]
    generalize eb : (xs.drop x).take (y + 1 - x) = B at bl em
    have s1 := same_upd (o := .lst (B.map V.int)) nb
    have hb : (upd H b (.lst (B.map V.int))) b = some (.lst (B.map V.int)) := upd_same
    generalize upd H b (.lst (B.map V.int)) = H1 at s1 hb ⊢
    have bp : 0 < B.length := by omega
    -- cut = len(block) - amount_of(amount, len(block)) % len(block)
    refine ⟨.ref b, rfl, b, _, rfl, .inl (SqL.at hb), .str c, rfl, .ref b, rfl, b, _, rfl, .inl (SqL.at hb), c, _, rfl, hc, .ref b, rfl, b, _, rfl, .inl (SqL.at hb), _, _, rfl, rfl, ?_, _, _, rfl, rfl, ?_⟩
    · rw [List.length_map]
      show ((B.length : Nat) : Int) ≠ 0
      omega
    rw [List.length_map]
    have f0 := Int.fmod_nonneg_of_pos (amV c (B.length : Int)) (b := (B.length : Int)) (by omega)
    have f1 := Int.fmod_lt_of_pos (amV c (B.length : Int)) (b := (B.length : Int)) (by omega)
    obtain ⟨k, ek, hk⟩ : ∃ k : Nat, (B.length : Int) - Int.fmod (amV c (B.length : Int)) (B.length : Int) = (k : Int) ∧ k ≤ B.length := ⟨((B.length : Int) - Int.fmod (amV c (B.length : Int)) (B.length : Int)).toNat, by omega, by omega⟩
    have e2 := cut_from B k hk
    have e3 := cut_to B k
    -- old[:x] + block[cut:] + block[:cut] + old[y + 1:]
    refine ⟨.ref p, rfl, _, rfl, _, rfl, p, _, rfl, s1.seq hp, fun o1 no1 => ?_⟩
    rw [et]
    have u1 := same_upd (o := .lst ((xs.take x).map V.int)) no1
    have b1 := u1 _ _ hb
    have h1 : (upd H1 o1 (.lst ((xs.take x).map V.int))) o1 = _ := upd_same
    generalize upd H1 o1 (.lst ((xs.take x).map V.int)) = H2 at u1 b1 h1 ⊢
    refine ⟨.ref b, rfl, _, rfl, _, rfl, b, _, rfl, SqL.at b1, fun o2 no2 => ?_⟩
    rw [ek, e2]
    have u2 := same_upd (o := .lst ((B.drop k).map V.int)) no2
    have b2 := u2 _ _ b1
    have h12 := u2 _ _ h1
    have h2 : (upd H2 o2 (.lst ((B.drop k).map V.int))) o2 = _ := upd_same
    generalize upd H2 o2 (.lst ((B.drop k).map V.int)) = H3 at u2 b2 h12 h2 ⊢
    refine ⟨o1, o2, _, _, rfl, rfl, h12, h2, sz (by simp; omega), fun o3 no3 => ?_⟩
    rw [← List.map_append]
    have u3 := same_upd (o := .lst ((xs.take x ++ B.drop k).map V.int)) no3
    have b3 := u3 _ _ b2
    have h3 : (upd H3 o3 (.lst ((xs.take x ++ B.drop k).map V.int))) o3 = _ := upd_same
    generalize upd H3 o3 (.lst ((xs.take x ++ B.drop k).map V.int)) = H4 at u3 b3 h3 ⊢
    refine ⟨.ref b, rfl, _, rfl, _, rfl, b, _, rfl, SqL.at b3, fun o4 no4 => ?_⟩
    rw [ek, e3]
    have u4 := same_upd (o := .lst ((B.take k).map V.int)) no4
    have h34 := u4 _ _ h3
    have h4 : (upd H4 o4 (.lst ((B.take k).map V.int))) o4 = _ := upd_same
    generalize upd H4 o4 (.lst ((B.take k).map V.int)) = H5 at u4 h34 h4 ⊢
    refine ⟨o3, o4, _, _, rfl, rfl, h34, h4, sz (by simp; omega), fun o5 no5 => ?_⟩
    rw [← List.map_append]
    have u5 := same_upd (o := .lst ((xs.take x ++ B.drop k ++ B.take k).map V.int)) no5
    have h5 : (upd H5 o5 (.lst ((xs.take x ++ B.drop k ++ B.take k).map V.int))) o5 = _ := upd_same
    generalize upd H5 o5 (.lst ((xs.take x ++ B.drop k ++ B.take k).map V.int)) = H6 at u5 h5 ⊢
    have u06 := s1.trans (u1.trans (u2.trans (u3.trans (u4.trans u5))))
    refine ⟨.ref p, rfl, _, rfl, y, 1, rfl, rfl, _, rfl, p, _, rfl, u06.seq hp, fun o6 no6 => ?_⟩
    rw [show (y : Int) + 1 = ((y + 1 : Nat) : Int) by omega, ef]
    have u6 := same_upd (o := .lst ((xs.drop (y + 1)).map V.int)) no6
    have h56 := u6 _ _ h5
    have h6 : (upd H6 o6 (.lst ((xs.drop (y + 1)).map V.int))) o6 = _ := upd_same
    generalize upd H6 o6 (.lst ((xs.drop (y + 1)).map V.int)) = H7 at u6 h56 h6 ⊢
    refine ⟨o5, o6, _, _, rfl, rfl, h56, h6, sz (by simp; omega), fun o7 no7 => ?_⟩
    rw [← List.map_append]
    have u07 := u06.trans (u6.trans (same_upd (o := .lst ((xs.take x ++ B.drop k ++ B.take k ++ xs.drop (y + 1)).map V.int)) no7))
    refine q o7 _ (u06.free (u6.free no7)) ?_ u07
    rw [upd_same]
    unfold roF
    simp only [eb]
    rw [← bl, ek, Int.toNat_natCast]
end

section
variable {P : Program} {w : World} {K : PySem.W.Frag} {mg : Str → Option Value} {base : Heap} {a : Ad}
theorem btM_in {v : Int} {n : Nat} : btM 0 ((n : Int) - 1) (.int v) = inB v n := by
  simp only [btM, inB]
  congr 1
  exact decide_eq_decide.mpr (by omega)
theorem in_nat {v : Int} {n : Nat} (h : inB v n = true) : ∃ x : Nat, v = (x : Int) ∧ x < n := by
  simp only [inB, Bool.and_eq_true, decide_eq_true_eq] at h
  exact ⟨v.toNat, by omega, by omega⟩
def spMoved (K : PySem.W.Frag) : Sp := fun vs H Q _ => ∃ (p t : Addr) (xs : List Int) (m : Mv), vs = [.ref p, .ref t] ∧ SqL K H p (xs.map V.int) ∧ SqT K H t (strsV m.parts) ∧ m.ok ∧ xs.length ≤ 100000 ∧
  ∀ o H', H o = none → H' o = some (.lst ((mvF m xs).map V.int)) → Same H H' → Q (.ref o) H'
theorem head_at {m : Mv} : atI (strsV m.parts) 0 = some (.str m.head) := strs_get (i := 0) (by rw [Mv.parts_eq]; rfl)
theorem ok_moved (T : Tx w K mg a) : FnOk P w K mg base CX0 3 a.f_moved a.d_moved ["old", "move"] (spMoved K) := by
  refine T.F_moved.ok sc_moved (fun vs H Q E h => ?_) (fun cdv A outer s H vs Q E hr h => ?_)
  · obtain ⟨p, t, xs, m, rfl, _⟩ := h
    rfl
  · obtain ⟨p, t, xs, m, rfl, hp, ht, hm, hl, q⟩ := h
    refine ⟨_, 
(pss_cons (ps_if (pt_cmpR op_eq (pe_ix ix_tup (pv 1) pe_int (fun _ _ => rfl)) pe_str (nomark _))
  (pss_one (ps_ret (pe_revL (pv 0))))
  pss_nil)
  (pss_cons (ps_set (i := 2) sc_moved.nd rfl (.inl rfl) (pe_call (ok_place_of T) (hr.mono (by decide)) (by rfl) T.m_place_of T.F_place_of.kp T.b_place_of .nil pass0 (pa_cons (pe_ix ix_tup (pv 1) pe_int (fun _ _ => rfl)) (pa_cons (pe_callB call_len_seq (by rfl) T.z_len PySem.boot_len (pa_cons (pv 0) pa_nil)) pa_nil))))
  (pss_cons (ps_set (i := 3) sc_moved.nd rfl (.inl rfl) (pe_call (ok_place_of T) (hr.mono (by decide)) (by rfl) T.m_place_of T.F_place_of.kp T.b_place_of .nil pass0 (pa_cons (pe_ix ix_tup (pv 1) pe_int (fun _ _ => rfl)) (pa_cons (pe_callB call_len_seq (by rfl) T.z_len PySem.boot_len (pa_cons (pv 0) pa_nil)) pa_nil))))
  (pss_cons (ps_if (PW.pt (pw_or (pt_not (pt_val (pe_call (ok_is_between T) hr (by rfl) T.m_is_between T.F_is_between.kp T.b_is_between .nil pass0 (pa_cons (pv 2) (pa_cons pe_int (pa_cons (pe_op op_sub (pe_callB call_len_seq (by rfl) T.z_len PySem.boot_len (pa_cons (pv 0) pa_nil)) pe_int) pa_nil)))))) (pw_or1 (pt_not (pt_val (pe_call (ok_is_between T) hr (by rfl) T.m_is_between T.F_is_between.kp T.b_is_between .nil pass0 (pa_cons (pv 3) (pa_cons pe_int (pa_cons (pe_op op_sub (pe_callB call_len_seq (by rfl) T.z_len PySem.boot_len (pa_cons (pv 0) pa_nil)) pe_int) pa_nil)))))))))
  (pss_one (ps_ret (pe_callTy call_list_of (by rfl) T.z_list (by decide +kernel) (pa_cons (pv 0) pa_nil))))
  pss_nil)
  (pss_cons (ps_if (pt_cmpR op_eq (pe_ix ix_tup (pv 1) pe_int (fun _ _ => rfl)) pe_str (nomark _))
  (pss_one (ps_ret (pe_call (ok_exchanged T) (hr.mono (by decide)) (by rfl) T.m_exchanged T.F_exchanged.kp T.b_exchanged .nil pass0 (pa_cons (pv 0) (pa_cons (pv 2) (pa_cons (pv 3) pa_nil))))))
  pss_nil)
  (pss_one (ps_ret (pe_call (ok_rolled T) hr (by rfl) T.m_rolled T.F_rolled.kp T.b_rolled .nil pass0 (pa_cons (pv 0) (pa_cons (pv 2) (pa_cons (pv 3) (pa_cons (pe_ix ix_tup (pv 1) pe_int (fun _ _ => rfl)) pa_nil)))))))))))), ?_⟩
    refine ⟨.ref t, rfl, t, _, 0, _, rfl, rfl, ht, head_at, rfl, _, rfl, ?_⟩
    by_cases htu : m = .turn
    · subst htu
      rw [show decide (V.str (Mv.head .turn) = V.str "turn") = true from by decide +kernel]
      refine ⟨.ref p, rfl, p, _, rfl, hp, fun o no => q o _ no ?_ (same_upd no)⟩
      rw [upd_same, ← List.map_reverse]
      rfl
    have hh : decide (V.str m.head = V.str "turn") = false := by
      cases m with
      | turn => exact absurd rfl htu
      | exch x y => exact (by decide +kernel : decide (V.str "exchange" = V.str "turn") = false)
      | roll x y c => exact (by decide +kernel : decide (V.str "roll" = V.str "turn") = false)
    rw [hh]
    obtain ⟨X, Y, hX, hY, wX, wY, hmv⟩ : ∃ X Y, m.parts[1]? = some X ∧ m.parts[2]? = some Y ∧ X ∈ wt ∧ Y ∈ wt ∧ (∀ xs, (inB (plV X (xs.length : Int)) xs.length && inB (plV Y (xs.length : Int)) xs.length) = false → mvF m xs = xs) := by
      cases m with
      | turn => exact absurd rfl htu
      | exch x y =>
        refine ⟨x, y, rfl, rfl, hm.1, hm.2, fun xs h => ?_⟩
        simp only [mvF, h]
        rfl
      | roll x y c =>
        refine ⟨x, y, rfl, rfl, hm.1, hm.2.1, fun xs h => ?_⟩
        simp only [mvF, h, Bool.false_and]
        rfl
    have el : (xs.map V.int).length = xs.length := List.length_map ..
    -- x = place_of(move[1], len(old)); y = ..
    refine ⟨.ref t, rfl, t, _, 1, _, rfl, rfl, ht, strs_get (i := 1) hX, .ref p, rfl, p, _, rfl, .inl hp, X, _, rfl, wX, ?_⟩
    refine ⟨.ref t, rfl, t, _, 2, _, rfl, rfl, ht, strs_get (i := 2) hY, .ref p, rfl, p, _, rfl, .inl hp, Y, _, rfl, wY, ?_⟩
    rw [el]
    -- if not is_between(x, 0, len(old) - 1) or not is_between(y, 0, len(old) - 1)
    refine ⟨_, rfl, .ref p, rfl, p, _, rfl, .inl hp, _, 1, rfl, rfl, .int (plV X (xs.length : Int)), true, 0, _, rfl, .int _, _, rfl, ?_⟩
    rw [el, btM_in]
    cases hx : inB (plV X (xs.length : Int)) xs.length with
    | false =>
      have hq := hmv xs (by rw [hx]; rfl)
      refine ⟨.ref p, rfl, p, _, rfl, .inl hp, fun o no => q o _ no ?_ (same_upd no)⟩
      rw [upd_same, hq]
    | true =>
      refine ⟨_, rfl, .ref p, rfl, p, _, rfl, .inl hp, _, 1, rfl, rfl, .int (plV Y (xs.length : Int)), true, 0, _, rfl, .int _, _, rfl, ?_⟩
      rw [el, btM_in]
      cases hy : inB (plV Y (xs.length : Int)) xs.length with
      | false =>
        have hq := hmv xs (by rw [hx, hy]; rfl)
        refine ⟨.ref p, rfl, p, _, rfl, .inl hp, fun o no => q o _ no ?_ (same_upd no)⟩
        rw [upd_same, hq]
      | true =>
        obtain ⟨x, ex, hxl⟩ := in_nat hx
        obtain ⟨y, ey, hyl⟩ := in_nat hy
        refine ⟨.ref t, rfl, t, _, 0, _, rfl, rfl, ht, head_at, rfl, _, rfl, ?_⟩
        cases m with
        | turn => exact absurd rfl htu
        | exch X' Y' =>
          cases hX
          cases hY
          rw [show decide (V.str (Mv.head (.exch X Y)) = V.str "exchange") = true from by rfl]
          refine ⟨.ref p, rfl, _, rfl, _, rfl, p, xs, x, y, by rw [ex, ey]; rfl, hp, hl, hxl, hyl, fun o H' no eo so => q o H' no ?_ so⟩
          rw [eo]
          have h2 : (inB (plV X (xs.length : Int)) xs.length && inB (plV Y (xs.length : Int)) xs.length) = true := by
            rw [hx, hy]
            rfl
          simp only [mvF]
          rw [if_pos h2, ex, ey]
          rfl
        | roll X' Y' c =>
          cases hX
          cases hY
          rw [show decide (V.str (Mv.head (.roll X Y c)) = V.str "exchange") = false from by rfl]
          refine ⟨.ref p, rfl, _, rfl, _, rfl, .ref t, rfl, t, _, 3, _, rfl, rfl, ht, strs_get (i := 3) rfl, p, xs, x, y, c, by rw [ex, ey]; rfl, hp, hl, hxl, hyl, hm.2.2, fun o H' no eo so => q o H' no ?_ so⟩
          rw [eo]
          simp only [mvF]
          by_cases hxy : x ≤ y
          · have h2 : (inB (plV X (xs.length : Int)) xs.length && inB (plV Y (xs.length : Int)) xs.length && decide (plV X (xs.length : Int) ≤ plV Y (xs.length : Int))) = true := by
              rw [hx, hy, ex, ey, decide_eq_true (show (x : Int) ≤ y by omega)]
              rfl
            rw [if_pos h2, if_pos hxy, ex, ey]
            rfl
          · have h2 : ¬ (inB (plV X (xs.length : Int)) xs.length && inB (plV Y (xs.length : Int)) xs.length && decide (plV X (xs.length : Int) ≤ plV Y (xs.length : Int))) = true := by
              rw [hx, hy, ex, ey, decide_eq_false (show ¬ (x : Int) ≤ y by omega)]
              decide
            rw [if_neg h2, if_neg hxy]
/-! ### words -/
def wtext (ms : List Mv) : Str := Txt.join " " (wp ms)
structure WordOk (ms : List Mv) : Prop where
  ne : ms ≠ []
  l4 : ms.length ≤ 4
  ok : ∀ m ∈ ms, m.ok
  one : oneTurn ms
theorem wp_ok : ∀ {ms : List Mv}, (∀ m ∈ ms, m.ok) → ∀ z ∈ wp ms, PyData.strOk z = true ∧ z.length ≤ 100 ∧ 32 ∉ z.cps.toList
  | [], _, z, hz => by cases hz
  | [m], h, z, hz => Mv.str_ok (h m (List.mem_cons_self ..)) z hz
  | m :: n :: r, h, z, hz => by
    rcases List.mem_append.mp hz with hz | hz
    · exact Mv.str_ok (h m (List.mem_cons_self ..)) z hz
    · rcases List.mem_cons.mp hz with rfl | hz
      · exact ⟨by decide +kernel, by decide +kernel, by decide +kernel⟩
      · exact wp_ok (fun x hx => h x (List.mem_cons_of_mem _ hx)) z hz
theorem wp_ne {ms : List Mv} (h : ms ≠ []) : wp ms ≠ [] := by
  cases ms with
  | nil => exact absurd rfl h
  | cons m r =>
    cases r with
    | nil => cases m <;> simp [wp, Mv.parts]
    | cons n r => simp [wp]
theorem split_wtext {ms : List Mv} (h : WordOk ms) : Txt.split (wtext ms) " " = wp ms := by
  refine TL.split_join (s := 32) (S := []) (by decide +kernel) (by decide +kernel) (wp_ne h.ne) fun z hz => ?_
  exact (wp_ok h.ok z hz).2.2
def flW (ms : List Mv) (t : Addr) : List (Str × V) := putF "has_turn" (.bl (decide (Mv.turn ∈ ms))) (putF "moves" (.ref t) (putF "text" (.str (wtext ms)) []))
/-- a Word stands at p -/
def WordAt (C : Addr) (H : Hp) (p : Addr) (ms : List Mv) : Prop := ∃ dx t rs, H p = some (.ins C dx (flW ms t)) ∧ H t = some (.tup (rs.map V.ref)) ∧ Held H rs ms
theorem WordAt.same {C : Addr} {H H' : Hp} {p : Addr} {ms : List Mv} (h : WordAt C H p ms) (e : Same H H') : WordAt C H' p ms := by
  obtain ⟨dx, t, rs, h1, h2, h3⟩ := h
  exact ⟨dx, t, rs, e _ _ h1, e _ _ h2, h3.same e⟩
theorem kw1 : ¬ (("text" : Str) = "moves") := by decide +kernel
theorem kw2 : ¬ (("text" : Str) = "has_turn") := by decide +kernel
theorem kw3 : ¬ (("moves" : Str) = "has_turn") := by decide +kernel
theorem fl2 (v : V) (t : Addr) : putF "moves" (.ref t) (putF "text" v []) = [(("text" : Str), v), (("moves" : Str), V.ref t)] := by
  show (if ("text" : Str) = "moves" then _ else (("text" : Str), v) :: putF "moves" (.ref t) []) = _
  rw [if_neg kw1]
  rfl
theorem flW_text (ms : List Mv) (t : Addr) : (flW ms t).lookup ("text" : Str) = some (.str (wtext ms)) := by
  unfold flW
  rw [lookup_putF, if_neg kw2, lookup_putF, if_neg kw1, lookup_putF, if_pos rfl]
theorem flW_moves (ms : List Mv) (t : Addr) : (flW ms t).lookup ("moves" : Str) = some (.ref t) := by
  unfold flW
  rw [lookup_putF, if_neg kw3, lookup_putF, if_pos rfl]
theorem flW_turn (ms : List Mv) (t : Addr) : (flW ms t).lookup ("has_turn" : Str) = some (.bl (decide (Mv.turn ∈ ms))) := by
  unfold flW
  rw [lookup_putF, if_pos rfl]
def allF (ms : List Mv) (xs : List Int) : List Int := ms.foldl (fun ys m => mvF m ys) xs
theorem allF_len : ∀ (ms : List Mv) (xs : List Int), (allF ms xs).length = xs.length
  | [], _ => rfl
  | m :: r, xs => by
    show (allF r (mvF m xs)).length = _
    rw [allF_len r, mv_len]
theorem Held.get {H : Hp} : ∀ {rs : List Addr} {ms : List Mv}, Held H rs ms → ∀ {i : Nat} {m : Mv}, ms[i]? = some m → ∃ r, rs[i]? = some r ∧ H r = some (.tup (strsV m.parts))
  | [], [], _, i, m, h => by simp at h
  | r :: rs, n :: ms, hh, 0, m, h => by
    cases h
    exact ⟨r, rfl, hh.1⟩
  | r :: rs, n :: ms, hh, i + 1, m, h => by
    obtain ⟨x, hx, hy⟩ := Held.get hh.2 (i := i) (m := m) (by simpa using h)
    exact ⟨x, by simpa using hx, hy⟩
end

section
variable {P : Program} {w : World} {K : PySem.W.Frag} {mg : Str → Option Value} {base : Heap} {a : Ad}
def spErrInit (C : Addr) (f : Str) : Sp := fun vs H Q _ => ∃ (x : Addr) (v : V), vs = [.ref x, v] ∧ H x = some (exo x C none) ∧ ∀ dx, H dx = none → dx ≠ x → Q .non (upd (upd H dx (exd dx [(f, v)])) x (exo x C (some dx)))
theorem ok_BadWord_init (T : Tx w K mg a) : FnOk P w K mg base CX0 1 a.f_BadWord_init a.d_BadWord_init ["self", "index"] (spErrInit a.C_BadWord "index") := by
  refine T.F_BadWord_init.ok sc_BadWord_init (fun vs H Q E h => ?_) (fun cdv A outer s H vs Q E hr h => ?_)
  · obtain ⟨x, v, rfl, _⟩ := h
    rfl
  · obtain ⟨x, v, rfl, hx, q⟩ := h
    refine ⟨_, 
(pss_one (ps_ost (pv 0) (pv 1))), ?_⟩
    exact ⟨v, rfl, .ref x, rfl, x, a.C_BadWord, rfl, T.ox_BadWord.o, T.ox_BadWord.no, .inl ⟨hx, fun dx n ne => q dx n ne⟩⟩
theorem ok_BadSize_init (T : Tx w K mg a) : FnOk P w K mg base CX0 1 a.f_BadSize_init a.d_BadSize_init ["self", "size"] (spErrInit a.C_BadSize "size") := by
  refine T.F_BadSize_init.ok sc_BadSize_init (fun vs H Q E h => ?_) (fun cdv A outer s H vs Q E hr h => ?_)
  · obtain ⟨x, v, rfl, _⟩ := h
    rfl
  · obtain ⟨x, v, rfl, hx, q⟩ := h
    refine ⟨_, 
(pss_one (ps_ost (pv 0) (pv 1))), ?_⟩
    exact ⟨v, rfl, .ref x, rfl, x, a.C_BadSize, rfl, T.ox_BadSize.o, T.ox_BadSize.no, .inl ⟨hx, fun dx n ne => q dx n ne⟩⟩
theorem ok_BadCall_init (T : Tx w K mg a) : FnOk P w K mg base CX0 1 a.f_BadCall_init a.d_BadCall_init ["self", "call"] (spErrInit a.C_BadCall "call") := by
  refine T.F_BadCall_init.ok sc_BadCall_init (fun vs H Q E h => ?_) (fun cdv A outer s H vs Q E hr h => ?_)
  · obtain ⟨x, v, rfl, _⟩ := h
    rfl
  · obtain ⟨x, v, rfl, hx, q⟩ := h
    refine ⟨_, 
(pss_one (ps_ost (pv 0) (pv 1))), ?_⟩
    exact ⟨v, rfl, .ref x, rfl, x, a.C_BadCall, rfl, T.ox_BadCall.o, T.ox_BadCall.no, .inl ⟨hx, fun dx n ne => q dx n ne⟩⟩
theorem made_same {H H1 : Hp} {x dx C : Addr} {f : Str} {v : V} (s : Same H H1) (hx : H1 x = none) (hd : H1 dx = none) : Same H (upd (del (upd (upd (upd H1 x (exo x C none)) dx (exd dx [(f, v)])) x (exo x C (some dx))) x) dx (.xd [(f, v)])) := fun b o e => by
  have e1 := s b o e
  have nx := ne_of_none e1 hx
  have nd := ne_of_none e1 hd
  rw [upd_ne nd, del_ne nx, upd_ne nx, upd_ne nd, upd_ne nx]
  exact e1
theorem err_end {H H1 : Hp} {C : Addr} {f : Str} {v : V} {E : XK} (s1 : Same H H1) (hE : ∀ H' d, Same H H' → H' d = some (.xd [(f, v)]) → E (.ref C) (some d) H') : ∀ x, H1 x = none →
    spErrInit C f [.ref x, v] (upd H1 x (exo x C none)) (fun u H2 => u = .non ∧ ∃ (d : Addr) (fs : List (Str × V)), H2 x = some (exo x C (some d)) ∧ H2 d = some (exd d fs) ∧ H1 d = none ∧ E (.ref C) (some d) (upd (del H2 x) d (.xd fs))) (fun _ _ _ => False) := by
  intro x hx
  refine ⟨x, v, rfl, upd_same, fun dx hd ne => ⟨rfl, dx, [(f, v)], upd_same, ?_, ?_, ?_⟩⟩
  · rw [upd_ne ne]
    exact upd_same
  · rw [upd_ne ne] at hd
    exact hd
  · have hd1 : H1 dx = none := by
      rw [upd_ne ne] at hd
      exact hd
    exact hE _ dx (made_same s1 hx hd1) upd_same
end

/-! ### moves read: where the first part stands that cannot stand there -/
def sNoP : Str := ""
def shp (h : Str) : Option (List Str) := if h = "exchange" then some ["place", "place"] else if h = "roll" then some ["place", "place", "amount"] else if h = "turn" then some [] else none
/-- the first of the parts that is not of its kind -/
def chkP : List Str → List Str → Option Nat
  | _, [] => none
  | [], _ :: _ => some 0
  | z :: zs, k :: ks => if ptM z k = true then (chkP zs ks).map (· + 1) else some 0
/-- a move at the beginning: the first part that cannot stand, or its parts -/
def mvE (l : List Str) (may : Bool) : Nat ⊕ List Str := match l with
  | [] => .inl 0
  | h :: r => match shp h with
    | none => .inl 0
    | some ks => if decide (h = "turn") && !may then .inl 0 else match chkP r ks with
      | some j => .inl (j + 1)
      | none => .inr (h :: r.take ks.length)
theorem mvE_cons (h : Str) (r : List Str) (may : Bool) : mvE (h :: r) may = match shp h with
    | none => .inl 0
    | some ks => if decide (h = "turn") && !may then .inl 0 else match chkP r ks with
      | some j => .inl (j + 1)
      | none => .inr (h :: r.take ks.length) := rfl
/-- at most n moves at the beginning: the first part that cannot stand, or the moves and how many parts they have -/
def mvsE : Nat → List Str → Bool → Nat ⊕ (List (List Str) × Nat)
  | 0, _, _ => .inl 0
  | n + 1, l, may => match mvE l may with
    | .inl j => .inl j
    | .inr m => if n = 0 ∨ (l.drop m.length).head? ≠ some ("then" : Str) then .inr ([m], m.length) else
      match mvsE n ((l.drop m.length).drop 1) (may && !decide (m = [("turn" : Str)])) with
      | .inl j => .inl (m.length + 1 + j)
      | .inr (ms, c) => .inr (m :: ms, m.length + 1 + c)
theorem pt_no : ∀ k, ptM sNoP k = false := by
  intro k
  unfold ptM
  by_cases h : k = "place"
  · rw [if_pos h]
    decide +kernel
  · rw [if_neg h]
    decide +kernel
theorem shp_no : shp sNoP = none := by decide +kernel
/-- what is told of the parts: they end with the empty part -/
theorem chkP_lt : ∀ {ps ks : List Str} {j : Nat}, chkP (ps ++ [sNoP]) ks = some j → j ≤ ps.length
  | _, [], j, h => by
    unfold chkP at h
    cases h
  | [], k :: ks, j, h => by
    have e : chkP ([] ++ [sNoP]) (k :: ks) = if ptM sNoP k = true then (chkP [] ks).map (· + 1) else some 0 := rfl
    rw [e, if_neg (by rw [pt_no]; decide)] at h
    cases h
    exact Nat.le_refl _
  | z :: zs, k :: ks, j, h => by
    have e : chkP (z :: zs ++ [sNoP]) (k :: ks) = if ptM z k = true then (chkP (zs ++ [sNoP]) ks).map (· + 1) else some 0 := rfl
    rw [e] at h
    by_cases hp : ptM z k = true
    · rw [if_pos hp] at h
      obtain ⟨i, hi, rfl⟩ := Option.map_eq_some_iff.mp h
      have := chkP_lt hi
      simp only [List.length_cons]
      omega
    · rw [if_neg hp] at h
      cases h
      exact Nat.zero_le _
theorem chkP_none : ∀ {ps ks : List Str}, chkP (ps ++ [sNoP]) ks = none → ks.length ≤ ps.length ∧ ∀ (j : Nat) (z k : Str), ps[j]? = some z → ks[j]? = some k → ptM z k = true
  | ps, [], _ => ⟨Nat.zero_le _, fun j z k _ h => by simp at h⟩
  | [], k :: ks, h => by
    have e : chkP ([] ++ [sNoP]) (k :: ks) = if ptM sNoP k = true then (chkP [] ks).map (· + 1) else some 0 := rfl
    rw [e, if_neg (by rw [pt_no]; decide)] at h
    cases h
  | z :: zs, k :: ks, h => by
    have e : chkP (z :: zs ++ [sNoP]) (k :: ks) = if ptM z k = true then (chkP (zs ++ [sNoP]) ks).map (· + 1) else some 0 := rfl
    rw [e] at h
    by_cases hp : ptM z k = true
    · rw [if_pos hp] at h
      obtain ⟨h1, h2⟩ := chkP_none (Option.map_eq_none_iff.mp h)
      refine ⟨by simp only [List.length_cons]; omega, fun j y x hj hx => ?_⟩
      match j, hj, hx with
      | 0, hj, hx => cases hj; cases hx; exact hp
      | j + 1, hj, hx => exact h2 j y x (by simpa using hj) (by simpa using hx)
    · rw [if_neg hp] at h
      cases h
/-- as far as the parts are of their kinds -/
theorem chkP_step {qs ks : List Str} {z k : Str} {j : Nat} (hz : qs[j]? = some z) (hk : ks[j]? = some k) : chkP (qs.drop j) (ks.drop j) = if ptM z k = true then (chkP (qs.drop (j + 1)) (ks.drop (j + 1))).map (· + 1) else some 0 := by
  obtain ⟨h1, e1⟩ := List.getElem?_eq_some_iff.mp hz
  obtain ⟨h2, e2⟩ := List.getElem?_eq_some_iff.mp hk
  rw [List.drop_eq_getElem_cons h1, List.drop_eq_getElem_cons h2, e1, e2]
  rfl
/-- tuples of parts, at their addresses -/
def HeldS (H : Hp) : List Addr → List (List Str) → Prop
  | [], [] => True
  | r :: rs, m :: ms => H r = some (.tup (strsV m)) ∧ HeldS H rs ms
  | _, _ => False
theorem HeldS.mono {H H' : Hp} (e : ∀ t ys, H t = some (.tup ys) → H' t = some (.tup ys)) : ∀ {rs : List Addr} {ms : List (List Str)}, HeldS H rs ms → HeldS H' rs ms
  | [], [], _ => trivial
  | _ :: _, _ :: _, h => ⟨e _ _ h.1, HeldS.mono e h.2⟩
theorem HeldS.same {H H' : Hp} {rs : List Addr} {ms : List (List Str)} (h : HeldS H rs ms) (e : Same H H') : HeldS H' rs ms := h.mono fun _ _ q => e _ _ q
theorem HeldS.len {H : Hp} : ∀ {rs : List Addr} {ms : List (List Str)}, HeldS H rs ms → rs.length = ms.length
  | [], [], _ => rfl
  | _ :: _, _ :: _, h => congrArg (· + 1) h.2.len
theorem HeldS.snoc {H : Hp} {t : Addr} {m : List Str} (e : H t = some (.tup (strsV m))) : ∀ {rs : List Addr} {ms : List (List Str)}, HeldS H rs ms → HeldS H (rs ++ [t]) (ms ++ [m])
  | [], [], _ => ⟨e, trivial⟩
  | _ :: _, _ :: _, h => ⟨h.1, HeldS.snoc e h.2⟩
theorem HeldS.off {H : Hp} {l : Addr} {xs : List V} {o : HO} (hl : H l = some (.lst xs)) {rs : List Addr} {ms : List (List Str)} (h : HeldS H rs ms) : HeldS (upd H l o) rs ms :=
  h.mono fun t ys e => by
    rw [upd_ne (ne_of e hl (by intro z; cases z))]
    exact e
theorem HeldS.offI {H : Hp} {p C dx : Addr} {fs : List (Str × V)} {o : HO} (hp : H p = some (.ins C dx fs)) {rs : List Addr} {ms : List (List Str)} (h : HeldS H rs ms) : HeldS (upd H p o) rs ms :=
  h.mono fun t ys e => by
    rw [upd_ne (ne_of e hp (by intro z; cases z))]
    exact e
theorem HeldS.but {d : Addr} {H H' : Hp} {kvs : List (Key × V)} {rs : List Addr} {ms : List (List Str)} (h : HeldS H rs ms) (x : But d H H') (hd : H d = some (.dK kvs)) : HeldS H' rs ms := h.mono fun _ _ q => x.tup hd q
theorem HeldS.held {H : Hp} : ∀ {rs : List Addr} {ms : List Mv}, HeldS H rs (ms.map Mv.parts) → Held H rs ms
  | [], [], _ => trivial
  | _ :: _, _ :: _, h => ⟨h.1, HeldS.held h.2⟩
def tuS (m : List Str) : PyData := .tuple (m.map PyData.str)
theorem HeldS.dp {K : PySem.W.Frag} {H : Hp} : ∀ {rs : List Addr} {ms : List (List Str)}, HeldS H rs ms → DpAll K H (rs.map V.ref) (ms.map tuS)
  | [], [], _ => .nil
  | _ :: _, _ :: _, h => .cons (.tup (SqT.at h.1) (dp_strs _)) (HeldS.dp h.2)
theorem shaped_tuS {ms : List (List Str)} (h : ∀ m ∈ ms, ∀ z ∈ m, PyData.strOk z = true) : SeqAt.shaped (.tuple (ms.map tuS)) = true ∧ SeqAt.shaped (.list (ms.map tuS)) = true := by
  have hl : PyData.canLayAll0 (ms.map tuS) = true := by
    induction ms with
    | nil => simp [PyData.canLayAll0]
    | cons m r ih =>
      simp only [List.map_cons, PyData.canLayAll0, Bool.and_eq_true]
      exact ⟨by unfold tuS; rw [PyData.canLay0]; exact lay_strs (h m (List.mem_cons_self ..)), ih fun y hy => h y (List.mem_cons_of_mem _ hy)⟩
  have hd : PyData.depthAll (ms.map tuS) ≤ 2 := by
    clear h hl
    induction ms with
    | nil => simp [PyData.depthAll]
    | cons m r ih =>
      have := deep_strs m
      have e : PyData.depth (tuS m) = PyData.depthAll (m.map PyData.str) + 1 := by unfold tuS; rw [PyData.depth]
      simp only [List.map_cons, PyData.depthAll]
      omega
  unfold SeqAt.shaped
  rw [Bool.and_eq_true, decide_eq_true_eq, Bool.and_eq_true, decide_eq_true_eq]
  refine ⟨⟨by rw [PyData.canLay0]; exact hl, ?_⟩, ⟨by rw [PyData.canLay0]; exact hl, ?_⟩⟩ <;> (rw [PyData.depth]; omega)
theorem any_tuS (ms : List (List Str)) (n : List Str) : (ms.map tuS).any (fun z => PyData.eqv z (tuS n)) = decide (n ∈ ms) := by
  induction ms with
  | nil => simp
  | cons m r ih =>
    rw [List.map_cons, List.any_cons, ih]
    have e : PyData.eqv (tuS m) (tuS n) = decide (m = n) := by
      unfold tuS
      rw [PyData.eqv]
      exact eqv_all_strs m n
    rw [e]
    by_cases h : m = n
    · subst h
      simp
    · have h2 : ¬ n = m := fun z => h z.symm
      simp [h, h2]
section
variable {P : Program} {w : World} {K : PySem.W.Frag} {mg : Str → Option Value} {base : Heap} {a : Ad}
/-- parts as the program takes them -/
def PartsOk (ps : List Str) : Prop := ps.length ≤ 500 ∧ ∀ z ∈ ps, z.length ≤ 100 ∧ PyData.strOk z = true
theorem PartsOk.get {ps : List Str} (h : PartsOk ps) {j : Nat} {z : Str} (hz : (ps ++ [sNoP])[j]? = some z) : z.length ≤ 100 ∧ PyData.strOk z = true := by
  rcases List.mem_append.mp (List.mem_of_getElem? hz) with q | q
  · exact h.2 z q
  · rw [List.mem_singleton] at q
    subst q
    exact ⟨by decide +kernel, by decide +kernel⟩
def spReadMove (CW : Addr) : Sp := fun vs H Q E => ∃ (p : Addr) (ps : List Str) (i : Nat) (may : Bool), vs = [.ref p, .int (i : Int), .bl may] ∧ H p = some (.lst (strsV (ps ++ [sNoP]))) ∧ i ≤ ps.length ∧ PartsOk ps ∧
  (∀ m, mvE ((ps ++ [sNoP]).drop i) may = .inr m → ∀ t H', H t = none → H' t = some (.tup (strsV m)) → Same H H' → Q (.ref t) H') ∧
  (∀ j, mvE ((ps ++ [sNoP]).drop i) may = .inl j → ∀ H' d, Same H H' → H' d = some (.xd [("index", .int ((i + j : Nat) : Int))]) → E (.ref CW) (some d) H')
theorem kd_shp {h : Str} (T : Tx w K mg a) : (∀ ks, shp h = some ks → ∃ p, PySem.W.nsIn K a.a_SHAPES h = some (some (.ref p)) ∧ ∀ H : Hp, SqT K H p (strsV ks)) := by
  intro ks e
  unfold shp at e
  by_cases h1 : h = "exchange"
  · rw [if_pos h1] at e
    cases e
    subst h1
    exact T.v_SHAPES_0
  · rw [if_neg h1] at e
    by_cases h2 : h = "roll"
    · rw [if_pos h2] at e
      cases e
      subst h2
      exact T.v_SHAPES_1
    · rw [if_neg h2] at e
      by_cases h3 : h = "turn"
      · rw [if_pos h3] at e
        cases e
        subst h3
        exact T.v_SHAPES_2
      · rw [if_neg h3] at e
        cases e
theorem kd_no {h : Str} (T : Tx w K mg a) (e : shp h = none) : PySem.W.nsIn K a.a_SHAPES h = some none := by
  obtain ⟨es, n, D, hk⟩ := T.K_SHAPES
  have hl := D.at_
  have key : ∀ e ∈ es.toList, ∃ x t, e.key = .str x t ∧ x ≠ h := fun y hy => by
    have q := List.all_eq_true.mp hk y hy
    obtain ⟨x, t, e1, _⟩ := D.lit.all y hy
    rw [e1] at q
    refine ⟨x, t, e1, fun z => ?_⟩
    subst z
    have q := of_decide_eq_true q
    simp only [List.mem_cons, List.not_mem_nil, or_false] at q
    unfold shp at e
    rcases q with q | q | q
    · rw [if_pos q] at e
      cases e
    · by_cases z : x = "exchange"
      · rw [if_pos z] at e
        cases e
      · rw [if_neg z, if_pos q] at e
        cases e
    · by_cases z : x = "exchange"
      · rw [if_pos z] at e
        cases e
      · by_cases z2 : x = "roll"
        · rw [if_neg z, if_pos z2] at e
          cases e
        · rw [if_neg z, if_neg z2, if_pos q] at e
          cases e
  unfold PySem.W.nsIn
  rw [hl]
  have f : es.toList.find? (fun x => x.key.isStr h) = none := by
    rw [List.find?_eq_none]
    intro y hy
    obtain ⟨x, t, e1, ne⟩ := key y hy
    rw [e1]
    simp [PySem.Value.isStr, ne]
  have r : es.toList.any (fun x => x.refKey) = false := by
    rw [List.any_eq_false]
    intro y hy
    obtain ⟨x, t, e1, ne⟩ := key y hy
    simp [PySem.DictEntry.refKey, e1]
  simp only [f, r]
  rfl
theorem ok_read_move (T : Tx w K mg a) : FnOk P w K mg base (L2.CX P w) 4 a.f_read_move a.d_read_move ["parts", "start", "may_turn"] (spReadMove a.C_BadWord) := by
  refine T.F_read_move.okX sc_read_move (fun vs H Q E h => ?_) (fun cdv A outer s H vs Q E hr h => ?_)
  · obtain ⟨p, ps, i, may, rfl, _⟩ := h
    rfl
  · obtain ⟨p, ps, i, may, rfl, hp, hi, hok, qY, qN⟩ := h
    obtain ⟨es, n, D⟩ := T.D_SHAPES
    refine ⟨_, 
(pss_cons (ps_set (i := 3) sc_read_move.nd rfl (.inl rfl) (pe_ix ix_list (pv 0) (pv 1) (fun _ _ => rfl)))
  (C8.pss_cut (ps_if (PW.pt (pw_or (pt_cmpR (op_notIn_kd D) (pv 3) (pe_glob (v := .ref a.a_SHAPES) (by rfl) T.m_SHAPES rfl) (by rfl)) (pw_or1 (PW.pt (pw_and (pt_cmpR op_eq (pv 3) pe_str (nomark _)) (pw_and1 (pt_not (pt_val (pv 2)))))))))
  (pss_one (ps_raise rfl (takes_of rfl rfl rfl rfl) (pmk_oex T.ox_BadWord.o T.ox_BadWord.ini T.ox_BadWord.tin (ok_BadWord_init T) (hr.mono (by decide)) T.b_BadWord_init .nil pass0 (by rfl) T.c_BadWord (pa_cons (pv 1) pa_nil))))
  pss_nil)
  (pss_cons (ps_set (i := 4) sc_read_move.nd rfl (.inl rfl) (pe_ix ix_kdict (pe_glob (v := .ref a.a_SHAPES) (by rfl) T.m_SHAPES rfl) (pv 3) (fun _ _ => rfl)))
  (pss_cons (ps_for PassesOwn.leaving rfl (pi_enumF (by rfl) T.z_enumerate (pa_cons (pv 4) pa_nil) (pe_op op_add (pv 1) pe_int)) (pg_tup rfl (pgs_cons (pg_name (i := 5) sc_read_move.nd rfl (.inl rfl)) (pgs_cons (pg_name (i := 6) sc_read_move.nd rfl (.inl rfl)) pgs_nil)))
  (pss_one (ps_if (pt_not (pt_val (pe_call (ok_is_part T) hr (by rfl) T.m_is_part T.F_is_part.kp T.b_is_part .nil pass0 (pa_cons (pe_ix ix_list (pv 0) (pv 5) (fun _ _ => rfl)) (pa_cons (pv 6) pa_nil)))))
  (pss_one (ps_raise rfl (takes_of rfl rfl rfl rfl) (pmk_oex T.ox_BadWord.o T.ox_BadWord.ini T.ox_BadWord.tin (ok_BadWord_init T) (hr.mono (by decide)) T.b_BadWord_init .nil pass0 (by rfl) T.c_BadWord (pa_cons (pv 5) pa_nil))))
  pss_nil)))
  (pss_one (ps_ret (pe_callTy call_tuple_of (by rfl) T.z_tuple (by decide +kernel) (pa_cons (pe_slice sl_list (pv 0) (po_some (pv 1)) (po_some (pe_op op_add (pe_op op_add (pv 1) pe_int) (pe_callB call_len_seq (by rfl) T.z_len PySem.boot_len (pa_cons (pv 4) pa_nil))))) pa_nil)))))))), ?_⟩
    have hil : i < (ps ++ [sNoP]).length := by rw [List.length_append]; exact Nat.lt_succ_of_le hi
    have g0 : (ps ++ [sNoP])[i]? = some (ps ++ [sNoP])[i] := List.getElem?_eq_getElem hil
    have hd : (ps ++ [sNoP]).drop i = (ps ++ [sNoP])[i] :: (ps ++ [sNoP]).drop (i + 1) := List.drop_eq_getElem_cons hil
    rw [hd] at qY qN
    generalize (ps ++ [sNoP])[i] = h at g0 hd qY qN
    -- head = parts[start]
    refine ⟨.ref p, rfl, .int i, rfl, p, _, i, _, rfl, rfl, SqL.at hp, strs_get g0, ?_⟩
    -- if head not in SHAPES or (head == 'turn' and not may_turn)
    cases hs : shp h with
    | none =>
      have e : mvE (h :: (ps ++ [sNoP]).drop (i + 1)) may = .inl 0 := by rw [mvE_cons, hs]
      refine ⟨fun _ _ => False, ?_, fun _ _ h => h.elim⟩
      refine ⟨_, rfl, h, none, rfl, rfl, kd_no T hs, _, rfl, ?_⟩
      exact ⟨_, rfl, (by decide : 1 ≤ 1000), err_end (Same.refl H) (fun H' d s' ed => qN 0 e H' d s' ed)⟩
    | some ks =>
      obtain ⟨kp, hk1, hk2⟩ := kd_shp T ks hs
      rw [mvE_cons, hs] at qY qN
      refine ⟨fun σ' H' => σ' = [some (.ref p), some (.int i), some (.bl may), some (.str h), none, none, none] ∧ H' = H ∧ (decide (h = "turn") && !may) = false, ?_, ?_⟩
      · refine ⟨_, rfl, h, some (.ref kp), rfl, rfl, hk1, _, rfl, .str h, rfl, rfl, _, rfl, ?_⟩
        by_cases ht : h = "turn"
        · rw [decide_eq_true (show V.str h = V.str "turn" by rw [ht])]
          refine ⟨.bl may, rfl, _, rfl, ?_⟩
          cases may with
          | true => exact ⟨rfl, rfl, by simp⟩
          | false =>
            have e : (decide (h = "turn") && !false) = true := by simp [ht]
            simp only [e, if_true] at qN
            exact ⟨_, rfl, (by decide : 1 ≤ 1000), err_end (Same.refl H) (fun H' d s' ed => qN 0 rfl H' d s' ed)⟩
        · rw [decide_eq_false (show ¬ V.str h = V.str "turn" from fun e => ht (V.str.inj e))]
          exact ⟨rfl, rfl, by simp [ht]⟩
      rintro σ' H' ⟨rfl, rfl, hnt⟩
      simp only [hnt] at qY qN
      have hnn : ¬ (false = true) := by decide
      rw [if_neg hnn] at qY qN
      -- shape = SHAPES[head]
      refine ⟨.str h, rfl, a.a_SHAPES, h, .ref kp, rfl, rfl, ⟨es, n, _, D.at_, D.lit, hk1, rfl⟩, ?_⟩
      -- for index, kind in enumerate(shape, start=start + 1)
      refine ⟨.ref kp, rfl, .int i, rfl, i, 1, rfl, rfl, kp, strsV ks, (i : Int) + 1, rfl, rfl, by omega, by have := hok.1; omega, hk2 _, ?_⟩
      have hlen : (ps ++ [sNoP]).length = ps.length + 1 := by rw [List.length_append]; rfl
      have hip : i + 1 ≤ ps.length := by
        rcases Nat.lt_or_ge i ps.length with l | l
        · exact l
        · have : i = ps.length := by omega
          subst this
          rw [List.getElem?_append_right (Nat.le_refl _), Nat.sub_self] at g0
          have e := Option.some.inj g0
          rw [← e, show shp sNoP = none from shp_no] at hs
          cases hs
      have hkl : (strsV ks).length = ks.length := List.length_map ..
      refine for_it (walk_enumF (xs := strsV ks)) (fun j σ H3 => (∃ y5 y6, σ = [some (.ref p), some (.int i), some (.bl may), some (.str h), some (.ref kp), y5, y6]) ∧ Same H' H3 ∧ i + 1 + j ≤ ps.length ∧ chkP ((ps ++ [sNoP]).drop (i + 1)) ks = (chkP ((ps ++ [sNoP]).drop (i + 1 + j)) (ks.drop j)).map (· + j)) ?h0 ?hG ?hs ?hd
      case h0 => exact ⟨⟨none, none, rfl⟩, Same.refl _, hip, by simp⟩
      case hG =>
        rintro j σ H3 hj _
        exact hk2 _
      case hs =>
        rintro j v σ H3 H4 hj ⟨⟨y5, y6, rfl⟩, s3, hij, hch⟩ ⟨t, x1, x, rfl, nt, rfl, e1, e2⟩
        cases e1
        have hjk : j < ks.length := by omega
        have e2 : (strsV ks)[j]? = some x := e2
        unfold strsV at e2
        rw [List.getElem?_map, List.getElem?_eq_getElem hjk] at e2
        cases e2
        have s4 := s3.trans (same_upd (o := .tup [.int ((i : Int) + 1 + (j : Nat)), .str ks[j]]) nt)
        have hjl : i + 1 + j < (ps ++ [sNoP]).length := by omega
        have hz : (ps ++ [sNoP])[i + 1 + j]? = some (ps ++ [sNoP])[i + 1 + j] := List.getElem?_eq_getElem hjl
        generalize (ps ++ [sNoP])[i + 1 + j] = z at hz
        have hat : atI (strsV (ps ++ [sNoP])) ((i : Int) + 1 + (j : Nat)) = some (.str z) := by
          have := strs_get hz
          rw [show ((i + 1 + j : Nat) : Int) = (i : Int) + 1 + (j : Nat) by omega] at this
          exact this
        have hst : chkP ((ps ++ [sNoP]).drop (i + 1 + j)) (ks.drop j) = if ptM z ks[j] = true then (chkP ((ps ++ [sNoP]).drop (i + 1 + (j + 1))) (ks.drop (j + 1))).map (· + 1) else some 0 := by
          obtain ⟨h1, e1⟩ := List.getElem?_eq_some_iff.mp hz
          rw [List.drop_eq_getElem_cons h1, List.drop_eq_getElem_cons hjk, e1]
          rfl
        refine ⟨t, [.int ((i : Int) + 1 + (j : Nat)), .str ks[j]], rfl, SqT.at upd_same, rfl, _, [.str ks[j]], rfl, .str ks[j], [], rfl, rfl, ?_⟩
        refine ⟨.ref p, rfl, _, rfl, p, _, _, _, rfl, rfl, SqL.at (s4 _ _ hp), hat, .str ks[j], rfl, z, ks[j], rfl, sz (by have := (hok.get hz).1; omega), fun H5 s5 => ?_⟩
        by_cases hpt : ptM z ks[j] = true
        · rw [hpt]
          rw [if_pos hpt] at hst
          have hne : i + 1 + j < ps.length := by
            rcases Nat.lt_or_ge (i + 1 + j) ps.length with l | l
            · exact l
            · have e : i + 1 + j = ps.length := by omega
              rw [e, List.getElem?_append_right (Nat.le_refl _), Nat.sub_self] at hz
              have e := Option.some.inj hz
              rw [← e, show ptM sNoP ks[j] = false from pt_no _] at hpt
              cases hpt
          refine ⟨_, rfl, ⟨_, _, rfl⟩, s4.trans s5, by omega, ?_⟩
          rw [hch, hst, Option.map_map]
          congr 1
          funext n
          show n + 1 + j = n + (j + 1)
          omega
        · rw [if_neg hpt] at hst
          rw [Bool.not_eq_true] at hpt
          rw [hpt]
          have hin : chkP ((ps ++ [sNoP]).drop (i + 1)) ks = some j := by
            rw [hch, hst]
            show some (0 + j) = some j
            rw [Nat.zero_add]
          rw [hin] at qN
          refine ⟨_, rfl, _, rfl, (by decide : 1 ≤ 1000), err_end (s4.trans s5) (fun H6 d s' ed => qN (j + 1) rfl H6 d s' ?_)⟩
          rw [ed, show ((i + (j + 1) : Nat) : Int) = (i : Int) + 1 + (j : Nat) by omega]
      case hd =>
        rintro σ H3 ⟨⟨y5, y6, rfl⟩, s3, hij, hch⟩
        rw [hkl] at hij hch
        have hno : chkP ((ps ++ [sNoP]).drop (i + 1)) ks = none := by
          rw [hch, List.drop_length]
          unfold chkP
          rfl
        rw [hno] at qY
        have cut : cutV (strsV (ps ++ [sNoP])) (some (i : Int)) (some ((i : Int) + 1 + ((strsV ks).length : Int))) = strsV (h :: ((ps ++ [sNoP]).drop (i + 1)).take ks.length) := by
          have hsl : (strsV (ps ++ [sNoP])).length = (ps ++ [sNoP]).length := List.length_map ..
          unfold cutV
          rw [hkl, show (i : Int) + 1 + (ks.length : Int) = ((i + 1 + ks.length : Nat) : Int) by omega, HT.sIx_nat, HT.sIx_nat, hsl, Nat.min_eq_left (by omega), Nat.min_eq_left (by omega)]
          unfold strsV
          rw [← List.map_drop, hd, ← List.map_take, show i + 1 + ks.length - i = ks.length + 1 by omega, List.take_succ_cons]
        refine ⟨.ref p, rfl, .int i, rfl, _, rfl, .int i, rfl, i, 1, rfl, rfl, .ref kp, rfl, kp, _, rfl, .inr (hk2 _), _, _, rfl, rfl, _, rfl, p, _, rfl, SqL.at (s3 _ _ hp), fun o no => ?_⟩
        rw [cut]
        have s4 := same_upd (o := .lst (strsV (h :: ((ps ++ [sNoP]).drop (i + 1)).take ks.length))) no
        refine ⟨o, _, rfl, .inl ⟨SqL.at upd_same, fun t nt => ?_⟩⟩
        exact qY _ rfl t _ (s3.free (s4.free nt)) upd_same (s3.trans (s4.trans (same_upd nt)))
end

theorem mvE_inr {ps : List Str} {k : Nat} (hk : k ≤ ps.length) {may : Bool} {m : List Str} (h : mvE ((ps ++ [sNoP]).drop k) may = .inr m) : k + m.length ≤ ps.length ∧ (ps.drop k).take m.length = m ∧ 1 ≤ m.length := by
  have hil : k < (ps ++ [sNoP]).length := by rw [List.length_append]; exact Nat.lt_succ_of_le hk
  rw [List.drop_eq_getElem_cons hil, mvE_cons] at h
  cases hs : shp (ps ++ [sNoP])[k] with
  | none =>
    rw [hs] at h
    cases h
  | some ks =>
    rw [hs] at h
    have hkp : k < ps.length := by
      rcases Nat.lt_or_ge k ps.length with l | l
      · exact l
      · have : k = ps.length := by omega
        subst this
        rw [List.getElem_append_right (Nat.le_refl _)] at hs
        simp only [Nat.sub_self, List.getElem_cons_zero] at hs
        rw [shp_no] at hs
        cases hs
    have e1 : (ps ++ [sNoP]).drop (k + 1) = ps.drop (k + 1) ++ [sNoP] := by
      rw [List.drop_append_of_le_length (by omega)]
    have e2 : (ps ++ [sNoP])[k] = ps[k] := List.getElem_append_left hkp
    rw [e1, e2] at h
    by_cases c : (decide (ps[k] = "turn") && !may) = true
    · simp only [c, if_true] at h
      cases h
    · rw [Bool.not_eq_true] at c
      simp only [c] at h
      cases hc : chkP (ps.drop (k + 1) ++ [sNoP]) ks with
      | some j =>
        rw [hc] at h
        cases h
      | none =>
        rw [hc] at h
        obtain ⟨n1, n2⟩ := chkP_none hc
        rw [List.length_drop] at n1
        have h : ps[k] :: (ps.drop (k + 1) ++ [sNoP]).take ks.length = m := Sum.inr.inj h
        have e3 : (ps.drop (k + 1) ++ [sNoP]).take ks.length = (ps.drop (k + 1)).take ks.length := List.take_append_of_le_length (by rw [List.length_drop]; exact n1)
        rw [e3] at h
        have hml : m.length = ks.length + 1 := by
          rw [← h, List.length_cons, List.length_take, List.length_drop]
          omega
        refine ⟨by omega, ?_, by omega⟩
        rw [hml, ← h, List.drop_eq_getElem_cons hkp, List.take_succ_cons]
theorem mvsE_succ (n : Nat) (l : List Str) (may : Bool) : mvsE (n + 1) l may = match mvE l may with
    | .inl j => .inl j
    | .inr m => if n = 0 ∨ (l.drop m.length).head? ≠ some ("then" : Str) then .inr ([m], m.length) else
      match mvsE n ((l.drop m.length).drop 1) (may && !decide (m = [("turn" : Str)])) with
      | .inl j => .inl (m.length + 1 + j)
      | .inr (ms, c) => .inr (m :: ms, m.length + 1 + c) := rfl
/-- behind the moves dn, which have c parts with the parts between them -/
def behM (dn : List (List Str)) (c : Nat) : Nat ⊕ (List (List Str) × Nat) → Nat ⊕ (List (List Str) × Nat)
  | .inl j => .inl (c + j)
  | .inr (ms, c2) => .inr (dn ++ ms, c + c2)
section
variable {P : Program} {w : World} {K : PySem.W.Frag} {mg : Str → Option Value} {base : Heap} {a : Ad}
def spReadMoves (CW : Addr) : Sp := fun vs H Q E => ∃ (p : Addr) (ps : List Str) (i : Nat), vs = [.ref p, .int (i : Int)] ∧ H p = some (.lst (strsV (ps ++ [sNoP]))) ∧ i ≤ ps.length ∧ PartsOk ps ∧
  (∀ ms c, mvsE 4 ((ps ++ [sNoP]).drop i) true = .inr (ms, c) → ∀ o t rs H', H o = none → H t = none → H' o = some (.tup [.ref t, .int ((i + c : Nat) : Int)]) → H' t = some (.tup (rs.map V.ref)) → HeldS H' rs ms → Same H H' → Q (.ref o) H') ∧
  (∀ j, mvsE 4 ((ps ++ [sNoP]).drop i) true = .inl j → ∀ H' d, Same H H' → H' d = some (.xd [("index", .int ((i + j : Nat) : Int))]) → E (.ref CW) (some d) H')
theorem ok_read_moves (T : Tx w K mg a) : FnOk P w K mg base (L2.CX P w) 5 a.f_read_moves a.d_read_moves ["parts", "start"] (spReadMoves a.C_BadWord) := by
  refine T.F_read_moves.okX sc_read_moves (fun vs H Q E h => ?_) (fun cdv A outer s H vs Q E hr h => ?_)
  · obtain ⟨p, ps, i, rfl, _⟩ := h
    rfl
  · obtain ⟨p, ps, i, rfl, hp, hi, hok, qY, qN⟩ := h
    refine ⟨_, 
(pss_cons (ps_set (i := 2) sc_read_moves.nd rfl (.inl rfl) (pe_lst pa_nil))
  (pss_cons (ps_set (i := 3) sc_read_moves.nd rfl (.inl rfl) (pv 1))
  (pss_one (ps_while PassesOwn.leaving (pt_val pe_bl)
  (pss_cons (ps_set (i := 4) sc_read_moves.nd rfl (.inl rfl) (pe_callS (ok_read_move T) hr (by rfl) T.m_read_move T.F_read_move.kp T.b_read_move (fun σ => passAt (takes_of rfl rfl rfl rfl) σ) (pa_cons (pv 0) (pa_cons (pv 3) (pa_cons (pe_cmpR (op_notInD (room65 hr)) (pe_tup (pa_cons pe_str pa_nil)) (pv 2) (by rfl)) pa_nil)))))
  (pss_cons (ps_expr (pe_bm PySem.F.plainAttrs_list PySem.F.slot_list_append PySem.F.type_list_append mt_append (pv 2) (pa_cons (pv 4) pa_nil)))
  (pss_cons (ps_set (i := 3) sc_read_moves.nd rfl (.inl rfl) (pe_op op_add (pv 3) (pe_callB call_len_seq (by rfl) T.z_len PySem.boot_len (pa_cons (pv 4) pa_nil))))
  (pss_cons (ps_if (PW.pt (pw_or (pt_cmpR op_eq (pe_callB call_len_seq (by rfl) T.z_len PySem.boot_len (pa_cons (pv 2) pa_nil)) (pe_glob (v := .int 4) (by rfl) T.m_MOST_MOVES.choose_spec ⟨_, rfl⟩) (nomark _)) (pw_or1 (pt_cmpR op_ne (pe_ix ix_list (pv 0) (pv 3) (fun _ _ => rfl)) pe_str (nomark _)))))
  (pss_one (ps_ret (pe_tup (pa_cons (pe_callTy call_tuple_of (by rfl) T.z_tuple (by decide +kernel) (pa_cons (pv 2) pa_nil)) (pa_cons (pv 3) pa_nil)))))
  pss_nil)
  (pss_one (ps_set (i := 3) sc_read_moves.nd rfl (.inl rfl) (pe_op op_add (pv 3) pe_int))))))))))), ?_⟩
    generalize hR : mvsE 4 ((ps ++ [sNoP]).drop i) true = R at qY qN
    refine ⟨Nat.zero_le _, fun l nl => ?_⟩
    refine ⟨_, rfl, ?_⟩
    have s1 : Same H (upd H l (.lst [])) := same_upd nl
    have nlp : p ≠ l := ne_of_none hp nl
    refine ⟨fun k σ H3 => ∃ (dn : List (List Str)) (rs : List Addr) (c : Nat) (y4 : Option V), k + dn.length = 3 ∧ i + c ≤ ps.length ∧ R = behM dn c (mvsE (k + 1) ((ps ++ [sNoP]).drop (i + c)) (!decide ([("turn" : Str)] ∈ dn))) ∧ (∀ m ∈ dn, ∀ z ∈ m, z ∈ ps) ∧
        σ = [some (.ref p), some (.int i), some (.ref l), some (.int ((i + c : Nat) : Int)), y4] ∧ H3 l = some (.lst (rs.map V.ref)) ∧ HeldS H3 rs dn ∧ Same H H3,
      ⟨3, [], [], 0, none, rfl, hi, ?_, (fun m hm => by cases hm), rfl, upd_same, trivial, s1⟩, ?_⟩
    · show R = behM [] 0 (mvsE 4 ((ps ++ [sNoP]).drop i) true)
      rw [hR]
      cases R with
      | inl j => show _ = Sum.inl (0 + j); rw [Nat.zero_add]
      | inr q => show _ = Sum.inr (q.1, 0 + q.2); rw [Nat.zero_add]
    rintro k σ H3 ⟨dn, rs, c, y4, hk, hic, heq, hel, rfl, hl3, held, s3⟩
    have hp3 := s3 _ _ hp
    rw [mvsE_succ] at heq
    refine ⟨true, rfl, fun σ' H' => ∃ k', k' < k ∧ ∃ (dn : List (List Str)) (rs : List Addr) (c : Nat) (y4 : Option V), k' + dn.length = 3 ∧ i + c ≤ ps.length ∧ R = behM dn c (mvsE (k' + 1) ((ps ++ [sNoP]).drop (i + c)) (!decide ([("turn" : Str)] ∈ dn))) ∧ (∀ m ∈ dn, ∀ z ∈ m, z ∈ ps) ∧
        σ' = [some (.ref p), some (.int i), some (.ref l), some (.int ((i + c : Nat) : Int)), y4] ∧ H' l = some (.lst (rs.map V.ref)) ∧ HeldS H' rs dn ∧ Same H H', fun σ' H' h => h, ?_⟩
    -- move = read_move(parts, end, ('turn',) not in moves)
    refine ⟨.ref p, rfl, _, rfl, sz (show 1 ≤ 100000 by decide), fun t0 nt0 => ?_⟩
    have s4 := same_upd (o := .tup [V.str "turn"]) nt0
    refine ⟨.ref l, rfl, tuS [("turn" : Str)], dn.map tuS, .tup (SqT.at upd_same) (dp_strs ["turn"]), .lst (SqL.at (s4 _ _ hl3)) (held.same s4).dp, shaped_strs (by decide +kernel), (shaped_tuS fun m hm z hz => (hok.2 z (hel m hm z hz)).2).2, ?_⟩
    rw [any_tuS]
    have s5 := s3.trans s4
    have hl4' := s4 _ _ hl3
    have held4' := held.same s4
    refine ⟨p, ps, i + c, !decide ([("turn" : Str)] ∈ dn), rfl, s5 _ _ hp, hic, hok, fun m hm t H4 nt ht s6 => ?_, fun j hj H4 d s6 ed => ?_⟩
    rotate_left
    · rw [hj] at heq
      refine qN (c + j) heq H4 d (s5.trans s6) ?_
      rw [ed, show i + (c + j) = i + c + j by omega]
    obtain ⟨m1, m2, m3⟩ := mvE_inr hic hm
    rw [hm] at heq
    have s7 := s5.trans s6
    have hl4 := s6 _ _ hl4'
    have hp4 := s7 _ _ hp
    have held4 := held4'.same s6
    have hrl := held4.len
    -- moves.append(move)
    refine ⟨.ref l, rfl, .inl ⟨rfl, _, SqL.at hl4⟩, .ref t, rfl, l, rs.map V.ref, .ref t, rfl, rfl, hl4, szlt (by rw [List.length_map]; omega), ?_⟩
    have s8 := keep_upd (o := .lst (rs.map V.ref ++ [.ref t])) s7 nl
    have ntl : t ≠ l := ne_of ht hl4 (by intro z; cases z)
    have hl5 : (upd H4 l (.lst (rs.map V.ref ++ [.ref t]))) l = some (.lst ((rs ++ [t]).map V.ref)) := by
      rw [upd_same, List.map_append]
      rfl
    have ht5 : (upd H4 l (.lst (rs.map V.ref ++ [.ref t]))) t = some (.tup (strsV m)) := by
      rw [upd_ne ntl]
      exact ht
    have held5 : HeldS (upd H4 l (.lst (rs.map V.ref ++ [.ref t]))) (rs ++ [t]) (dn ++ [m]) := HeldS.snoc ht5 (HeldS.off hl4 held4)
    have hp5 := s8 _ _ hp
    generalize upd H4 l (.lst (rs.map V.ref ++ [.ref t])) = H5 at s8 hl5 ht5 held5 hp5
    -- end = end + len(move)
    refine ⟨_, rfl, .ref t, rfl, t, _, rfl, .inr (SqT.at ht5), _, _, rfl, rfl, ?_⟩
    have ep : ((i + c : Nat) : Int) + ((strsV m).length : Int) = ((i + c + m.length : Nat) : Int) := by
      unfold strsV
      rw [List.length_map]
      omega
    -- if len(moves) == MOST_MOVES or parts[end] != 'then'
    refine ⟨.ref l, rfl, l, _, rfl, .inl (SqL.at hl5), rfl, _, rfl, ?_⟩
    have ehl : ((rs ++ [t]).map V.ref).length = dn.length + 1 := by
      rw [List.length_map, List.length_append, hrl]
      rfl
    rw [ehl]
    have hil : i + c + m.length < (ps ++ [sNoP]).length := by rw [List.length_append]; exact Nat.lt_succ_of_le m1
    have hz : (ps ++ [sNoP])[i + c + m.length]? = some (ps ++ [sNoP])[i + c + m.length] := List.getElem?_eq_getElem hil
    have hhd : (((ps ++ [sNoP]).drop (i + c)).drop m.length).head? = (ps ++ [sNoP])[i + c + m.length]? := by
      rw [List.drop_drop, List.head?_drop]
    generalize (ps ++ [sNoP])[i + c + m.length] = z at hz
    dsimp only at heq
    rw [hhd, hz] at heq
    have hat : atI (strsV (ps ++ [sNoP])) (((i + c : Nat) : Int) + ((strsV m).length : Int)) = some (.str z) := by
      rw [ep]
      exact strs_get hz
    have hel' : ∀ m' ∈ dn ++ [m], ∀ y ∈ m', y ∈ ps := fun m' hm' y hy => by
      rcases List.mem_append.mp hm' with q | q
      · exact hel m' q y hy
      · rw [List.mem_singleton] at q
        rw [q, ← m2] at hy
        exact List.mem_of_mem_drop (List.mem_of_mem_take hy)
    have fin : k = 0 ∨ z ≠ "then" → ∀ (o1 o2 : Addr), H5 o1 = none → (upd H5 o1 (.tup ((rs ++ [t]).map V.ref))) o2 = none → Q (.ref o2) (upd (upd H5 o1 (.tup ((rs ++ [t]).map V.ref))) o2 (.tup [.ref o1, .int (((i + c : Nat) : Int) + ((strsV m).length : Int))])) := fun hend o1 o2 no1 no2 => by
      have u1 := same_upd (o := .tup ((rs ++ [t]).map V.ref)) no1
      have u2 := same_upd (o := .tup [V.ref o1, .int (((i + c : Nat) : Int) + ((strsV m).length : Int))]) no2
      have u12 := s8.trans (u1.trans u2)
      have hc : k = 0 ∨ some z ≠ some ("then" : Str) := hend.imp id fun h e => h (Option.some.inj e)
      simp only [if_pos hc] at heq
      refine qY _ _ heq o2 o1 (rs ++ [t]) _ (s8.free (u1.free no2)) (s8.free no1) ?_ (u2 _ _ upd_same) (held5.same (u1.trans u2)) u12
      rw [upd_same, ep, show i + (c + m.length) = i + c + m.length by omega]
    by_cases h4 : k = 0
    · rw [decide_eq_true (show V.int ((dn.length + 1 : Nat) : Int) = V.int 4 by rw [show dn.length + 1 = 4 by omega]; rfl)]
      refine ⟨.ref l, rfl, l, _, rfl, .inl ⟨SqL.at hl5, fun o1 no1 => ⟨_, rfl, sz (show 2 ≤ 100000 by decide), fun o2 no2 => fin (.inl h4) o1 o2 no1 no2⟩⟩⟩
    · rw [decide_eq_false (show ¬ V.int ((dn.length + 1 : Nat) : Int) = V.int 4 from fun e => h4 (by have := V.int.inj e; omega))]
      refine ⟨.ref p, rfl, _, rfl, p, _, _, _, rfl, rfl, SqL.at hp5, hat, rfl, _, rfl, ?_⟩
      by_cases hzt : z = "then"
      · rw [decide_eq_true (show V.str z = V.str "then" by rw [hzt])]
        refine ⟨_, rfl, _, _, rfl, rfl, ?_⟩
        have hc : ¬ (k = 0 ∨ some z ≠ some ("then" : Str)) := fun h => h.elim h4 fun h => h (by rw [hzt])
        simp only [if_neg hc] at heq
        have hne : i + c + m.length < ps.length := by
          rcases Nat.lt_or_ge (i + c + m.length) ps.length with q | q
          · exact q
          · have e : i + c + m.length = ps.length := by omega
            rw [e, List.getElem?_append_right (Nat.le_refl _), Nat.sub_self] at hz
            have e2 := Option.some.inj hz
            rw [← e2] at hzt
            exact absurd hzt (by decide +kernel)
        refine ⟨k - 1, by omega, dn ++ [m], rs ++ [t], c + m.length + 1, some (.ref t), by rw [List.length_append]; show k - 1 + (dn.length + 1) = 3; omega, by omega, ?_, hel', ?_, hl5, held5, s8⟩
        · rw [heq, show k - 1 + 1 = k by omega, List.drop_drop, List.drop_drop, show i + c + (m.length + 1) = i + (c + m.length + 1) by omega]
          have em : (!decide ([("turn" : Str)] ∈ dn) && !decide (m = [("turn" : Str)])) = !decide ([("turn" : Str)] ∈ dn ++ [m]) := by
            by_cases h1 : [("turn" : Str)] ∈ dn <;> by_cases h2 : m = [("turn" : Str)] <;> simp [h1, h2, eq_comm]
          rw [em]
          cases mvsE k ((ps ++ [sNoP]).drop (i + (c + m.length + 1))) (!decide ([("turn" : Str)] ∈ dn ++ [m])) with
          | inl j => show Sum.inl (c + (m.length + 1 + j)) = Sum.inl (c + m.length + 1 + j); congr 1; omega
          | inr q => show Sum.inr (dn ++ m :: q.1, c + (m.length + 1 + q.2)) = Sum.inr (dn ++ [m] ++ q.1, c + m.length + 1 + q.2); congr 1; rw [List.append_assoc]; congr 1; omega
        · rw [show ((i + (c + m.length + 1) : Nat) : Int) = ((i + c : Nat) : Int) + ((strsV m).length : Int) + 1 by rw [ep]; omega]
          rfl
      · rw [decide_eq_false (show ¬ V.str z = V.str "then" from fun e => hzt (V.str.inj e))]
        refine ⟨.ref l, rfl, l, _, rfl, .inl ⟨SqL.at hl5, fun o1 no1 => ⟨_, rfl, sz (show 2 ≤ 100000 by decide), fun o2 no2 => fin (.inr hzt) o1 o2 no1 no2⟩⟩⟩
end

/-- the parts of moves with `then` between them -/
def wpS : List (List Str) → List Str
  | [] => []
  | [m] => m
  | m :: n :: r => m ++ sThen :: wpS (n :: r)
/-- a word's parts: the first that cannot stand, or its moves -/
def wrdE (ps : List Str) : Nat ⊕ List (List Str) := match mvsE 4 (ps ++ [sNoP]) true with
  | .inl j => .inl j
  | .inr (ms, c) => if c < ps.length then .inl c else .inr ms
def flS (z : Str) (ms : List (List Str)) (t : Addr) : List (Str × V) := putF "has_turn" (.bl (decide ([("turn" : Str)] ∈ ms))) (putF "moves" (.ref t) (putF "text" (.str z) []))
/-- a Word stands at p -/
def WordS (C : Addr) (H : Hp) (p : Addr) (z : Str) (ms : List (List Str)) : Prop := ∃ dx t rs, H p = some (.ins C dx (flS z ms t)) ∧ H t = some (.tup (rs.map V.ref)) ∧ HeldS H rs ms
theorem WordS.same {C : Addr} {H H' : Hp} {p : Addr} {z : Str} {ms : List (List Str)} (h : WordS C H p z ms) (e : Same H H') : WordS C H' p z ms := by
  obtain ⟨dx, t, rs, h1, h2, h3⟩ := h
  exact ⟨dx, t, rs, e _ _ h1, e _ _ h2, h3.same e⟩
theorem WordS.but {C d : Addr} {H H' : Hp} {kvs : List (Key × V)} {p : Addr} {z : Str} {ms : List (List Str)} (h : WordS C H p z ms) (x : But d H H') (hd : H d = some (.dK kvs)) : WordS C H' p z ms := by
  obtain ⟨dx, t, rs, h1, h2, h3⟩ := h
  exact ⟨dx, t, rs, x _ _ h1 (ne_of h1 hd (by intro z; cases z)), x.tup hd h2, h3.but x hd⟩
theorem flS_text (z : Str) (ms : List (List Str)) (t : Addr) : (flS z ms t).lookup ("text" : Str) = some (.str z) := by
  unfold flS
  rw [lookup_putF, if_neg kw2, lookup_putF, if_neg kw1, lookup_putF, if_pos rfl]
theorem flS_moves (z : Str) (ms : List (List Str)) (t : Addr) : (flS z ms t).lookup ("moves" : Str) = some (.ref t) := by
  unfold flS
  rw [lookup_putF, if_neg kw3, lookup_putF, if_pos rfl]
theorem flS_mv (ms : List Mv) (t : Addr) : flS (wtext ms) (ms.map Mv.parts) t = flW ms t := by
  unfold flS flW
  have e : decide ([("turn" : Str)] ∈ ms.map Mv.parts) = decide (Mv.turn ∈ ms) := by
    rw [decide_eq_decide, List.mem_map]
    constructor
    · rintro ⟨m, hm, e⟩
      have : m = .turn := Mv.inj.mp e
      exact this ▸ hm
    · intro h
      exact ⟨_, h, rfl⟩
  rw [e]
theorem WordS.mv {C : Addr} {H : Hp} {p : Addr} {ms : List Mv} (h : WordS C H p (wtext ms) (ms.map Mv.parts)) : WordAt C H p ms := by
  obtain ⟨dx, t, rs, h1, h2, h3⟩ := h
  rw [flS_mv] at h1
  exact ⟨dx, t, rs, h1, h2, h3.held⟩
theorem mvsE_le : ∀ {n : Nat} {ps : List Str} {k : Nat} {may : Bool} {ms : List (List Str)} {c : Nat}, k ≤ ps.length → mvsE n ((ps ++ [sNoP]).drop k) may = .inr (ms, c) → k + c ≤ ps.length ∧ (ps.drop k).take c = wpS ms ∧ ms ≠ [] ∧ ms.length ≤ n ∧ c = (wpS ms).length
  | 0, ps, k, may, ms, c, _, h => by cases h
  | n + 1, ps, k, may, ms, c, hk, h => by
    rw [mvsE_succ] at h
    cases hm : mvE ((ps ++ [sNoP]).drop k) may with
    | inl j =>
      rw [hm] at h
      cases h
    | inr m =>
      rw [hm] at h
      dsimp only at h
      obtain ⟨m1, m2, m3⟩ := mvE_inr hk hm
      by_cases hc : n = 0 ∨ (((ps ++ [sNoP]).drop k).drop m.length).head? ≠ some ("then" : Str)
      · rw [if_pos hc] at h
        cases h
        exact ⟨m1, m2, by simp, by simp, rfl⟩
      · rw [if_neg hc] at h
        have hth : (((ps ++ [sNoP]).drop k).drop m.length).head? = some ("then" : Str) := Classical.byContradiction fun z => hc (.inr z)
        rw [List.drop_drop, List.head?_drop] at hth
        have hlt : k + m.length < ps.length := by
          rcases Nat.lt_or_ge (k + m.length) ps.length with q | q
          · exact q
          · have e : k + m.length = ps.length := by omega
            rw [e, List.getElem?_append_right (Nat.le_refl _), Nat.sub_self] at hth
            have e2 := Option.some.inj hth
            exact absurd e2 (by decide +kernel)
        rw [List.drop_drop, List.drop_drop] at h
        cases hr : mvsE n ((ps ++ [sNoP]).drop (k + (m.length + 1))) (may && !decide (m = [("turn" : Str)])) with
        | inl j =>
          rw [hr] at h
          cases h
        | inr q =>
          obtain ⟨ms', c'⟩ := q
          rw [hr] at h
          cases h
          obtain ⟨r1, r2, r3, r4, r5⟩ := mvsE_le (by omega) hr
          have hz : ps[k + m.length]? = some sThen := by
            rw [List.getElem?_append_left hlt] at hth
            exact hth
          have ew : wpS (m :: ms') = m ++ sThen :: wpS ms' := by
            cases ms' with
            | nil => exact absurd rfl r3
            | cons a b => rfl
          refine ⟨by omega, ?_, by simp, by simp only [List.length_cons]; omega, ?_⟩
          · have d1 : ps.drop k = m ++ ps.drop (k + m.length) := by
              have := List.take_append_drop m.length (ps.drop k)
              rw [m2, List.drop_drop] at this
              exact this.symm
            have d2 : ps.drop (k + m.length) = sThen :: ps.drop (k + (m.length + 1)) := by
              obtain ⟨h1, h2⟩ := List.getElem?_eq_some_iff.mp hz
              rw [List.drop_eq_getElem_cons h1, h2]
              rfl
            rw [ew, d1, d2, show m.length + 1 + c' = m.length + (c' + 1) by omega, List.take_length_add_append, List.take_succ_cons, r2]
          · rw [ew, List.length_append, List.length_cons, r5]
            omega
/-- what is read is the parts -/
theorem wrdE_inr {ps : List Str} {ms : List (List Str)} (h : wrdE ps = .inr ms) : ps = wpS ms ∧ ms ≠ [] ∧ ms.length ≤ 4 := by
  unfold wrdE at h
  cases hm : mvsE 4 (ps ++ [sNoP]) true with
  | inl j =>
    rw [hm] at h
    cases h
  | inr q =>
    obtain ⟨ms', c⟩ := q
    rw [hm] at h
    dsimp only at h
    obtain ⟨r1, r2, r3, r4, r5⟩ := mvsE_le (k := 0) (Nat.zero_le _) hm
    by_cases hc : c < ps.length
    · rw [if_pos hc] at h
      cases h
    · rw [if_neg hc] at h
      cases h
      rw [List.drop_zero, List.take_of_length_le (by omega)] at r2
      exact ⟨r2, r3, r4⟩
section
variable {P : Program} {w : World} {K : PySem.W.Frag} {mg : Str → Option Value} {base : Heap} {a : Ad}
def spWordInit (C CW : Addr) : Sp := fun vs H Q E => ∃ (p dx : Addr) (z : Str) (ps : List Str), vs = [.ref p, .str z] ∧ H p = some (.ins C dx []) ∧ Txt.split z " " = ps ∧ PartsOk ps ∧ z.length ≤ 90000 ∧
  (∀ ms, wrdE ps = .inr ms → ∀ H', WordS C H' p z ms → (∀ b o, H b = some o → b ≠ p → H' b = some o) → Q .non H') ∧
  (∀ j, wrdE ps = .inl j → ∀ H' d, Same H H' → H' d = some (.xd [("index", .int ((j : Nat) : Int))]) → E (.ref CW) (some d) H')
theorem ok_Word_init (T : Tx w K mg a) : FnOk P w K mg base (L2.CX P w) 6 a.f_Word_init a.d_Word_init ["self", "text"] (spWordInit a.C_Word a.C_BadWord) := by
  refine T.F_Word_init.okX sc_Word_init (fun vs H Q E h => ?_) (fun cdv A outer s H vs Q E hr h => ?_)
  · obtain ⟨p, dx, z, ps, rfl, _⟩ := h
    rfl
  · obtain ⟨p, dx, z, ps, rfl, hp, hsp, hok, htl, qY, qN⟩ := h
    refine ⟨_, 
(pss_cons (ps_set (i := 2) sc_Word_init.nd rfl (.inl rfl) (pe_split (pv 1) pe_str))
  (pss_cons (ps_asg (pe_callS (ok_read_moves T) hr (by rfl) T.m_read_moves T.F_read_moves.kp T.b_read_moves (fun σ => passAt (takes_of rfl rfl rfl rfl) σ) (pa_cons (pe_lst (StX.pa_star (pv 2) (pa_cons (pe_glob (v := .str "") (by rfl) T.m_NO_PART.choose_spec ⟨_, rfl⟩) pa_nil))) (pa_cons pe_int pa_nil))) (pg_tup rfl (pgs_cons (pg_name (i := 3) sc_Word_init.nd rfl (.inl rfl)) (pgs_cons (pg_name (i := 4) sc_Word_init.nd rfl (.inl rfl)) pgs_nil))))
  (pss_cons (ps_if (pt_cmpR op_lt (pv 4) (pe_callB call_len_seq (by rfl) T.z_len PySem.boot_len (pa_cons (pv 2) pa_nil)) (nomark _))
  (pss_one (ps_raise rfl (takes_of rfl rfl rfl rfl) (pmk_oex T.ox_BadWord.o T.ox_BadWord.ini T.ox_BadWord.tin (ok_BadWord_init T) (hr.mono (by decide)) T.b_BadWord_init .nil pass0 (by rfl) T.c_BadWord (pa_cons (pv 4) pa_nil))))
  pss_nil)
  (pss_cons (ps_fld (pv 0) (pv 1) rfl)
  (pss_cons (ps_fld (pv 0) (pv 3) rfl)
  (pss_one (ps_fld (pv 0) (pe_cmpR (op_inDT (room65 hr)) (pe_tup (pa_cons pe_str pa_nil)) (pv 3) (by rfl)) rfl))))))), ?_⟩
    -- parts = text.split(' ')
    refine ⟨.str z, rfl, ⟨_, rfl⟩, z, " ", rfl, rfl, (by decide +kernel), sz (by omega), fun l nl => ?_⟩
    rw [hsp]
    have s1 := same_upd (o := .lst (ps.map V.str)) nl
    have hl1 : (upd H l (.lst (ps.map V.str))) l = some (.lst (ps.map V.str)) := upd_same
    have hp1 := s1 _ _ hp
    generalize upd H l (.lst (ps.map V.str)) = H1 at s1 hl1 hp1 ⊢
    have hpl := hok.1
    -- moves, end = read_moves([*parts, NO_PART], 0)
    refine ⟨.ref l, rfl, l, _, rfl, .inr (SqL.at hl1), sz (by simp; omega), fun l2 nl2 => ?_⟩
    have s2 := same_upd (o := .lst (ps.map V.str ++ [.str ""])) nl2
    have hl2 : (upd H1 l2 (.lst (ps.map V.str ++ [.str ""]))) l2 = some (.lst (strsV (ps ++ [sNoP]))) := by
      rw [upd_same]
      unfold strsV
      rw [List.map_append]
      rfl
    generalize upd H1 l2 (.lst (ps.map V.str ++ [.str ""])) = H2 at s2 hl2 ⊢
    unfold wrdE at qY qN
    refine ⟨l2, ps, 0, rfl, hl2, Nat.zero_le _, hok, fun ms c hm o t rs H3 no nt ho ht held s3 => ?_, fun j hj H3 d s3 ed => ?_⟩
    rotate_left
    · rw [show mvsE 4 (ps ++ [sNoP]) true = .inl j from hj] at qN
      refine qN j rfl H3 d (s1.trans (s2.trans s3)) ?_
      rw [ed, Nat.zero_add]
    rw [show mvsE 4 (ps ++ [sNoP]) true = .inr (ms, c) from hm] at qY qN
    obtain ⟨r1, r2, r3, r4, r5⟩ := mvsE_le (k := 0) (Nat.zero_le _) hm
    refine ⟨o, [.ref t, .int ((0 + c : Nat) : Int)], rfl, SqT.at ho, rfl, _, [.int ((0 + c : Nat) : Int)], rfl, _, [], rfl, rfl, ?_⟩
    have s13 := s2.trans s3
    have hl3 := s13 _ _ hl1
    have hp3 := s13 _ _ hp1
    have s03 := s1.trans s13
    -- if end < len(parts)
    refine ⟨_, rfl, .ref l, rfl, l, _, rfl, .inl (SqL.at hl3), _, _, rfl, rfl, _, rfl, ?_⟩
    rw [List.length_map]
    dsimp only at qY qN
    by_cases hc : c < ps.length
    · rw [decide_eq_true (show ((0 + c : Nat) : Int) < (ps.length : Int) by omega)]
      rw [if_pos hc] at qN
      refine ⟨_, rfl, (by decide : 1 ≤ 1000), err_end s03 (fun H' d s' ed => qN c rfl H' d s' ?_)⟩
      rw [ed, Nat.zero_add]
    rw [decide_eq_false (show ¬ ((0 + c : Nat) : Int) < (ps.length : Int) by omega)]
    rw [if_neg hc] at qY
    have hsub : ∀ m ∈ ms, ∀ y ∈ m, PyData.strOk y = true := fun m hm' y hy => by
      have e : ps = wpS ms := by
        rw [List.drop_zero, List.take_of_length_le (by omega)] at r2
        exact r2
      have mem : ∀ {ms : List (List Str)}, m ∈ ms → y ∈ wpS ms := by
        intro ms
        induction ms with
        | nil => intro h; cases h
        | cons a b ih =>
          intro h
          cases b with
          | nil =>
            rw [List.mem_singleton] at h
            rw [← h]
            exact hy
          | cons b r =>
            show y ∈ a ++ sThen :: wpS (b :: r)
            rcases List.mem_cons.mp h with q | q
            · rw [← q]
              exact List.mem_append_left _ hy
            · exact List.mem_append_right _ (List.mem_cons_of_mem _ (ih q))
      exact (hok.2 y (by rw [e]; exact mem hm')).2
    have npt : t ≠ p := ne_of ht hp3 (by intro z; cases z)
    -- self.text = text; self.moves = moves
    refine ⟨.str z, rfl, .ref p, rfl, p, a.C_Word, dx, [], rfl, hp3, T.cl_Word, T.n_Word_text, (show 0 < 1000 by decide), ?_⟩
    refine ⟨.ref t, rfl, .ref p, rfl, p, a.C_Word, dx, _, rfl, upd_same, T.cl_Word, T.n_Word_moves, (show 1 < 1000 by decide), ?_⟩
    rw [upd_upd]
    -- self.has_turn = ('turn',) in moves
    have ht4 : (upd H3 p (.ins a.C_Word dx (putF "moves" (.ref t) (putF "text" (.str z) [])))) t = some (.tup (rs.map V.ref)) := by
      rw [upd_ne npt]
      exact ht
    have hp4 : (upd H3 p (.ins a.C_Word dx (putF "moves" (.ref t) (putF "text" (.str z) [])))) p = _ := upd_same
    have h4s := held.offI (o := .ins a.C_Word dx (putF "moves" (.ref t) (putF "text" (.str z) []))) hp3
    refine ⟨sz (show 1 ≤ 100000 by decide), fun t0 nt0 => ?_⟩
    have s5 := same_upd (o := .tup [V.str "turn"]) nt0
    refine ⟨.ref t, rfl, tuS [("turn" : Str)], ms.map tuS, .tup (SqT.at upd_same) (dp_strs ["turn"]), .tup (SqT.at (s5 _ _ ht4)) (h4s.same s5).dp, shaped_strs (by decide +kernel), (shaped_tuS hsub).1, ?_⟩
    rw [any_tuS]
    refine ⟨.ref p, rfl, p, a.C_Word, dx, _, rfl, s5 _ _ hp4, T.cl_Word, T.n_Word_has_turn, by rw [fl2]; show 2 < 1000; decide, ?_⟩
    have nt0p : t0 ≠ p := (ne_of_none hp4 nt0).symm
    refine qY ms rfl _ ⟨dx, t, rs, upd_same, ?_, ?_⟩ fun b u hb nb => ?_
    · rw [upd_ne npt]
      exact s5 _ _ ht4
    · exact (h4s.same s5).offI (s5 _ _ hp4)
    · rw [upd_ne nb]
      refine s5 _ _ ?_
      rw [upd_ne nb]
      exact s03 _ _ hb
end

section
variable {P : Program} {w : World} {K : PySem.W.Frag} {mg : Str → Option Value} {base : Heap} {a : Ad}
def spWordAt (C CS : Addr) : Sp := fun vs H Q E => ∃ (p : Addr) (y : V) (b : Bool), vs = [.ref p, y] ∧ IsI H y b ∧
  ((∃ (ms : List Mv) (n : Nat), y = .int (n : Int) ∧ WordAt C H p ms ∧ (∀ m ∈ ms, m.ok) ∧ 1 ≤ n ∧ n ≤ 1000 ∧
    ∀ o H', H o = none → H' o = some (.lst ((allF ms (ri n)).map V.int)) → Same H H' → Q (.ref o) H') ∨
   (btM 1 1000 y = false ∧ ∀ H' d, Same H H' → H' d = some (.xd [("size", y)]) → E (.ref CS) (some d) H'))
theorem ok_Word_at (T : Tx w K mg a) : FnOk P w K mg base (L2.CX P w) 4 a.f_Word_at a.d_Word_at ["self", "k"] (spWordAt a.C_Word a.C_BadSize) := by
  refine T.F_Word_at.okX sc_Word_at (fun vs H Q E h => ?_) (fun cdv A outer s H vs Q E hr h => ?_)
  · obtain ⟨p, y, b, rfl, _⟩ := h
    rfl
  · obtain ⟨p, y, b, rfl, hI, h⟩ := h
    refine ⟨_, 
(pss_cons (ps_if (pt_not (pt_val (pe_call (ok_is_between T) (hr.mono (by decide)) (by rfl) T.m_is_between T.F_is_between.kp T.b_is_between .nil pass0 (pa_cons (pv 1) (pa_cons pe_int (pa_cons (pe_glob (v := .int 1000) (by rfl) T.m_MOST_PLACES.choose_spec ⟨_, rfl⟩) pa_nil))))))
  (pss_one (ps_raise rfl (takes_of rfl rfl rfl rfl) (pmk_oex T.ox_BadSize.o T.ox_BadSize.ini T.ox_BadSize.tin (ok_BadSize_init T) (hr.mono (by decide)) T.b_BadSize_init .nil pass0 (by rfl) T.c_BadSize (pa_cons (pv 1) pa_nil))))
  pss_nil)
  (pss_cons (ps_set (i := 2) sc_Word_at.nd rfl (.inl rfl) (pe_listRg rfl (by rfl) T.z_list (prg_1 (by rfl) T.z_range (pv 1))))
  (pss_cons (ps_for PassesOwn.leaving rfl (pi_tup (pe_fld (pv 0) rfl)) (pg_name (i := 3) sc_Word_at.nd rfl (.inl rfl))
  (pss_one (ps_set (i := 2) sc_Word_at.nd rfl (.inl rfl) (pe_call (ok_moved T) hr (by rfl) T.m_moved T.F_moved.kp T.b_moved .nil pass0 (pa_cons (pv 2) (pa_cons (pv 3) pa_nil))))))
  (pss_one (ps_ret (pv 2)))))), ?_⟩
    rcases h with ⟨ms, n, rfl, ⟨dx, t, rs, hp, ht, held⟩, hok, h1, h2, q⟩ | ⟨hy, hE⟩
    rotate_left
    · refine ⟨_, rfl, y, b, 1, 1000, rfl, hI, _, rfl, ?_⟩
      rw [hy]
      exact ⟨_, rfl, (by decide : 1 ≤ 1000), err_end (Same.refl H) hE⟩
    refine ⟨_, rfl, .int n, b, 1, 1000, rfl, hI, _, rfl, ?_⟩
    have e : btM 1 1000 (.int (n : Int)) = true := by
      simp only [btM, Bool.and_eq_true, decide_eq_true_eq]
      omega
    rw [e]
    -- row = list(range(k))
    refine ⟨_, rfl, _, rfl, RgOk.of_le (by decide) (by omega) (by decide) (by omega), fun o no => ?_⟩
    rw [rgV_ri]
    have s1 := same_upd (o := .lst ((ri n).map V.int)) no
    have ho1 : (upd H o (.lst ((ri n).map V.int))) o = some (.lst ((ri n).map V.int)) := upd_same
    generalize upd H o (.lst ((ri n).map V.int)) = H1 at s1 ho1 ⊢
    -- for move in self.moves
    refine ⟨.ref p, rfl, p, a.C_Word, dx, _, _, rfl, s1 _ _ hp, T.cl_Word, T.n_Word_moves, flW_moves ms t, t, rfl, ⟨_, SqT.at (s1 _ _ ht)⟩, ?_⟩
    have hrl : (rs.map V.ref).length = ms.length := by rw [List.length_map, held.len]
    refine for_it (walk_tup (xs := rs.map V.ref)) (fun i σ H3 => ∃ r y3, σ = [some (.ref p), some (.int n), some (.ref r), y3] ∧ Same H H3 ∧ H r = none ∧ H3 r = some (.lst ((allF (ms.take i) (ri n)).map V.int))) ?h0 ?hG ?hs ?hd
    case h0 => exact ⟨o, none, rfl, s1, no, ho1⟩
    case hG =>
      rintro i σ H3 hi ⟨r, y3, rfl, s3, _, _⟩
      exact SqT.at (s3 _ _ ht)
    case hd =>
      rintro σ H3 ⟨r, y3, rfl, s3, nr, hr3⟩
      rw [hrl, List.take_length] at hr3
      exact ⟨_, rfl, q r H3 nr hr3 s3⟩
    case hs =>
      rintro i v σ H3 H4 hi ⟨r, y3, rfl, s3, nr, hr3⟩ ⟨rfl, ev⟩
      rw [hrl] at hi
      obtain ⟨x, hx, hxt⟩ := held.get (List.getElem?_eq_getElem hi)
      rw [List.getElem?_map, hx] at ev
      cases ev
      refine ⟨.ref r, rfl, .ref x, rfl, r, x, _, ms[i], rfl, SqL.at hr3, SqT.at (s3 _ _ hxt), hok _ (List.getElem_mem hi), by rw [allF_len, ri_len]; omega, fun o2 H5 no2 eo2 s5 => ?_⟩
      refine ⟨o2, _, rfl, s3.trans s5, s3.free no2, ?_⟩
      rw [eo2, List.take_add_one, List.getElem?_eq_getElem hi]
      show some (HO.lst ((mvF ms[i] (allF (ms.take i) (ri n))).map V.int)) = some (HO.lst ((allF (ms.take i ++ [ms[i]]) (ri n)).map V.int))
      unfold allF
      rw [List.foldl_append]
      rfl
end

/-! ### lambdas as values: made, tracked, called -/
open LamX hiding takes0
/-- a function made by a lambda stands at f -/
def lamO (q : Str) (ar : Arguments) (bo : Expr) (sc : Scope) (cl : List (Str × Addr)) (f c : Addr) : HO := .ext fun h => ∃ pm cv : Value, h.get? f = some (PySem.W.kla_obj "<lambda>" q ar bo sc cl pm c cv)
theorem lamO_ne {q : Str} {ar : Arguments} {bo : Expr} {sc : Scope} {cl : List (Str × Addr)} {f c : Addr} (ps : Array Value) : lamO q ar bo sc cl f c ≠ .tbl ps := fun z => by
  unfold lamO at z
  cases z
theorem lamO_at {P : Program} {w : World} {H : Hp} {h : Heap} {q : Str} {ar : Arguments} {bo : Expr} {sc : Scope} {cl : List (Str × Addr)} {f c : Addr} (k : HOk P w H h) (e : H f = some (lamO q ar bo sc cl f c)) : ∃ pm cv : Value, h.get? f = some (PySem.W.kla_obj "<lambda>" q ar bo sc cl pm c cv) := (k f _ e).1
section
variable {X : Cx} {pins : List (Addr × Obj)} {σ : L2.St} {H : Hp} {s : Shared}
/-- the lambda is made and tracked -/
theorem lam_new {T : List (Addr × Str)} {c P : Addr} {ar : Arguments} {bo : Expr} {sc : Scope} {pos : Pos} {E Q : Value → Shared → Prop} (I : Inv X pins σ H s) (TB : TabB X.base X.mg c P) (hcode : X.env.code = .ref c)
    (hm : (P, X.env.qual ++ "<lambda>") ∈ T) (hu : ∀ p ∈ T, p.1 = P → p.2 = X.env.qual ++ "<lambda>") (hT : Tabs T H) (hdef : defaultsOf ar X.env = ([], [])) (hfree : ∀ y ∈ sc.names, y.2 = .free → ∃ c, X.env.cells.lookup y.1 = some c)
    (h : ∀ (f c' : Addr) (H1 : Hp) (s' : Shared), Inv X pins σ H1 s' → ExtN H H1 → (∀ b, H1 b = none → H b = none) → Tabs T H1 → H f = none →
      H1 f = some (lamO (X.env.qual ++ "<lambda>") ar bo sc (cloFrom X.env.cells sc.names []) f c') → H1 c' = some (CodeO c' (X.env.qual ++ "<lambda>")) → Q (.ref f) s') :
    wpAny (model X.prog X.w) X.A (eval (.Lambda ar bo sc pos) X.env) Q E s := by
  obtain ⟨tb, hP, ht, ha⟩ := hT _ hm
  refine PySem.W.kla_eval hdef ?_
  have gP : s.heap.get? P = some { cls := .none, data := .fields tb } := I.hok P _ hP
  have kbm : s.heap.BuiltinsAt X.mg P := TB.bm.keeps I.bk
  -- what stands at the end, from the heap in which the code object is known
  have fin : ∀ (c' : Addr) (cv : Value) (g : Heap) (tk : Nat) (H1 : Hp), Inv X pins σ H1 { s with heap := g, toks := tk } → s.heap.objs.size ≤ g.objs.size → ExtN H H1 → (∀ b, H1 b = none → H b = none) → Tabs T H1 → H1 c' = some (CodeO c' (X.env.qual ++ "<lambda>")) →
      Q (.ref g.objs.size) { s with heap := g.push (PySem.W.kla_obj "<lambda>" (X.env.qual ++ "<lambda>") ar bo sc (cloFrom X.env.cells sc.names []) ((X.mg "__name__").getD .none) c' cv), toks := tk } := by
    intro c' cv g tk H1 I1 hz eN fr T1 hc
    have nf : H1 g.objs.size = none := I1.hok.fresh (Nat.le_refl _)
    have I2 := I1.laid (a := g.objs.size) (o := lamO (X.env.qual ++ "<lambda>") ar bo sc (cloFrom X.env.cells sc.names []) g.objs.size c') (t' := tk)
      (h' := g.push (PySem.W.kla_obj "<lambda>" (X.env.qual ++ "<lambda>") ar bo sc (cloFrom X.env.cells sc.names []) ((X.mg "__name__").getD .none) c' cv)) (fun b u e => Heap.get?_push_of_some _ e) (Nat.le_refl _)
      ⟨⟨_, _, Heap.get?_push_size _ rfl⟩, ⟨_, Heap.get?_push_size _ rfl⟩, fun h1 h2 ⟨pm, cw, e⟩ st => ⟨pm, cw, st _ e⟩⟩
    have kp : ∀ b o, H1 b = some o → upd H1 g.objs.size (lamO (X.env.qual ++ "<lambda>") ar bo sc (cloFrom X.env.cells sc.names []) g.objs.size c') b = some o := fun b o e => by
      rw [upd_ne (ne_of_none e nf)]
      exact e
    refine h _ c' _ _ I2 (eN.trans (ExtN.of kp)) (fun b e => fr b ?_) (T1.ext kp) (I.hok.fresh hz) upd_same (kp _ _ hc)
    by_cases hb : b = g.objs.size
    · rw [hb]
      exact nf
    · rw [upd_ne hb] at e
      exact e
  cases hc : codeAmong pos tb.toList with
  | some cv =>
    obtain ⟨c', rfl, hco⟩ := ha pos cv hc
    refine PySem.W.kla_makeFunctionHit (mg := X.mg) (c := c) (P := P) (ps := tb) (closure_ok hfree) I.ok.glob (I.mod.glob.keeps I.bk) hcode (TB.code.keeps I.bk) gP ht hc kbm fun cw g tk kp hz => ?_
    exact fin c' cw g tk H (I.kept kp) hz (ExtN.refl H) (fun _ e => e) hT hco
  | none =>
    refine PySem.W.kla_makeFunction (mg := X.mg) (c := c) (P := P) (ps := tb) (closure_ok hfree) I.ok.glob (I.mod.glob.keeps I.bk) hcode (TB.code.keeps I.bk) gP ht hc TB.gP kbm fun c' cw g tk hx hge hlt hrec htb => ?_
    obtain ⟨c2, oc, vs, t, e2, hoc, hd, hv⟩ := hrec
    cases e2
    have nC : H c' = none := I.hok.fresh hge
    have I1 := inv_table (t' := tk) (more := #[rawInt pos.line, rawInt pos.col, .ref c']) (q := X.env.qual ++ "<lambda>") I hP hx htb hge ⟨oc, vs, t, hoc, hd, hv⟩
    have eN : ExtN H (upd (upd H P (.tbl (tb ++ #[rawInt pos.line, rawInt pos.col, .ref c']))) c' (CodeO c' (X.env.qual ++ "<lambda>"))) := fun b o e n => by
      have n1 : b ≠ P := fun z => n tb (Option.some.inj (e.symm.trans (z ▸ hP)))
      rw [upd_ne (ne_of_none e nC), upd_ne n1]
      exact e
    refine fin c' cw g tk _ I1 (Nat.le_trans hge (Nat.le_of_lt hlt)) eN (fun b e => ?_) (fun p hp => ?_) upd_same
    · by_cases hb : b = c'
      · rw [hb]
        exact nC
      · by_cases hb2 : b = P
        · rw [upd_ne hb, hb2, upd_same] at e
          cases e
        · rw [upd_ne hb, upd_ne hb2] at e
          exact e
    · by_cases hb : p.1 = P
      · rw [hu p hp hb, hb]
        have el : (tb ++ #[rawInt pos.line, rawInt pos.col, .ref c']).toList = tb.toList ++ [rawInt pos.line, rawInt pos.col, .ref c'] := by simp
        refine ⟨_, by rw [upd_ne (ne_of_none hP nC)]; exact upd_same, by rw [el]; exact PySem.TriplesOk_snoc _ _ _ _ ht, fun p' cv hcv => ?_⟩
        rw [el] at hcv
        rcases among_app _ ht hcv with z | z
        · obtain ⟨c0, e1, e2⟩ := ha p' cv z
          exact ⟨c0, e1, eN _ _ e2 codeO_ne⟩
        · exact ⟨c', z, upd_same⟩
      · obtain ⟨tb', a1, a2, a3⟩ := hT p hp
        refine ⟨tb', by rw [upd_ne (ne_of_none a1 nC), upd_ne hb]; exact a1, a2, fun p' cv hcv => ?_⟩
        obtain ⟨c0, e1, e2⟩ := a3 p' cv hcv
        exact ⟨c0, e1, eN _ _ e2 codeO_ne⟩
end
/-! ### cells held as they are, let go, held again -/
def celF (o : Obj) : HO := .frz o (.ext fun _ => True)
/-- the cells that an environment names -/
def csOf (cl : List (Str × Addr)) : List Addr := cl.filterMap fun p => cl.lookup p.1
theorem mem_csOf {cl : List (Str × Addr)} {c : Addr} : c ∈ csOf cl ↔ ∃ x, cl.lookup x = some c := by
  unfold csOf
  rw [List.mem_filterMap]
  refine ⟨fun ⟨p, _, e⟩ => ⟨p.1, e⟩, fun ⟨x, e⟩ => ⟨(x, c), PySem.mem_of_lookup e, e⟩⟩
def heldH (cs : List Addr) (h : Heap) (H : Hp) : Hp := fun b => if b ∈ cs then (h.get? b).map celF else H b
def freedH (cs : List Addr) (H : Hp) : Hp := fun b => if b ∈ cs then none else H b
def againH (cs : List Addr) (G H : Hp) : Hp := fun b => if b ∈ cs then G b else H b
theorem heldH_ne {cs : List Addr} {h : Heap} {H : Hp} {b : Addr} (n : b ∉ cs) : heldH cs h H b = H b := if_neg n
theorem freedH_ne {cs : List Addr} {H : Hp} {b : Addr} (n : b ∉ cs) : freedH cs H b = H b := if_neg n
theorem freedH_in {cs : List Addr} {H : Hp} {b : Addr} (n : b ∈ cs) : freedH cs H b = none := if_pos n
theorem againH_ne {cs : List Addr} {G H : Hp} {b : Addr} (n : b ∉ cs) : againH cs G H b = H b := if_neg n
theorem againH_in {cs : List Addr} {G H : Hp} {b : Addr} (n : b ∈ cs) : againH cs G H b = G b := if_pos n
theorem freed_some {cs : List Addr} {H : Hp} {b : Addr} {o : HO} (e : freedH cs H b = some o) : b ∉ cs ∧ H b = some o := by
  by_cases n : b ∈ cs
  · rw [freedH_in n] at e
    cases e
  · exact ⟨n, by rw [freedH_ne n] at e; exact e⟩
/-- what is known behind a run for which the cells cs were let go -/
structure Und (cs : List Addr) (G H : Hp) : Prop where
  off : ∀ b ∈ cs, H b = none
  frz : ∀ b o u, freedH cs G b = some (.frz o u) → H b = some (.frz o u)
/-- the cells cs stand held in H -/
def CellsF (cs : List Addr) (H : Hp) : Prop := ∀ b ∈ cs, ∃ o, H b = some (celF o)
section
variable {P : Program} {w : World} {H H1 H2 : Hp} {h h' : Heap} {cs : List Addr}
theorem hok_freed (k : HOk P w H h) (C : CellsF cs H) : HOk P w (freedH cs H) h := fun b o e => by
  obtain ⟨n, e⟩ := freed_some e
  refine (k b o e).stay (fun _ _ _ q => q) (fun d q => ?_) fun d xs q => ?_
  · rw [freedH_ne fun z => ?_]
    · exact q
    · obtain ⟨o', e'⟩ := C d z
      rw [q] at e'
      cases e'
  · rw [freedH_ne fun z => ?_]
    · exact q
    · obtain ⟨o', e'⟩ := C d z
      rw [q] at e'
      cases e'
theorem hok_again (k : HOk P w H2 h') (C : CellsF cs H) (n : ∀ b ∈ cs, H2 b = none) (st : ∀ b ∈ cs, ∀ o, H b = some (celF o) → h'.get? b = some o) : HOk P w (againH cs H H2) h' := fun b o e => by
  by_cases hb : b ∈ cs
  · rw [againH_in hb] at e
    obtain ⟨ob, e'⟩ := C b hb
    rw [e] at e'
    cases e'
    exact ⟨st b hb ob e, trivial, ⟨ob, st b hb ob e⟩, fun _ _ _ _ => trivial⟩
  · rw [againH_ne hb] at e
    refine (k b o e).stay (fun _ _ _ q => q) (fun d q => ?_) fun d xs q => ?_
    · rw [againH_ne fun z => ?_]
      · exact q
      · rw [n d z] at q
        cases q
    · rw [againH_ne fun z => ?_]
      · exact q
      · rw [n d z] at q
        cases q
/-- the state of a call, the cells let go -/
theorem env0_freed {K : PySem.W.Frag} {mg : Str → Option Value} {base : Heap} {A : Around} {outer : List Env} {s : Shared} (e : Env0 P w K mg base A outer s H) (C : CellsF cs H) : Env0 P w K mg base A outer s (freedH cs H) :=
  ⟨e.frames, e.mod, fun b o q => ⟨(e.bs b o q).1, by
    by_cases n : b ∈ cs
    · exact freedH_in n
    · rw [freedH_ne n]
      exact (e.bs b o q).2⟩, e.bsz, e.funs, fun b hb => by
    by_cases n : b ∈ cs
    · exact freedH_in n
    · rw [freedH_ne n]
      exact e.frf b hb, hok_freed e.hok C, e.bare⟩
theorem un_again {fs : List Addr} (u : Un fs [] (freedH cs H) H2 h h') (C : CellsF cs H) : Un fs [] H (againH cs H H2) h h' := by
  have nin : ∀ {b : Addr}, H b = none → b ∉ cs := fun {b} e z => by
    obtain ⟨o, e'⟩ := C b z
    rw [e] at e'
    cases e'
  have thru : ∀ {b : Addr} {o : HO}, H b = some o → (∀ ob, o ≠ celF ob) → b ∉ cs ∧ freedH cs H b = some o := fun {b o} e ne => by
    have nb : b ∉ cs := fun z => by
      obtain ⟨ob, e'⟩ := C b z
      rw [e] at e'
      exact ne ob (Option.some.inj e')
    exact ⟨nb, by rw [freedH_ne nb]; exact e⟩
  refine ⟨fun b o e n hb hx => u.keep b o e (by rw [freedH_ne (nin n)]; exact n) hb hx, fun b o e n hb hx => u.slot b o e (by rw [freedH_ne (nin n)]; exact n) hb hx, fun b o e n hx => ?_, u.there, fun b xs e => ?_, fun b o v e => ?_, fun b ps e => ?_⟩
  · rw [againH_ne (nin n)]
    exact u.free b o e (by rw [freedH_ne (nin n)]; exact n) hx
  · obtain ⟨n, e'⟩ := thru e fun _ z => by cases z
    rw [againH_ne n]
    exact u.tups b xs e'
  · by_cases n : b ∈ cs
    · rw [againH_in n]
      exact e
    · rw [againH_ne n]
      exact u.frzs b o v (by rw [freedH_ne n]; exact e)
  · obtain ⟨n, e'⟩ := thru e fun _ z => by cases z
    obtain ⟨more, e2⟩ := u.tbls b ps e'
    exact ⟨more, by rw [againH_ne n]; exact e2⟩
/-- what a call that was made with the cells let go has come to -/
theorem CE_again {K : PySem.W.Frag} {mg : Str → Option Value} {base : Heap} {A : Around} {outer : List Env} {s s' : Shared} {Q : VK} {u : Value} (e0 : Env0 P w K mg base A outer s H) (C : CellsF cs H)
    (q : CE outer P w (freedH cs H) s (fun v H' => Und cs H H' → Q v (againH cs H H')) u s') : CE outer P w H s Q u s' := by
  obtain ⟨v, H2, os, bare, un, hok, r, qq⟩ := q
  have no : ∀ b ∈ cs, ∀ o, H b = some (celF o) → s'.heap.get? b = some o ∧ H2 b = none := fun b hb o e => by
    have h1 := (e0.hok b _ e).1
    have nf : b ∉ frs outer := fun z => by
      rw [e0.frf b z] at e
      cases e
    exact ⟨un.keep b o h1 (freedH_in hb) nf (by simp), un.free b o h1 (freedH_in hb) (by simp)⟩
  have off : ∀ b ∈ cs, H2 b = none := fun b hb => by
    obtain ⟨o, e⟩ := C b hb
    exact (no b hb o e).2
  exact ⟨v, againH cs H H2, os, bare, un_again un C, hok_again hok C off (fun b hb o e => (no b hb o e).1), r, qq ⟨off, un.frzs⟩⟩
theorem CX_again {K : PySem.W.Frag} {mg : Str → Option Value} {base : Heap} {A : Around} {outer : List Env} {s s' : Shared} {E : XK} {u : Value} (e0 : Env0 P w K mg base A outer s H) (C : CellsF cs H)
    (q : L2.CX P w outer (freedH cs H) s (fun cls d H' => Und cs H H' → E cls d (againH cs H H')) u s') : L2.CX P w outer H s E u s' := by
  obtain ⟨a, B, H2, cls, d, ea, fl, hok, ub, na, os, bare, qq⟩ := q
  have no : ∀ b ∈ cs, ∀ o, H b = some (celF o) → B.get? b = some o ∧ H2 b = none := fun b hb o e => by
    have h1 := (e0.hok b _ e).1
    have nf : b ∉ frs outer := fun z => by
      rw [e0.frf b z] at e
      cases e
    exact ⟨ub.keep b o h1 (freedH_in hb) nf, ub.free b o h1 (freedH_in hb)⟩
  have nin : ∀ {b : Addr}, H b = none → b ∉ cs := fun {b} e z => by
    obtain ⟨o, e'⟩ := C b z
    rw [e] at e'
    cases e'
  have thru : ∀ {b : Addr} {o : HO}, H b = some o → (∀ ob, o ≠ celF ob) → b ∉ cs ∧ freedH cs H b = some o := fun {b o} e ne => by
    have nb : b ∉ cs := fun z => by
      obtain ⟨ob, e'⟩ := C b z
      rw [e] at e'
      exact ne ob (Option.some.inj e')
    exact ⟨nb, by rw [freedH_ne nb]; exact e⟩
  have off : ∀ b ∈ cs, H2 b = none := fun b hb => by
    obtain ⟨o, e⟩ := C b hb
    exact (no b hb o e).2
  refine ⟨a, B, againH cs H H2, cls, d, ea, fl, hok_again hok C off (fun b hb o e => (no b hb o e).1), ⟨fun b o e n hb => ub.keep b o e (by rw [freedH_ne (nin n)]; exact n) hb, ub.slot, fun b o e n => ?_, ub.there, fun b xs e => ?_, fun b o v e => ?_, fun b ps e => ?_⟩, ?_, os, bare, qq ⟨off, ub.frzs⟩⟩
  · rw [againH_ne (nin n)]
    exact ub.free b o e (by rw [freedH_ne (nin n)]; exact n)
  · obtain ⟨n, e'⟩ := thru e fun _ z => by cases z
    rw [againH_ne n]
    exact ub.tups b xs e'
  · by_cases n : b ∈ cs
    · rw [againH_in n]
      exact e
    · rw [againH_ne n]
      exact ub.frzs b o v (by rw [freedH_ne n]; exact e)
  · obtain ⟨n, e'⟩ := thru e fun _ z => by cases z
    obtain ⟨more, e2⟩ := ub.tbls b ps e'
    exact ⟨more, by rw [againH_ne n]; exact e2⟩
  · by_cases n : a ∈ cs
    · obtain ⟨o, e⟩ := C a n
      have z := (no a n o e).1
      rw [fl.2.1] at z
      cases z
    · rw [againH_ne n]
      exact na
end
/-! ### thunks -/
def Firm (o : HO) : Prop := (∃ ob u, o = .frz ob u) ∨ ∃ φ, o = .ext φ
/-- at f stands what may be called without arguments, and then keeps sp -/
def Thk (P : Program) (w : World) (K : PySem.W.Frag) (mg : Str → Option Value) (base : Heap) (k : Nat) (H : Hp) (f : Addr) (sp : Hp → VK → XK → Prop) : Prop :=
  ∃ fs : List Addr, (∀ b ∈ fs, ∃ o, H b = some o ∧ Firm o) ∧ ∀ (A : Around) (outer : List Env) (s : Shared) (G : Hp), (∀ b ∈ fs, G b = H b) → Env0 P w K mg base A outer s G → PySem.W.FnAt f s.heap ∧ ∀ (Q : VK) (E : XK), Room k A → sp G Q E →
    codeAny (model P w) A (.call (.ref f) ⟨[], []⟩) (CR (L2.CX P w) outer P w G s Q E) s
theorem Thk.keep {P : Program} {w : World} {K : PySem.W.Frag} {mg : Str → Option Value} {base : Heap} {k : Nat} {H G : Hp} {f : Addr} {sp : Hp → VK → XK → Prop} (t : Thk P w K mg base k H f sp) (e : ∀ b o, H b = some o → Firm o → G b = some o) : Thk P w K mg base k G f sp := by
  obtain ⟨fs, h1, h2⟩ := t
  have q : ∀ b ∈ fs, G b = H b := fun b hb => by
    obtain ⟨o, ho, fo⟩ := h1 b hb
    rw [ho]
    exact e b o ho fo
  refine ⟨fs, fun b hb => ?_, fun A outer s G' hb => h2 A outer s G' fun b z => (hb b z).trans (q b z)⟩
  rw [q b hb]
  exact h1 b hb
theorem Thk.mono {P : Program} {w : World} {K : PySem.W.Frag} {mg : Str → Option Value} {base : Heap} {j k : Nat} {H : Hp} {f : Addr} {sp : Hp → VK → XK → Prop} (t : Thk P w K mg base j H f sp) (h : j ≤ k) : Thk P w K mg base k H f sp := by
  obtain ⟨fs, h1, h2⟩ := t
  exact ⟨fs, h1, fun A outer s G hb e0 => ⟨(h2 A outer s G hb e0).1, fun Q E hr => (h2 A outer s G hb e0).2 Q E (hr.mono h)⟩⟩
theorem Thk.imp {P : Program} {w : World} {K : PySem.W.Frag} {mg : Str → Option Value} {base : Heap} {k : Nat} {H : Hp} {f : Addr} {sp sp' : Hp → VK → XK → Prop} (t : Thk P w K mg base k H f sp) (h : ∀ G Q E, sp' G Q E → sp G Q E) : Thk P w K mg base k H f sp' := by
  obtain ⟨fs, h1, h2⟩ := t
  exact ⟨fs, h1, fun A outer s G hb e0 => ⟨(h2 A outer s G hb e0).1, fun Q E hr q => (h2 A outer s G hb e0).2 Q E hr (h G Q E q)⟩⟩
theorem Thk.imp2 {P : Program} {w : World} {K : PySem.W.Frag} {mg : Str → Option Value} {base : Heap} {k : Nat} {H : Hp} {f : Addr} {sp sp' : Hp → VK → XK → Prop} {cs : List Addr} (t : Thk P w K mg base k H f sp) (hc : ∀ b ∈ cs, ∃ o, H b = some o ∧ Firm o) (h : ∀ G Q E, (∀ b ∈ cs, G b = H b) → sp' G Q E → sp G Q E) : Thk P w K mg base k H f sp' := by
  obtain ⟨fs, h1, h2⟩ := t
  refine ⟨fs ++ cs, fun b hb => (List.mem_append.mp hb).elim (h1 b) (hc b), fun A outer s G hb e0 => ?_⟩
  obtain ⟨a1, a2⟩ := h2 A outer s G (fun b z => hb b (List.mem_append_left _ z)) e0
  exact ⟨a1, fun Q E hr q => a2 Q E hr (h G Q E (fun b z => hb b (List.mem_append_right _ z)) q)⟩
/-- what a lambda of the def of X keeps -/
structure LamOk (X : Cx) (k : Nat) (ar : Arguments) (bo : Expr) (sc : Scope) (t : XK → TE) : Prop where
  L : LamS X.env.scope sc
  bind : ∀ (q : Str) (cl : List (Str × Addr)) (pm cv ctv : Value), bindArgs (PySem.W.kla_fn "<lambda>" q ar bo sc cl pm cv ctv) ⟨[], []⟩ = pure []
  body : ∀ (A : Around) (outer : List Env) (s : Shared) (H : Hp) (E : XK) (f c' : Addr), Room k (A.deeper (lamEnv X sc s.heap.objs.size f c')) → PE (lamCx X A outer s H E sc f c') bo (t E)
/-- the captured cells, held -/
structure CapsAt (X : Cx) (sc : Scope) (σ : L2.St) (H : Hp) : Prop where
  inj : ∀ x y c, X.env.cells.lookup x = some c → X.env.cells.lookup y = some c → x = y
  at_ : ∀ y ∈ sc.names, y.2 = .free → ∃ (c : Addr) (o : Obj) (u : Option Value), X.env.cells.lookup y.1 = some c ∧ H c = some (celF o) ∧ o.data = .cell u ∧ ∀ (i : Nat) (v : V), X.N[i]? = some y.1 → σ[i]? = some (some v) → ∃ u', u = some u' ∧ RelV v u'
  len : σ.length = X.N.length
def capCs (X : Cx) (sc : Scope) : List Addr := csOf (cloFrom X.env.cells sc.names [])
theorem clo_in {X : Cx} {sc : Scope} (hfree : ∀ y ∈ sc.names, y.2 = .free → ∃ c, X.env.cells.lookup y.1 = some c) {x : Str} {c : Addr} (e : (cloFrom X.env.cells sc.names []).lookup x = some c) : (x, NameKind.free) ∈ sc.names ∧ X.env.cells.lookup x = some c := by
  rcases cloFrom_mem (PySem.mem_of_lookup e) with hm | ⟨h1, h2⟩
  · cases hm
  · obtain ⟨c1, hc⟩ := hfree _ h1 rfl
    have hc : X.env.cells.lookup x = some c1 := hc
    have e2 : c = c1 := by
      rw [h2, hc] <;> rfl
    rw [e2]
    exact ⟨h1, hc⟩
theorem clo_at {X : Cx} {sc : Scope} (hfree : ∀ y ∈ sc.names, y.2 = .free → ∃ c, X.env.cells.lookup y.1 = some c) {x : Str} (h : (x, NameKind.free) ∈ sc.names) : ∃ c, (cloFrom X.env.cells sc.names []).lookup x = some c :=
  mem_lookup (cloFrom_has (cells := X.env.cells) (acc := []) h)
/-- the lambda's body begins: its cells are let go -/
theorem lam_begin {X : Cx} {A : Around} {outer : List Env} {E : XK} {sc : Scope} {f c' : Addr} {σ : L2.St} {s : Shared} {H : Hp} {h1 : Heap} {tk : Nat} (L : LamS X.env.scope sc) (e0 : Env0 X.prog X.w X.K X.mg X.base A outer s H) (hd : A.handled = none)
    (C : CapsAt X sc σ H) (CF : CellsF (capCs X sc) H) (hns : h1.Ns s.heap.objs.size fun y => ([] : List (Str × Value)).reverse.lookup y) (kp : ∀ b o, s.heap.get? b = some o → h1.get? b = some o) :
    Inv (lamCx X A outer s (freedH (capCs X sc) H) E sc f c') [] σ (freedH (capCs X sc) H) { s with heap := h1, toks := tk } := by
  have ef := env0_freed e0 CF
  have hfree : ∀ y ∈ sc.names, y.2 = .free → ∃ c, X.env.cells.lookup y.1 = some c := fun y hy hk => by
    obtain ⟨c, _, _, e, _⟩ := C.at_ y hy hk
    exact ⟨c, e⟩
  have noA : ∀ b : Addr, b ∉ (lamCx X A outer s (freedH (capCs X sc) H) E sc f c').ex := fun b z => absurd (show b ∈ ([] : List Addr) from z) (by simp)
  have isC : ∀ {x : Str} {c : Addr}, (cloFrom X.env.cells sc.names []).lookup x = some c → ∃ (o : Obj) (u : Option Value), h1.get? c = some o ∧ o.data = .cell u ∧ ∀ (i : Nat) (v : V), X.N[i]? = some x → σ[i]? = some (some v) → ∃ u', u = some u' ∧ RelV v u' := fun {x c} e => by
    obtain ⟨hy, hc⟩ := clo_in hfree e
    obtain ⟨c2, o, u, e2, e3, e4, e5⟩ := C.at_ _ hy rfl
    have e2 : X.env.cells.lookup x = some c2 := e2
    rw [hc] at e2
    cases e2
    exact ⟨o, u, kp _ _ (e0.hok _ _ e3).1, e4, e5⟩
  refine ⟨⟨e0.mod, L.kind, rfl, rfl, Nat.le_refl _, fun y z c e1 e2 => C.inj y z c (clo_in hfree e1).2 (clo_in hfree e2).2, fun y hy => ?_, fun y c z _ => ?_, fun _ => hd, Around.frames_deeper e0.frames, .inr ⟨rfl, rfl⟩, fun b z => absurd z (noA b), ef.bs, e0.bsz,
      fun b _ _ => noA b, fun b z => absurd z (noA b), e0.funs, ef.frf⟩, rfl, e0.bare, Un.kept kp, ⟨_, hns, fun i y v e1 e2 e3 => ?_⟩, fun y c e => ?_, ef.hok.fresh (Nat.le_refl _), fun y c e => ?_, fun q hq => absurd (show q ∈ ([] : List (Addr × Obj)) ++ [] from hq) (by simp), ?_, C.len⟩
  · have hy : sc.names.lookup y = some .cell ∨ sc.names.lookup y = some .free := hy
    rcases hy with hy | hy
    · exact absurd rfl (L.own _ (PySem.mem_of_lookup hy)).2
    · exact clo_at hfree (PySem.mem_of_lookup hy)
  · have z : false = true := z
    cases z
  · have e3 : Vis sc y := e3
    rcases e3 with k | k | k
    · exact absurd rfl (L.own _ (PySem.mem_of_lookup k)).1
    · exact absurd rfl (L.own _ (PySem.mem_of_lookup k)).2
    · obtain ⟨c, hc⟩ := clo_at hfree (PySem.mem_of_lookup k)
      obtain ⟨o, u, g1, g2, g3⟩ := isC hc
      obtain ⟨u', eu, r⟩ := g3 i v e1 e2
      exact ⟨u', r, .inr ⟨.inr k, c, hc, o, g1, by rw [g2, eu]⟩⟩
  · obtain ⟨o, u, g1, g2, _⟩ := isC e
    exact ⟨u, o, g1, g2⟩
  · exact freedH_in (mem_csOf.mpr ⟨y, e⟩)
  · intro b o q
    exact (ef.hok b o q).stay (fun c v _ r => kp c v r) (fun _ r => r) fun _ _ r => r
theorem caps_cells {X : Cx} {sc : Scope} {σ : L2.St} {H : Hp} (C : CapsAt X sc σ H) : CellsF (capCs X sc) H := fun b hb => by
  obtain ⟨x, e⟩ := mem_csOf.mp hb
  have hfree : ∀ y ∈ sc.names, y.2 = .free → ∃ c, X.env.cells.lookup y.1 = some c := fun y hy hk => by
    obtain ⟨c, _, _, e, _⟩ := C.at_ y hy hk
    exact ⟨c, e⟩
  obtain ⟨hy, hc⟩ := clo_in hfree e
  obtain ⟨c2, o, u, e2, e3, _⟩ := C.at_ _ hy rfl
  have e2 : X.env.cells.lookup x = some c2 := e2
  rw [hc] at e2
  cases e2
  exact ⟨o, e3⟩
/-- how a thunk made of a lambda is read: its body, with the cells let go -/
def spLam (X : Cx) (sc : Scope) (σ : L2.St) (t : XK → TE) : Hp → VK → XK → Prop := fun H Q E =>
  t (fun cls d H' => Und (capCs X sc) H H' → E cls d (againH (capCs X sc) H H')) σ (freedH (capCs X sc) H) fun v H' => Und (capCs X sc) H H' → Q v (againH (capCs X sc) H H')
theorem thk_of {X : Cx} {k : Nat} {ar : Arguments} {bo : Expr} {sc : Scope} {t : XK → TE} {σ : L2.St} {H : Hp} {f c' : Addr} (O : LamOk X k ar bo sc t) (hf : H f = some (lamO (X.env.qual ++ "<lambda>") ar bo sc (cloFrom X.env.cells sc.names []) f c'))
    (hc : H c' = some (CodeO c' (X.env.qual ++ "<lambda>"))) (C : CapsAt X sc σ H) : Thk X.prog X.w X.K X.mg X.base (k + 1) H f (spLam X sc σ t) := by
  refine ⟨f :: c' :: capCs X sc, fun b hb => ?_, fun A outer s G hb e0 => ?_⟩
  · rcases List.mem_cons.mp hb with rfl | hb
    · exact ⟨_, hf, .inr ⟨_, rfl⟩⟩
    rcases List.mem_cons.mp hb with rfl | hb
    · exact ⟨_, hc, .inr ⟨_, rfl⟩⟩
    obtain ⟨o, e⟩ := caps_cells C b hb
    exact ⟨_, e, .inl ⟨_, _, rfl⟩⟩
  have hf' := (hb f List.mem_cons_self).trans hf
  have hc' := (hb c' (List.mem_cons_of_mem _ List.mem_cons_self)).trans hc
  have hfree : ∀ y ∈ sc.names, y.2 = .free → ∃ c, X.env.cells.lookup y.1 = some c := fun y hy hk => by
    obtain ⟨c, _, _, e, _⟩ := C.at_ y hy hk
    exact ⟨c, e⟩
  have C' : CapsAt X sc σ G := ⟨C.inj, fun y hy hk => by
    obtain ⟨c, o, u, e1, e2, e3, e4⟩ := C.at_ y hy hk
    obtain ⟨c1, h1⟩ := clo_at hfree (x := y.1) (sc := sc) (by rw [← hk]; exact hy)
    have h2 := (clo_in hfree h1).2
    rw [e1] at h2
    cases h2
    exact ⟨c, o, u, e1, (hb c (List.mem_cons_of_mem _ (List.mem_cons_of_mem _ (mem_csOf.mpr ⟨_, h1⟩)))).trans e2, e3, e4⟩, C.len⟩
  obtain ⟨pm, cv, of⟩ := lamO_at e0.hok hf'
  obtain ⟨⟨oc, vs, tt, hoc, hdc, hvc⟩, _, _⟩ := e0.hok c' _ hc'
  have lim : s.heap.NoLimit := e0.mod.nolimit.keeps fun b o e => (e0.bs b o e).1
  refine ⟨⟨_, _, _, _, of⟩, fun Q E hr q => ?_⟩
  refine PySem.W.kla_callFunE hr.depth of rfl O.L.co O.L.gen rfl ⟨c', oc, vs, tt, rfl, hoc, hdc, hvc⟩ ?_
  rw [O.bind]
  refine wpAny_pure (wpAny_newFunctionEnv (fun y hy => (O.L.own y hy).2) (fun y hy => absurd hy (by simp)) (fun h1 hns hsb => ⟨lim.fresh _ hsb, ?_⟩) O.L.kind)
  show codeAny _ _ (.expr bo (lamEnv X sc s.heap.objs.size f c')) _ _
  have kp : ∀ b o, s.heap.get? b = some o → h1.get? b = some o := fun b o e => hsb.extBut b o (Nat.ne_of_lt (Heap.lt_size e)) (Heap.get?_push_of_some _ e)
  have J := lam_begin (E := fun cls d H' => Und (capCs X sc) G H' → E cls d (againH (capCs X sc) G H')) (f := f) (c' := c') (tk := s.toks + ([] : List (Str × Value)).length) O.L e0 hr.hd C' (caps_cells C') hns kp
  refine PySem.W.kla_codeExpr (wpAny_mono ((O.body A outer s _ _ f c' (hr.deeper _)).run [] _ σ _ (fun v H' => Und (capCs X sc) G H' → Q v (againH (capCs X sc) G H')) J q) (fun v s' hq => ?_) fun e s' hq => ?_)
  · obtain ⟨v', H', J', rv, qq⟩ := hq
    exact CE_again e0 (caps_cells C') ⟨v', H', J'.os, J'.bare, J'.base, J'.hok, rv, qq⟩
  · exact wpAny_mono (show wpAny _ _ (leaving (lamEnv X sc s.heap.objs.size f c') e) _ _ s' from hq) (fun _ s2 z => CX_again e0 (caps_cells C') z) fun e2 s2 z => CX_again e0 (caps_cells C') z
/-! ### the rules: a lambda as a value, a thunk called, a def called while the cells are held -/
/-- a lambda of the def of X stands at f -/
def LamAt (X : Cx) (k : Nat) (H : Hp) (f : Addr) (t : XK → TE) : Prop := ∃ ar bo sc c', H f = some (lamO (X.env.qual ++ "<lambda>") ar bo sc (cloFrom X.env.cells sc.names []) f c') ∧ H c' = some (CodeO c' (X.env.qual ++ "<lambda>")) ∧ LamOk X k ar bo sc t
theorem LamAt.keep {X : Cx} {k : Nat} {H G : Hp} {f : Addr} {t : XK → TE} (l : LamAt X k H f t) (e : ∀ b o, H b = some o → Firm o → G b = some o) : LamAt X k G f t := by
  obtain ⟨ar, bo, sc, c', h1, h2, h3⟩ := l
  exact ⟨ar, bo, sc, c', e _ _ h1 (.inr ⟨_, rfl⟩), e _ _ h2 (.inr ⟨_, rfl⟩), h3⟩
def tLamV (X : Cx) (k : Nat) (T : List (Addr × Str)) (t : XK → TE) : TE := fun σ H Q => Tabs T H ∧ ∀ (f : Addr) (H1 : Hp), ExtN H H1 → (∀ b, H1 b = none → H b = none) → Tabs T H1 → H f = none → LamAt X k H1 f t → Q (.ref f) H1
theorem pe_lam {X : Cx} {k : Nat} {T : List (Addr × Str)} {c P : Addr} {ar : Arguments} {bo : Expr} {sc : Scope} {pos : Pos} {t : XK → TE} (TB : TabB X.base X.mg c P) (hcode : X.env.code = .ref c) (hm : (P, X.env.qual ++ "<lambda>") ∈ T) (hu : ∀ p ∈ T, p.1 = P → p.2 = X.env.qual ++ "<lambda>")
    (hdef : defaultsOf ar X.env = ([], [])) (O : LamOk X k ar bo sc t) : PE X (.Lambda ar bo sc pos) (tLamV X k T t) := by
  refine ⟨fun pins s σ H Q I h => ?_⟩
  obtain ⟨hT, h⟩ := h
  exact lam_new I TB hcode hm hu hT hdef (O.L.has I.ok) fun f c' H1 s' I1 eN fr T1 nf hf hc => ⟨.ref f, H1, I1, rfl, h f H1 eN fr T1 nf ⟨_, _, _, _, hf, hc, O⟩⟩
/-- how a call of a thunk is read -/
def rThk (P : Program) (w : World) (K : PySem.W.Frag) (mg : Str → Option Value) (base : Heap) (k i : Nat) (W : WX) : TE := fun σ H Q => ∃ f sp, σ[i]? = some (some (.ref f)) ∧ Thk P w K mg base k H f sp ∧ sp H Q (WE W σ)
/-- a(), a thunk held by a name -/
theorem pe_thk {X : Cx} {k i : Nat} {a : Str} {W : WX} {p1 p2 : Pos} (hN : X.N[i]? = some a) (hv : Vis X.env.scope a) (hr : Room k X.A) (tk : Takes X W) (hd : (a == ("__debug__" : Str)) = false := by decide) (hcd : (a == ("__classdict__" : Str)) = false := by decide) :
    PE X (.Call (.Name a p1) [] [] p2) (rThk X.prog X.w X.K X.mg X.base k i W) := by
  refine ⟨fun pins s σ H Q I h => ?_⟩
  obtain ⟨f, sp, hs, ht, q⟩ := h
  refine wpAny_Call_Name_kw (thn ((pe_var (pos := p1) (i := i) hN hv hd hcd).run pins s σ H (fun v H1 => v = .ref f ∧ H1 = H) I ⟨.ref f, hs, rfl, rfl⟩) fun u s1 ⟨v, H1, I1, r1, ev, eH⟩ => ?_)
  subst ev
  rw [eH] at I1
  obtain rfl : u = Value.ref f := r1
  obtain ⟨fs, _, h2⟩ := ht
  obtain ⟨fa, run⟩ := h2 X.A X.stack s1 H (fun _ _ => rfl) I1.env0
  refine PySem.W.callWith_F0 fa (wpAny_call (codeAny_mono (run Q (WE W σ) hr q) fun r s' hq => ?_))
  cases r with
  | error e => exact passAt tk σ pins H s1 e s' I1 hq
  | ok fl =>
    cases fl with
    | ret u => exact I1.after hq
    | next => exact False.elim hq
    | brk => exact False.elim hq
    | cont => exact False.elim hq
/-- the cells of X's frame as they stand in h -/
structure HeldAt (X : Cx) (σ : L2.St) (H : Hp) (h : Heap) : Prop where
  off : ∀ c ∈ csOf X.env.cells, H c = none
  inj : ∀ x y c, X.env.cells.lookup x = some c → X.env.cells.lookup y = some c → x = y
  at_ : ∀ x c, X.env.cells.lookup x = some c → ∃ (o : Obj) (u : Option Value), h.get? c = some o ∧ o.data = .cell u ∧ ∀ (i : Nat) (v : V), X.N[i]? = some x → σ[i]? = some (some v) → (X.env.scope.names.lookup x = some .cell ∨ X.env.scope.names.lookup x = some .free) → ∃ u', u = some u' ∧ RelV v u'
  has : ∀ x, (X.env.scope.names.lookup x = some .cell ∨ X.env.scope.names.lookup x = some .free) → ∃ c, X.env.cells.lookup x = some c
  len : σ.length = X.N.length
theorem held_of {X : Cx} {pins : List (Addr × Obj)} {σ : L2.St} {H : Hp} {s : Shared} (I : Inv X pins σ H s) : HeldAt X σ H s.heap := by
  refine ⟨fun c hc => ?_, I.ok.inj, fun x c e => ?_, I.ok.has, I.len⟩
  · obtain ⟨x, e⟩ := mem_csOf.mp hc
    exact I.freeC x c e
  · obtain ⟨u, o, ho, hd⟩ := I.cell x c e
    refine ⟨o, u, ho, hd, fun i v e1 e2 e3 => ?_⟩
    obtain ⟨m, _, hl⟩ := I.loc
    obtain ⟨u', r, q⟩ := hl i x v e1 e2 (.inr e3)
    rcases q with ⟨k, _⟩ | ⟨_, c2, e4, o2, ho2, hd2⟩
    · exfalso
      have k : X.env.scope.names.lookup x = some .local := k
      rcases e3 with z | z <;> rw [k] at z <;> cases z
    · rw [e] at e4
      cases e4
      rw [ho] at ho2
      cases ho2
      rw [hd] at hd2
      cases hd2
      exact ⟨u', rfl, r⟩
section
variable {X : Cx} {σ : L2.St} {H : Hp} {h : Heap}
theorem HeldAt.celF (hh : HeldAt X σ H h) : CellsF (csOf X.env.cells) (heldH (csOf X.env.cells) h H) := fun b hb => by
  obtain ⟨x, e⟩ := mem_csOf.mp hb
  obtain ⟨o, u, ho, _⟩ := hh.at_ x b e
  exact ⟨o, by unfold heldH; rw [if_pos hb, ho]; rfl⟩
theorem HeldAt.same (hh : HeldAt X σ H h) : Same H (heldH (csOf X.env.cells) h H) := fun b o e => by
  rw [heldH_ne fun z => ?_]
  · exact e
  · rw [hh.off b z] at e
    cases e
theorem HeldAt.caps (hh : HeldAt X σ H h) {sc : Scope} (L : LamS X.env.scope sc) : CapsAt X sc σ (heldH (csOf X.env.cells) h H) := by
  refine ⟨hh.inj, fun y hy e => ?_, hh.len⟩
  have k := L.free y hy e
  obtain ⟨c, hc⟩ := hh.has _ k
  obtain ⟨o, u, h1, h2, h3⟩ := hh.at_ _ _ hc
  refine ⟨c, o, u, hc, ?_, h2, fun i v e1 e2 => h3 i v e1 e2 k⟩
  unfold heldH
  rw [if_pos (mem_csOf.mpr ⟨_, hc⟩), h1]
  rfl
theorem capCs_sub {sc : Scope} (hh : HeldAt X σ H h) (L : LamS X.env.scope sc) : ∀ b ∈ capCs X sc, b ∈ csOf X.env.cells := fun b hb => by
  obtain ⟨x, e⟩ := mem_csOf.mp hb
  exact mem_csOf.mpr ⟨x, (clo_in (fun y hy k => hh.has _ (L.free y hy k)) e).2⟩
/-- G is H' where the cells cs are held -/
structure Back (cs : List Addr) (H' G : Hp) : Prop where
  ne : ∀ b, b ∉ cs → G b = H' b
  cel : ∀ b ∈ cs, ∃ o, G b = some (celF o)
  off : ∀ b o, H' b = some o → (∀ ob, o ≠ celF ob) → b ∉ cs
/-- a lambda of a def that runs, as a thunk, while the cells are held -/
theorem LamAt.thk {k : Nat} {f : Addr} {t : XK → TE} (l : LamAt X k H f t) (hh : HeldAt X σ H h) : ∃ sp, Thk X.prog X.w X.K X.mg X.base (k + 1) (heldH (csOf X.env.cells) h H) f sp ∧
    ∀ (Q : VK) (E : XK), (∀ (H0 : Hp) (R : (Hp → Prop) → Hp → Prop), Same H H0 → (∀ b, H0 b = none → H b = none) → (∀ (C : Hp → Prop) (H' : Hp), (∀ G, Back (csOf X.env.cells) H' G → C G) → R C H') →
      t (fun cls d H' => R (E cls d) H') σ H0 fun v H' => R (Q v) H') → sp (heldH (csOf X.env.cells) h H) Q E := by
  obtain ⟨ar, bo, sc, c', h1, h2, O⟩ := l
  have hs := hh.same
  refine ⟨_, thk_of O (hs _ _ h1) (hs _ _ h2) (hh.caps O.L), fun Q E q => ?_⟩
  have sub := capCs_sub hh O.L
  have cf := hh.celF
  have bk : ∀ H', Und (capCs X sc) (heldH (csOf X.env.cells) h H) H' → Back (csOf X.env.cells) H' (againH (capCs X sc) (heldH (csOf X.env.cells) h H) H') := fun H' u => by
    have hcel : ∀ b ∈ csOf X.env.cells, b ∉ capCs X sc → ∃ o, H' b = some (celF o) := fun b hb n => by
      obtain ⟨o, e⟩ := cf b hb
      exact ⟨o, u.frz b o _ (by rw [freedH_ne n]; exact e)⟩
    refine ⟨fun b n => againH_ne fun z => n (sub b z), fun b hb => ?_, fun b o e ne hb => ?_⟩
    · by_cases n : b ∈ capCs X sc
      · rw [againH_in n]
        exact cf b hb
      · rw [againH_ne n]
        exact hcel b hb n
    · by_cases n : b ∈ capCs X sc
      · rw [u.off b n] at e
        cases e
      · obtain ⟨o', e'⟩ := hcel b hb n
        rw [e] at e'
        exact ne o' (Option.some.inj e')
  refine q (freedH (capCs X sc) (heldH (csOf X.env.cells) h H)) (fun C H' => Und (capCs X sc) (heldH (csOf X.env.cells) h H) H' → C (againH (capCs X sc) (heldH (csOf X.env.cells) h H) H')) (fun b o e => ?_) (fun b e => ?_) fun C H' z u => z _ (bk H' u)
  · rw [freedH_ne fun z => ?_]
    · exact hs b o e
    · rw [hh.off b (sub b z)] at e
      cases e
  · by_cases n : b ∈ csOf X.env.cells
    · exact hh.off b n
    · rw [freedH_ne (fun z => n (sub b z)), heldH_ne n] at e
      exact e
end
/-! ### a def called while the cells of the caller's frame are held -/
section
variable {X : Cx} {pins : List (Addr × Obj)} {σ : L2.St} {H : Hp} {s s' : Shared}
theorem env0_held (I : Inv X pins σ H s) (hfn : ∀ x, X.fn x = true) : Env0 X.prog X.w X.K X.mg X.base X.A X.stack s (heldH (csOf X.env.cells) s.heap H) := by
  have e0 := I.env0
  have hh := held_of I
  have ge : ∀ c ∈ csOf X.env.cells, X.s_0.heap.objs.size ≤ c := fun c hc => by
    obtain ⟨x, e⟩ := mem_csOf.mp hc
    exact I.ok.cab x c (hfn x) e
  refine ⟨e0.frames, e0.mod, fun b o q => ⟨(e0.bs b o q).1, ?_⟩, e0.bsz, e0.funs, fun b hb => ?_, fun b o e => ?_, e0.bare⟩
  · rw [heldH_ne fun z => ?_]
    · exact (e0.bs b o q).2
    · exact absurd (Nat.lt_of_lt_of_le (Heap.lt_size q) (Nat.le_trans I.ok.bsz (ge b z))) (Nat.lt_irrefl _)
  · rw [heldH_ne fun z => ?_]
    · exact e0.frf b hb
    · rcases List.mem_cons.mp (I.stkSub b hb) with e | hb
      · obtain ⟨x, q⟩ := mem_csOf.mp z
        exact I.cne x b q e
      · obtain ⟨_, o, ho, _⟩ := I.ok.funs.mem hb
        exact absurd (Nat.lt_of_lt_of_le (Heap.lt_size ho) (ge b z)) (Nat.lt_irrefl _)
  · by_cases hb : b ∈ csOf X.env.cells
    · obtain ⟨x, q⟩ := mem_csOf.mp hb
      obtain ⟨ob, u, ho, _⟩ := hh.at_ x b q
      unfold heldH at e
      rw [if_pos hb, ho] at e
      cases e
      exact ⟨ho, trivial, ⟨ob, ho⟩, fun _ _ _ _ => trivial⟩
    · rw [heldH_ne hb] at e
      refine (e0.hok b o e).stay (fun _ _ _ q => q) (fun d q => hh.same d _ q) fun d xs q => hh.same d _ q
/-- behind such a call -/
theorem ce_held {Q : VK} {u : Value} (I : Inv X pins σ H s) (hfn : ∀ x, X.fn x = true) (q : CE X.stack X.prog X.w (heldH (csOf X.env.cells) s.heap H) s (fun v G => CellsF (csOf X.env.cells) G → Q v (freedH (csOf X.env.cells) G)) u s') : CE X.stack X.prog X.w H s Q u s' := by
  obtain ⟨v, G, os, bare, un, hok, r, qq⟩ := q
  have hh := held_of I
  have cf : CellsF (csOf X.env.cells) G := fun b hb => by
    obtain ⟨o, e⟩ := hh.celF b hb
    exact ⟨o, un.frzs b o _ e⟩
  refine ⟨v, freedH (csOf X.env.cells) G, os, bare, ⟨fun b o e n hb hx => ?_, fun b o e n hb hx => ?_, fun b o e n hx => ?_, fun b o e hx => un.there b o e hx, fun b xs e => ?_, fun b o v e => ?_, fun b ps e => ?_⟩, hok_freed hok cf, r, qq cf⟩
  · by_cases z : b ∈ csOf X.env.cells
    · obtain ⟨ob, e2⟩ := hh.celF b z
      have h1 := ((env0_held I hfn).hok b _ e2).1
      rw [e] at h1
      cases h1
      exact (hok b _ (un.frzs b _ _ e2)).1
    · exact un.keep b o e (by rw [heldH_ne z]; exact n) hb hx
  · by_cases z : b ∈ csOf X.env.cells
    · obtain ⟨ob, e2⟩ := hh.celF b z
      have h1 := ((env0_held I hfn).hok b _ e2).1
      rw [e] at h1
      cases h1
      exact ⟨o.slots, (hok b _ (un.frzs b _ _ e2)).1⟩
    · exact un.slot b o e (by rw [heldH_ne z]; exact n) hb hx
  · by_cases z : b ∈ csOf X.env.cells
    · exact freedH_in z
    · rw [freedH_ne z]
      exact un.free b o e (by rw [heldH_ne z]; exact n) hx
  · have z : b ∉ csOf X.env.cells := fun z => by
      rw [hh.off b z] at e
      cases e
    rw [freedH_ne z]
    exact un.tups b xs (by rw [heldH_ne z]; exact e)
  · have z : b ∉ csOf X.env.cells := fun z => by
      rw [hh.off b z] at e
      cases e
    rw [freedH_ne z]
    exact un.frzs b o v (by rw [heldH_ne z]; exact e)
  · have z : b ∉ csOf X.env.cells := fun z => by
      rw [hh.off b z] at e
      cases e
    obtain ⟨more, q⟩ := un.tbls b ps (by rw [heldH_ne z]; exact e)
    exact ⟨more, by rw [freedH_ne z]; exact q⟩
end
/-- what is wanted behind a call while the cells are held -/
def HeldQ (X : Cx) (Q : VK) : VK := fun v G => CellsF (csOf X.env.cells) G → Q v (freedH (csOf X.env.cells) G)
def tCallH (X : Cx) (sp : Sp) (t : TA) : TE := fun σ H Q => t σ H fun vs H1 => ∀ h : Heap, HeldAt X σ H1 h → sp vs (heldH (csOf X.env.cells) h H1) (HeldQ X Q) L2.E0
/-- x(e, ..), the cells of X's frame held meanwhile -/
theorem pe_callH {X : Cx} {k : Nat} {f : Addr} {fd : FuncData} {ps : List Str} {sp : Sp} {x : Str} {p pos : Pos} {e : Expr} {es : List Expr} {t : TA} (F : FnOk X.prog X.w X.K X.mg X.base L2.CX0 k f fd ps sp) (hr : Room k X.A) (hg : Gl X x) (hm : X.mg x = some (.ref f)) (hk : PySem.W.keepIn X.K (.ref f) = true) (hb : Binds X.K fd ps [])
    (ha : PA X (e :: es) t) (hfn : ∀ x, X.fn x = true := by intro _; rfl) (hdb : (x == ("__debug__" : Str)) = false := by decide) (he : starEach (e :: es) X.env = (false, eval e X.env) :: starEach es X.env := by rfl) (hpl : (backTo pos (starEach es X.env)).any (·.1) = false := by rfl) :
    PE X (.Call (.Name x p) (e :: es) [] pos) (tCallH X sp t) := by
  refine ⟨fun pins s σ H Q I h => ?_⟩
  refine wpAny_Call_Name_kw (ld_glob I hg hm ?_ hdb)
  refine PySem.W.callWith_K (h₀ := X.base) I.ok.mod.kin hk (thn (ha.run pos pins s σ H _ I h) fun us s1 ⟨vs, H1, I1, r, q⟩ => ⟨I1.kIn, ?_⟩) he hpl
  have q := q s1.heap (held_of I1)
  have hl : us.length = ps.length := by
    rw [← r.length]
    exact F.len _ _ _ _ q
  have hl : (us ++ []).length = ps.length := by rw [List.append_nil]; exact hl
  have r2 : Vals vs (us ++ []) := by rw [List.append_nil]; exact r
  refine wpAny_call (codeAny_mono (F.run X.A X.stack s1 _ ⟨us, []⟩ (us ++ []) vs _ _ hr (env0_held I1 hfn) (hb s1 us I1.kIn hl) r2 q) fun r s' hq => ?_)
  cases r with
  | error e => exact False.elim hq
  | ok fl =>
    cases fl with
    | ret u => exact I1.after (ce_held I1 hfn hq)
    | next => exact False.elim hq
    | brk => exact False.elim hq
    | cont => exact False.elim hq
/-- what a tuple that was made while cells were held looks like behind -/
theorem freed_made {cs : List Addr} {H' G : Hp} {p : Addr} {o : HO} (bk : Back cs H' G) (np : G p = none) : p ∉ cs ∧ freedH cs (upd G p o) = upd (freedH cs H') p o := by
  have n : p ∉ cs := fun z => by
    obtain ⟨ob, e⟩ := bk.cel p z
    rw [np] at e
    cases e
  refine ⟨n, funext fun b => ?_⟩
  by_cases hb : b ∈ cs
  · rw [freedH_in hb, upd_ne (fun (z : b = p) => n (z ▸ hb)), freedH_in hb]
  · rw [freedH_ne hb]
    by_cases hp : b = p
    · rw [hp, upd_same, upd_same]
    · rw [upd_ne hp, upd_ne hp, freedH_ne hb, bk.ne b hb]

/-! ### defs that hand out lambdas: their cells are held from then on -/
/-- the end of a body: what is handed back, the cells held -/
def SPR (X : Cx) (R : VK) (f : Flow) (s' : Shared) : Prop := match f with
  | .ret u => ∃ (pins : List (Addr × Obj)) (v : V) (σ' : L2.St) (H' : Hp), Inv X pins σ' H' s' ∧ RelV v u ∧ R v (heldH (csOf X.env.cells) s'.heap H')
  | _ => False
structure PSr (X : Cx) (st : List Stmt) (t : VK → L2.St → Hp → Prop) : Prop where
  run : ∀ (pins : List (Addr × Obj)) (s : Shared) (σ : L2.St) (H : Hp) (R : VK), Inv X pins σ H s → t R σ H → wpAny (model X.prog X.w) X.A (execs st X.env) (SPR X R) X.xe s
def endR (u : L2.St → Hp → Prop) : Ends := { nx := u, rt := fun _ _ => False }
section
variable {X : Cx} {st : Stmt} {rest : List Stmt} {t : TS} {u : VK → L2.St → Hp → Prop} {e c : Expr} {te : TE} {tc : TT} {pos : Pos}
theorem psr_cons (h1 : PS X st t) (h2 : PSr X rest u) : PSr X (st :: rest) (fun R σ H => t (endR (u R)) σ H) := by
  refine ⟨fun pins s σ H R I h => wpAny_execs_cons (thn (h1.run pins s σ H (endR (u R)) I h) fun f s1 q => ?_)⟩
  cases f with
  | next =>
    obtain ⟨σ', H', I', q⟩ := q
    exact h2.run pins s1 σ' H' R I' q
  | ret v =>
    obtain ⟨_, _, _, _, _, z⟩ := q
    exact False.elim z
  | brk =>
    obtain ⟨_, _, _, z⟩ := q
    exact False.elim z
  | cont =>
    obtain ⟨_, _, _, z⟩ := q
    exact False.elim z
theorem psr_ret (he : PE X e te) : PSr X [.Return (some e) pos] (fun R σ H => te σ H fun v H1 => ∀ h, HeldAt X σ H1 h → R v (heldH (csOf X.env.cells) h H1)) := by
  refine ⟨fun pins s σ H R I h => wpAny_execs_cons (wpAny_Return_some (thn (he.run pins s σ H _ I h) fun v s1 q => ?_))⟩
  obtain ⟨x, H1, I1, r, q⟩ := q
  exact ⟨pins, x, σ, H1, I1, r, q s1.heap (held_of I1)⟩
theorem psr_if {a b : List Stmt} {ta tb : VK → L2.St → Hp → Prop} (hc : PT X c tc) (ha : PSr X a ta) (hb : PSr X b tb) : PSr X [.If c a b pos] (fun R σ H => tc σ H fun d H1 => if d = true then ta R σ H1 else tb R σ H1) := by
  refine ⟨fun pins s σ H R I h => wpAny_execs_cons (thn (wpAny_If (Q := SPR X R) (thn (hc.run pins s σ H _ I h) fun d s1 ⟨H1, I1, q1⟩ => ?_)) fun f s1 q => ?_)⟩
  · cases d with
    | true => exact ha.run pins s1 σ H1 R I1 q1
    | false => exact hb.run pins s1 σ H1 R I1 q1
  · cases f with
    | next => exact False.elim q
    | ret v => exact q
    | brk => exact q
    | cont => exact q
/-- if c: a; rest, where a hands something back -/
theorem psr_ifr {a : List Stmt} {ta : VK → L2.St → Hp → Prop} (hc : PT X c tc) (ha : PSr X a ta) (hb : PSr X rest u) : PSr X (.If c a [] pos :: rest) (fun R σ H => tc σ H fun d H1 => if d = true then ta R σ H1 else u R σ H1) := by
  refine ⟨fun pins s σ H R I h => wpAny_execs_cons (thn (wpAny_If (Q := fun f s' => match f with | .next => wpAny (model X.prog X.w) X.A (execs rest X.env) (SPR X R) X.xe s' | f => SPR X R f s') (thn (hc.run pins s σ H _ I h) fun d s1 ⟨H1, I1, q1⟩ => ?_)) fun f s1 q => ?_)⟩
  · cases d with
    | true =>
      refine thn (ha.run pins s1 σ H1 R I1 q1) fun f s2 q => ?_
      cases f with
      | next => exact False.elim q
      | ret v => exact q
      | brk => exact q
      | cont => exact q
    | false => exact wpAny_execs_nil (hb.run pins s1 σ H1 R I1 q1)
  · cases f with
    | next => exact q
    | ret v => exact q
    | brk => exact q
    | cont => exact q
end
/-- THE RULE for such a def -/
theorem FunL.okD {P : Program} {w : World} {K : PySem.W.Frag} {mg : Str → Option Value} {base : Heap} {x qual : Str} {st : Stmt} {f c : Addr} {fd : FuncData} {N ps : List Str} {k : Nat} {sp : Sp} (F : FunL K x qual st f fd c) (S : FnScope N ps (defScope st)) (len : ∀ vs H Q E, sp vs H Q E → vs.length = ps.length)
    (hbody : ∀ (A : Around) (outer : List Env) (s : Shared) (H : Hp) (vs : List V) (Q : VK) (E : XK), Room k (A.deeper (envOfC qual (defScope st) s.heap.objs.size f (.ref c))) → sp vs H Q E → ∃ t, PSr (cxOf C8.CX0 P w K mg base N qual (defScope st) f (.ref c) A outer s H E) (defBody st) t ∧ t Q (L2.start N vs) H) :
    FnOk P w K mg base CX0 (k + 1) f fd ps sp := by
  obtain ⟨oc, od, kV, doc, pm, an, ct, osl, e, lk, hcd⟩ := F.ex
  refine ⟨len, fun A outer s H args us vs Q E hr e0 hbt r h => ?_⟩
  rw [e] at lk hbt
  have hl := len _ _ _ _ h
  have keep : ∀ b o, base.get? b = some o → s.heap.get? b = some o := fun b o e => (e0.bs b o e).1
  have par : ∀ y ∈ ps.zip us, (defScope st).names.lookup y.1 = some .local ∨ ((defScope st).names.lookup y.1 = some .cell ∧ ((cellsFrom (s.heap.objs.size + 1) (defScope st).names []).lookup y.1).isSome = true) := fun ⟨n, v⟩ hy => by
    rcases S.par n (List.of_mem_zip hy).1 with q | q
    · exact .inl q
    · exact .inr ⟨q, PySem.W.cellsFrom_some _ _ _ (.inl q)⟩
  refine codeAny_call_function hr.depth ((e0.mod.kin.keeps keep) _ _ lk) rfl S.co S.gen rfl (PySem.W.codeRec_of (e0.mod.kin.keeps keep) hcd) (hbt _ _ _ _ ?_)
  refine wpAny_newFunctionEnv_cells S.kind par fun env he s1 z => ?_
  subst he
  refine ⟨(e0.mod.nolimit.keeps keep).keeps z.toInCall.keep, codeAny_func ?_⟩
  obtain ⟨t, ht, hq⟩ := hbody A outer s H vs Q E (hr.deeper _) h
  have I := inv_start (CX := C8.CX0) (E := E) (f := f) (cd := Value.ref c) S hr.hd e0 hl r z
  refine wpAny_mono (ht.run [] s1 (L2.start N vs) H Q I hq) (fun fl s' hs => ?_) fun e s' hs => hs
  cases fl with
  | next => exact False.elim hs
  | brk => exact False.elim hs
  | cont => exact False.elim hs
  | ret u =>
    obtain ⟨pins, v, σ', H', J, rv, q⟩ := hs
    have hh := held_of J
    have ge : ∀ b ∈ csOf (cxOf C8.CX0 P w K mg base N qual (defScope st) f (.ref c) A outer s H E).env.cells, s.heap.objs.size ≤ b := fun b hb => by
      obtain ⟨y, q⟩ := mem_csOf.mp hb
      exact J.ok.cab y b rfl q
    have nin : ∀ {b : Addr} {o : HO}, H' b = some o → b ∉ csOf (cxOf C8.CX0 P w K mg base N qual (defScope st) f (.ref c) A outer s H E).env.cells := fun {b o} e z => by
      rw [hh.off b z] at e
      cases e
    refine ⟨v, _, J.os, J.bare, ⟨J.base.keep, J.base.slot, fun b o e n hx => ?_, J.base.there, fun b xs e => ?_, fun b o y e => ?_, fun b ts e => ?_⟩, (env0_held J (fun _ => rfl)).hok, rv, q⟩
    · rw [heldH_ne fun z => ?_]
      · exact J.base.free b o e n hx
      · exact absurd (Nat.lt_of_lt_of_le (Heap.lt_size e) (ge b z)) (Nat.lt_irrefl _)
    · have e' := J.base.tups b xs e
      rw [heldH_ne (nin e')]
      exact e'
    · have e' := J.base.frzs b o y e
      rw [heldH_ne (nin e')]
      exact e'
    · obtain ⟨more, e'⟩ := J.base.tbls b ts e
      exact ⟨more, by rw [heldH_ne (nin e')]; exact e'⟩
/-- how a thunk is read whose cells are held for good -/
def spD (t : XK → TE) (σ : L2.St) : Hp → VK → XK → Prop := fun G Q E => ∀ (H0 : Hp) (R : (Hp → Prop) → Hp → Prop), (∀ b o, G b = some o → (∀ ob, o ≠ celF ob) → H0 b = some o) →
  (∀ (C : Hp → Prop) (H' : Hp), Same H0 H' → (∀ G', Same G G' → (∀ b o, H' b = some o → G' b = some o) → C G') → R C H') → t (fun cls d H' => R (E cls d) H') σ H0 fun v H' => R (Q v) H'
theorem LamAt.thkD {X : Cx} {σ : L2.St} {H : Hp} {h : Heap} {k : Nat} {f : Addr} {t : XK → TE} (l : LamAt X k H f t) (hh : HeldAt X σ H h) : Thk X.prog X.w X.K X.mg X.base (k + 1) (heldH (csOf X.env.cells) h H) f (spD t σ) := by
  obtain ⟨ar, bo, sc, c', h1, h2, O⟩ := l
  have hs := hh.same
  have sub := capCs_sub hh O.L
  refine (thk_of O (hs _ _ h1) (hs _ _ h2) (hh.caps O.L)).imp2 (cs := capCs X sc) (fun b hb => ?_) fun G Q E hG q => ?_
  · obtain ⟨o, e⟩ := hh.celF b (sub b hb)
    exact ⟨_, e, .inl ⟨_, _, rfl⟩⟩
  · refine q (freedH (capCs X sc) G) (fun C H' => Und (capCs X sc) G H' → C (againH (capCs X sc) G H')) (fun b o e ne => ?_) fun C H' s0 z u => z _ (fun b o e => ?_) fun b o e => ?_
    · rw [freedH_ne fun z => ?_]
      · exact e
      · obtain ⟨ob, e2⟩ := hh.celF b (sub b z)
        rw [hG b z, e2] at e
        exact ne ob (Option.some.inj e).symm
    · by_cases n : b ∈ capCs X sc
      · rw [againH_in n]
        exact e
      · rw [againH_ne n]
        exact s0 b o (by rw [freedH_ne n]; exact e)
    · rw [againH_ne fun n => ?_]
      · exact e
      · rw [u.off b n] at e
        cases e

/-! ### what a call comes to, as a law asks it: ('told', value) or the error's tuple -/
/-- an error of one of these classes has come: the tuple is made -/
def MetX (rs : List (Addr × Str × Str)) (Q : VK) : XK := fun cls d H' => ∃ (C : Addr) (tag fld : Str) (dd : Addr) (v : V), (C, tag, fld) ∈ rs ∧ cls = .ref C ∧ d = some dd ∧ H' dd = some (.xd [(fld, v)]) ∧ ∀ o, H' o = none → Q (.ref o) (upd H' o (.tup [.str tag, v, .bl true]))
def spMet (P : Program) (w : World) (K : PySem.W.Frag) (mg : Str → Option Value) (base : Heap) (k : Nat) (rs : List (Addr × Str × Str)) : Sp := fun vs H Q _ => ∃ (f : Addr) (sp : Hp → VK → XK → Prop), vs = [.ref f] ∧ Thk P w K mg base k H f sp ∧
  ∀ (Q' : VK) (E' : XK), (∀ v H', (∀ p, H' p = none → Q (.ref p) (upd H' p (.tup [.str "told", v]))) → Q' v H') → (∀ cls d H', MetX rs Q cls d H' → E' cls d H') → sp H Q' E'
/-- what has been made while the cells were held is there when they are let go -/
def Over (H' G : Hp) : Prop := ∀ b o, H' b = some o → (∀ ob, o ≠ celF ob) → G b = some o
/-- asked of a lambda that is made on the spot -/
theorem met_live {X : Cx} {σ : L2.St} {H1 : Hp} {h : Heap} {k kk : Nat} {t : XK → TE} {f : Addr} {rs : List (Addr × Str × Str)} {Q : VK} {E : XK} (hh : HeldAt X σ H1 h) (l : LamAt X k H1 f t) (hk : k + 1 ≤ kk)
    (q : ∀ (H0 : Hp) (told : VK) (err : XK), Same H1 H0 → (∀ b, H0 b = none → H1 b = none) →
      (∀ v H', Same H0 H' → (∀ p Hf, Same H1 Hf → Over H' Hf → Hf p = some (.tup [.str "told", v]) → Q (.ref p) Hf) → told v H') →
      (∀ C tag fld dd v H', (C, tag, fld) ∈ rs → Same H0 H' → H' dd = some (.xd [(fld, v)]) → (∀ p Hf, Same H1 Hf → Hf p = some (.tup [.str tag, v, .bl true]) → Q (.ref p) Hf) → err (.ref C) (some dd) H') →
      t err σ H0 told) :
    spMet X.prog X.w X.K X.mg X.base kk rs [.ref f] (heldH (csOf X.env.cells) h H1) (HeldQ X Q) E := by
  obtain ⟨sp, th, run⟩ := l.thk hh
  refine ⟨f, sp, rfl, th.mono hk, fun Q' E' hQ hE => run Q' E' fun H0 R s1 fr hR => ?_⟩
  have fin : ∀ {H' G : Hp} {p : Addr} {o : HO}, Same H0 H' → Back (csOf X.env.cells) H' G → G p = none → (∀ ob, o ≠ celF ob) →
      (Same H1 (freedH (csOf X.env.cells) (upd G p o)) ∧ Over H' (freedH (csOf X.env.cells) (upd G p o))) ∧ freedH (csOf X.env.cells) (upd G p o) p = some o := fun {H' G p o} s' bk np ne => by
    obtain ⟨n, e⟩ := freed_made (o := o) bk np
    rw [e]
    have up : ∀ b u, b ∉ csOf X.env.cells → H' b = some u → upd (freedH (csOf X.env.cells) H') p o b = some u := fun b u nb hb => by
      have nbp : b ≠ p := fun z => by
        rw [← z, bk.ne b nb, hb] at np
        cases np
      rw [upd_ne nbp, freedH_ne nb]
      exact hb
    refine ⟨⟨fun b u hb => up b u (fun z => ?_) (s' b u (s1 b u hb)), fun b u hb nu => up b u (bk.off b u hb nu) hb⟩, upd_same⟩
    rw [hh.off b z] at hb
    cases hb
  refine q H0 (fun v H' => R (Q' v) H') (fun cls d H' => R (E' cls d) H') s1 fr (fun v H' s' qq => hR _ _ fun G bk => hQ v G fun p np _ => ?_) (fun C tag fld dd v H' hm s' hd qq => hR _ _ fun G bk => hE _ _ _ ?_)
  · obtain ⟨⟨a1, a2⟩, a3⟩ := fin (o := .tup [.str "told", v]) s' bk np (fun ob z => by cases z)
    exact qq p _ a1 a2 a3
  · refine ⟨C, tag, fld, dd, v, hm, rfl, rfl, ?_, fun p np _ => ?_⟩
    · rw [bk.ne dd (bk.off dd _ hd fun ob z => by cases z)]
      exact hd
    · obtain ⟨⟨a1, _⟩, a3⟩ := fin (o := .tup [.str tag, v, .bl true]) s' bk np (fun ob z => by cases z)
      exact qq p _ a1 a3

/-! ### what stands behind draws, lambdas and calls -/
/-- lists and tuples stand as they stood -/
def KLT (H H' : Hp) : Prop := ∀ b o, H b = some o → (∃ xs, o = .lst xs ∨ o = .tup xs) → H' b = some o
theorem KLT.refl {H : Hp} : KLT H H := fun _ _ e _ => e
theorem KLT.trans {H H1 H2 : Hp} (x : KLT H H1) (y : KLT H1 H2) : KLT H H2 := fun b o e h => y b o (x b o e h) h
theorem klt_same {H H' : Hp} (s : Same H H') : KLT H H' := fun b o e _ => s b o e
theorem klt_but {d : Addr} {kvs : List (Key × V)} {H H' : Hp} (s : But d H H') (hd : H d = some (.dK kvs)) : KLT H H' := fun b o e ⟨xs, h⟩ => s b o e (ne_of e hd (by rcases h with rfl | rfl <;> intro z <;> cases z))
theorem klt_ext {H H' : Hp} (s : LamX.ExtN H H') : KLT H H' := fun b o e ⟨xs, h⟩ => s b o e fun ps z => by rcases h with rfl | rfl <;> cases z
theorem KLT.lst {H H' : Hp} (k : KLT H H') {b : Addr} {xs : List V} (e : H b = some (.lst xs)) : H' b = some (.lst xs) := k _ _ e ⟨_, .inl rfl⟩
theorem KLT.tup {H H' : Hp} (k : KLT H H') {b : Addr} {xs : List V} (e : H b = some (.tup xs)) : H' b = some (.tup xs) := k _ _ e ⟨_, .inr rfl⟩
theorem Pen.ext {H H' : Hp} {d c : Addr} {n : Nat} (p : Pen H d c n) (s : LamX.ExtN H H') : Pen H' d c n := by
  obtain ⟨ns, t, l, q, e⟩ := p
  exact ⟨ns, t, l, ⟨s _ _ q.dc (fun ps z => by unfold penD at z; cases z), s _ _ q.cs (fun ps z => by cases z), q.len, q.t0⟩, e⟩
theorem tabs_but {TT : List (Addr × Str)} {d : Addr} {kvs : List (Key × V)} {H H' : Hp} (h : LamX.Tabs TT H) (s : But d H H') (hd : H d = some (.dK kvs)) : LamX.Tabs TT H' := fun p hp => by
  obtain ⟨ps, h1, h2, h3⟩ := h p hp
  refine ⟨ps, s _ _ h1 (ne_of h1 hd (by intro z; cases z)), h2, fun pos cv hc => ?_⟩
  obtain ⟨c, e1, e2⟩ := h3 pos cv hc
  exact ⟨c, e1, s _ _ e2 (ne_of e2 hd (by intro z; unfold LamX.CodeO at z; cases z))⟩
/-- a pen, and the tables of code objects -/
structure PT2 (TT : List (Addr × Str)) (H : Hp) (d c : Addr) (n : Nat) : Prop where
  pen : Pen H d c n
  tabs : LamX.Tabs TT H
theorem PT2.same {TT : List (Addr × Str)} {H H' : Hp} {d c : Addr} {n : Nat} (p : PT2 TT H d c n) (s : Same H H') : PT2 TT H' d c n := ⟨p.pen.same s, p.tabs.ext s⟩
theorem PT2.but {TT : List (Addr × Str)} {H H' : Hp} {d c : Addr} {n m : Nat} (p : PT2 TT H d c n) (q : Pen H' d c m) (s : But d H H') : PT2 TT H' d c m ∧ KLT H H' := by
  obtain ⟨_, hd⟩ := p.pen.dict
  exact ⟨⟨q, tabs_but p.tabs s hd⟩, klt_but s hd⟩
theorem PT2.up {TT : List (Addr × Str)} {H : Hp} {d c : Addr} {n m : Nat} (p : PT2 TT H d c n) (h : n ≤ m) : PT2 TT H d c m := ⟨p.pen.up h, p.tabs⟩

/-! ### != by an own __eq__ (object.__ne__ turns its answer round), own == beside ints and tuples -/
inductive EqTy2 (H : Hp) : V → Value → Prop where
  | str (y : Str) : EqTy2 H (.str y) (.type "str")
  | int (i : Int) : EqTy2 H (.int i) (.type "int")
  | ins {p C : Addr} {dx : Addr} {fs : List (Str × V)} (e : H p = some (.ins C dx fs)) : EqTy2 H (.ref p) (.ref C)
  | tup {p : Addr} {xs : List V} (e : H p = some (.tup xs)) : EqTy2 H (.ref p) (.type "tuple")
theorem eqTy2_looks {X : Cx} {pins : List (Addr × Obj)} {σ : L2.St} {H : Hp} {s : Shared} {y : V} {u tb : Value} (I : Inv X pins σ H s) (ty : EqTy2 H y tb) (ry : RelV y u) : PySem.W.Looks (model X.prog X.w) s.heap (typeOf u) tb := by
  cases ty with
  | str z =>
    obtain ⟨t, q⟩ := (show ∃ t, u = Value.str z t from ry)
    cases q
    exact .now
  | int i =>
    obtain ⟨t, q⟩ := (show ∃ t, u = Value.int i t from ry)
    cases q
    exact .now
  | @ins b C' dy gs e =>
    cases (show u = Value.ref b from ry)
    obtain ⟨mB, J', _⟩ := ins_get I.hok e
    obtain ⟨od', J', _⟩ := J'.look
    exact J'.type
  | @tup b xs e =>
    cases (show u = Value.ref b from ry)
    obtain ⟨_, its, _, ob, ho, hc, _⟩ := I.hok b _ e
    rw [← hc]
    exact (PySem.W.Looks.ld ho).andThen .now
def rEqOwn2 (K : PySem.W.Frag) (C : Addr) (sp : Sp) : R2 := fun x y H Q => ∃ (p dx : Addr) (fs : List (Str × V)) (tb : Value), x = .ref p ∧ H p = some (.ins C dx fs) ∧ EqTy2 H y tb ∧ PySem.W.notFirst K C tb = true ∧ sp [x, y] H (fun v H' => (∃ b, v = .bl b) ∧ Q v H') L2.E0
def rNeOwn2 (K : PySem.W.Frag) (C : Addr) (sp : Sp) : R2 := fun x y H Q => ∃ (p dx : Addr) (fs : List (Str × V)) (tb : Value), x = .ref p ∧ H p = some (.ins C dx fs) ∧ EqTy2 H y tb ∧ PySem.W.notFirst K C tb = true ∧ sp [x, y] H (fun v H' => ∃ b, v = .bl b ∧ Q (.bl (!b)) H') L2.E0
theorem op_eq_own2 {X : Cx} {n : Nat} {C f : Addr} {fd : FuncData} {ps : List Str} {sp : Sp} (F : FnOk X.prog X.w X.K X.mg X.base L2.CX0 n f fd ps sp) (hr : Room n X.A)
    (hs : PySem.W.findIn X.K (.ref C) "__eq__" = some (some (.ref f))) (hf : PySem.W.isFn X.K (.ref f) = true) (hb : Binds X.K fd ps []) : OpR X (compareOp .Eq) (rEqOwn2 X.K C sp) := by
  rintro pins s σ H x y v u Q I rx ry ⟨p, dx, fs, tb, rfl, hp, ty, hn, hsp⟩
  cases rx
  obtain ⟨mA, J, _⟩ := ins_get I.hok hp
  obtain ⟨od, J, _⟩ := J.look
  obtain ⟨m, hF⟩ := I.fr
  have hT := eqTy2_looks I ty ry
  show wpAny (model X.prog X.w) X.A (richCompare .Eq (.ref p) u) (EP X pins σ Q) X.xe s
  refine PySem.W.cmp_K (op := .Eq) (tb := tb) hr.units0 hF I.ok.mod.kin J hT hn hs hf ?_
  refine wpAny_mono (run_fn F hr hb .nil pass0 I (show Vals [V.ref p, y] [Value.ref p, u] from .cons rfl (.cons ry .nil)) hsp) (fun w s' z => ?_) fun _ _ h => h
  obtain ⟨z, H', I', rz, ⟨b, ez⟩, q⟩ := z
  subst ez
  cases (show w = Value.bool b from rz)
  exact ⟨.bl b, H', I', rfl, q⟩
theorem op_ne_own2 {X : Cx} {n : Nat} {C f : Addr} {fd : FuncData} {ps : List Str} {sp : Sp} (F : FnOk X.prog X.w X.K X.mg X.base L2.CX0 n f fd ps sp) (hr : Room (n + 1) X.A)
    (hs : PySem.W.findIn X.K (.ref C) "__eq__" = some (some (.ref f))) (hne : PySem.W.findIn X.K (.ref C) "__ne__" = some (some (.builtin "object.__ne__"))) (hob : PySem.W.mroIn X.K C (.type "object") = some true) (hf : PySem.W.isFn X.K (.ref f) = true) (hb : Binds X.K fd ps []) : OpR X (compareOp .NotEq) (rNeOwn2 X.K C sp) := by
  rintro pins s σ H x y v u Q I rx ry ⟨p, dx, fs, tb, rfl, hp, ty, hn, hsp⟩
  cases rx
  obtain ⟨mA, J, _⟩ := ins_get I.hok hp
  obtain ⟨od, J, _⟩ := J.look
  have hT := eqTy2_looks I ty ry
  have kX := I.kIn
  have r2 : Vals [V.ref p, y] [Value.ref p, u] := .cons rfl (.cons ry .nil)
  have hl : [Value.ref p, u].length = ps.length := by
    have e := F.len _ _ _ _ hsp
    exact e
  -- the own == is asked by object.__ne__
  have run : codeAny (model X.prog X.w) X.A (.call (.builtin "object.__ne__") ⟨[.ref p, u], []⟩) (fun r s' => ∃ b : Bool, r = .ok (.ret (.bool (!b))) ∧ ∃ H', Inv X pins σ H' s' ∧ Q (.bl (!b)) H') s := by
    have sub : PySem.W.Looks (model X.prog X.w) s.heap (isInstance (.ref p) (.type "object")) true := J.type.andThen (PySem.W.looks_mroIn kX hob)
    refine codeAny_call_builtin PySem.F.cmp_object.ne.plain PySem.F.cmpEntry_ne (PySem.W.check_slot PySem.F.cmpKind_ne PySem.F.cmpSplit_ne sub (PySem.F.cmpArgs_ne _ _) ?_)
    unfold Builtin.«object.__ne__»
    have hu1 : X.A.in1.units < cLine := (hr.in1).units0
    rw [show slotArgs "__ne__" 1 ⟨[.ref p, u], []⟩ = pure (.ref p, [u]) from rfl]
    refine wpAny_bind (wpAny_pure (wpAny_bind (wpAny_cRoomFor hu1 (wpAny_bind (PySem.W.ifBound_K kX J hs hf ?_)))))
    have inner : wpAny (model X.prog X.w) X.A.in1 (call (.ref f) [.ref p, u]) (fun w s' => ∃ b, w = .bool b ∧ ∃ H', Inv X pins σ H' s' ∧ Q (.bl (!b)) H') (fun e s' => ∃ b : Bool, (Except.error e : Result) = .ok (.ret (.bool (!b))) ∧ ∃ H', Inv X pins σ H' s' ∧ Q (.bl (!b)) H') s := by
      refine wpAny_call (codeAny_mono (F.run X.A.in1 X.stack s H ⟨[.ref p, u], []⟩ [.ref p, u] [V.ref p, y] _ _ hr.in1 I.env0.in1 (hb s [.ref p, u] kX hl) r2 hsp) fun r s' hq => ?_)
      cases r with
      | error e => exact False.elim hq
      | ok fl =>
        cases fl with
        | ret w =>
          obtain ⟨v', H', I', rz, b, ez, q⟩ := I.after hq
          subst ez
          exact ⟨b, rz, H', I', q⟩
        | next => exact False.elim hq
        | brk => exact False.elim hq
        | cont => exact False.elim hq
    refine wpAny_mono inner (fun w s' hq => ?_) fun _ _ h => h
    obtain ⟨b, rfl, H', I', q⟩ := hq
    refine wpAny_bind (wpAny_truthy_bool ?_)
    exact wpAny_pure ⟨b, rfl, H', I', q⟩
  have one : wpAny (model X.prog X.w) X.A (tryCompare (.ref p) "__ne__" u) (fun r s' => ∃ v, r = some v ∧ EP X pins σ Q v s') X.xe s := by
    unfold tryCompare
    simp only [callSpecialIfBound?, bindSpecialIfBound?]
    refine wpAny_bind (wpAny_holding (wpAny_bind (wpAny_bind (wpAny_bind (J.type.here ((PySem.W.looks_findIn kX hne).here ?_))))))
    simp only [PySem.F.cmp_object.ne.bind]
    have fin : wpAny (model X.prog X.w) X.A (call (.builtin "object.__ne__") [.ref p, u]) (fun v s' => ∃ b : Bool, v = .bool (!b) ∧ ∃ H', Inv X pins σ H' s' ∧ Q (.bl (!b)) H') X.xe s := wpAny_call (codeAny_mono run fun r s' hq => by
      obtain ⟨b, rfl, hq⟩ := hq
      exact ⟨b, rfl, hq⟩)
    refine wpAny_bind (wpAny_askSetting (wpAny_ite ?_))
    split
    · refine wpAny_bind (wpAny_pure (wpAny_pure ?_))
      show wpAny _ _ (call (.builtin "object.__ne__") ([.ref p] ++ [u]) >>= fun v => pure (some v)) _ _ _
      refine wpAny_bind (wpAny_mono fin (fun v s' hq => ?_) fun _ _ h => h)
      obtain ⟨b, rfl, H', I', q⟩ := hq
      exact wpAny_pure (wpAny_pure ⟨_, rfl, .bl (!b), H', I', rfl, q⟩)
    · refine wpAny_tryCatch (wpAny_bind (wpAny_pure (wpAny_pure ?_)))
      show wpAny _ _ (call (.builtin "object.__ne__") ([.ref p] ++ [u]) >>= fun v => pure (some v)) _ _ _
      refine wpAny_bind (wpAny_mono fin (fun v s' hq => ?_) fun _ _ h => h)
      obtain ⟨b, rfl, H', I', q⟩ := hq
      exact wpAny_pure (wpAny_pure ⟨_, rfl, .bl (!b), H', I', rfl, q⟩)
  show wpAny (model X.prog X.w) X.A (richCompare .NotEq (.ref p) u) (EP X pins σ Q) X.xe s
  unfold richCompare
  simp only [oneThing_ref]
  refine wpAny_holding (wpAny_bind (wpAny_cRoomFor hr.units0 ?_))
  refine wpAny_bind (J.type.here (wpAny_bind (hT.here ?_)))
  split
  · rename_i q
    have e : PySem.W.subIn X.K tb (.ref C) = some false := by
      rcases Bool.or_eq_true_iff.mp hn with e | e
      · rw [beq_iff_eq.mp e] at q
        simp at q
      · exact beq_iff_eq.mp e
    refine wpAny_bind ((PySem.W.looks_subIn kX e).here ?_)
    simp only [Bool.false_eq_true, if_false]
    refine wpAny_bind (wpAny_mono one (fun r s' z => ?_) fun _ _ e => e)
    obtain ⟨v, rfl, hq⟩ := z
    exact wpAny_pure hq
  · refine wpAny_bind (wpAny_pure ?_)
    simp only [Bool.false_eq_true, if_false]
    refine wpAny_bind (wpAny_mono one (fun r s' z => ?_) fun _ _ e => e)
    obtain ⟨v, rfl, hq⟩ := z
    exact wpAny_pure hq

/-! ### a list comprehension whose element may know what its block began with -/
section
variable {X : Cx}
/-- PE X e t, where the block's beginning is known to be a state of the def -/
theorem pe_lcG {elt tg iter : Expr} {scope : Scope} {own : List (Str × Nat)} {pos : Pos} {wi : TI} {g : TG} {te : L2.St → TE} (calm : X.calm = true) (nod : X.N.Nodup) (hi : PI X tg iter wi) (bk : BlkOk X.N X.env.scope scope own)
    (hg : ∀ (z : Shared) (G : Hp) (C : Addr) (cl : List (Str × Addr)) (fp : List Addr), PG (X.blk z G scope (compEnvC scope cl C X.env) fp) tg g)
    (he : ∀ (pins : List (Addr × Obj)) (σ : L2.St) (z : Shared) (G : Hp) (C : Addr) (cl : List (Str × Addr)) (fp : List Addr), Inv X pins σ G z → (∀ b ∈ fp, FpOk X pins G b) → PE (X.blk z G scope (compEnvC scope cl C X.env) fp) elt (te σ))
    (hs : ∀ x, foldedSetIterable iter X.env x = pure x := by intro _; rfl) :
    PE X (.ListComp elt [⟨tg, iter, [], 0⟩] scope pos) (fun σ H Q => tLc wi g tYes (te σ) (own.map (·.2)) σ H Q) := by
  refine ⟨fun pins s σ H Q I h => ?_⟩
  rw [eval_ListComp]
  have fr : ∀ y ∈ scope.names, y.2 = .free → ∃ c, X.env.cells.lookup y.1 = some c := fun y hy e => (bk.free y hy e).elim (fun k => I.ok.has _ (.inl k)) fun k => I.ok.has _ (.inr k)
  refine wpAny_comprehension_free (use := none) rfl hs (closure_ok fr) bk.kind (fun y hy e => (bk.uniq y hy).trans (congrArg some e)) (thn (hi.run pins s σ H _ I h) fun _ _ ha => thn ha fun _ a hb => ?_)
  obtain ⟨it, fp, tn, J, H2, rfl, I2, T, t0, f0, ask⟩ := hb
  refine wpAny_newObj_type (newEnv_comp ?_) (show 0 ≤ sizeLine by decide)
  -- the new list stands at D
  obtain ⟨D, hD⟩ : ∃ D, D = a.heap.objs.size := ⟨_, rfl⟩
  rw [← hD]
  obtain ⟨W, ⟨m0, w0⟩, turn⟩ := ask D (I2.hok.fresh (Nat.le_of_eq hD.symm))
  obtain ⟨b, hb⟩ : ∃ b : Shared, b = { a with heap := a.heap.push { cls := .type "list", data := .seq ([] : List Value).toArray } } := ⟨_, rfl⟩
  rw [← hb]
  have bh : b.heap = a.heap.push { cls := .type "list", data := .seq ([] : List Value).toArray } := by rw [hb]
  have pushes : ∀ c o, a.heap.get? c = some o → b.heap.get? c = some o := fun c o e => by
    rw [bh]
    exact Heap.get?_push_of_some _ e
  have I3 : Inv X pins σ (upd H2 D (.lst [])) b := by
    rw [hb]
    refine I2.laid (t' := a.toks) (fun _ _ e => Heap.get?_push_of_some _ e) (Nat.le_of_eq hD.symm) ⟨Nat.zero_le _, [], 0, .nil, ?_⟩
    rw [hD]
    exact Heap.get?_push_size _ rfl
  have lt : ∀ c ∈ fp, c < a.heap.objs.size := fun c hc => by
    obtain ⟨o, e, _⟩ := T.obj _ _ t0 c hc
    exact Heap.lt_size e
  have f1 : ∀ c ∈ fp, FpOk X pins (upd H2 D (.lst [])) c ∧ c < b.heap.objs.size := fun c hc => by
    have l := lt c hc
    refine ⟨⟨?_, (f0 c hc).2⟩, ?_⟩
    · rw [upd_ne (by rw [hD]; exact Nat.ne_of_lt l)]
      exact (f0 c hc).1
    · rw [bh, Heap.size_push]
      exact Nat.lt_succ_of_lt l
  have t1 : tn 0 b.heap := T.keep _ _ _ t0 fun c _ o e => pushes c o e
  have I4 := block_start I3 bk nod f1
  have off1 : ∀ c ∈ fp, (upd H2 D (.lst [])) c = none := fun c hc => (f1 c hc).1.1
  obtain ⟨G, hG⟩ : ∃ G, G = upd H2 D (.lst []) := ⟨_, rfl⟩
  rw [← hG] at I3 I4 f1 w0 off1
  have pg := hg b G b.heap.objs.size (cellsFrom (b.heap.objs.size + 1) scope.names (cloFrom X.env.cells scope.names [])) fp
  have pe := he pins σ b G b.heap.objs.size (cellsFrom (b.heap.objs.size + 1) scope.names (cloFrom X.env.cells scope.names [])) fp I3 fun c hc => (f1 c hc).1
  obtain ⟨ce, hce⟩ : ∃ ce, ce = compEnvC scope (cellsFrom (b.heap.objs.size + 1) scope.names (cloFrom X.env.cells scope.names [])) b.heap.objs.size X.env := ⟨_, rfl⟩
  rw [← hce] at I4 pg pe
  have cL : ce.locals = b.heap.objs.size := by rw [hce]; rfl
  obtain ⟨d, hd⟩ : ∃ d : Shared, d = { b with heap := pushCells (b.heap.push { cls := .type "dict", data := .dict #[] }) scope.names } := ⟨_, rfl⟩
  rw [← hd] at I4
  have t2 : tn 0 d.heap := T.keep _ _ _ t1 fun c _ o e => by
    rw [hd]
    exact pushCells_keeps _ _ _ _ (Heap.get?_push_of_some _ e)
  have rec_ : ∀ {σ' : L2.St} {H' : Hp} {s' : Shared}, Inv (X.blk b G scope ce fp) [] σ' H' s' → (∀ c ∈ fp, H' c = none) → ∀ c ∈ fp, FpOk (X.blk b G scope ce fp) [] H' c := fun {σ' H' s'} I' n c hc =>
    ⟨n c hc, (I'.ok.exf c hc).1, I'.ok.exfs c hc, .inl hc, fun x k e => (I'.ok.exf c hc).2 x k e, fun p hp => absurd (show p ∈ ([] : List (Addr × Obj)) ++ [] from hp) (by simp)⟩
  have loop : codeAny (model X.prog X.w) X.A (.compLoop (.ListComp elt [⟨tg, iter, [], 0⟩] scope pos) 0 (.ref it) (.ref D) ce) (compPost (model X.prog X.w) X.A X.xe none (EP X pins σ Q) (.ref D) b.heap.objs.size) d := by
    refine compLoop_any (fun n z => ∃ i K, Inv (X.blk b G scope ce fp) [] (wipe σ (own.map (·.2))) K z ∧ tn i z.heap ∧ (∀ c ∈ fp, K c = none) ∧ W i n K) ?_ m0 ⟨0, G, I4, t2, off1, w0⟩
    rintro n z ⟨i, K, IK, tK, nK, wK⟩
    rcases turn i n K wK with ⟨stop, fin⟩ | ⟨go, Nx, hNx, step⟩
    · refine thnF (T.done (X.blk b G scope ce fp) rfl rfl rfl calm i [] z _ K (fun _ _ => False) IK (rec_ IK nK) tK stop) fun r y ⟨hr, Iy⟩ => ?_
      subst hr
      have back : Inv X pins σ K y := I3.call' (ch := fp) Iy.os Iy.base Iy.hok Iy.bare fun c hc => ⟨(f1 c hc).1.2.2.2.1, (f1 c hc).1.2.1, (f1 c hc).1.2.2.2.2.1, (f1 c hc).1.2.2.2.2.2⟩
      have nL : K b.heap.objs.size = none := by
        have q : K ce.locals = none := Iy.free
        rw [cL] at q
        exact q
      obtain ⟨m, hn, _⟩ := Iy.loc
      have hn : y.heap.Ns ce.locals m := hn
      rw [cL] at hn
      refine ⟨m, hn, fun h'' sb => ?_⟩
      obtain ⟨_, g1, _, g3, g4, g5⟩ := I3.fpOk (H' := K) (Nat.le_refl _) nL
      exact ⟨.ref D, K, back.turned (t' := y.toks) (fun c o hc e => (sb.2 c hc).trans e) nL g1 g3 g4 g5, rfl, fin⟩
    · refine thnF (T.item (X.blk b G scope ce fp) rfl rfl rfl calm i [] z _ K (fun _ _ => False) IK (rec_ IK nK) tK go) fun r y ⟨u, hr, hy⟩ => ?_
      subst hr
      refine thnF hy fun _ y2 ⟨x, K2, I5, r5, yl, t5, n5⟩ => ?_
      refine thnF (pg.run _ y2 _ K2 x u _ (I5.pinned (rec_ I5 n5) (T.obj _ _ t5)) r5 (step x K2 yl)) fun _ y3 ⟨σ3, K3, I6, hw, q6⟩ => ?_
      refine wpAny_pure ?_
      simp only [if_true]
      have q6 : te σ σ3 K3 _ := q6
      refine thnF (pe.run _ y3 σ3 K3 _ I6 q6) fun v y4 ⟨yv, K4, I7, r7, acc, hDa, hz, nx⟩ => app_ok (X := X.blk b G scope ce fp) I7 hDa hz r7 fun y5 I8 => ?_
      obtain ⟨m', hm, w'⟩ := hNx _ nx
      have pin : ∀ c ∈ fp, ∀ o, y2.heap.get? c = some o → y5.heap.get? c = some o ∧ (upd K4 D (.lst (acc ++ [yv]))) c = none := fun c hc o e =>
        let q := I8.pin (c, o) (List.mem_append_right _ (List.mem_append_right _ (mem_pinsAt hc e)))
        ⟨q.1, q.2.1⟩
      refine ⟨m', hm, i + 1, _, (I8.unpinned (pins := [])).weak (by rw [← hw, wipe_length]) (fun j v e => ?_), T.keep _ _ _ t5 fun c hc o e => (pin c hc o e).1, fun c hc => ?_, w'⟩
      · rw [← hw] at e
        exact (wipe_some e).1
      · obtain ⟨o, e, _⟩ := T.obj _ _ t5 c hc
        exact (pin c hc o e).2
  have whole : codeAny (model X.prog X.w) X.A (.compStart (.ListComp elt [⟨tg, iter, [], 0⟩] scope pos) 0 (.ref it) (.ref D) ce) (compPost (model X.prog X.w) X.A X.xe none (EP X pins σ Q) (.ref D) b.heap.objs.size) d :=
    codeAny_compStart_list loop (T.self X.A 0 _ _ _ t2 loop)
  rw [hce, hd] at whole
  exact whole
end

/-! ### calls while the cells of a frame are held, also out of a block of its def -/
structure Hold (base : Heap) (fr : List Addr) (cs : List Addr) (H : Hp) (h : Heap) : Prop where
  off : ∀ c ∈ cs, H c = none
  cel : ∀ c ∈ cs, ∃ o, h.get? c = some o
  bas : ∀ c ∈ cs, base.objs.size ≤ c
  frm : ∀ c ∈ cs, c ∉ fr
section
variable {base : Heap} {fr cs : List Addr} {H : Hp} {h : Heap}
theorem Hold.celF (x : Hold base fr cs H h) : CellsF cs (heldH cs h H) := fun b hb => by
  obtain ⟨o, e⟩ := x.cel b hb
  exact ⟨o, by unfold heldH; rw [if_pos hb, e]; rfl⟩
theorem Hold.same (x : Hold base fr cs H h) : Same H (heldH cs h H) := fun b o e => by
  rw [heldH_ne fun z => ?_]
  · exact e
  · rw [x.off b z] at e
    cases e
end
section
variable {P : Program} {w : World} {K : PySem.W.Frag} {mg : Str → Option Value} {base : Heap} {A : Around} {outer : List Env} {s s' : Shared} {H : Hp} {cs : List Addr}
theorem env0_hold (e0 : Env0 P w K mg base A outer s H) (x : Hold base (frs outer) cs H s.heap) : Env0 P w K mg base A outer s (heldH cs s.heap H) := by
  refine ⟨e0.frames, e0.mod, fun b o q => ⟨(e0.bs b o q).1, ?_⟩, e0.bsz, e0.funs, fun b hb => ?_, fun b o e => ?_, e0.bare⟩
  · rw [heldH_ne fun z => ?_]
    · exact (e0.bs b o q).2
    · exact absurd (Nat.lt_of_lt_of_le (Heap.lt_size q) (x.bas b z)) (Nat.lt_irrefl _)
  · rw [heldH_ne fun z => x.frm b z hb]
    exact e0.frf b hb
  · by_cases hb : b ∈ cs
    · obtain ⟨ob, ho⟩ := x.cel b hb
      unfold heldH at e
      rw [if_pos hb, ho] at e
      cases e
      exact ⟨ho, trivial, ⟨ob, ho⟩, fun _ _ _ _ => trivial⟩
    · rw [heldH_ne hb] at e
      refine (e0.hok b o e).stay (fun _ _ _ q => q) (fun d q => x.same d _ q) fun d xs q => x.same d _ q
theorem ce_hold {Q : VK} {u : Value} (e0 : Env0 P w K mg base A outer s H) (x : Hold base (frs outer) cs H s.heap) (q : CE outer P w (heldH cs s.heap H) s (fun v G => CellsF cs G → Q v (freedH cs G)) u s') : CE outer P w H s Q u s' := by
  obtain ⟨v, G, os, bare, un, hok, r, qq⟩ := q
  have cf : CellsF cs G := fun b hb => by
    obtain ⟨o, e⟩ := x.celF b hb
    exact ⟨o, un.frzs b o _ e⟩
  have stands : ∀ b ∈ cs, ∀ o, s.heap.get? b = some o → s'.heap.get? b = some o := fun b z o e => by
    obtain ⟨ob, e2⟩ := x.celF b z
    have h1 := ((env0_hold e0 x).hok b _ e2).1
    rw [e] at h1
    cases h1
    exact (hok b _ (un.frzs b _ _ e2)).1
  refine ⟨v, freedH cs G, os, bare, ⟨fun b o e n hb hx => ?_, fun b o e n hb hx => ?_, fun b o e n hx => ?_, fun b o e hx => un.there b o e hx, fun b xs e => ?_, fun b o v e => ?_, fun b ps e => ?_⟩, hok_freed hok cf, r, qq cf⟩
  · by_cases z : b ∈ cs
    · exact stands b z o e
    · exact un.keep b o e (by rw [heldH_ne z]; exact n) hb hx
  · by_cases z : b ∈ cs
    · exact ⟨o.slots, stands b z o e⟩
    · exact un.slot b o e (by rw [heldH_ne z]; exact n) hb hx
  · by_cases z : b ∈ cs
    · exact freedH_in z
    · rw [freedH_ne z]
      exact un.free b o e (by rw [heldH_ne z]; exact n) hx
  · have z : b ∉ cs := fun z => by
      rw [x.off b z] at e
      cases e
    rw [freedH_ne z]
    exact un.tups b xs (by rw [heldH_ne z]; exact e)
  · have z : b ∉ cs := fun z => by
      rw [x.off b z] at e
      cases e
    rw [freedH_ne z]
    exact un.frzs b o v (by rw [heldH_ne z]; exact e)
  · have z : b ∉ cs := fun z => by
      rw [x.off b z] at e
      cases e
    obtain ⟨more, q⟩ := un.tbls b ps (by rw [heldH_ne z]; exact e)
    exact ⟨more, by rw [freedH_ne z]; exact q⟩
end
section
variable {X : Cx} {pins : List (Addr × Obj)} {σ : L2.St} {G : Hp} {b : Shared} {scope : Scope} {ce : Env} {fp : List Addr}
/-- in a block of X's def that began at b: X's cells stand there as they stood -/
theorem blk_cells {q : List (Addr × Obj)} {τ : L2.St} {H : Hp} {s : Shared} (I0 : Inv X pins σ G b) (hfn : ∀ x, X.fn x = true) (f0 : ∀ c ∈ fp, FpOk X pins G c) (I : Inv (X.blk b G scope ce fp) q τ H s) :
    HeldAt X σ H s.heap ∧ Hold X.base (frs X.stack) (csOf X.env.cells) H s.heap := by
  have fr : ∀ x c, X.env.cells.lookup x = some c → c ∉ frs X.stack := fun x c e z => by
    rcases List.mem_cons.mp (I0.stkSub c z) with k | k
    · exact I0.cne x c e k
    · obtain ⟨_, o, ho, _⟩ := I0.ok.funs.mem k
      exact absurd (Nat.lt_of_lt_of_le (Heap.lt_size ho) (I0.ok.cab x c (hfn x) e)) (Nat.lt_irrefl _)
  have nfp : ∀ x c, X.env.cells.lookup x = some c → c ∉ fp := fun x c e z => (f0 c z).2.2.2.2.1 x c e rfl
  have st : ∀ x c, X.env.cells.lookup x = some c → ∀ o, b.heap.get? c = some o → s.heap.get? c = some o := fun x c e o ho =>
    I.base.keep c o ho (I0.freeC x c e) (fr x c e) (nfp x c e)
  have off : ∀ x c, X.env.cells.lookup x = some c → H c = none := fun x c e => by
    obtain ⟨u, o, ho, _⟩ := I0.cell x c e
    exact I.base.free c o ho (I0.freeC x c e) (nfp x c e)
  have h0 := held_of I0
  refine ⟨⟨fun c hc => ?_, h0.inj, fun x c e => ?_, h0.has, h0.len⟩, ⟨fun c hc => ?_, fun c hc => ?_, fun c hc => ?_, fun c hc => ?_⟩⟩
  · obtain ⟨x, e⟩ := mem_csOf.mp hc
    exact off x c e
  · obtain ⟨o, u, h1, h2, h3⟩ := h0.at_ x c e
    exact ⟨o, u, st x c e o h1, h2, h3⟩
  · obtain ⟨x, e⟩ := mem_csOf.mp hc
    exact off x c e
  · obtain ⟨x, e⟩ := mem_csOf.mp hc
    obtain ⟨u, o, ho, _⟩ := I0.cell x c e
    exact ⟨o, st x c e o ho⟩
  · obtain ⟨x, e⟩ := mem_csOf.mp hc
    exact Nat.le_trans I0.ok.bsz (I0.ok.cab x c (hfn x) e)
  · obtain ⟨x, e⟩ := mem_csOf.mp hc
    exact fr x c e
def tCallB (X : Cx) (sp : Sp) (t : TA) (σ : L2.St) : TE := fun τ H Q => t τ H fun vs H1 => ∀ h : Heap, HeldAt X σ H1 h → sp vs (heldH (csOf X.env.cells) h H1) (HeldQ X Q) L2.E0
/-- x(e, ..) in a block, the cells of the def's frame held meanwhile -/
theorem pe_callBk (I0 : Inv X pins σ G b) (f0 : ∀ c ∈ fp, FpOk X pins G c) {k : Nat} {f : Addr} {fd : FuncData} {ps : List Str} {sp : Sp} {x : Str} {p pos : Pos} {e : Expr} {es : List Expr} {t : TA} (F : FnOk X.prog X.w X.K X.mg X.base L2.CX0 k f fd ps sp) (hr : Room k X.A) (hg : Gl (X.blk b G scope ce fp) x) (hm : X.mg x = some (.ref f)) (hk : PySem.W.keepIn X.K (.ref f) = true) (hb : Binds X.K fd ps [])
    (ha : PA (X.blk b G scope ce fp) (e :: es) t) (hfn : ∀ x, X.fn x = true := by intro _; rfl) (hdb : (x == ("__debug__" : Str)) = false := by decide) (he : starEach (e :: es) ce = (false, eval e ce) :: starEach es ce := by rfl) (hpl : (backTo pos (starEach es ce)).any (·.1) = false := by rfl) :
    PE (X.blk b G scope ce fp) (.Call (.Name x p) (e :: es) [] pos) (tCallB X sp t σ) := by
  refine ⟨fun pins' s τ H Q I h => ?_⟩
  refine wpAny_Call_Name_kw (ld_glob I hg hm ?_ hdb)
  refine PySem.W.callWith_K (h₀ := X.base) I.ok.mod.kin hk (thn (ha.run pos pins' s τ H _ I h) fun us s1 ⟨vs, H1, I1, r, q⟩ => ⟨I1.kIn, ?_⟩) he hpl
  obtain ⟨hh, hd⟩ := blk_cells I0 hfn f0 I1
  have q := q s1.heap hh
  have e0 : Env0 X.prog X.w X.K X.mg X.base X.A X.stack s1 H1 := I1.env0
  have hl : us.length = ps.length := by
    rw [← r.length]
    exact F.len _ _ _ _ q
  have hl : (us ++ []).length = ps.length := by rw [List.append_nil]; exact hl
  have r2 : Vals vs (us ++ []) := by rw [List.append_nil]; exact r
  refine wpAny_call (codeAny_mono (F.run X.A X.stack s1 _ ⟨us, []⟩ (us ++ []) vs _ _ hr (env0_hold e0 hd) (hb s1 us I1.kIn hl) r2 q) fun r s' hq => ?_)
  cases r with
  | error e => exact False.elim hq
  | ok fl =>
    cases fl with
    | ret u => exact I1.after (ce_hold e0 hd hq)
    | next => exact False.elim hq
    | brk => exact False.elim hq
    | cont => exact False.elim hq
end

section
variable {P : Program} {w : World} {K : PySem.W.Frag} {mg : Str → Option Value} {base : Heap} {a : Ad}
def toStr (i : Int) : Str := Str.ofString (toString i)
def nsA (f : Str) (i : Nat) : Str := Str.append f (toStr ((1 : Int) + (i : Nat)))
def nums : List Str := (List.range 9).map (fun i => toStr ((1 : Int) + (i : Nat))) ++ (List.range 9).map (nsA "-")
def places : List Str := ([Str.ofString "0", Str.ofString "half"] ++ nums) ++ (List.range 9).map (nsA "half+") ++ (List.range 9).map (nsA "half-")
theorem places_wt : ∀ z ∈ places, z ∈ wt := by decide +kernel
end

/-! ### the parts that a text may have -/
def FSx : List Str := ([ "exchange", "roll", "turn", "then", "same", "along", "list", "to", "the", "end", "", "10", "-0", "00", "+1", "half+0", "half-10", "Turn", "-10", "11", "wrong"] : List String).map Str.ofString
def FS : List Str := wt ++ (am ++ FSx)
def nmH : List Str := nums ++ [Str.ofString "half"]
def wantsOf (k : Str) : List Str := if k = "place" then places else nmH
def chkF (z : Str) : Bool := decide (inV (.str z) (places.map V.str) = ipM z) && (decide (inV (.str z) (nmH.map V.str) = iaM z) && (decide (z.length ≤ 100) && (PyData.strOk z && decide (32 ∉ z.cps.toList))))
theorem FS_all : FS.all chkF = true := by decide +kernel
theorem FS_chk {z : Str} (h : z ∈ FS) : inV (.str z) (places.map V.str) = ipM z ∧ inV (.str z) (nmH.map V.str) = iaM z ∧ z.length ≤ 100 ∧ PyData.strOk z = true ∧ 32 ∉ z.cps.toList := by
  have e := List.all_eq_true.mp FS_all z h
  unfold chkF at e
  simp only [Bool.and_eq_true, decide_eq_true_eq] at e
  exact ⟨e.1, e.2.1, e.2.2.1, e.2.2.2.1, e.2.2.2.2⟩
theorem FS_want {z : Str} (h : z ∈ FS) (k : Str) : inV (.str z) ((wantsOf k).map V.str) = ptM z k := by
  obtain ⟨h1, h2, _⟩ := FS_chk h
  unfold wantsOf ptM
  by_cases hk : k = "place"
  · rw [if_pos hk, if_pos hk]
    exact h1
  · rw [if_neg hk, if_neg hk]
    exact h2
theorem FS_ok {ps : List Str} (h : ∀ z ∈ ps, z ∈ FS) (hl : ps.length ≤ 500) : PartsOk ps := ⟨hl, fun z hz => ⟨(FS_chk (h z hz)).2.2.1, (FS_chk (h z hz)).2.2.2.1⟩⟩
/-- lists of what may stand there, at their addresses -/
def HeldW (H : Hp) : List Addr → List Str → Prop
  | [], [] => True
  | w :: ws, k :: ks => H w = some (.lst ((wantsOf k).map V.str)) ∧ HeldW H ws ks
  | _, _ => False
theorem HeldW.same {H H' : Hp} (e : Same H H') : ∀ {ws : List Addr} {ks : List Str}, HeldW H ws ks → HeldW H' ws ks
  | [], [], _ => trivial
  | _ :: _, _ :: _, h => ⟨e _ _ h.1, HeldW.same e h.2⟩
theorem HeldW.get {H : Hp} : ∀ {ws : List Addr} {ks : List Str}, HeldW H ws ks → ∀ {j : Nat} {k : Str}, ks[j]? = some k → ∃ w, ws[j]? = some w ∧ H w = some (.lst ((wantsOf k).map V.str))
  | [], [], _, j, k, h => by simp at h
  | w :: ws, n :: ks, hh, 0, k, h => by
    cases h
    exact ⟨w, rfl, hh.1⟩
  | w :: ws, n :: ks, hh, j + 1, k, h => by
    obtain ⟨x, hx, hy⟩ := HeldW.get hh.2 (j := j) (k := k) (by simpa using h)
    exact ⟨x, by simpa using hx, hy⟩
theorem HeldW.len {H : Hp} : ∀ {ws : List Addr} {ks : List Str}, HeldW H ws ks → ws.length = ks.length
  | [], [], _ => rfl
  | _ :: _, _ :: _, h => congrArg (· + 1) h.2.len
theorem flat_strs (zs : List Str) : (zs.map V.str).all flatV = true := strs_flat zs
section
variable {P : Program} {w : World} {K : PySem.W.Frag} {mg : Str → Option Value} {base : Heap} {a : Ad}
end

theorem mvE_turn {ps : List Str} {k : Nat} (hk : k < ps.length) {may : Bool} {m : List Str} (h : mvE ((ps ++ [sNoP]).drop k) may = .inr m) : (m = [("turn" : Str)]) ↔ ps[k] = ("turn" : Str) := by
  have hil : k < (ps ++ [sNoP]).length := by rw [List.length_append]; exact Nat.lt_succ_of_lt hk
  rw [List.drop_eq_getElem_cons hil, List.getElem_append_left hk, mvE_cons] at h
  cases hs : shp ps[k] with
  | none =>
    rw [hs] at h
    cases h
  | some ks =>
    rw [hs] at h
    by_cases c : (decide (ps[k] = "turn") && !may) = true
    · simp only [c, if_true] at h
      cases h
    · rw [Bool.not_eq_true] at c
      simp only [c] at h
      cases hc : chkP ((ps ++ [sNoP]).drop (k + 1)) ks with
      | some j =>
        rw [hc] at h
        cases h
      | none =>
        rw [hc] at h
        have h : ps[k] :: ((ps ++ [sNoP]).drop (k + 1)).take ks.length = m := Sum.inr.inj h
        constructor
        · intro e
          rw [e] at h
          exact (List.cons.inj h).1
        · intro e
          have : ks = [] := by
            rw [e] at hs
            have : shp ("turn" : Str) = some [] := by decide +kernel
            rw [this] at hs
            exact (Option.some.inj hs).symm
          rw [← h, this, e]
          rfl
section
variable {P : Program} {w : World} {K : PySem.W.Frag} {mg : Str → Option Value} {base : Heap} {a : Ad}
end
section
variable {P : Program} {w : World} {K : PySem.W.Frag} {mg : Str → Option Value} {base : Heap} {a : Ad}
end

theorem roF_same (xs : List Int) (x : Nat) (c : Int) (h : x < xs.length) : roF xs x x c = xs := by
  have bl := blk_len xs x x (Nat.le_refl x) h
  unfold roF
  have e1 : x + 1 - x = 1 := by omega
  rw [e1] at bl
  simp only [e1, bl]
  have e2 : Int.fmod c ((1 : Nat) : Int) = 0 := Int.fmod_one c
  rw [e2]
  have e3 : (((1 : Nat) : Int) - 0).toNat = 1 := by decide
  rw [e3]
  have e5 : ((xs.drop x).take 1).drop 1 = [] := List.drop_of_length_le (by rw [bl]; exact Nat.le_refl _)
  have e6 : ((xs.drop x).take 1).take 1 = (xs.drop x).take 1 := List.take_of_length_le (by rw [bl]; exact Nat.le_refl _)
  rw [e5, e6, List.append_nil, List.append_assoc]
  have e4 : (xs.drop x).take 1 ++ xs.drop (x + 1) = xs.drop x := by
    rw [← List.drop_drop]
    exact List.take_append_drop 1 (xs.drop x)
  rw [e4]
  exact List.take_append_drop x xs
section
variable {P : Program} {w : World} {K : PySem.W.Frag} {mg : Str → Option Value} {base : Heap} {a : Ad}
def laM (k : Int) : Str := if 17 < k then "half" else if k < 9 then toString (k + 1) else Str.append "-" (toString (k - 8))
theorem la_am : ∀ k : Fin 20, laM ((k.val : Nat) : Int) ∈ am := by decide +kernel
def spLawAmount : Sp := fun vs H Q _ => ∃ (d c : Addr) (n : Nat), vs = [.ref d] ∧ Pen H d c n ∧ n < 2 ^ 40 ∧ ∀ z H', z ∈ am → Pen H' d c (n + 1) → But d H H' → Q (.str z) H'
theorem ok__law_amount (T : Tx w K mg a) : FnOk P w K mg base CX0 2 a.f__law_amount a.d__law_amount ["pen"] spLawAmount := by
  refine T.F__law_amount.ok sc__law_amount (fun vs H Q E h => ?_) (fun cdv A outer s H vs Q E hr h => ?_)
  · obtain ⟨d, c, n, rfl, _⟩ := h
    rfl
  · obtain ⟨d, c, n, rfl, hp, hn, q⟩ := h
    refine ⟨_, 
(pss_cons (ps_set (i := 1) sc__law_amount.nd rfl (.inl rfl) (pe_call (ok__law_draw T) hr (by rfl) T.m__law_draw T.F__law_draw.kp T.b__law_draw .nil pass0 (pa_cons (pv 0) (pa_cons pe_int pa_nil))))
  (pss_one (ps_ret (pe_ifExp (pt_cmpR op_gt (pv 1) pe_int (nomark _)) pe_str (pe_ifExp (pt_cmpR op_lt (pv 1) pe_int (nomark _)) (pe_callTy call_str_int (by rfl) T.z_str (by decide +kernel) (pa_cons (pe_op op_add (pv 1) pe_int) pa_nil)) (pe_op op_add_str pe_str (pe_callTy call_str_int (by rfl) T.z_str (by decide +kernel) (pa_cons (pe_op op_sub (pv 1) pe_int) pa_nil)))))))), ?_⟩
    refine ⟨.ref d, rfl, d, c, n, 20, rfl, hp, hn, by decide, by decide, fun k H1 k0 k1 hp1 hb => ?_⟩
    have hw : laM k ∈ am := by
      have e := la_am ⟨k.toNat, by omega⟩
      have e2 : ((k.toNat : Nat) : Int) = k := by omega
      rw [show (((⟨k.toNat, by omega⟩ : Fin 20).val : Nat) : Int) = k from e2] at e
      exact e
    have hq := q _ H1 hw hp1 hb
    unfold laM at hq
    refine ⟨.int k, rfl, k, 17, rfl, rfl, _, rfl, ite2 (fun e1 => ?_) (fun e1 => ?_)⟩
    · rw [if_pos (of_decide_eq_true e1)] at hq
      exact hq
    have e1' : ¬ 17 < k := fun z => e1 (decide_eq_true z)
    rw [if_neg e1'] at hq
    refine ⟨.int k, rfl, k, 9, rfl, rfl, _, rfl, ite2 (fun e2 => ?_) (fun e2 => ?_)⟩
    · rw [if_pos (of_decide_eq_true e2)] at hq
      exact ⟨.int k, rfl, k, 1, rfl, rfl, k + 1, rfl, lg _ (by omega) (by omega), hq⟩
    have e2' : ¬ k < 9 := fun z => e2 (decide_eq_true z)
    rw [if_neg e2'] at hq
    exact ⟨.int k, rfl, k, 8, rfl, rfl, k - 8, rfl, lg _ (by omega) (by omega), _, _, rfl, rfl, sz (ln _ _ (by decide) (by omega) (by omega)), hq⟩
def spLawMove : Sp := fun vs H Q _ => ∃ (d c : Addr) (n : Nat) (b : Bool), vs = [.ref d, .bl b] ∧ Pen H d c n ∧ n + 20 < 2 ^ 40 ∧
  ∀ o m H', m.ok → (b = true → m ≠ Mv.turn) → H o = none → H' o = some (.lst (strsV m.parts)) → Pen H' d c (n + 20) → But d H H' → Q (.ref o) H'
theorem pick3 {z : V} {x y u : Str} (h : z ∈ [V.str x, V.str y, V.str u]) (hx : x ∈ wt) (hy : y ∈ wt) (hu : u ∈ wt) : ∃ s, z = .str s ∧ s ∈ wt := by
  simp only [List.mem_cons, List.not_mem_nil, or_false] at h
  rcases h with rfl | rfl | rfl
  · exact ⟨_, rfl, hx⟩
  · exact ⟨_, rfl, hy⟩
  · exact ⟨_, rfl, hu⟩
theorem ok__law_move (T : Tx w K mg a) : FnOk P w K mg base CX0 3 a.f__law_move a.d__law_move ["pen", "has_turn"] spLawMove := by
  refine T.F__law_move.ok sc__law_move (fun vs H Q E h => ?_) (fun cdv A outer s H vs Q E hr h => ?_)
  · obtain ⟨d, c, n, b, rfl, _⟩ := h
    rfl
  · obtain ⟨d, c, n, b, rfl, hp, hn, q⟩ := h
    refine ⟨_, 
(C8.pss_cut (ps_set (i := 2) sc__law_move.nd rfl (.inl rfl) (pe_call (ok__law_draw T) (hr.mono (by decide)) (by rfl) T.m__law_draw T.F__law_draw.kp T.b__law_draw .nil pass0 (pa_cons (pv 0) (pa_cons (pe_ifExp (pt_val (pv 1)) pe_int pe_int) pa_nil))))
  (pss_cons (ps_if (pt_cmpR op_eq (pv 2) pe_int (nomark _))
  (pss_one (ps_ret (pe_lst (pa_cons pe_str pa_nil))))
  pss_nil)
  (pss_cons (ps_par (i := 3) (j := 4) (by rfl) sc__law_move.nd rfl rfl (by decide) rfl rfl (pa_cons (pe_call (ok__law_place_word T) hr (by rfl) T.m__law_place_word T.F__law_place_word.kp T.b__law_place_word .nil pass0 (pa_cons (pv 0) pa_nil)) (pa_cons (pe_call (ok__law_place_word T) hr (by rfl) T.m__law_place_word T.F__law_place_word.kp T.b__law_place_word .nil pass0 (pa_cons (pv 0) pa_nil)) pa_nil)) (by rfl))
  (C8.pss_cut (ps_if (pt_cmpR op_eq (pe_call (ok__law_draw T) (hr.mono (by decide)) (by rfl) T.m__law_draw T.F__law_draw.kp T.b__law_draw .nil pass0 (pa_cons (pv 0) (pa_cons pe_int pa_nil))) pe_int (nomark _))
  (pss_one (ps_par (i := 3) (j := 4) (by rfl) sc__law_move.nd rfl rfl (by decide) rfl rfl (pa_cons (pe_call (ok__law_pick T) hr (by rfl) T.m__law_pick T.F__law_pick.kp T.b__law_pick .nil pass0 (pa_cons (pv 0) (pa_cons (pe_lst (pa_cons pe_str (pa_cons pe_str (pa_cons pe_str pa_nil)))) pa_nil))) (pa_cons (pe_call (ok__law_pick T) hr (by rfl) T.m__law_pick T.F__law_pick.kp T.b__law_pick .nil pass0 (pa_cons (pv 0) (pa_cons (pe_lst (pa_cons pe_str (pa_cons pe_str (pa_cons pe_str pa_nil)))) pa_nil))) pa_nil)) (by rfl)))
  pss_nil)
  (pss_one (ps_ret (pe_ifExp (pt_cmpR op_lt (pv 2) pe_int (nomark _)) (pe_lst (pa_cons pe_str (pa_cons (pv 3) (pa_cons (pv 4) pa_nil)))) (pe_lst (pa_cons pe_str (pa_cons (pv 3) (pa_cons (pv 4) (pa_cons (pe_call (ok__law_amount T) hr (by rfl) T.m__law_amount T.F__law_amount.kp T.b__law_amount .nil pass0 (pa_cons (pv 0) pa_nil)) pa_nil)))))))))))), ?_⟩
    -- way = _law_draw(pen, 7 if has_turn else 8)
    refine ⟨fun σ' H' => ∃ way : Int, 0 ≤ way ∧ way ≤ 7 ∧ (b = true → way < 7) ∧ σ' = [some (.ref d), some (.bl b), some (.int way), none, none] ∧ Pen H' d c (n + 1) ∧ But d H H', ⟨.ref d, rfl, .bl b, rfl, _, rfl, ?_⟩, ?_⟩
    · cases b with
      | true => exact ⟨d, c, n, 7, rfl, hp, by omega, by decide, by decide, fun v H1 v0 v1 hp1 hb1 => ⟨v, v0, by omega, fun _ => v1, rfl, hp1, hb1⟩⟩
      | false => exact ⟨d, c, n, 8, rfl, hp, by omega, by decide, by decide, fun v H1 v0 v1 hp1 hb1 => ⟨v, v0, by omega, (fun e => by cases e), rfl, hp1, hb1⟩⟩
    rintro σ' H1 ⟨way, w0, w7, wb, rfl, hp1, hb1⟩
    -- if way == 7: return ['turn']
    refine ⟨.int way, rfl, rfl, _, rfl, ite2 (fun e => ?_) (fun e => ?_)⟩
    · have ew : way = 7 := V.int.inj (of_decide_eq_true e)
      refine ⟨Nat.succ_le_of_lt (by decide), fun o no => ?_⟩
      obtain ⟨kvs, hd1⟩ := hp1.dict
      refine q o .turn _ trivial (fun hb => by have := wb hb; omega) ?_ upd_same ((hp1.same (same_upd no)).up (by omega)) (hb1.trans (but_same (same_upd no)))
      cases hH : H o with
      | none => rfl
      | some u =>
        by_cases hod : o = d
        · subst hod
          rw [hd1] at no
          cases no
        · rw [hb1 o u hH hod] at no
          cases no
    -- x, y = two place words
    refine ⟨.ref d, rfl, d, c, _, rfl, hp1, by omega, fun x H2 wx hp2 hb2 => ⟨.ref d, rfl, d, c, _, rfl, hp2, by omega, fun y H3 wy hp3 hb3 => ⟨.str x, .str y, rfl, ?_⟩⟩⟩
    have hb13 := hb1.trans (hb2.trans hb3)
    -- if _law_draw(pen, 3) == 0: others
    refine ⟨fun σ' H' => ∃ x y : Str, x ∈ wt ∧ y ∈ wt ∧ σ' = [some (.ref d), some (.bl b), some (.int way), some (.str x), some (.str y)] ∧ Pen H' d c (n + 10) ∧ But d H H', ?_, ?_⟩
    · refine ⟨.ref d, rfl, d, c, _, 3, rfl, hp3, by omega, by decide, by decide, fun v H4 v0 v1 hp4 hb4 => ⟨rfl, _, rfl, ite2 (fun _ => ?_) (fun _ => ⟨x, y, wx, wy, rfl, hp4.up (by omega), hb13.trans hb4⟩)⟩⟩
      refine ⟨.ref d, rfl, sz (show 3 ≤ 100000 by decide), fun p1 np1 => ?_⟩
      refine ⟨d, c, p1, _, [.str "0", .str "1", .str "2"], rfl, hp4.same (same_upd np1), by omega, SqL.at upd_same, (show 0 < 3 by decide), (show 3 ≤ 100000 by decide), fun z1 H5 hz1 hp5 hb5 => ?_⟩
      obtain ⟨x', rfl, wx'⟩ := pick3 hz1 (by decide +kernel) (by decide +kernel) (by decide +kernel)
      refine ⟨.ref d, rfl, sz (show 3 ≤ 100000 by decide), fun p2 np2 => ?_⟩
      refine ⟨d, c, p2, _, [.str "-1", .str "-2", .str "half"], rfl, hp5.same (same_upd np2), by omega, SqL.at upd_same, (show 0 < 3 by decide), (show 3 ≤ 100000 by decide), fun z2 H6 hz2 hp6 hb6 => ?_⟩
      obtain ⟨y', rfl, wy'⟩ := pick3 hz2 (by decide +kernel) (by decide +kernel) (by decide +kernel)
      exact ⟨.str x', .str y', rfl, x', y', wx', wy', rfl, hp6.up (by omega), hb13.trans (hb4.trans ((but_same (same_upd np1)).trans (hb5.trans ((but_same (same_upd np2)).trans hb6))))⟩
    rintro σ' H4 ⟨x, y, wx, wy, rfl, hp4, hb4⟩
    have new : ∀ {H' : Hp} {o : Addr}, Pen H' d c (n + 11) ∨ Pen H' d c (n + 10) → But d H H' → H' o = none → H o = none := by
      intro H' o hpen hb' no
      have hd' : ∃ kvs, H' d = some (.dK kvs) := hpen.elim (fun h => h.dict) (fun h => h.dict)
      obtain ⟨kvs, hd'⟩ := hd'
      cases hH : H o with
      | none => rfl
      | some u =>
        by_cases hod : o = d
        · subst hod
          rw [hd'] at no
          cases no
        · rw [hb' o u hH hod] at no
          cases no
    refine ⟨.int way, rfl, way, 3, rfl, rfl, _, rfl, ite2 (fun _ => ?_) (fun _ => ?_)⟩
    · refine ⟨.str x, rfl, .str y, rfl, sz (show 3 ≤ 100000 by decide), fun o no => ?_⟩
      exact q o (.exch x y) _ ⟨wx, wy⟩ (fun _ e => by cases e) (new (.inr hp4) hb4 no) upd_same ((hp4.same (same_upd no)).up (by omega)) (hb4.trans (but_same (same_upd no)))
    · refine ⟨.str x, rfl, .str y, rfl, .ref d, rfl, d, c, _, rfl, hp4, by omega, fun z H5 hz hp5 hb5 => ⟨sz (show 4 ≤ 100000 by decide), fun o no => ?_⟩⟩
      exact q o (.roll x y z) _ ⟨wx, wy, hz⟩ (fun _ e => by cases e) (new (.inl hp5) (hb4.trans hb5) no) upd_same ((hp5.same (same_upd no)).up (by omega)) ((hb4.trans hb5).trans (but_same (same_upd no)))
def spLawMoved (K : PySem.W.Frag) : Sp := fun vs H Q _ => ∃ (p t : Addr) (xs : List Int) (m : Mv), vs = [.ref p, .ref t] ∧ SqL K H p (xs.map V.int) ∧ SqL K H t (strsV m.parts) ∧ m.ok ∧ xs.length ≤ 100000 ∧
  ∀ o H', H o = none → H' o = some (.lst ((mvF m xs).map V.int)) → Same H H' → Q (.ref o) H'
theorem ok__law_moved (T : Tx w K mg a) : FnOk P w K mg base CX0 2 a.f__law_moved a.d__law_moved ["row", "move"] (spLawMoved K) := by
  refine T.F__law_moved.ok sc__law_moved (fun vs H Q E h => ?_) (fun cdv A outer s H vs Q E hr h => ?_)
  · obtain ⟨p, t, xs, m, rfl, _⟩ := h
    rfl
  · obtain ⟨p, t, xs, m, rfl, hp, ht, hm, hl, q⟩ := h
    refine ⟨_, 
(pss_cons (ps_set (i := 2) sc__law_moved.nd rfl (.inl rfl) (pe_callB call_len_seq (by rfl) T.z_len PySem.boot_len (pa_cons (pv 0) pa_nil)))
  (pss_cons (ps_if (pt_cmpR op_eq (pe_ix ix_list (pv 1) pe_int (fun _ _ => rfl)) pe_str (nomark _))
  (pss_one (ps_ret (pe_revL (pv 0))))
  pss_nil)
  (pss_cons (ps_par (i := 3) (j := 4) (by rfl) sc__law_moved.nd rfl rfl (by decide) rfl rfl (pa_cons (pe_call (ok__law_value T) hr (by rfl) T.m__law_value T.F__law_value.kp T.b__law_value .nil pass0 (pa_cons (pe_ix ix_list (pv 1) pe_int (fun _ _ => rfl)) (pa_cons (pv 2) pa_nil))) (pa_cons (pe_call (ok__law_value T) hr (by rfl) T.m__law_value T.F__law_value.kp T.b__law_value .nil pass0 (pa_cons (pe_ix ix_list (pv 1) pe_int (fun _ _ => rfl)) (pa_cons (pv 2) pa_nil))) pa_nil)) (by rfl))
  (pss_cons (ps_if (PW.pt (pw_or (pt_cmpR op_lt (pv 3) pe_int (nomark _)) (pw_or (pt_cmpR op_lt (pv 4) pe_int (nomark _)) (pw_or (pt_cmpR op_ge (pv 3) (pv 2) (nomark _)) (pw_or1 (pt_cmpR op_ge (pv 4) (pv 2) (nomark _)))))))
  (pss_one (ps_ret (pe_callTy call_list_of (by rfl) T.z_list (by decide +kernel) (pa_cons (pv 0) pa_nil))))
  pss_nil)
  (pss_cons (ps_if (pt_cmpR op_eq (pe_ix ix_list (pv 1) pe_int (fun _ _ => rfl)) pe_str (nomark _))
  (pss_cons (ps_set (i := 5) sc__law_moved.nd rfl (.inl rfl) (pe_callTy call_list_of (by rfl) T.z_list (by decide +kernel) (pa_cons (pv 0) pa_nil)))
  (pss_cons (ps_asg (pe_tup (pa_cons (pe_ix ix_list (pv 0) (pv 4) (fun _ _ => rfl)) (pa_cons (pe_ix ix_list (pv 0) (pv 3) (fun _ _ => rfl)) pa_nil))) (pg_tup rfl (pgs_cons (pg_sub (pv 5) (pv 3) set_list) (pgs_cons (pg_sub (pv 5) (pv 4) set_list) pgs_nil))))
  (pss_one (ps_ret (pv 5)))))
  pss_nil)
  (pss_cons (ps_if (pt_cmpR op_ge (pv 3) (pv 4) (nomark _))
  (pss_one (ps_ret (pe_callTy call_list_of (by rfl) T.z_list (by decide +kernel) (pa_cons (pv 0) pa_nil))))
  pss_nil)
  (pss_cons (ps_set (i := 6) sc__law_moved.nd rfl (.inl rfl) (pe_slice sl_list (pv 0) (po_some (pv 3)) (po_some (pe_op op_add (pv 4) pe_int))))
  (C8.pss_cut (ps_set (i := 7) sc__law_moved.nd rfl (.inl rfl) (pe_ifExp (pt_cmpR op_eq (pe_ix ix_list (pv 1) pe_int (fun _ _ => rfl)) pe_str (nomark _)) (pe_op op_fdivN (pe_callB call_len_seq (by rfl) T.z_len PySem.boot_len (pa_cons (pv 6) pa_nil)) pe_int) (pe_callTy call_int_str (by rfl) T.z_int (by decide +kernel) (pa_cons (pe_ix ix_list (pv 1) pe_int (fun _ _ => rfl)) pa_nil))))
  (pss_cons (ps_set (i := 8) sc__law_moved.nd rfl (.inl rfl) (pe_op op_sub (pe_callB call_len_seq (by rfl) T.z_len PySem.boot_len (pa_cons (pv 6) pa_nil)) (pe_op op_modN (pe_callTy call_int1 (by rfl) T.z_int (by decide +kernel) (pa_cons (pv 7) pa_nil)) (pe_callB call_len_seq (by rfl) T.z_len PySem.boot_len (pa_cons (pv 6) pa_nil)))))
  (pss_one (ps_ret (pe_op op_cat (pe_op op_cat (pe_op op_cat (pe_slice sl_list (pv 0) po_none (po_some (pv 3))) (pe_slice sl_list (pv 6) (po_some (pv 8)) po_none)) (pe_slice sl_list (pv 6) po_none (po_some (pv 8)))) (pe_slice sl_list (pv 0) (po_some (pe_op op_add (pv 4) pe_int)) po_none))))))))))))), ?_⟩
    have el : (xs.map V.int).length = xs.length := List.length_map ..
    -- k = len(row)
    refine ⟨.ref p, rfl, p, _, rfl, .inl hp, ?_⟩
    rw [el]
    refine ⟨.ref t, rfl, t, _, 0, _, rfl, rfl, ht, head_at, rfl, _, rfl, ?_⟩
    by_cases htu : m = .turn
    · subst htu
      rw [show decide (V.str (Mv.head .turn) = V.str "turn") = true from by decide +kernel]
      refine ⟨.ref p, rfl, p, _, rfl, hp, fun o no => q o _ no ?_ (same_upd no)⟩
      rw [upd_same, ← List.map_reverse]
      rfl
    have hh : decide (V.str m.head = V.str "turn") = false := by
      cases m with
      | turn => exact absurd rfl htu
      | exch x y => exact (by decide +kernel : decide (V.str "exchange" = V.str "turn") = false)
      | roll x y c => exact (by decide +kernel : decide (V.str "roll" = V.str "turn") = false)
    rw [hh]
    obtain ⟨X, Y, hX, hY, wX, wY, hmv⟩ : ∃ X Y, m.parts[1]? = some X ∧ m.parts[2]? = some Y ∧ X ∈ wt ∧ Y ∈ wt ∧ (∀ xs, (inB (plV X (xs.length : Int)) xs.length && inB (plV Y (xs.length : Int)) xs.length) = false → mvF m xs = xs) := by
      cases m with
      | turn => exact absurd rfl htu
      | exch x y =>
        refine ⟨x, y, rfl, rfl, hm.1, hm.2, fun xs h => ?_⟩
        simp only [mvF, h]
        rfl
      | roll x y c =>
        refine ⟨x, y, rfl, rfl, hm.1, hm.2.1, fun xs h => ?_⟩
        simp only [mvF, h, Bool.false_and]
        rfl
    -- x, y = (_law_value(move[1], k), _law_value(move[2], k))
    refine ⟨.ref t, rfl, t, _, 1, _, rfl, rfl, ht, strs_get (i := 1) hX, _, rfl, X, _, rfl, wX, .ref t, rfl, t, _, 2, _, rfl, rfl, ht, strs_get (i := 2) hY, _, rfl, Y, _, rfl, wY, _, _, rfl, ?_⟩
    -- if x < 0 or y < 0 or x >= k or (y >= k)
    have out : ∀ D : Prop, (∀ o, H o = none → Q (.ref o) (upd H o (.lst (xs.map V.int)))) → D → D := fun _ _ h => h
    have copy : (inB (plV X (xs.length : Int)) xs.length && inB (plV Y (xs.length : Int)) xs.length) = false → ∀ o, H o = none → Q (.ref o) (upd H o (.lst (xs.map V.int))) := fun h o no => by
      refine q o _ no ?_ (same_upd no)
      rw [upd_same, hmv xs h]
    have ib : ∀ {u v : Int}, ¬ (0 ≤ u ∧ u < (xs.length : Int) ∧ 0 ≤ v ∧ v < (xs.length : Int)) → (inB u xs.length && inB v xs.length) = false := by
      intro u v h
      cases e : (inB u xs.length && inB v xs.length) with
      | false => rfl
      | true =>
        simp only [inB, Bool.and_eq_true, decide_eq_true_eq] at e
        exact absurd ⟨e.1.1, e.1.2, e.2.1, e.2.2⟩ h
    refine ⟨_, rfl, _, 0, rfl, rfl, _, rfl, ite2 (fun e1 => ?_) (fun e1 => ?_)⟩
    · have z1 := of_decide_eq_true e1
      exact ⟨.ref p, rfl, p, _, rfl, .inl hp, copy (ib (by omega))⟩
    have z1 : 0 ≤ plV X (xs.length : Int) := by
      have : ¬ plV X (xs.length : Int) < 0 := fun z => e1 (decide_eq_true z)
      omega
    refine ⟨_, rfl, _, 0, rfl, rfl, _, rfl, ite2 (fun e2 => ?_) (fun e2 => ?_)⟩
    · have z2 := of_decide_eq_true e2
      exact ⟨.ref p, rfl, p, _, rfl, .inl hp, copy (ib (by omega))⟩
    have z2 : 0 ≤ plV Y (xs.length : Int) := by
      have : ¬ plV Y (xs.length : Int) < 0 := fun z => e2 (decide_eq_true z)
      omega
    refine ⟨_, rfl, _, rfl, _, _, rfl, rfl, _, rfl, ite2 (fun e3 => ?_) (fun e3 => ?_)⟩
    · have z3 := of_decide_eq_true e3
      exact ⟨.ref p, rfl, p, _, rfl, .inl hp, copy (ib (by omega))⟩
    have z3 : plV X (xs.length : Int) < (xs.length : Int) := by
      have : ¬ (xs.length : Int) ≤ plV X (xs.length : Int) := fun z => e3 (decide_eq_true z)
      omega
    refine ⟨_, rfl, _, rfl, _, _, rfl, rfl, _, rfl, ite2 (fun e4 => ?_) (fun e4 => ?_)⟩
    · have z4 := of_decide_eq_true e4
      exact ⟨.ref p, rfl, p, _, rfl, .inl hp, copy (ib (by omega))⟩
    have z4 : plV Y (xs.length : Int) < (xs.length : Int) := by
      have : ¬ (xs.length : Int) ≤ plV Y (xs.length : Int) := fun z => e4 (decide_eq_true z)
      omega
    obtain ⟨x, ex⟩ : ∃ x : Nat, plV X (xs.length : Int) = (x : Int) := ⟨(plV X (xs.length : Int)).toNat, by omega⟩
    obtain ⟨y, ey⟩ : ∃ y : Nat, plV Y (xs.length : Int) = (y : Int) := ⟨(plV Y (xs.length : Int)).toNat, by omega⟩
    have hx : inB (plV X (xs.length : Int)) xs.length = true := by
      simp only [inB, Bool.and_eq_true, decide_eq_true_eq]
      exact ⟨z1, z3⟩
    have hy : inB (plV Y (xs.length : Int)) xs.length = true := by
      simp only [inB, Bool.and_eq_true, decide_eq_true_eq]
      exact ⟨z2, z4⟩
    have hxl : x < xs.length := by omega
    have hyl : y < xs.length := by omega
    have at_ : ∀ {i : Nat}, i < xs.length → atI (xs.map V.int) (i : Int) = some (.int (xs.getD i 0)) := fun {i} hi => by
      refine atI_nat ?_
      rw [List.getElem?_map, List.getElem?_eq_getElem hi, getD_get hi]
      rfl
    rw [ex, ey]
    refine ⟨.ref t, rfl, t, _, 0, _, rfl, rfl, ht, head_at, rfl, _, rfl, ?_⟩
    cases m with
    | turn => exact absurd rfl htu
    | exch X' Y' =>
      cases hX
      cases hY
      rw [show decide (V.str (Mv.head (.exch X Y)) = V.str "exchange") = true from by rfl]
      have emv : mvF (.exch X Y) xs = exF xs x y := by
        have h2 : (inB (plV X (xs.length : Int)) xs.length && inB (plV Y (xs.length : Int)) xs.length) = true := by
          rw [hx, hy]
          rfl
        simp only [mvF]
        rw [if_pos h2, ex, ey]
        rfl
      rw [emv] at q
      refine ⟨.ref p, rfl, p, _, rfl, .inl hp, fun o no => ?_⟩
      have s1 := same_upd (o := .lst (xs.map V.int)) no
      refine ⟨.ref p, rfl, _, rfl, p, _, _, _, rfl, rfl, s1.seq hp, at_ hyl, .ref p, rfl, _, rfl, p, _, _, _, rfl, rfl, s1.seq hp, at_ hxl, sz (show 2 ≤ 100000 by decide), fun tt ntt => ?_⟩
      have s2 := s1.trans (same_upd (o := .tup [.int (xs.getD y 0), .int (xs.getD x 0)]) ntt)
      have ho2 : (upd (upd H o (.lst (xs.map V.int))) tt (.tup [.int (xs.getD y 0), .int (xs.getD x 0)])) o = some (.lst (xs.map V.int)) := same_upd ntt _ _ upd_same
      have ht2 : (upd (upd H o (.lst (xs.map V.int))) tt (.tup [.int (xs.getD y 0), .int (xs.getD x 0)])) tt = some (.tup [.int (xs.getD y 0), .int (xs.getD x 0)]) := upd_same
      generalize upd (upd H o (.lst (xs.map V.int))) tt (.tup [.int (xs.getD y 0), .int (xs.getD x 0)]) = H2 at s2 ho2 ht2 ⊢
      refine ⟨tt, [.int (xs.getD y 0), .int (xs.getD x 0)], rfl, SqT.at ht2, rfl, .int (xs.getD y 0), [.int (xs.getD x 0)], rfl, .ref o, rfl, _, rfl, o, _, _, x, rfl, rfl, ho2, by rw [el]; exact ixN_nat (by omega) (by omega), ?_⟩
      refine ⟨.int (xs.getD x 0), [], rfl, .ref o, rfl, _, rfl, o, _, _, y, rfl, rfl, upd_same, by rw [List.length_set, el]; exact ixN_nat (by omega) (by omega), rfl, ?_⟩
      refine ⟨_, rfl, q o _ no ?_ (keep_upd (keep_upd s2 no) no)⟩
      rw [upd_same]
      unfold exF
      rw [List.map_set, List.map_set]
    | roll X' Y' c =>
      cases hX
      cases hY
      rw [show decide (V.str (Mv.head (.roll X Y c)) = V.str "exchange") = false from by rfl]
      obtain ⟨hi, hcl, _⟩ := am_chk hm.2.2
      refine ⟨_, rfl, _, rfl, (x : Int), (y : Int), rfl, rfl, _, rfl, ite2 (fun e5 => ?_) (fun e5 => ?_)⟩
      · have z5 := of_decide_eq_true e5
        have emv : mvF (.roll X Y c) xs = xs := by
          simp only [mvF]
          by_cases hxy : x ≤ y
          · have exy : x = y := by omega
            subst exy
            have h2 : (inB (plV X (xs.length : Int)) xs.length && inB (plV Y (xs.length : Int)) xs.length && decide (plV X (xs.length : Int) ≤ plV Y (xs.length : Int))) = true := by
              rw [hx, hy, ex, ey, decide_eq_true (Int.le_refl _)]
              rfl
            rw [if_pos h2, ex, ey]
            exact roF_same xs x _ hxl
          · have h2 : ¬ (inB (plV X (xs.length : Int)) xs.length && inB (plV Y (xs.length : Int)) xs.length && decide (plV X (xs.length : Int) ≤ plV Y (xs.length : Int))) = true := by
              rw [hx, hy, ex, ey, decide_eq_false (show ¬ (x : Int) ≤ y by omega)]
              decide
            rw [if_neg h2]
        rw [emv] at q
        exact ⟨.ref p, rfl, p, _, rfl, .inl hp, fun o no => q o _ no upd_same (same_upd no)⟩
      have hxy : x ≤ y := by
        have : ¬ (y : Int) ≤ x := fun z => e5 (decide_eq_true z)
        omega
      have emv : mvF (.roll X Y c) xs = roF xs x y (amV c (y + 1 - x : Nat)) := by
        have h2 : (inB (plV X (xs.length : Int)) xs.length && inB (plV Y (xs.length : Int)) xs.length && decide (plV X (xs.length : Int) ≤ plV Y (xs.length : Int))) = true := by
          rw [hx, hy, ex, ey, decide_eq_true (show (x : Int) ≤ y by omega)]
          rfl
        simp only [mvF]
        rw [if_pos h2, ex, ey]
        rfl
      rw [emv] at q
      have bl := blk_len xs x y hxy hyl
      have em := cut_mid xs x (y + 1) (by omega) (by omega)
      have et := cut_to xs x
      have ef := cut_from xs (y + 1) (by omega)
      refine ⟨.ref p, rfl, _, rfl, _, rfl, _, rfl, y, 1, rfl, rfl, _, rfl, p, _, rfl, hp, fun b nb => ?_⟩
      rw [show (y : Int) + 1 = ((y + 1 : Nat) : Int) by omega, em]
      generalize eb : (xs.drop x).take (y + 1 - x) = B at bl em
      have s1 := same_upd (o := .lst (B.map V.int)) nb
      have hb : (upd H b (.lst (B.map V.int))) b = some (.lst (B.map V.int)) := upd_same
      generalize upd H b (.lst (B.map V.int)) = H1 at s1 hb ⊢
      have bp : 0 < B.length := by omega
      have eBl : (B.map V.int).length = B.length := List.length_map ..
      -- c = len(block) // 2 if move[3] == 'half' else int(move[3])
      refine ⟨fun σ' H' => σ' = [some (.ref p), some (.ref t), some (.int (xs.length : Int)), some (.int (x : Int)), some (.int (y : Int)), none, some (.ref b), some (.int (amV c (B.length : Int))), none] ∧ H' = H1, ?_, ?_⟩
      · refine ⟨.ref t, rfl, t, _, 3, _, rfl, rfl, s1.seq ht, strs_get (i := 3) rfl, rfl, _, rfl, ?_⟩
        by_cases hcz : c = "half"
        · rw [decide_eq_true (show V.str c = V.str "half" by rw [hcz])]
          refine ⟨.ref b, rfl, b, _, rfl, .inl (SqL.at hb), _, 2, rfl, rfl, ⟨by decide, by decide⟩, ?_, rfl⟩
          rw [eBl]
          simp only [amV, if_pos hcz]
          rfl
        · rw [decide_eq_false (show ¬ V.str c = V.str "half" from fun e => hcz (V.str.inj e))]
          obtain ⟨n, hn⟩ := Option.isSome_iff_exists.mp (hi.resolve_left hcz)
          refine ⟨.ref t, rfl, t, _, 3, _, rfl, rfl, s1.seq ht, strs_get (i := 3) rfl, c, n, rfl, hn, by omega, ?_, rfl⟩
          simp only [amV, if_neg hcz, hn]
          rfl
      rintro σ' H1' ⟨rfl, rfl⟩
      -- cut = len(block) - int(c) % len(block)
      refine ⟨.ref b, rfl, b, _, rfl, .inl (SqL.at hb), _, rfl, .inl ⟨_, rfl, .ref b, rfl, b, _, rfl, .inl (SqL.at hb), _, _, rfl, rfl, ?_, _, _, rfl, rfl, ?_⟩⟩
      · rw [eBl]
        show ((B.length : Nat) : Int) ≠ 0
        omega
      rw [eBl]
      have f0 := Int.fmod_nonneg_of_pos (amV c (B.length : Int)) (b := (B.length : Int)) (by omega)
      have f1 := Int.fmod_lt_of_pos (amV c (B.length : Int)) (b := (B.length : Int)) (by omega)
      obtain ⟨k, ek, hk⟩ : ∃ k : Nat, (B.length : Int) - Int.fmod (amV c (B.length : Int)) (B.length : Int) = (k : Int) ∧ k ≤ B.length := ⟨((B.length : Int) - Int.fmod (amV c (B.length : Int)) (B.length : Int)).toNat, by omega, by omega⟩
      have e2 := cut_from B k hk
      have e3 := cut_to B k
      -- row[:x] + block[cut:] + block[:cut] + row[y + 1:]
      refine ⟨.ref p, rfl, _, rfl, _, rfl, p, _, rfl, s1.seq hp, fun o1 no1 => ?_⟩
      rw [et]
      have u1 := same_upd (o := .lst ((xs.take x).map V.int)) no1
      have b1 := u1 _ _ hb
      have h1 : (upd H1' o1 (.lst ((xs.take x).map V.int))) o1 = _ := upd_same
      generalize upd H1' o1 (.lst ((xs.take x).map V.int)) = H2 at u1 b1 h1 ⊢
      refine ⟨.ref b, rfl, _, rfl, _, rfl, b, _, rfl, SqL.at b1, fun o2 no2 => ?_⟩
      rw [ek, e2]
      have u2 := same_upd (o := .lst ((B.drop k).map V.int)) no2
      have b2 := u2 _ _ b1
      have h12 := u2 _ _ h1
      have h2 : (upd H2 o2 (.lst ((B.drop k).map V.int))) o2 = _ := upd_same
      generalize upd H2 o2 (.lst ((B.drop k).map V.int)) = H3 at u2 b2 h12 h2 ⊢
      refine ⟨o1, o2, _, _, rfl, rfl, h12, h2, sz (by simp; omega), fun o3 no3 => ?_⟩
      rw [← List.map_append]
      have u3 := same_upd (o := .lst ((xs.take x ++ B.drop k).map V.int)) no3
      have b3 := u3 _ _ b2
      have h3 : (upd H3 o3 (.lst ((xs.take x ++ B.drop k).map V.int))) o3 = _ := upd_same
      generalize upd H3 o3 (.lst ((xs.take x ++ B.drop k).map V.int)) = H4 at u3 b3 h3 ⊢
      refine ⟨.ref b, rfl, _, rfl, _, rfl, b, _, rfl, SqL.at b3, fun o4 no4 => ?_⟩
      rw [ek, e3]
      have u4 := same_upd (o := .lst ((B.take k).map V.int)) no4
      have h34 := u4 _ _ h3
      have h4 : (upd H4 o4 (.lst ((B.take k).map V.int))) o4 = _ := upd_same
      generalize upd H4 o4 (.lst ((B.take k).map V.int)) = H5 at u4 h34 h4 ⊢
      refine ⟨o3, o4, _, _, rfl, rfl, h34, h4, sz (by simp; omega), fun o5 no5 => ?_⟩
      rw [← List.map_append]
      have u5 := same_upd (o := .lst ((xs.take x ++ B.drop k ++ B.take k).map V.int)) no5
      have h5 : (upd H5 o5 (.lst ((xs.take x ++ B.drop k ++ B.take k).map V.int))) o5 = _ := upd_same
      generalize upd H5 o5 (.lst ((xs.take x ++ B.drop k ++ B.take k).map V.int)) = H6 at u5 h5 ⊢
      have u06 := s1.trans (u1.trans (u2.trans (u3.trans (u4.trans u5))))
      refine ⟨.ref p, rfl, _, rfl, y, 1, rfl, rfl, _, rfl, p, _, rfl, u06.seq hp, fun o6 no6 => ?_⟩
      rw [show (y : Int) + 1 = ((y + 1 : Nat) : Int) by omega, ef]
      have u6 := same_upd (o := .lst ((xs.drop (y + 1)).map V.int)) no6
      have h56 := u6 _ _ h5
      have h6 : (upd H6 o6 (.lst ((xs.drop (y + 1)).map V.int))) o6 = _ := upd_same
      generalize upd H6 o6 (.lst ((xs.drop (y + 1)).map V.int)) = H7 at u6 h56 h6 ⊢
      refine ⟨o5, o6, _, _, rfl, rfl, h56, h6, sz (by simp; omega), fun o7 no7 => ?_⟩
      rw [← List.map_append]
      have u07 := u06.trans (u6.trans (same_upd (o := .lst ((xs.take x ++ B.drop k ++ B.take k ++ xs.drop (y + 1)).map V.int)) no7))
      refine q o7 _ (u06.free (u6.free no7)) ?_ u07
      rw [upd_same]
      unfold roF
      simp only [eb]
      rw [← bl, ek, Int.toNat_natCast]
end

/-! ### lengths of joined texts; moves keep the things -/
theorem joinL_len (S : List Nat) : ∀ ps : List (List Nat), (TL.joinL S ps).length ≤ (ps.map List.length).sum + ps.length * S.length
  | [] => by simp [TL.joinL]
  | [p] => by simp [TL.joinL]
  | p :: q :: r => by
    have := joinL_len S (q :: r)
    show (p ++ (S ++ TL.joinL S (q :: r))).length ≤ _
    rw [List.length_append, List.length_append, List.map_cons, List.sum_cons, List.length_cons (as := q :: r), Nat.add_mul]
    omega
theorem sum_le : ∀ {zs : List Str}, (∀ z ∈ zs, z.length ≤ 100) → (zs.map (·.length)).sum ≤ zs.length * 100
  | [], _ => by simp
  | z :: r, h => by
    have h1 := h z (List.mem_cons_self ..)
    have h2 := sum_le (zs := r) fun y hy => h y (List.mem_cons_of_mem _ hy)
    rw [List.map_cons, List.sum_cons, List.length_cons, Nat.add_mul]
    omega
theorem join_len {zs : List Str} (h : ∀ z ∈ zs, z.length ≤ 100) : (Txt.join " " zs).length ≤ zs.length * 101 := by
  rw [TL.len_tl, TL.join_eq, TL.tl_join]
  have h1 := joinL_len (TL.tl " ") (zs.map TL.tl)
  have h2 := sum_le h
  have e1 : ((zs.map TL.tl).map List.length).sum = (zs.map (·.length)).sum := by
    rw [List.map_map]
    exact congrArg List.sum (List.map_congr_left fun z _ => (TL.len_tl z).symm)
  have e2 : (TL.tl " ").length = 1 := by decide +kernel
  rw [e1, e2, List.length_map] at h1
  omega
theorem wtext_len {ms : List Mv} (h : WordOk ms) : (wtext ms).length ≤ 90000 := by
  have h1 := join_len (zs := wp ms) fun z hz => (wp_ok h.ok z hz).2.1
  have h2 := wp_len ms
  have h3 := h.l4
  unfold wtext
  omega
theorem ex_perm {xs : List Int} {x y : Nat} (hx : x < xs.length) (hy : y < xs.length) : (exF xs x y).Perm xs := by
  unfold exF
  rw [getD_get hx, getD_get hy]
  exact List.set_set_perm hx hy
theorem ro_perm {xs : List Int} {x y : Nat} {c : Int} (hxy : x ≤ y) (hy : y < xs.length) : (roF xs x y c).Perm xs := by
  unfold roF
  simp only []
  generalize eb : (xs.drop x).take (y + 1 - x) = B
  generalize ((B.length : Int) - Int.fmod c (B.length : Int)).toNat = k
  have e1 : xs.take x ++ B ++ xs.drop (y + 1) = xs := by
    rw [← eb, List.append_assoc]
    have e2 : (xs.drop x).take (y + 1 - x) ++ xs.drop (y + 1) = xs.drop x := by
      conv => rhs; rw [← List.take_append_drop (y + 1 - x) (xs.drop x)]
      rw [List.drop_drop, show x + (y + 1 - x) = y + 1 by omega]
    rw [e2]
    exact List.take_append_drop x xs
  have p1 : (B.drop k ++ B.take k).Perm B := by
    have := List.perm_append_comm (l₁ := B.drop k) (l₂ := B.take k)
    rw [List.take_append_drop] at this
    exact this
  have p2 : (xs.take x ++ B.drop k ++ B.take k ++ xs.drop (y + 1)).Perm (xs.take x ++ B ++ xs.drop (y + 1)) := by
    rw [List.append_assoc (xs.take x)]
    exact (p1.append_left (xs.take x)).append_right (xs.drop (y + 1))
  rw [e1] at p2
  exact p2
theorem mv_perm (m : Mv) (xs : List Int) : (mvF m xs).Perm xs := by
  cases m with
  | turn => exact List.reverse_perm xs
  | exch x y =>
    simp only [mvF]
    split
    · rename_i h
      simp only [inB, Bool.and_eq_true, decide_eq_true_eq] at h
      exact ex_perm (by omega) (by omega)
    · exact List.Perm.refl _
  | roll x y c =>
    simp only [mvF]
    split
    · rename_i h
      simp only [inB, Bool.and_eq_true, decide_eq_true_eq] at h
      exact ro_perm (by omega) (by omega)
    · exact List.Perm.refl _
theorem ri_sorted (n : Nat) : (ri n).Pairwise (· ≤ ·) := by
  unfold ri
  rw [List.pairwise_map]
  exact List.Pairwise.imp (fun h => by omega) (List.pairwise_lt_range (n := n))
theorem ne_false {xs ys : List Int} {A B : Prop} (h : xs = ys) (q : B) : if (!PyData.eqv (iD xs) (iD ys)) = true then A else B := by
  subst h
  rw [eqv_ints, decide_eq_true rfl]
  exact q
theorem eqv_all_mvs : ∀ ms ns : List Mv, PyData.eqvAll (ms.map mvD) (ns.map mvD) = decide (ms = ns)
  | [], [] => by simp [PyData.eqvAll]
  | [], _ :: _ => by simp [PyData.eqvAll]
  | _ :: _, [] => by simp [PyData.eqvAll]
  | x :: r, y :: u => by
    simp only [List.map_cons, PyData.eqvAll, eqv_mv, eqv_all_mvs r u, List.cons.injEq]
    by_cases h1 : x = y <;> by_cases h2 : r = u <;> simp [h1, h2]
theorem ne_mvs {ms ns : List Mv} {A B : Prop} (h : ms = ns) (q : B) : if (!PyData.eqv (.tuple (ms.map mvD)) (.tuple (ns.map mvD))) = true then A else B := by
  subst h
  rw [PyData.eqv, eqv_all_mvs, decide_eq_true rfl]
  exact q
theorem shaped_strsL {zs : List Str} (h : ∀ z ∈ zs, PyData.strOk z = true) : SeqAt.shaped (.list (zs.map PyData.str)) = true := by
  unfold SeqAt.shaped
  rw [Bool.and_eq_true, decide_eq_true_eq]
  refine ⟨by rw [PyData.canLay0]; exact lay_strs h, ?_⟩
  have := deep_strs zs
  rw [PyData.depth]
  omega
theorem eqv_turn (m : Mv) : PyData.eqv (.list (m.parts.map PyData.str)) (.list ((["turn"] : List Str).map PyData.str)) = decide (m = .turn) := by
  rw [PyData.eqv, eqv_all_strs]
  by_cases h : m = .turn
  · subst h
    rfl
  · have : ¬ m.parts = ([("turn" : Str)] : List Str) := fun e => h (Mv.inj.mp (e.trans rfl))
    simp [h, this]
theorem flW_at (ms : List Mv) (t : Addr) : (flW ms t).lookup ("at" : Str) = none := by
  unfold flW
  rw [lookup_putF, if_neg (by decide +kernel), lookup_putF, if_neg (by decide +kernel), lookup_putF, if_neg (by decide +kernel)]
  rfl

/-! ### == by an own __eq__, with both answers; the other value a text or an instance -/
inductive EqTy (H : Hp) : V → Value → Prop where
  | str (y : Str) : EqTy H (.str y) (.type "str")
  | ins {p C : Addr} {dx : Addr} {fs : List (Str × V)} (e : H p = some (.ins C dx fs)) : EqTy H (.ref p) (.ref C)
def rEqOwn (K : PySem.W.Frag) (C : Addr) (sp : Sp) (E : XK) : R2 := fun x y H Q => ∃ (p dx : Addr) (fs : List (Str × V)) (tb : Value), x = .ref p ∧ H p = some (.ins C dx fs) ∧ EqTy H y tb ∧ PySem.W.notFirst K C tb = true ∧ sp [x, y] H (fun v H' => (∃ b, v = .bl b) ∧ Q v H') E
theorem op_eq_own {X : Cx} {n : Nat} {CX : CXT} {C f : Addr} {fd : FuncData} {ps : List Str} {sp : Sp} {E : XK} (F : FnOk X.prog X.w X.K X.mg X.base CX n f fd ps sp) (hr : Room n X.A)
    (hs : PySem.W.findIn X.K (.ref C) "__eq__" = some (some (.ref f))) (hf : PySem.W.isFn X.K (.ref f) = true) (hb : Binds X.K fd ps []) (hx : Passes CX X E) : OpR X (compareOp .Eq) (rEqOwn X.K C sp E) := by
  rintro pins s σ H x y v u Q I rx ry ⟨p, dx, fs, tb, rfl, hp, ty, hn, hsp⟩
  cases rx
  obtain ⟨mA, J, _⟩ := ins_get I.hok hp
  obtain ⟨od, J, _⟩ := J.look
  obtain ⟨m, hF⟩ := I.fr
  have hT : PySem.W.Looks (model X.prog X.w) s.heap (typeOf u) tb := by
    cases ty with
    | str z =>
      obtain ⟨t, q⟩ := (show ∃ t, u = Value.str z t from ry)
      cases q
      exact .now
    | @ins b C' dy gs e =>
      cases (show u = Value.ref b from ry)
      obtain ⟨mB, J', _⟩ := ins_get I.hok e
      obtain ⟨od', J', _⟩ := J'.look
      exact J'.type
  show wpAny (model X.prog X.w) X.A (richCompare .Eq (.ref p) u) (EP X pins σ Q) X.xe s
  refine PySem.W.cmp_K (op := .Eq) (tb := tb) hr.units0 hF I.ok.mod.kin J hT hn hs hf ?_
  refine wpAny_mono (run_fn F hr hb .nil hx I (show Vals [V.ref p, y] [Value.ref p, u] from .cons rfl (.cons ry .nil)) hsp) (fun w s' z => ?_) fun _ _ h => h
  obtain ⟨z, H', I', rz, ⟨b, ez⟩, q⟩ := z
  subst ez
  cases (show w = Value.bool b from rz)
  exact ⟨.bl b, H', I', rfl, q⟩

/-! ### moves as lists of lists, joined texts, naturality of moves -/
def HeldL (H : Hp) : List Addr → List Mv → Prop
  | [], [] => True
  | p :: ps, m :: ms => H p = some (.lst (strsV m.parts)) ∧ HeldL H ps ms
  | _, _ => False
theorem HeldL.len {H : Hp} : ∀ {ps : List Addr} {ms : List Mv}, HeldL H ps ms → ps.length = ms.length
  | [], [], _ => rfl
  | _ :: _, _ :: _, h => congrArg (· + 1) h.2.len
theorem HeldL.mono {H H' : Hp} : ∀ {ps : List Addr} {ms : List Mv}, (∀ p ∈ ps, ∀ m ∈ ms, H p = some (.lst (strsV m.parts)) → H' p = some (.lst (strsV m.parts))) → HeldL H ps ms → HeldL H' ps ms
  | [], [], _, _ => trivial
  | p :: ps, m :: ms, h, x => ⟨h p (List.mem_cons_self ..) m (List.mem_cons_self ..) x.1, HeldL.mono (fun q hq n hn => h q (List.mem_cons_of_mem _ hq) n (List.mem_cons_of_mem _ hn)) x.2⟩
theorem HeldL.same {H H' : Hp} {ps : List Addr} {ms : List Mv} (x : HeldL H ps ms) (h : Same H H') : HeldL H' ps ms := x.mono fun _ _ _ _ e => h _ _ e
theorem HeldL.butd {d : Addr} {H H' : Hp} {kvs : List (Key × V)} (x : But d H H') (hd : H d = some (.dK kvs)) {ps : List Addr} {ms : List Mv} (h : HeldL H ps ms) : HeldL H' ps ms :=
  h.mono fun _ _ _ _ e => x.list hd e
theorem HeldL.snoc {H : Hp} {p : Addr} {m : Mv} (e : H p = some (.lst (strsV m.parts))) : ∀ {ps : List Addr} {ms : List Mv}, HeldL H ps ms → HeldL H (ps ++ [p]) (ms ++ [m])
  | [], [], _ => ⟨e, trivial⟩
  | _ :: _, _ :: _, h => ⟨h.1, HeldL.snoc e h.2⟩
theorem HeldL.drop {H : Hp} : ∀ {ps : List Addr} {ms : List Mv} (k : Nat), HeldL H ps ms → HeldL H (ps.drop k) (ms.drop k)
  | [], [], k, _ => by simp [HeldL]
  | _ :: _, _ :: _, 0, h => h
  | _ :: _, _ :: _, k + 1, h => h.2.drop k
theorem HeldL.get {H : Hp} : ∀ {ps : List Addr} {ms : List Mv}, HeldL H ps ms → ∀ {i : Nat} {m : Mv}, ms[i]? = some m → ∃ p, ps[i]? = some p ∧ H p = some (.lst (strsV m.parts))
  | [], [], _, i, m, h => by simp at h
  | r :: rs, n :: ms, hh, 0, m, h => by
    cases h
    exact ⟨r, rfl, hh.1⟩
  | r :: rs, n :: ms, hh, i + 1, m, h => by
    obtain ⟨x, hx, hy⟩ := HeldL.get hh.2 (i := i) (m := m) (by simpa using h)
    exact ⟨x, by simpa using hx, hy⟩
def mvL (m : Mv) : PyData := .list (m.parts.map PyData.str)
theorem dp_mvl {K : PySem.W.Frag} {H : Hp} : ∀ {ps : List Addr} {ms : List Mv}, HeldL H ps ms → DpAll K H (ps.map V.ref) (ms.map mvL)
  | [], [], _ => .nil
  | _ :: _, _ :: _, h => .cons (.lst (SqL.at h.1) (dp_strs _)) (dp_mvl h.2)
theorem WordAt.butd {C d : Addr} {H H' : Hp} {kvs : List (Key × V)} (x : But d H H') (hd : H d = some (.dK kvs)) {p : Addr} {ms : List Mv} (h : WordAt C H p ms) : WordAt C H' p ms := by
  obtain ⟨dx, t, rs, z1, z2, z3⟩ := h
  exact ⟨dx, t, rs, x _ _ z1 (ne_of z1 hd (by intro z; cases z)), x.tup hd z2, Held.butd x hd z3⟩
theorem joinL_append {S : List Nat} : ∀ {P R : List (List Nat)}, P ≠ [] → R ≠ [] → TL.joinL S (P ++ R) = TL.joinL S P ++ (S ++ TL.joinL S R)
  | [], _, h, _ => absurd rfl h
  | [p], [], _, h => absurd rfl h
  | [p], q :: r, _, _ => rfl
  | p :: q :: r, R, _, hR => by
    show p ++ (S ++ TL.joinL S (q :: r ++ R)) = (p ++ (S ++ TL.joinL S (q :: r))) ++ _
    rw [joinL_append (by simp) hR]
    simp only [List.append_assoc]
theorem parts_ne (m : Mv) : m.parts ≠ [] := by cases m <;> simp [Mv.parts]
theorem joinL_wp (S t : List Nat) (et : TL.tl sThen = t) : ∀ ms : List Mv, TL.joinL (S ++ (t ++ S)) (ms.map fun m => TL.joinL S (m.parts.map TL.tl)) = TL.joinL S ((wp ms).map TL.tl)
  | [] => rfl
  | [m] => rfl
  | m :: n :: r => by
    have ih := joinL_wp S t et (n :: r)
    show TL.joinL S (m.parts.map TL.tl) ++ ((S ++ (t ++ S)) ++ TL.joinL (S ++ (t ++ S)) ((n :: r).map fun m => TL.joinL S (m.parts.map TL.tl))) = TL.joinL S ((m.parts ++ sThen :: wp (n :: r)).map TL.tl)
    rw [ih, List.map_append, List.map_cons, et]
    have hm : m.parts.map TL.tl ≠ [] := by
      intro z
      exact parts_ne m (List.map_eq_nil_iff.mp z)
    have hw : (wp (n :: r)).map TL.tl ≠ [] := by
      intro z
      exact wp_ne (ms := n :: r) (by simp) (List.map_eq_nil_iff.mp z)
    rw [joinL_append hm (by simp), show t :: (wp (n :: r)).map TL.tl = [t] ++ (wp (n :: r)).map TL.tl from rfl, joinL_append (by simp) hw]
    show _ ++ (S ++ (t ++ S) ++ _) = _ ++ (S ++ (t ++ (S ++ _)))
    simp only [List.append_assoc]
theorem join_wtext (ms : List Mv) : Txt.join " then " (ms.map fun m => Txt.join " " m.parts) = wtext ms := by
  refine TL.ext_tl ?_
  unfold wtext
  rw [TL.join_eq, TL.tl_join, TL.join_eq, TL.tl_join, List.map_map]
  have e := joinL_wp (TL.tl " ") (TL.tl sThen) rfl ms
  rw [← e]
  have e2 : TL.tl " then " = TL.tl " " ++ (TL.tl sThen ++ TL.tl " ") := by decide +kernel
  rw [e2]
  refine congrArg _ (List.map_congr_left fun m _ => ?_)
  show TL.tl (Txt.join " " m.parts) = _
  rw [TL.join_eq, TL.tl_join]
theorem wtext_one (m : Mv) : Txt.join " " m.parts = wtext [m] := rfl
theorem joinL_suff {S : List Nat} : ∀ {P : List (List Nat)} {q : List Nat} {r : List (List Nat)}, (TL.joinL S (q :: r)).length ≤ (TL.joinL S (P ++ q :: r)).length
  | [], q, r => Nat.le_refl _
  | p :: P, q, r => by
    have h := @joinL_suff S P q r
    have e : TL.joinL S (p :: P ++ q :: r) = TL.joinL S ([p] ++ (P ++ q :: r)) := rfl
    rw [e, joinL_append (by simp) (by simp), List.length_append, List.length_append]
    omega
theorem wtext_tail {m : Mv} {ms : List Mv} (h : ms ≠ []) : wtext (m :: ms) ≠ wtext ms := by
  cases ms with
  | nil => exact absurd rfl h
  | cons n r =>
    intro e
    have e1 := congrArg Str.length e
    unfold wtext at e1
    rw [TL.len_tl, TL.len_tl, TL.join_eq, TL.join_eq, TL.tl_join, TL.tl_join] at e1
    have hm : m.parts.map TL.tl ≠ [] := fun z => parts_ne m (List.map_eq_nil_iff.mp z)
    have hw : (wp (n :: r)).map TL.tl ≠ [] := fun z => wp_ne (ms := n :: r) (by simp) (List.map_eq_nil_iff.mp z)
    have e2 : (wp (m :: n :: r)).map TL.tl = m.parts.map TL.tl ++ (TL.tl sThen :: (wp (n :: r)).map TL.tl) := by
      show (m.parts ++ sThen :: wp (n :: r)).map TL.tl = _
      rw [List.map_append, List.map_cons]
    rw [e2, joinL_append hm (by simp), show TL.tl sThen :: (wp (n :: r)).map TL.tl = [TL.tl sThen] ++ (wp (n :: r)).map TL.tl from rfl, joinL_append (by simp) hw] at e1
    have e3 : (TL.tl " ").length = 1 := by decide +kernel
    simp only [List.length_append, e3] at e1
    omega
theorem ex_map (f : Int → Int) {xs : List Int} {x y : Nat} (hx : x < xs.length) (hy : y < xs.length) : exF (xs.map f) x y = (exF xs x y).map f := by
  have g : ∀ {i : Nat} (h : i < xs.length), (xs.map f).getD i 0 = f (xs.getD i 0) := fun {i} h => by
    rw [List.getD_eq_getElem?_getD, List.getD_eq_getElem?_getD, List.getElem?_map, List.getElem?_eq_getElem h]
    rfl
  unfold exF
  rw [g hx, g hy, List.map_set, List.map_set]
theorem ro_map (f : Int → Int) (xs : List Int) (x y : Nat) (c : Int) : roF (xs.map f) x y c = (roF xs x y c).map f := by
  unfold roF
  simp only [← List.map_drop, ← List.map_take, List.length_map, List.map_append]
theorem mv_map (f : Int → Int) (m : Mv) (xs : List Int) : mvF m (xs.map f) = (mvF m xs).map f := by
  cases m with
  | turn => exact List.map_reverse.symm
  | exch x y =>
    simp only [mvF, List.length_map]
    split
    · rename_i h
      simp only [inB, Bool.and_eq_true, decide_eq_true_eq] at h
      exact ex_map f (by omega) (by omega)
    · rfl
  | roll x y c =>
    simp only [mvF, List.length_map]
    split
    · exact ro_map f _ _ _ _
    · rfl
/-- the moves of a row are those of the plain row, picked -/
theorem mv_pick (m : Mv) (xs : List Int) : pickI xs (mvF m (ri xs.length)) = mvF m xs := by
  conv => rhs; rw [← pick_ri xs]
  unfold pickI
  rw [mv_map]
theorem all_perm : ∀ (ms : List Mv) (xs : List Int), (allF ms xs).Perm xs
  | [], xs => List.Perm.refl _
  | m :: r, xs => (all_perm r (mvF m xs)).trans (mv_perm m xs)
theorem all_snoc (ms : List Mv) (m : Mv) (xs : List Int) : allF (ms ++ [m]) xs = mvF m (allF ms xs) := by
  unfold allF
  rw [List.foldl_append]
  rfl
theorem all_row (ms : List Mv) (n : Nat) : IsRow (allF ms (ri n)) := isRow_of n (all_perm ms (ri n))
section
variable {P : Program} {w : World} {K : PySem.W.Frag} {mg : Str → Option Value} {base : Heap} {a : Ad}
theorem eq_texts {x y : Str} {H : Hp} {Q : VK} (k : Q (.bl (decide (x = y))) H) : rEq (.str x) (.str y) H Q := by
  refine ⟨rfl, ?_⟩
  have e : decide (V.str x = V.str y) = decide (x = y) := decide_eq_decide.mpr ⟨fun h => V.str.inj h, fun h => congrArg _ h⟩
  rw [e]
  exact k
def spWordEq (C : Addr) : Sp := fun vs H Q _ => ∃ (p : Addr) (ms : List Mv), WordAt C H p ms ∧ ((∃ (q : Addr) (ns : List Mv), vs = [.ref p, .ref q] ∧ WordAt C H q ns ∧ Q (.bl (decide (wtext ms = wtext ns))) H) ∨ (∃ s : Str, vs = [.ref p, .str s] ∧ Q (.bl false) H))
theorem ok_Word_eq (T : Tx w K mg a) : FnOk P w K mg base CX0 1 a.f_Word_eq a.d_Word_eq ["self", "other"] (spWordEq a.C_Word) := by
  refine T.F_Word_eq.ok sc_Word_eq (fun vs H Q E h => ?_) (fun cdv A outer s H vs Q E hr h => ?_)
  · obtain ⟨p, ms, _, h | h⟩ := h
    · obtain ⟨q, ns, rfl, _⟩ := h
      rfl
    · obtain ⟨s, rfl, _⟩ := h
      rfl
  · obtain ⟨p, ms, hp, h⟩ := h
    refine ⟨_, 
(pss_one (ps_ret (pe_and (pe_callB call_isi (by rfl) T.z_isinstance (by decide +kernel) (pa_cons (pv 1) (pa_cons (pe_glob (v := .ref a.C_Word) (by rfl) T.c_Word rfl) pa_nil))) (pe_one (pe_cmpR op_eq (pe_fld (pv 0) rfl) (pe_fld (pv 1) rfl) (nomark _)))))), ?_⟩
    obtain ⟨dx, t, rs, p1, p2, p3⟩ := hp
    rcases h with ⟨q, ns, rfl, hq, k⟩ | ⟨s, rfl, k⟩
    · obtain ⟨dy, u, rq, q1, q2, q3⟩ := hq
      refine ⟨.ref q, rfl, ?_⟩
      refine ⟨.ref q, .ref a.C_Word, .ref a.C_Word, .ref a.C_Word, true, rfl, .own _, .base (.ins q1 T.cl_Word T.ow_Word.cls T.ow_Word.get T.ow_Word.tak T.ow_Word.mro), ?_, ?_⟩
      · unfold PySem.W.kitOne
        rw [if_pos (by simp)]
      exact ⟨true, rfl, .ref p, rfl, p, a.C_Word, dx, _, _, rfl, p1, T.cl_Word, T.n_Word_text, flW_text _ _, .ref q, rfl, q, a.C_Word, dy, _, _, rfl, q1, T.cl_Word, T.n_Word_text, flW_text _ _, eq_texts k⟩
    · refine ⟨.str s, rfl, ?_⟩
      refine ⟨.str s, .ref a.C_Word, .type "str", .ref a.C_Word, false, rfl, .own _, .base (.str _), T.ow_Word.kit, ?_⟩
      exact ⟨false, rfl, k⟩
end

/-- join, its reading with K by name (in a comprehension) -/
def rJoinK (K : PySem.W.Frag) : V → List V → Hp → VK → Prop := fun x xs H Q => ∃ a p, ∃ ys : List Str, x = .str a ∧ xs = [.ref p] ∧ (SqL K H p (ys.map V.str) ∨ SqT K H p (ys.map V.str)) ∧ (ys.map (·.length)).sum + ys.length * a.length ≤ 16777216 ∧ Q (.str (Txt.join a ys)) H
theorem pe_joinK {X : Cx} {K : PySem.W.Frag} {o e : Expr} {to te : TE} {apos pos : Pos} (hK : X.K = K) (ho : PE X o to) (he : PE X e te) (hs : starEach [e] X.env = [(false, eval e X.env)] := by rfl) (hbase : attributeBase o "join" X.env (eval o X.env) = eval o X.env := by rfl) (hline : (apos.endLine == pos.line) = true := by rfl) :
    PE X (.Call (.Attribute o "join" apos) [e] [] pos) (tM1 (rJoinK K) to te) := by
  subst hK
  exact pe_join ho he hs hbase hline
/-- tuple(x), its reading with K by name -/
def rTupOf (K : PySem.W.Frag) : List V → Hp → VK → Prop := fun xs H Q => ∃ p ys, xs = [V.ref p] ∧ ((SqL K H p ys ∧ ∀ (l : Addr), H l = none → Q (V.ref l) (upd H l (HO.tup ys))) ∨ SqT K H p ys ∧ Q (V.ref p) H)
theorem call_tuple_ofK {X : Cx} {K : PySem.W.Frag} (hK : X.K = K) : CallR X (.type "tuple") (rTupOf K) := by
  subst hK
  exact call_tuple_of
/-- list(x), its reading with K by name -/
def rListOf (K : PySem.W.Frag) : List V → Hp → VK → Prop := fun xs H Q => ∃ p ys, xs = [V.ref p] ∧ (SqL K H p ys ∨ SqT K H p ys) ∧ ∀ (l : Addr), H l = none → Q (V.ref l) (upd H l (HO.lst ys))
theorem call_list_ofK {X : Cx} {K : PySem.W.Frag} (hK : X.K = K) : CallR X (.type "list") (rListOf K) := by
  subst hK
  exact call_list_of
/-- len(x), its reading with K by name -/
def rLenS (K : PySem.W.Frag) : List V → Hp → VK → Prop := fun xs H Q => ∃ p ys, xs = [V.ref p] ∧ (SqL K H p ys ∨ SqT K H p ys) ∧ Q (.int ys.length) H
theorem call_len_seqK {X : Cx} {K : PySem.W.Frag} (hK : X.K = K) : CallR X (.builtin "len") (rLenS K) := by
  subst hK
  exact call_len_seq

section
variable {P : Program} {w : World} {K : PySem.W.Frag} {mg : Str → Option Value} {base : Heap} {a : Ad}
theorem But.free {d c o : Addr} {n : Nat} {H H' : Hp} (b : But d H H') (hp : Pen H' d c n) (no : H' o = none) : H o = none := by
  obtain ⟨kvs, hd⟩ := hp.dict
  cases hH : H o with
  | none => rfl
  | some u =>
    by_cases hod : o = d
    · subst hod
      rw [hd] at no
      cases no
    · rw [b o u hH hod] at no
      cases no
theorem shaped_mvl {m : Mv} (h : m.ok) : SeqAt.shaped (mvL m) = true := by
  unfold SeqAt.shaped
  rw [Bool.and_eq_true, decide_eq_true_eq]
  refine ⟨by unfold mvL; rw [PyData.canLay0]; exact lay_strs fun z hz => (Mv.str_ok h z hz).1, ?_⟩
  have := deep_strs m.parts
  unfold mvL
  rw [PyData.depth]
  omega
theorem shaped_mvls {ms : List Mv} (h : ∀ m ∈ ms, m.ok) : SeqAt.shaped (.list (ms.map mvL)) = true ∧ SeqAt.shaped (.tuple (ms.map mvL)) = true := by
  have hl : PyData.canLayAll0 (ms.map mvL) = true := by
    induction ms with
    | nil => simp [PyData.canLayAll0]
    | cons m r ih =>
      simp only [List.map_cons, PyData.canLayAll0, Bool.and_eq_true]
      exact ⟨by unfold mvL; rw [PyData.canLay0]; exact lay_strs fun z hz => (Mv.str_ok (h m (List.mem_cons_self ..)) z hz).1, ih fun y hy => h y (List.mem_cons_of_mem _ hy)⟩
  have hd : PyData.depthAll (ms.map mvL) ≤ 2 := by
    clear h hl
    induction ms with
    | nil => simp [PyData.depthAll]
    | cons m r ih =>
      have := deep_strs m.parts
      simp only [List.map_cons, PyData.depthAll, mvL, PyData.depth]
      omega
  unfold SeqAt.shaped
  simp only [Bool.and_eq_true, decide_eq_true_eq]
  refine ⟨⟨by rw [PyData.canLay0]; exact hl, ?_⟩, by rw [PyData.canLay0]; exact hl, ?_⟩
  · rw [PyData.depth]
    omega
  · rw [PyData.depth]
    omega
theorem oneTurn_snoc {ms : List Mv} {m : Mv} (h : oneTurn ms) (hm : Mv.turn ∈ ms → m ≠ .turn) : oneTurn (ms ++ [m]) := by
  intro pre x post e ex
  rcases List.eq_nil_or_concat post with rfl | ⟨L, y, rfl⟩
  · have e2 := List.append_inj' e rfl
    obtain ⟨rfl, e3⟩ := e2
    cases e3
    exact fun z => hm z ex
  · have e1 : ms ++ [m] = (pre ++ x :: L) ++ [y] := by rw [e]; simp
    have e2 := List.append_inj' e1 rfl
    exact h pre x L e2.1 ex
theorem any_mvl (m : Mv) (ms : List Mv) : ((ms.map mvL).any fun z => PyData.eqv z (mvL m)) = decide (m ∈ ms) := by
  induction ms with
  | nil => simp
  | cons n r ih =>
    rw [List.map_cons, List.any_cons, ih]
    have e : PyData.eqv (mvL n) (mvL m) = decide (n = m) := by
      unfold mvL
      rw [PyData.eqv, eqv_all_strs]
      exact decide_eq_decide.mpr Mv.inj
    rw [e]
    by_cases h1 : n = m <;> by_cases h2 : m ∈ r <;> simp [h1, h2, eq_comm]
    exact fun z => absurd z.symm h1
def spLawMoves : Sp := fun vs H Q _ => ∃ (d c : Addr) (n : Nat), vs = [.ref d] ∧ Pen H d c n ∧ n + 200 < 2 ^ 40 ∧
  ∀ o ps ms H', WordOk ms → H o = none → H' o = some (.lst (ps.map V.ref)) → HeldL H' ps ms → (∀ p ∈ ps, H p = none) → Pen H' d c (n + 100) → But d H H' → Q (.ref o) H'
theorem ok__law_moves (T : Tx w K mg a) : FnOk P w K mg base CX0 4 a.f__law_moves a.d__law_moves ["pen"] spLawMoves := by
  refine T.F__law_moves.ok sc__law_moves (fun vs H Q E h => ?_) (fun cdv A outer s H vs Q E hr h => ?_)
  · obtain ⟨d, c, n, rfl, _⟩ := h
    rfl
  · obtain ⟨d, c, n, rfl, hp, hn, q⟩ := h
    refine ⟨_, 
(pss_cons (ps_set (i := 1) sc__law_moves.nd rfl (.inl rfl) (pe_lst pa_nil))
  (pss_cons (ps_for PassesOwn.never rfl (pi_range1 (by rfl) T.z_range (pa_cons (pe_op op_add pe_int (pe_call (ok__law_draw T) (hr.mono (by decide)) (by rfl) T.m__law_draw T.F__law_draw.kp T.b__law_draw .nil pass0 (pa_cons (pv 0) (pa_cons pe_int pa_nil)))) pa_nil)) (pg_name (i := 2) sc__law_moves.nd rfl (.inl rfl))
  (pss_one (ps_expr (pe_bm PySem.F.plainAttrs_list PySem.F.slot_list_append PySem.F.type_list_append mt_append (pv 1) (pa_cons (pe_call (ok__law_move T) hr (by rfl) T.m__law_move T.F__law_move.kp T.b__law_move .nil pass0 (pa_cons (pv 0) (pa_cons (pe_cmpR (op_inD (room65 hr)) (pe_lst (pa_cons pe_str pa_nil)) (pv 1) (by rfl)) pa_nil))) pa_nil)))))
  (pss_one (ps_ret (pv 1))))), ?_⟩
    refine ⟨sz (show 0 ≤ 100000 by decide), fun o no => ?_⟩
    have s1 := same_upd (o := .lst []) no
    refine ⟨.ref d, rfl, d, c, n, 4, rfl, hp.same s1, by omega, by decide, by decide, fun v H2 v0 v1 hp2 b2 => ?_⟩
    have do' : d ≠ o := by
      obtain ⟨kvs, hd⟩ := hp.dict
      exact ne_of_none hd no
    have co : c ≠ o := by
      obtain ⟨u, hc⟩ := hp.cells
      exact ne_of_none hc no
    have b02 : But d H H2 := (but_same s1).trans b2
    have ho2 : H2 o = some (.lst (([] : List Addr).map V.ref)) := by
      obtain ⟨kvs, hd⟩ := (hp.same s1).dict
      exact b2.list hd upd_same
    refine ⟨1, v, rfl, rfl, _, rfl, by omega, by omega, ?_⟩
    refine for_range (lo := 0) (n := (1 + v).toNat) (fun i σ H3 => ∃ (ps : List Addr) (ms : List Mv) (y : Option V), σ = [some (.ref d), some (.ref o), y] ∧ ms.length = i ∧ (∀ m ∈ ms, m.ok) ∧ oneTurn ms ∧ H3 o = some (.lst (ps.map V.ref)) ∧ HeldL H3 ps ms ∧ (∀ p ∈ ps, H p = none ∧ p ≠ o) ∧ Pen H3 d c (n + 1 + 20 * i) ∧ But d H H3) ?_ ?_ ?_
    · exact ⟨[], [], none, rfl, rfl, fun m h => (by cases h), fun pre m post e => by simp at e, ho2, trivial, fun p h => (by cases h), hp2, b02⟩
    rotate_left
    · rintro σ H3 ⟨ps, ms, y, rfl, hl, hok, h1, ho3, hh, hps, hp3, b3⟩
      have hl2 : 1 ≤ ms.length ∧ ms.length ≤ 4 := by omega
      refine ⟨.ref o, rfl, ?_⟩
      exact q o ps ms H3 ⟨fun e => (by rw [e] at hl2; simp at hl2), hl2.2, hok, h1⟩ no ho3 hh (fun p hp => (hps p hp).1) (hp3.up (by omega)) b3
    rintro i σ H3 hi ⟨ps, ms, y, rfl, hl, hok, h1, ho3, hh, hps, hp3, b3⟩
    have hi4 : i < 4 := by omega
    have hpl := hh.len
    -- found.append(_law_move(pen, ['turn'] in found))
    refine ⟨.ref o, rfl, ?_⟩
    refine ⟨.inl ⟨rfl, _, SqL.at ho3⟩, .ref d, rfl, sz (show 1 ≤ 100000 by decide), fun l nl => ?_⟩
    have s4 := same_upd (o := .lst [V.str "turn"]) nl
    have ho4 := s4 _ _ ho3
    have hh4 := hh.same s4
    have hp4 := hp3.same s4
    have hl4 : (upd H3 l (.lst [V.str "turn"])) l = some (.lst [V.str "turn"]) := upd_same
    generalize upd H3 l (.lst [V.str "turn"]) = H4 at s4 ho4 hh4 hp4 hl4 ⊢
    refine ⟨.ref o, rfl, mvL .turn, ms.map mvL, .lst (SqL.at hl4) (dp_strs ["turn"]), .lst (SqL.at ho4) (dp_mvl hh4), shaped_mvl trivial, (shaped_mvls hok).1, ?_⟩
    rw [any_mvl]
    refine ⟨d, c, n + 1 + 20 * i, decide (Mv.turn ∈ ms), rfl, hp4, by omega, fun p m H5 hm ht np hp5' hp5 b5 => ?_⟩
    obtain ⟨kvs, hd4⟩ := hp4.dict
    have b35 : But d H3 H5 := (but_same s4).trans b5
    have np3 : H3 p = none := s4.free np
    have nH : H p = none := b3.free hp3 np3
    have npo : p ≠ o := (ne_of_none ho3 np3).symm
    have ho5 := b5.list hd4 ho4
    have hh5 := HeldL.butd b5 hd4 hh4
    refine ⟨o, _, _, rfl, rfl, ho5, szlt (by rw [List.length_map]; omega), ?_⟩
    refine ⟨ps ++ [p], ms ++ [m], _, rfl, by rw [List.length_append, hl]; rfl, ?_, oneTurn_snoc h1 fun hz => ht (decide_eq_true hz), ?_, ?_, ?_, (hp5.mut do' co).up (by omega), (b3.trans b35).mut no⟩
    · intro x hx
      rcases List.mem_append.mp hx with h | h
      · exact hok x h
      · rw [List.mem_singleton.mp h]
        exact hm
    · rw [upd_same, List.map_append]
      rfl
    · refine HeldL.snoc ?_ (HeldL.mono (fun q hq x hx e => ?_) hh5)
      · rw [upd_ne npo]
        exact hp5'
      · rw [upd_ne (hps q hq).2]
        exact e
    · intro x hx
      rcases List.mem_append.mp hx with h | h
      · exact hps x h
      · rw [List.mem_singleton.mp h]
        exact ⟨nH, npo⟩
theorem tparts_len {m : Mv} (h : m.ok) : ((m.parts).map (·.length)).sum + m.parts.length * (Str.ofString " ").length ≤ 16777216 := by
  have h1 := sum_le (zs := m.parts) fun z hz => (Mv.str_ok h z hz).2.1
  have h2 : m.parts.length ≤ 4 := by cases m <;> simp [Mv.parts]
  have h3 : (Str.ofString " ").length = 1 := by decide +kernel
  rw [h3]
  omega
theorem sum_leB {B : Nat} : ∀ {zs : List Str}, (∀ z ∈ zs, z.length ≤ B) → (zs.map (·.length)).sum ≤ zs.length * B
  | [], _ => by simp
  | z :: r, h => by
    have h1 := h z (List.mem_cons_self ..)
    have h2 := sum_leB (zs := r) fun y hy => h y (List.mem_cons_of_mem _ hy)
    rw [List.map_cons, List.sum_cons, List.length_cons, Nat.add_mul]
    omega
def spWordText (K : PySem.W.Frag) : Sp := fun vs H Q _ => ∃ (o : Addr) (ps : List Addr) (ms : List Mv), vs = [.ref o] ∧ SqL K H o (ps.map V.ref) ∧ HeldL H ps ms ∧ ms.length ≤ 4 ∧ (∀ m ∈ ms, m.ok) ∧ ∀ H', Same H H' → Q (.str (wtext ms)) H'
theorem ok__law_word_text (T : Tx w K mg a) : FnOk P w K mg base CX0 1 a.f__law_word_text a.d__law_word_text ["moves"] (spWordText K) := by
  refine T.F__law_word_text.ok sc__law_word_text (fun vs H Q E h => ?_) (fun cdv A outer s H vs Q E hr h => ?_)
  · obtain ⟨o, ps, ms, rfl, _⟩ := h
    rfl
  · obtain ⟨o, ps, ms, rfl, hO, hh, hl, hok, q⟩ := h
    refine ⟨_, 
(pss_one (ps_ret (pe_join pe_str (pe_lc (own := [("move", 1)]) (g := gName 1) rfl sc__law_word_text.nd (pi_list (pv 0)) (blkOk_by (own := [("move", 1)]) (N := ["moves", "move"]) (sc := defScope s__law_word_text) (by decide +kernel)) (fun _ _ _ _ _ => pg_name (i := 1) sc__law_word_text.nd rfl (Or.inl rfl)) (fun _ _ _ _ _ => pts_nil) (fun _ _ _ _ _ => (pe_joinK (K := K) rfl pe_str (pv 1))))))), ?_⟩
    refine ⟨⟨_, rfl⟩, .ref o, rfl, o, rfl, ⟨_, hO⟩, fun o5 no5 => ?_⟩
    have hpl := hh.len
    refine lc_it (walk_list (xs := ps.map V.ref)) (fun l H' => Same H H' ∧ H' o5 = some (.lst (((ms.take l).map fun m => Txt.join " " m.parts).map V.str))) ?c0 ?cG ?cs ?cd
    case c0 => exact ⟨same_upd no5, upd_same⟩
    case cG =>
      rintro l H' _ ⟨sm, _⟩
      exact sm.seq hO
    case cs =>
      rintro l y H3' H4'' hlt ⟨sm, e⟩ ⟨rfl, ex⟩
      rw [List.length_map, hpl] at hlt
      obtain ⟨p, hp, ep⟩ := hh.get (List.getElem?_eq_getElem hlt)
      rw [List.getElem?_map, hp] at ex
      cases ex
      refine ⟨rfl, ⟨_, rfl⟩, .ref p, rfl, " ", p, ms[l].parts, rfl, rfl, .inl (SqL.at (sm _ _ ep)), tparts_len (hok _ (List.getElem_mem hlt)), ?_⟩
      refine ⟨_, e, ?_, keep_upd sm no5, ?_⟩
      · rw [List.length_map, List.length_map, List.length_take]
        exact szlt (by omega)
      · rw [upd_same, List.take_add_one, List.getElem?_eq_getElem hlt, List.map_append, List.map_append]
        rfl
    rintro H19 ⟨s19, e19⟩
    rw [List.length_map, hpl, List.take_length] at e19
    refine ⟨" then ", o5, ms.map fun m => Txt.join " " m.parts, rfl, rfl, .inl (SqL.at e19), ?_, ?_⟩
    · have hb : ∀ z ∈ ms.map fun m => Txt.join " " m.parts, z.length ≤ 404 := by
        intro z hz
        obtain ⟨m, hm, rfl⟩ := List.mem_map.mp hz
        have h1 := join_len (zs := m.parts) fun z hz => (Mv.str_ok (hok m hm) z hz).2.1
        have h2 : m.parts.length ≤ 4 := by cases m <;> simp [Mv.parts]
        omega
      have h1 := sum_leB hb
      have h2 : (Str.ofString " then ").length = 6 := by decide +kernel
      rw [h2]
      rw [List.length_map] at h1 ⊢
      omega
    · rw [join_wtext]
      exact q _ s19
def spAllMoved (K : PySem.W.Frag) : Sp := fun vs H Q _ => ∃ (p o : Addr) (ps : List Addr) (ms : List Mv) (xs : List Int), vs = [.ref p, .ref o] ∧ SqL K H p (xs.map V.int) ∧ SqL K H o (ps.map V.ref) ∧ HeldL H ps ms ∧ (∀ m ∈ ms, m.ok) ∧ xs.length ≤ 100000 ∧
  ∀ r H', H r = none → H' r = some (.lst ((allF ms xs).map V.int)) → Same H H' → Q (.ref r) H'
theorem ok__law_all_moved (T : Tx w K mg a) : FnOk P w K mg base CX0 3 a.f__law_all_moved a.d__law_all_moved ["row", "moves"] (spAllMoved K) := by
  refine T.F__law_all_moved.ok sc__law_all_moved (fun vs H Q E h => ?_) (fun cdv A outer s H vs Q E hr h => ?_)
  · obtain ⟨p, o, ps, ms, xs, rfl, _⟩ := h
    rfl
  · obtain ⟨p, o, ps, ms, xs, rfl, hP, hO, hh, hok, hl, q⟩ := h
    refine ⟨_, 
(pss_cons (ps_set (i := 2) sc__law_all_moved.nd rfl (.inl rfl) (pe_callTy call_list_of (by rfl) T.z_list (by decide +kernel) (pa_cons (pv 0) pa_nil)))
  (pss_cons (ps_for PassesOwn.never rfl (pi_list (pv 1)) (pg_name (i := 3) sc__law_all_moved.nd rfl (.inl rfl))
  (pss_one (ps_set (i := 2) sc__law_all_moved.nd rfl (.inl rfl) (pe_call (ok__law_moved T) hr (by rfl) T.m__law_moved T.F__law_moved.kp T.b__law_moved .nil pass0 (pa_cons (pv 2) (pa_cons (pv 3) pa_nil))))))
  (pss_one (ps_ret (pv 2))))), ?_⟩
    have hpl := hh.len
    refine ⟨.ref p, rfl, ?_⟩
    refine ⟨p, _, rfl, .inl hP, fun r nr => ?_⟩
    have s1 := same_upd (o := .lst (xs.map V.int)) nr
    refine ⟨.ref o, rfl, o, rfl, ⟨_, s1.seq hO⟩, ?_⟩
    refine for_it (walk_list (xs := ps.map V.ref)) (fun i σ H3 => ∃ r y3, σ = [some (.ref p), some (.ref o), some (.ref r), y3] ∧ Same H H3 ∧ H r = none ∧ H3 r = some (.lst ((allF (ms.take i) xs).map V.int))) ?h0 ?hG ?hs ?hd
    case h0 => exact ⟨r, none, rfl, s1, nr, upd_same⟩
    case hG =>
      rintro i σ H3 hi ⟨r, y3, rfl, s3, _, _⟩
      exact s3.seq hO
    case hd =>
      rintro σ H3 ⟨r, y3, rfl, s3, nr, hr3⟩
      rw [List.length_map, hpl, List.take_length] at hr3
      exact ⟨_, rfl, q r H3 nr hr3 s3⟩
    case hs =>
      rintro i v σ H3 H4 hi ⟨r, y3, rfl, s3, nr, hr3⟩ ⟨rfl, ev⟩
      rw [List.length_map, hpl] at hi
      obtain ⟨x, hx, hxt⟩ := hh.get (List.getElem?_eq_getElem hi)
      rw [List.getElem?_map, hx] at ev
      cases ev
      refine ⟨.ref r, rfl, .ref x, rfl, r, x, _, ms[i], rfl, SqL.at hr3, SqL.at (s3 _ _ hxt), hok _ (List.getElem_mem hi), by rw [allF_len]; omega, fun o2 H5 no2 eo2 s5 => ?_⟩
      refine ⟨o2, _, rfl, s3.trans s5, s3.free no2, ?_⟩
      rw [eo2, List.take_add_one, List.getElem?_eq_getElem hi]
      show some (HO.lst ((mvF ms[i] (allF (ms.take i) xs)).map V.int)) = some (HO.lst ((allF (ms.take i ++ [ms[i]]) xs).map V.int))
      rw [all_snoc]
end

def sTTE : Str := "to the end"
def exB (z : Str) : List Str := if z = sTTE then ["to", "the", "end"] else [z]
/-- the parts that a joined text has when it is parted again -/
def normE (fs : List Str) : List Str := if fs = [] then [sNoP] else fs.flatMap exB
theorem exB_ne (z : Str) : exB z ≠ [] := by
  unfold exB
  split <;> simp
theorem exB_join (z : Str) : TL.joinL (TL.tl " ") ((exB z).map TL.tl) = TL.tl z := by
  unfold exB
  split
  · rename_i h
    subst h
    decide +kernel
  · rfl
theorem flat_ne {fs : List Str} (h : fs ≠ []) : fs.flatMap exB ≠ [] := by
  cases fs with
  | nil => exact absurd rfl h
  | cons z r =>
    rw [List.flatMap_cons]
    intro e
    exact exB_ne z (List.append_eq_nil_iff.mp e).1
theorem flat_join : ∀ {fs : List Str}, fs ≠ [] → TL.joinL (TL.tl " ") (fs.map TL.tl) = TL.joinL (TL.tl " ") ((fs.flatMap exB).map TL.tl)
  | [], h => absurd rfl h
  | [z], _ => by
    rw [List.flatMap_cons, List.flatMap_nil, List.append_nil, exB_join]
    rfl
  | z :: q :: r, _ => by
    have ih := flat_join (fs := q :: r) (by simp)
    rw [List.flatMap_cons, List.map_append, joinL_append (fun e => exB_ne z (List.map_eq_nil_iff.mp e)) (fun e => flat_ne (fs := q :: r) (by simp) (List.map_eq_nil_iff.mp e)), exB_join, ← ih]
    rfl
theorem norm_join (fs : List Str) : Txt.join " " fs = Txt.join " " (normE fs) := by
  unfold normE
  by_cases h : fs = []
  · rw [if_pos h, h]
    decide +kernel
  · rw [if_neg h]
    refine TL.ext_tl ?_
    rw [TL.join_eq, TL.tl_join, TL.join_eq, TL.tl_join]
    exact flat_join h
theorem norm_ne (fs : List Str) : normE fs ≠ [] := by
  unfold normE
  by_cases h : fs = []
  · rw [if_pos h]
    simp
  · rw [if_neg h]
    exact flat_ne h
theorem norm_FS {fs : List Str} (h : ∀ z ∈ fs, z ∈ FS ∨ z = sTTE) : ∀ z ∈ normE fs, z ∈ FS := by
  have k0 : sNoP ∈ FS := by decide +kernel
  have k1 : ∀ z ∈ ([("to" : Str), "the", "end"] : List Str), z ∈ FS := by decide +kernel
  intro z hz
  unfold normE at hz
  by_cases e : fs = []
  · rw [if_pos e, List.mem_singleton] at hz
    rw [hz]
    exact k0
  · rw [if_neg e, List.mem_flatMap] at hz
    obtain ⟨y, hy, hzy⟩ := hz
    unfold exB at hzy
    by_cases ht : y = sTTE
    · rw [if_pos ht] at hzy
      exact k1 z hzy
    · rw [if_neg ht, List.mem_singleton] at hzy
      rw [hzy]
      exact (h y hy).resolve_right ht
theorem norm_len (fs : List Str) : (normE fs).length ≤ 3 * fs.length + 1 := by
  unfold normE
  by_cases e : fs = []
  · rw [if_pos e]
    simp
  · rw [if_neg e]
    clear e
    induction fs with
    | nil => simp
    | cons z r ih =>
      have : (exB z).length ≤ 3 := by
        unfold exB
        split <;> simp
      rw [List.flatMap_cons, List.length_append, List.length_cons]
      omega
theorem split_FS {ps : List Str} (hne : ps ≠ []) (h : ∀ z ∈ ps, z ∈ FS) : Txt.split (Txt.join " " ps) " " = ps := by
  refine TL.split_join (s := 32) (S := []) (by decide +kernel) (by decide +kernel) hne fun z hz => ?_
  exact (FS_chk (h z hz)).2.2.2.2
theorem FS_len {z : Str} (h : z ∈ FS ∨ z = sTTE) : z.length ≤ 100 := by
  rcases h with h | h
  · exact (FS_chk h).2.2.1
  · rw [h]
    decide +kernel
theorem join_size {zs : List Str} (h : ∀ z ∈ zs, z.length ≤ 100) (hl : zs.length ≤ 800) : (zs.map (·.length)).sum + zs.length * (Str.ofString " ").length ≤ 16777216 := by
  have h1 := sum_le h
  have h3 : (Str.ofString " ").length = 1 := by decide +kernel
  rw [h3]
  omega
theorem seqIxW {v : Int} {n : Nat} (h0 : 0 ≤ v) (h1 : v < n) : seqIndex? v n = some v.toNat := by
  unfold seqIndex?
  have e : ¬ v < 0 := by omega
  simp only [e, if_false]
  simp [h0, h1]
theorem erase_strs : ∀ (zs : List Str) (k : Nat), (zs.map V.str).eraseIdx k = (zs.eraseIdx k).map V.str
  | [], _ => rfl
  | _ :: _, 0 => rfl
  | z :: r, k + 1 => by
    show V.str z :: (r.map V.str).eraseIdx k = V.str z :: (r.eraseIdx k).map V.str
    rw [erase_strs r k]
def menu1 : List Str := (["then", "turn", "exchange", "roll", "same", "along", "list", "to", "the", "end", "", "10"] : List String).map Str.ofString
def menu2 : List Str := (["-0", "00", "+1", "half+0", "half-10", "Turn", "to the end", "1", "half", "then", "turn", "5", "-10"] : List String).map Str.ofString
theorem menu_FS : ∀ z ∈ places ++ menu1 ++ menu2, z ∈ FS ∨ z = sTTE := by decide +kernel
section
variable {P : Program} {w : World} {K : PySem.W.Frag} {mg : Str → Option Value} {base : Heap} {a : Ad}
end

/-! ### levels read: where the first part stands that cannot stand there -/
def sEnding : List Str := ["to", "the", "end"]
def sN (i : Nat) : Str := toStr (i : Int)
def lNums (s : Nat) : List Str := (List.range (s - 1)).map sN
/-- how many parts at the beginning are numbers, at most n -/
def cntN (ns : List Str) : Nat → List Str → Nat
  | 0, _ => 0
  | _ + 1, [] => 0
  | n + 1, z :: r => if z ∈ ns then cntN ns n r + 1 else 0
/-- the first of the parts that is not the one that is asked -/
def endE : List Str → List Str → Option Nat
  | _, [] => none
  | [], _ :: _ => some 0
  | z :: zs, k :: ks => if z = k then (endE zs ks).map (· + 1) else some 0
def nthS (ps : List Str) (k : Nat) : Str := ((ps ++ [sNoP])[k]?).getD sNoP
def hd (ps : List Str) : Str := nthS ps 0
def bodyE (ps : List Str) (size : Option Nat) : Nat ⊕ Nat :=
  if hd ps = "same" then match mvsE 4 ((ps ++ [sNoP]).drop 1) true with
    | .inl j => .inl (1 + j)
    | .inr q => .inr (1 + q.2)
  else if hd ps = "along" then (if figM fronts2 (nthS ps 1) = true then (if ipM (nthS ps 2) = true then .inr 3 else .inl 2) else .inl 1)
  else match size with
    | none => .inl 0
    | some s => if hd ps = "list" then (if 1 + cntN (lNums s) s ((ps ++ [sNoP]).drop 1) < s then .inl (1 + cntN (lNums s) s ((ps ++ [sNoP]).drop 1)) else .inr (1 + cntN (lNums s) s ((ps ++ [sNoP]).drop 1))) else .inl 0
def goesOn (ps : List Str) (size : Option Nat) (b : Nat) : Bool := if hd ps = "list" then decide (size.getD 0 < b) else decide (b < ps.length)
def lvlE (ps : List Str) (size : Option Nat) : Nat ⊕ (Nat × Bool) := match bodyE ps size with
  | .inl j => .inl j
  | .inr b => if goesOn ps size b = true then (match endE ((ps ++ [sNoP]).drop b) sEnding with
      | some j => .inl (b + j)
      | none => if b + 3 < ps.length then .inl (b + 3) else .inr (b, true))
    else if b < ps.length then .inl b else .inr (b, false)
def oN : Option Nat → V
  | none => .non
  | some s => .int (s : Int)
def SizeOk : Option Nat → Prop
  | none => True
  | some s => 2 ≤ s ∧ s ≤ 12
theorem nth_get {ps : List Str} {k : Nat} (h : k ≤ ps.length) : (ps ++ [sNoP])[k]? = some (nthS ps k) := by
  have : k < (ps ++ [sNoP]).length := by rw [List.length_append]; exact Nat.lt_succ_of_le h
  unfold nthS
  rw [List.getElem?_eq_getElem this]
  rfl
theorem nth_end (ps : List Str) : nthS ps ps.length = sNoP := by
  unfold nthS
  rw [List.getElem?_append_right (Nat.le_refl _), Nat.sub_self]
  rfl
theorem nth_lt {ps : List Str} {k : Nat} (h : k ≤ ps.length) (ne : nthS ps k ≠ sNoP) : k < ps.length := by
  rcases Nat.lt_or_ge k ps.length with q | q
  · exact q
  · have : k = ps.length := by omega
    rw [this, nth_end] at ne
    exact absurd rfl ne
theorem PartsOk.nth {ps : List Str} (h : PartsOk ps) {k : Nat} (hk : k ≤ ps.length) : (nthS ps k).length ≤ 100 ∧ PyData.strOk (nthS ps k) = true := h.get (nth_get hk)
section
variable {P : Program} {w : World} {K : PySem.W.Frag} {mg : Str → Option Value} {base : Heap} {a : Ad}
def spReadAlong (CW : Addr) : Sp := fun vs H Q E => ∃ (p : Addr) (ps : List Str), vs = [.ref p] ∧ H p = some (.lst (strsV (ps ++ [sNoP]))) ∧ 1 ≤ ps.length ∧ PartsOk ps ∧
  (figM fronts2 (nthS ps 1) = true → ipM (nthS ps 2) = true → ∀ H', Same H H' → Q (.int 3) H') ∧
  (figM fronts2 (nthS ps 1) = true → ipM (nthS ps 2) = false → ∀ H' d, Same H H' → H' d = some (.xd [("index", .int 2)]) → E (.ref CW) (some d) H') ∧
  (figM fronts2 (nthS ps 1) = false → ∀ H' d, Same H H' → H' d = some (.xd [("index", .int 1)]) → E (.ref CW) (some d) H')
theorem ok_read_along (T : Tx w K mg a) : FnOk P w K mg base (L2.CX P w) 3 a.f_read_along a.d_read_along ["parts"] (spReadAlong a.C_BadWord) := by
  refine T.F_read_along.okX sc_read_along (fun vs H Q E h => ?_) (fun cdv A outer s H vs Q E hr h => ?_)
  · obtain ⟨p, ps, rfl, _⟩ := h
    rfl
  · obtain ⟨p, ps, rfl, hp, h1, hok, q1, q2, q3⟩ := h
    refine ⟨_, 
(pss_cons (ps_if (pt_not (pt_val (pe_call (ok_is_figure_behind T) (hr.mono (by decide)) (by rfl) T.m_is_figure_behind T.F_is_figure_behind.kp T.b_is_figure_behind .nil pass0 (pa_cons (pe_glob (v := .ref a.a_AMOUNT_FRONTS) (by rfl) T.m_AMOUNT_FRONTS rfl) (pa_cons (pe_ix ix_list (pv 0) pe_int (fun _ _ => rfl)) pa_nil)))))
  (pss_one (ps_raise rfl (takes_of rfl rfl rfl rfl) (pmk_oex T.ox_BadWord.o T.ox_BadWord.ini T.ox_BadWord.tin (ok_BadWord_init T) hr T.b_BadWord_init .nil pass0 (by rfl) T.c_BadWord (pa_cons pe_int pa_nil))))
  pss_nil)
  (pss_cons (ps_if (pt_not (pt_val (pe_call (ok_is_place_word T) hr (by rfl) T.m_is_place_word T.F_is_place_word.kp T.b_is_place_word .nil pass0 (pa_cons (pe_ix ix_list (pv 0) pe_int (fun _ _ => rfl)) pa_nil))))
  (pss_one (ps_raise rfl (takes_of rfl rfl rfl rfl) (pmk_oex T.ox_BadWord.o T.ox_BadWord.ini T.ox_BadWord.tin (ok_BadWord_init T) hr T.b_BadWord_init .nil pass0 (by rfl) T.c_BadWord (pa_cons pe_int pa_nil))))
  pss_nil)
  (pss_one (ps_ret pe_int)))), ?_⟩
    have g1 := strs_get (nth_get h1)
    have hl1 := (hok.nth h1).1
    refine ⟨_, rfl, p, _, _, _, rfl, rfl, SqL.at hp, g1, a.a_AMOUNT_FRONTS, fronts2, nthS ps 1, rfl, T.q_AMOUNT_FRONTS _, rfl, sz (by omega), ?_⟩
    cases hf : figM fronts2 (nthS ps 1) with
    | false => exact ⟨_, rfl, iteT ⟨(by decide : 1 ≤ 1000), err_end (Same.refl H) (fun H' d s' ed => q3 hf H' d s' ed)⟩⟩
    | true =>
      have h2 : 2 ≤ ps.length := nth_lt h1 (fun e => by
        rw [e] at hf
        exact absurd hf (by decide +kernel))
      have g2 := strs_get (nth_get h2)
      have hl2 := (hok.nth h2).1
      refine ⟨_, rfl, iteF ⟨_, rfl, p, _, _, _, rfl, rfl, SqL.at hp, g2, nthS ps 2, rfl, sz (by omega), fun H5 s5 => ?_⟩⟩
      cases hi : ipM (nthS ps 2) with
      | false => exact ⟨_, rfl, iteT ⟨(by decide : 1 ≤ 1000), err_end s5 (fun H' d s' ed => q2 hf hi H' d s' ed)⟩⟩
      | true => exact ⟨_, rfl, iteF (q1 hf hi _ s5)⟩
/-- what is told of the numbers at the beginning -/
theorem cntN_le (ns : List Str) : ∀ (n : Nat) (l : List Str), cntN ns n l ≤ n
  | 0, _ => Nat.le_refl _
  | n + 1, [] => Nat.zero_le _
  | n + 1, z :: r => by
    show (if z ∈ ns then cntN ns n r + 1 else 0) ≤ n + 1
    by_cases h : z ∈ ns
    · rw [if_pos h]
      have := cntN_le ns n r
      omega
    · rw [if_neg h]
      exact Nat.zero_le _
theorem cntN_all (ns : List Str) : ∀ (n : Nat) (l : List Str), ∀ z ∈ l.take (cntN ns n l), z ∈ ns
  | 0, l => fun z hz => by
    rw [show cntN ns 0 l = 0 from by cases l <;> rfl, List.take_zero] at hz
    cases hz
  | n + 1, [] => fun z hz => by simp at hz
  | n + 1, z :: r => fun y hy => by
    have e : cntN ns (n + 1) (z :: r) = if z ∈ ns then cntN ns n r + 1 else 0 := rfl
    rw [e] at hy
    by_cases h : z ∈ ns
    · rw [if_pos h, List.take_succ_cons] at hy
      rcases List.mem_cons.mp hy with q | q
      · rw [q]
        exact h
      · exact cntN_all ns n r y q
    · rw [if_neg h, List.take_zero] at hy
      cases hy
theorem sN_ne : ∀ i : Fin 12, sN i.val ≠ sNoP := by decide +kernel
theorem lNums_no {s : Nat} (hs : s ≤ 12) : sNoP ∉ lNums s := fun h => by
  obtain ⟨i, hi, e⟩ := List.mem_map.mp h
  rw [List.mem_range] at hi
  exact sN_ne ⟨i, by omega⟩ e
theorem cntN_len {ns : List Str} (hn : sNoP ∉ ns) : ∀ (n : Nat) (l : List Str), cntN ns n (l ++ [sNoP]) ≤ l.length
  | 0, l => by
    rw [show cntN ns 0 (l ++ [sNoP]) = 0 from by cases l <;> rfl]
    exact Nat.zero_le _
  | n + 1, [] => by
    have e : cntN ns (n + 1) ([] ++ [sNoP]) = if sNoP ∈ ns then cntN ns n [] + 1 else 0 := rfl
    rw [e, if_neg hn]
    exact Nat.le_refl _
  | n + 1, z :: r => by
    have e : cntN ns (n + 1) (z :: r ++ [sNoP]) = if z ∈ ns then cntN ns n (r ++ [sNoP]) + 1 else 0 := rfl
    rw [e, List.length_cons]
    by_cases h : z ∈ ns
    · rw [if_pos h]
      have := cntN_len hn n r
      omega
    · rw [if_neg h]
      exact Nat.zero_le _
theorem inV_strs (z : Str) (zs : List Str) : inV (.str z) (zs.map V.str) = decide (z ∈ zs) := by
  induction zs with
  | nil => simp [inV]
  | cons y r ih =>
    rw [List.map_cons]
    unfold inV at ih ⊢
    rw [List.any_cons, ih]
    have e : eqV (.str y) (.str z) = decide (y = z) := rfl
    rw [e]
    by_cases h : y = z
    · subst h
      simp
    · have h2 : ¬ z = y := fun z => h z.symm
      simp [h, h2]
theorem flatS (zs : List Str) : (zs.map V.str).all flatV = true := strs_flat zs
def spReadList (CW : Addr) : Sp := fun vs H Q E => ∃ (p : Addr) (ps : List Str) (s : Nat), vs = [.ref p, .int (s : Int)] ∧ H p = some (.lst (strsV (ps ++ [sNoP]))) ∧ 1 ≤ ps.length ∧ PartsOk ps ∧ 2 ≤ s ∧ s ≤ 12 ∧
  (∀ b, 1 + cntN (lNums s) s ((ps ++ [sNoP]).drop 1) = b → s ≤ b → ∀ H', Same H H' → Q (.int (b : Int)) H') ∧
  (∀ b, 1 + cntN (lNums s) s ((ps ++ [sNoP]).drop 1) = b → b < s → ∀ H' d, Same H H' → H' d = some (.xd [("index", .int (b : Int))]) → E (.ref CW) (some d) H')
theorem ok_read_list (T : Tx w K mg a) : FnOk P w K mg base (L2.CX P w) 3 a.f_read_list a.d_read_list ["parts", "size"] (spReadList a.C_BadWord) := by
  refine T.F_read_list.okX sc_read_list (fun vs H Q E h => ?_) (fun cdv A outer s H vs Q E hr h => ?_)
  · obtain ⟨p, ps, s, rfl, _⟩ := h
    rfl
  · obtain ⟨p, ps, n, rfl, hp, h1, hok, n2, n12, qY, qN⟩ := h
    refine ⟨_, 
(pss_cons (ps_setLc (i := 2) (own := [("place", 4)]) (g := gName 4) rfl sc_read_list.nd rfl rfl (sw_true rfl rfl rfl (by decide +kernel)) (pi_range1 (by rfl) T.z_range (pa_cons (pe_op op_sub (pv 1) pe_int) pa_nil)) (blkOk_by (own := [("place", 4)]) (N := ["parts", "size", "places", "behind", "place"]) (sc := defScope s_read_list) (by decide +kernel)) (fun _ _ _ _ _ => pg_name (i := 4) sc_read_list.nd rfl (Or.inl rfl)) (fun _ _ _ _ _ => pts_nil) (fun _ _ _ _ _ => (pe_callTy call_str_int (by rfl) T.z_str (by decide +kernel) (pa_cons (pv 4) pa_nil))))
  (pss_cons (ps_set (i := 3) sc_read_list.nd rfl (.inl rfl) pe_int)
  (pss_cons (ps_while PassesOwn.leaving (PW.pt (pw_and (pt_cmpR op_le (pv 3) (pv 1) (nomark _)) (pw_and1 (pt_cmpR op_in_seq (pe_ix ix_list (pv 0) (pv 3) (fun _ _ => rfl)) (pv 2) (by rfl)))))
  (pss_one (ps_set (i := 3) sc_read_list.nd rfl (.inl rfl) (pe_op op_add (pv 3) pe_int))))
  (pss_cons (ps_if (pt_cmpR op_lt (pv 3) (pv 1) (nomark _))
  (pss_one (ps_raise rfl (takes_of rfl rfl rfl rfl) (pmk_oex T.ox_BadWord.o T.ox_BadWord.ini T.ox_BadWord.tin (ok_BadWord_init T) hr T.b_BadWord_init .nil pass0 (by rfl) T.c_BadWord (pa_cons (pv 3) pa_nil))))
  pss_nil)
  (pss_one (ps_ret (pv 3))))))), ?_⟩
    -- places = [str(place) for place in range(size - 1)]
    refine ⟨_, rfl, _, _, rfl, rfl, _, rfl, by omega, by omega, fun o no => ?_⟩
    refine lc_range (lo := 0) (n := ((n : Int) - 1).toNat) (fun l H' => Same H H' ∧ H' o = some (.lst (((List.range l).map sN).map V.str))) ?c0 ?cs ?cd
    case c0 => exact ⟨same_upd no, upd_same⟩
    case cs =>
      rintro l H' hl ⟨sm, e⟩
      refine ⟨rfl, _, rfl, _, rfl, lg _ (by omega) (by omega), _, e, ?_, keep_upd sm no, ?_⟩
      · rw [List.length_map, List.length_map, List.length_range]
        exact szlt (by omega)
      · rw [upd_same, List.range_succ, List.map_append, List.map_append, show (0 : Int) + (l : Nat) = (l : Int) by omega]
        rfl
    rintro H1 ⟨s1, e1⟩
    have e1 : H1 o = some (.lst ((lNums n).map V.str)) := by
      rw [e1, show ((n : Int) - 1).toNat = n - 1 by omega]
      rfl
    have hp1 := s1 _ _ hp
    have hno := lNums_no n12
    have hds : (ps ++ [sNoP]).drop 1 = ps.drop 1 ++ [sNoP] := by rw [List.drop_append_of_le_length h1]
    have hcl : 1 + cntN (lNums n) n ((ps ++ [sNoP]).drop 1) ≤ ps.length := by
      have := cntN_len hno n (ps.drop 1)
      rw [← hds, List.length_drop] at this
      omega
    have hce := cntN_le (lNums n) n ((ps ++ [sNoP]).drop 1)
    -- behind = 1; while behind <= size and parts[behind] in places
    refine ⟨fun k σ H3 => ∃ (b : Nat) (y4 : Option V), b + k = n + 1 ∧ 1 ≤ b ∧ 1 + cntN (lNums n) n ((ps ++ [sNoP]).drop 1) = b + cntN (lNums n) (n + 1 - b) ((ps ++ [sNoP]).drop b) ∧
        σ = [some (.ref p), some (.int (n : Int)), some (.ref o), some (.int (b : Int)), y4] ∧ H3 = H1, ⟨n, 1, _, by omega, Nat.le_refl _, rfl, rfl, rfl⟩, ?_⟩
    rintro k σ H3 ⟨b, y4, hbk, hb1, heq, rfl, rfl⟩
    have fin : cntN (lNums n) (n + 1 - b) ((ps ++ [sNoP]).drop b) = 0 → tSeq
          (tIfS (tTest (tOp (rI0 fun i j => V.bl (decide (i < j))) (tVar 3) (tVar 1)))
            (fun x σ H =>
              tMkO a.C_BadWord (spErrInit a.C_BadWord (Str.ofString "index")) [] (tCons (tVar 3) tNil) σ H
                fun cls d H' => E cls d H')
            tNext)
          (tRet (tVar 3)) { nx := fun x H' => Q V.non H', rt := Q } [some (.ref p), some (.int (n : Int)), some (.ref o), some (.int (b : Int)), y4] H3 := fun h0 => by
      rw [h0] at heq
      refine ⟨_, rfl, _, rfl, _, _, rfl, rfl, _, rfl, ?_⟩
      by_cases hb : b < n
      · rw [decide_eq_true (show (b : Int) < (n : Int) by omega)]
        exact ⟨_, rfl, (by decide : 1 ≤ 1000), err_end s1 (fun H' d s' ed => qN b heq hb H' d s' ed)⟩
      · rw [decide_eq_false (show ¬ (b : Int) < (n : Int) by omega)]
        exact ⟨_, rfl, qY b heq (by omega) _ s1⟩
    refine ⟨_, rfl, _, rfl, _, _, rfl, rfl, _, rfl, ?_⟩
    by_cases hb : b ≤ n
    rotate_left
    · rw [decide_eq_false (show ¬ (b : Int) ≤ (n : Int) by omega)]
      refine fin ?_
      rw [show n + 1 - b = 0 by omega]
      cases (ps ++ [sNoP]).drop b <;> rfl
    rw [decide_eq_true (show (b : Int) ≤ (n : Int) by omega)]
    have hbl : b ≤ ps.length := by omega
    have g1 := strs_get (nth_get hbl)
    have hst : cntN (lNums n) (n + 1 - b) ((ps ++ [sNoP]).drop b) = if nthS ps b ∈ lNums n then cntN (lNums n) (n - b) ((ps ++ [sNoP]).drop (b + 1)) + 1 else 0 := by
      obtain ⟨h1, e1⟩ := List.getElem?_eq_some_iff.mp (nth_get hbl)
      rw [List.drop_eq_getElem_cons h1, e1, show n + 1 - b = (n - b) + 1 by omega]
      rfl
    refine ⟨_, rfl, _, rfl, p, _, _, _, rfl, rfl, SqL.at hp1, g1, _, rfl, o, _, rfl, .inl (SqL.at e1), rfl, flatS _, _, rfl, ?_⟩
    rw [inV_strs]
    by_cases hm : nthS ps b ∈ lNums n
    · rw [decide_eq_true hm]
      rw [if_pos hm] at hst
      refine ⟨fun σ' H' => σ' = [some (.ref p), some (.int (n : Int)), some (.ref o), some (.int ((b : Int) + 1)), y4] ∧ H' = H3, ?_, ⟨_, rfl, _, _, rfl, rfl, rfl, rfl⟩⟩
      rintro σ' H' ⟨rfl, rfl⟩
      exact ⟨k - 1, by omega, b + 1, y4, by omega, by omega, by rw [heq, hst, show n + 1 - (b + 1) = n - b by omega]; omega, rfl, rfl⟩
    · rw [decide_eq_false hm]
      rw [if_neg hm] at hst
      exact fin hst
def spReadBody (CW : Addr) : Sp := fun vs H Q E => ∃ (p : Addr) (ps : List Str) (size : Option Nat), vs = [.ref p, oN size] ∧ H p = some (.lst (strsV (ps ++ [sNoP]))) ∧ 1 ≤ ps.length ∧ PartsOk ps ∧ SizeOk size ∧
  (∀ b, bodyE ps size = .inr b → ∀ H', Same H H' → Q (.int (b : Int)) H') ∧
  (∀ b, bodyE ps size = .inl b → ∀ H' d, Same H H' → H' d = some (.xd [("index", .int (b : Int))]) → E (.ref CW) (some d) H')
theorem ok_read_body (T : Tx w K mg a) : FnOk P w K mg base (L2.CX P w) 6 a.f_read_body a.d_read_body ["parts", "size"] (spReadBody a.C_BadWord) := by
  refine T.F_read_body.okX sc_read_body (fun vs H Q E h => ?_) (fun cdv A outer s H vs Q E hr h => ?_)
  · obtain ⟨p, ps, s, rfl, _⟩ := h
    rfl
  · obtain ⟨p, ps, size, rfl, hp, h1, hok, hsz, qY, qN⟩ := h
    refine ⟨_, 
(pss_cons (ps_if (pt_cmpR op_eq (pe_ix ix_list (pv 0) pe_int (fun _ _ => rfl)) pe_str (nomark _))
  (pss_one (ps_ret (pe_ix ix_tup (pe_callS (ok_read_moves T) hr (by rfl) T.m_read_moves T.F_read_moves.kp T.b_read_moves (fun σ => passAt (takes_of rfl rfl rfl rfl) σ) (pa_cons (pv 0) (pa_cons pe_int pa_nil))) pe_int (fun _ _ => rfl))))
  pss_nil)
  (pss_cons (ps_if (pt_cmpR op_eq (pe_ix ix_list (pv 0) pe_int (fun _ _ => rfl)) pe_str (nomark _))
  (pss_one (ps_ret (pe_callS (ok_read_along T) (hr.mono (by decide)) (by rfl) T.m_read_along T.F_read_along.kp T.b_read_along (fun σ => passAt (takes_of rfl rfl rfl rfl) σ) (pa_cons (pv 0) pa_nil))))
  pss_nil)
  (pss_cons (ps_if (PW.pt (pw_and (pt_cmpR op_eq (pe_ix ix_list (pv 0) pe_int (fun _ _ => rfl)) pe_str (nomark _)) (pw_and1 (pt_cmpR op_notN (pv 1) pe_non (nomark _)))))
  (pss_one (ps_ret (pe_callS (ok_read_list T) (hr.mono (by decide)) (by rfl) T.m_read_list T.F_read_list.kp T.b_read_list (fun σ => passAt (takes_of rfl rfl rfl rfl) σ) (pa_cons (pv 0) (pa_cons (pv 1) pa_nil)))))
  pss_nil)
  (pss_one (ps_raise rfl (takes_of rfl rfl rfl rfl) (pmk_oex T.ox_BadWord.o T.ox_BadWord.ini T.ox_BadWord.tin (ok_BadWord_init T) (hr.mono (by decide)) T.b_BadWord_init .nil pass0 (by rfl) T.c_BadWord (pa_cons pe_int pa_nil))))))), ?_⟩
    unfold bodyE hd at qY qN
    have g0 := strs_get (nth_get (Nat.zero_le ps.length))
    -- if parts[0] == 'same'
    refine ⟨_, rfl, p, _, _, _, rfl, rfl, SqL.at hp, g0, rfl, _, rfl, ?_⟩
    by_cases c1 : nthS ps 0 = "same"
    · rw [decide_eq_true (show V.str (nthS ps 0) = V.str "same" by rw [c1])]
      rw [if_pos c1] at qY qN
      refine iteT ⟨_, rfl, p, ps, 1, rfl, hp, h1, hok, fun ms c hm o t rs H1 no nt ho ht held s1 => ⟨o, _, 1, _, rfl, rfl, SqT.at ho, rfl, ?_⟩, fun j hj H1 d s1 ed => ?_⟩
      · rw [hm] at qY
        exact qY (1 + c) rfl H1 s1
      · rw [hj] at qN
        exact qN (1 + j) rfl H1 d s1 ed
    rw [decide_eq_false (show ¬ V.str (nthS ps 0) = V.str "same" from fun e => c1 (V.str.inj e))]
    rw [if_neg c1] at qY qN
    refine iteF ⟨_, rfl, p, _, _, _, rfl, rfl, SqL.at hp, g0, rfl, _, rfl, ?_⟩
    by_cases c2 : nthS ps 0 = "along"
    · rw [decide_eq_true (show V.str (nthS ps 0) = V.str "along" by rw [c2])]
      rw [if_pos c2] at qY qN
      refine iteT ⟨_, rfl, p, ps, rfl, hp, h1, hok, fun f1 f2 H1 s1 => ?_, fun f1 f2 H1 d s1 ed => ?_, fun f1 H1 d s1 ed => ?_⟩
      · rw [if_pos f1, if_pos f2] at qY
        exact qY 3 rfl H1 s1
      · rw [if_pos f1, if_neg (by rw [f2]; decide)] at qN
        exact qN 2 rfl H1 d s1 ed
      · rw [if_neg (by rw [f1]; decide)] at qN
        exact qN 1 rfl H1 d s1 ed
    rw [decide_eq_false (show ¬ V.str (nthS ps 0) = V.str "along" from fun e => c2 (V.str.inj e))]
    rw [if_neg c2] at qY qN
    refine iteF ?_
    have fin : (match size with
        | none => (Sum.inl 0 : Nat ⊕ Nat)
        | some s =>
          if nthS ps 0 = "list" then
            if 1 + cntN (lNums s) s (List.drop 1 (ps ++ [sNoP])) < s then
              Sum.inl (1 + cntN (lNums s) s (List.drop 1 (ps ++ [sNoP])))
            else Sum.inr (1 + cntN (lNums s) s (List.drop 1 (ps ++ [sNoP])))
          else Sum.inl 0) = Sum.inl 0 → tMkO a.C_BadWord (spErrInit a.C_BadWord "index") [] (tCons (tC (V.int 0)) tNil) [some (.ref p), some (oN size)] H fun cls d H' => E cls d H' := fun e =>
      ⟨(by decide : 1 ≤ 1000), err_end (Same.refl H) (fun H' d s' ed => qN 0 e H' d s' ed)⟩
    refine ⟨_, rfl, p, _, _, _, rfl, rfl, SqL.at hp, g0, rfl, _, rfl, ?_⟩
    by_cases c3 : nthS ps 0 = "list"
    rotate_left
    · rw [decide_eq_false (show ¬ V.str (nthS ps 0) = V.str "list" from fun e => c3 (V.str.inj e))]
      refine fin ?_
      cases size with
      | none => rfl
      | some s => simp only [if_neg c3]
    rw [decide_eq_true (show V.str (nthS ps 0) = V.str "list" by rw [c3])]
    refine ⟨_, rfl, rfl, _, rfl, ?_⟩
    cases size with
    | none => exact fin rfl
    | some s =>
      clear fin
      simp only [if_pos c3] at qY qN
      refine ⟨_, rfl, _, rfl, p, ps, s, rfl, hp, h1, hok, hsz.1, hsz.2, fun b eb hb H1 s1 => ?_, fun b eb hb H1 d s1 ed => ?_⟩
      · rw [eb, if_neg (by omega)] at qY
        exact qY b rfl H1 s1
      · rw [eb, if_pos hb] at qN
        exact qN b rfl H1 d s1 ed
theorem bodyE_le {ps : List Str} {size : Option Nat} {b : Nat} (hsz : SizeOk size) (h1 : 1 ≤ ps.length) (h : bodyE ps size = .inr b) : b ≤ ps.length ∧ 1 ≤ b := by
  unfold bodyE at h
  by_cases c1 : hd ps = "same"
  · rw [if_pos c1] at h
    cases hm : mvsE 4 ((ps ++ [sNoP]).drop 1) true with
    | inl j =>
      rw [hm] at h
      cases h
    | inr q =>
      obtain ⟨ms, c⟩ := q
      rw [hm] at h
      cases h
      have := (mvsE_le h1 hm).1
      exact ⟨this, by show 1 ≤ 1 + c; omega⟩
  rw [if_neg c1] at h
  by_cases c2 : hd ps = "along"
  · rw [if_pos c2] at h
    by_cases f1 : figM fronts2 (nthS ps 1) = true
    · rw [if_pos f1] at h
      by_cases f2 : ipM (nthS ps 2) = true
      · rw [if_pos f2] at h
        cases h
        have h2 : 1 < ps.length := nth_lt h1 (fun e => by
          rw [e] at f1
          exact absurd f1 (by decide +kernel))
        have h3 : 2 < ps.length := nth_lt h2 (fun e => by
          rw [e] at f2
          exact absurd f2 (by decide +kernel))
        exact ⟨h3, by decide⟩
      · rw [if_neg f2] at h
        cases h
    · rw [if_neg f1] at h
      cases h
  rw [if_neg c2] at h
  cases size with
  | none => cases h
  | some s =>
    dsimp only at h
    by_cases c3 : hd ps = "list"
    · rw [if_pos c3] at h
      have hcl := cntN_len (lNums_no hsz.2) s (ps.drop 1)
      rw [show ps.drop 1 ++ [sNoP] = (ps ++ [sNoP]).drop 1 from (List.drop_append_of_le_length h1).symm, List.length_drop] at hcl
      split at h
      · cases h
      · cases h
        omega
    · rw [if_neg c3] at h
      cases h
def spReadLevel (CW : Addr) : Sp := fun vs H Q E => ∃ (p : Addr) (ps : List Str) (size : Option Nat), vs = [.ref p, oN size] ∧ H p = some (.lst (strsV (ps ++ [sNoP]))) ∧ 1 ≤ ps.length ∧ PartsOk ps ∧ SizeOk size ∧
  (∀ b g, lvlE ps size = .inr (b, g) → ∀ o H', H o = none → H' o = some (.tup [.int (b : Int), .bl g]) → Same H H' → Q (.ref o) H') ∧
  (∀ b, lvlE ps size = .inl b → ∀ H' d, Same H H' → H' d = some (.xd [("index", .int (b : Int))]) → E (.ref CW) (some d) H')
theorem ok_read_level (T : Tx w K mg a) : FnOk P w K mg base (L2.CX P w) 7 a.f_read_level a.d_read_level ["parts", "size"] (spReadLevel a.C_BadWord) := by
  refine T.F_read_level.okX sc_read_level (fun vs H Q E h => ?_) (fun cdv A outer s H vs Q E hr h => ?_)
  · obtain ⟨p, ps, s, rfl, _⟩ := h
    rfl
  · obtain ⟨p, ps, size, rfl, hp, h1, hok, hsz, qY, qN⟩ := h
    refine ⟨_, 
(pss_cons (ps_set (i := 2) sc_read_level.nd rfl (.inl rfl) (pe_callS (ok_read_body T) hr (by rfl) T.m_read_body T.F_read_body.kp T.b_read_body (fun σ => passAt (takes_of rfl rfl rfl rfl) σ) (pa_cons (pv 0) (pa_cons (pv 1) pa_nil))))
  (pss_cons (ps_set (i := 3) sc_read_level.nd rfl (.inl rfl) (pe_op op_sub (pe_callB call_len_seq (by rfl) T.z_len PySem.boot_len (pa_cons (pv 0) pa_nil)) pe_int))
  (C8.pss_cut (ps_if (pt_cmpR op_eq (pe_ix ix_list (pv 0) pe_int (fun _ _ => rfl)) pe_str (nomark _))
  (pss_one (ps_set (i := 4) sc_read_level.nd rfl (.inl rfl) (pe_cmpR op_gt (pv 2) (pv 1) (nomark _))))
  (pss_one (ps_set (i := 4) sc_read_level.nd rfl (.inl rfl) (pe_cmpR op_lt (pv 2) (pv 3) (nomark _)))))
  (C8.pss_cut (ps_if (pt_val (pv 4))
  (pss_one (ps_for PassesOwn.leaving rfl (pi_enumF (by rfl) T.z_enumerate (pa_cons (pe_glob (v := .ref a.a_ENDING) (by rfl) T.m_ENDING rfl) pa_nil) (pv 2)) (pg_tup rfl (pgs_cons (pg_name (i := 5) sc_read_level.nd rfl (.inl rfl)) (pgs_cons (pg_name (i := 6) sc_read_level.nd rfl (.inl rfl)) pgs_nil)))
  (pss_one (ps_if (pt_cmpR op_ne (pe_ix ix_list (pv 0) (pv 5) (fun _ _ => rfl)) (pv 6) (nomark _))
  (pss_one (ps_raise rfl (takes_of rfl rfl rfl rfl) (pmk_oex T.ox_BadWord.o T.ox_BadWord.ini T.ox_BadWord.tin (ok_BadWord_init T) (hr.mono (by decide)) T.b_BadWord_init .nil pass0 (by rfl) T.c_BadWord (pa_cons (pv 5) pa_nil))))
  pss_nil))))
  pss_nil)
  (pss_cons (ps_set (i := 7) sc_read_level.nd rfl (.inl rfl) (pe_ifExp (pt_val (pv 4)) (pe_op op_add (pv 2) (pe_callB call_len_seq (by rfl) T.z_len PySem.boot_len (pa_cons (pe_glob (v := .ref a.a_ENDING) (by rfl) T.m_ENDING rfl) pa_nil))) (pv 2)))
  (pss_cons (ps_if (pt_cmpR op_lt (pv 7) (pv 3) (nomark _))
  (pss_one (ps_raise rfl (takes_of rfl rfl rfl rfl) (pmk_oex T.ox_BadWord.o T.ox_BadWord.ini T.ox_BadWord.tin (ok_BadWord_init T) (hr.mono (by decide)) T.b_BadWord_init .nil pass0 (by rfl) T.c_BadWord (pa_cons (pv 7) pa_nil))))
  pss_nil)
  (pss_one (ps_ret (pe_tup (pa_cons (pv 2) (pa_cons (pv 4) pa_nil))))))))))), ?_⟩
    have g0 := strs_get (nth_get (Nat.zero_le ps.length))
    have hpl : (strsV (ps ++ [sNoP])).length = ps.length + 1 := by unfold strsV; rw [List.length_map, List.length_append]; rfl
    unfold lvlE at qY qN
    -- behind = read_body(parts, size)
    refine ⟨_, rfl, _, rfl, p, ps, size, rfl, hp, h1, hok, hsz, fun b hb H1 s1 => ?_, fun b hb H1 d s1 ed => ?_⟩
    rotate_left
    · rw [hb] at qN
      exact qN b rfl H1 d s1 ed
    obtain ⟨b1, b2⟩ := bodyE_le hsz h1 hb
    rw [hb] at qY qN
    dsimp only at qY qN
    have hp1 := s1 _ _ hp
    -- stop = len(parts) - 1
    refine ⟨_, rfl, p, _, rfl, .inl (SqL.at hp1), _, 1, rfl, rfl, ?_⟩
    rw [hpl]
    have hgl : goesOn ps size b = true → b ≤ ps.length := fun _ => b1
    generalize hg : goesOn ps size b = g at qY qN
    have estop : (((ps.length + 1 : Nat) : Int) - 1) = (ps.length : Int) := by omega
    refine ⟨fun σ' H' => σ' = [some (.ref p), some (oN size), some (.int (b : Int)), some (.int (ps.length : Int)), some (.bl g), none, none, none] ∧ H' = H1, ?_, ?_⟩
    · refine ⟨_, rfl, p, _, _, _, rfl, rfl, SqL.at hp1, g0, rfl, _, rfl, ?_⟩
      unfold goesOn hd at hg
      by_cases c3 : nthS ps 0 = "list"
      · rw [decide_eq_true (show V.str (nthS ps 0) = V.str "list" by rw [c3])]
        rw [if_pos c3] at hg
        refine iteT ?_
        cases size with
        | none =>
          unfold bodyE hd at hb
          rw [if_neg (by rw [c3]; decide +kernel), if_neg (by rw [c3]; decide +kernel)] at hb
          cases hb
        | some s =>
          refine ⟨_, rfl, _, rfl, _, _, rfl, rfl, ?_, rfl⟩
          rw [← hg]
          have : decide ((s : Int) < (b : Int)) = decide (s < b) := by rw [decide_eq_decide]; omega
          show [some (V.ref p), some (V.int (s : Int)), some (V.int (b : Int)), some (V.int (((ps.length + 1 : Nat) : Int) - 1)), some (V.bl (decide ((s : Int) < (b : Int)))), none, none, none] = _
          rw [this, estop]
          rfl
      · rw [decide_eq_false (show ¬ V.str (nthS ps 0) = V.str "list" from fun e => c3 (V.str.inj e))]
        rw [if_neg c3] at hg
        refine iteF ⟨_, rfl, _, rfl, _, _, rfl, rfl, ?_, rfl⟩
        rw [← hg]
        show [some (V.ref p), some (oN size), some (V.int (b : Int)), some (V.int (((ps.length + 1 : Nat) : Int) - 1)), some (V.bl (decide ((b : Int) < ((ps.length + 1 : Nat) : Int) - 1))), none, none, none] = _
        have : decide ((b : Int) < (ps.length : Int)) = decide (b < ps.length) := by rw [decide_eq_decide]; omega
        rw [estop, this]
    rintro σ' H' ⟨rfl, rfl⟩
    -- if goes_on
    refine ⟨fun σ' H3 => ∃ y5 y6, σ' = [some (.ref p), some (oN size), some (.int (b : Int)), some (.int (ps.length : Int)), some (.bl g), y5, y6, none] ∧ Same H H3 ∧ (g = true → endE ((ps ++ [sNoP]).drop b) sEnding = none), ?_, ?_⟩
    · cases g with
      | false => exact ⟨_, rfl, _, rfl, iteF ⟨none, none, rfl, s1, fun h => by cases h⟩⟩
      | true =>
        have hb500 := hok.1
        rw [if_pos rfl] at qN
        refine ⟨_, rfl, _, rfl, iteT ⟨_, rfl, a.a_ENDING, strsV sEnding, (b : Int), rfl, rfl, by omega, by omega, T.q_ENDING _, ?_⟩⟩
        refine for_it (walk_enumF (xs := strsV sEnding)) (fun j σ H3 => (∃ y5 y6, σ = [some (.ref p), some (oN size), some (.int (b : Int)), some (.int (ps.length : Int)), some (.bl true), y5, y6, none]) ∧ Same H H3 ∧ b + j ≤ ps.length ∧ endE ((ps ++ [sNoP]).drop b) sEnding = (endE ((ps ++ [sNoP]).drop (b + j)) (sEnding.drop j)).map (· + j)) ?h0 ?hG ?hs ?hd
        case h0 => exact ⟨⟨none, none, rfl⟩, s1, b1, by simp⟩
        case hG =>
          rintro j σ H3 hj ⟨⟨y5, y6, rfl⟩, _⟩
          exact T.q_ENDING _
        case hs =>
          rintro j v σ H3 H4 hj ⟨⟨y5, y6, rfl⟩, s3, hij, hch⟩ ⟨t, x1, x, rfl, nt, rfl, e1, e2⟩
          cases e1
          have hjk : j < sEnding.length := hj
          have e2 : (strsV sEnding)[j]? = some x := e2
          unfold strsV at e2
          rw [List.getElem?_map, List.getElem?_eq_getElem hjk] at e2
          cases e2
          have s4 := s3.trans (same_upd (o := .tup [.int ((b : Int) + (j : Nat)), .str sEnding[j]]) nt)
          have hat := strs_get (nth_get hij)
          rw [show ((b + j : Nat) : Int) = (b : Int) + (j : Nat) by omega] at hat
          have hst : endE ((ps ++ [sNoP]).drop (b + j)) (sEnding.drop j) = if nthS ps (b + j) = sEnding[j] then (endE ((ps ++ [sNoP]).drop (b + (j + 1))) (sEnding.drop (j + 1))).map (· + 1) else some 0 := by
            obtain ⟨h1, e1⟩ := List.getElem?_eq_some_iff.mp (nth_get hij)
            rw [List.drop_eq_getElem_cons h1, List.drop_eq_getElem_cons hjk, e1]
            rfl
          refine ⟨t, [.int ((b : Int) + (j : Nat)), .str sEnding[j]], rfl, SqT.at upd_same, rfl, _, [.str sEnding[j]], rfl, .str sEnding[j], [], rfl, rfl, ?_⟩
          refine ⟨_, rfl, _, rfl, p, _, _, _, rfl, rfl, SqL.at (s4 _ _ hp), hat, _, rfl, rfl, _, rfl, ?_⟩
          by_cases hpt : nthS ps (b + j) = sEnding[j]
          · rw [if_pos hpt] at hst
            have hne : b + j < ps.length := nth_lt hij (by
              rw [hpt]
              exact (by decide +kernel : ∀ z ∈ sEnding, z ≠ sNoP) _ (List.getElem_mem hjk))
            refine iteNS (by rw [hpt]) ?_
            refine ⟨⟨_, _, rfl⟩, s4, by omega, ?_⟩
            rw [hch, hst, Option.map_map]
            congr 1
            funext n
            show n + 1 + j = n + (j + 1)
            omega
          · rw [if_neg hpt] at hst
            have e : decide (V.str (nthS ps (b + j)) = V.str sEnding[j]) = false := decide_eq_false fun e => hpt (V.str.inj e)
            rw [e]
            have hin : endE ((ps ++ [sNoP]).drop b) sEnding = some j := by
              rw [hch, hst]
              show some (0 + j) = some j
              rw [Nat.zero_add]
            rw [hin] at qN
            refine iteT ⟨_, rfl, (by decide : 1 ≤ 1000), err_end s4 (fun H6 d s' ed => qN (b + j) rfl H6 d s' ?_)⟩
            rw [ed, show ((b + j : Nat) : Int) = (b : Int) + (j : Nat) by omega]
        case hd =>
          rintro σ H3 ⟨⟨y5, y6, rfl⟩, s3, hij, hch⟩
          exact ⟨y5, y6, rfl, s3, fun _ => by
            rw [hch, show (strsV sEnding).length = 3 from by decide +kernel]
            have en : ∀ l, endE l [] = none := fun l => by cases l <;> rfl
            show Option.map _ (endE _ []) = none
            rw [en]
            rfl⟩
    rintro σ' H3 ⟨y5, y6, rfl, s3, hend⟩
    cases g with
    | false =>
      rw [if_neg (by decide)] at qY qN
      refine ⟨_, rfl, _, rfl, iteF ⟨_, rfl, ?_⟩⟩
      refine ⟨_, rfl, _, rfl, _, _, rfl, rfl, _, rfl, ?_⟩
      by_cases hc : b < ps.length
      · rw [if_pos hc] at qN
        rw [decide_eq_true (show (b : Int) < (ps.length : Int) by omega)]
        exact iteT ⟨_, rfl, (by decide : 1 ≤ 1000), err_end s3 (fun H6 d s' ed => qN b rfl H6 d s' ed)⟩
      · rw [if_neg hc] at qY
        rw [decide_eq_false (show ¬ (b : Int) < (ps.length : Int) by omega)]
        refine iteF ⟨_, rfl, _, rfl, sz (show 2 ≤ 100000 by decide), fun o no => ?_⟩
        exact qY b false rfl o _ (s3.free no) upd_same (s3.trans (same_upd no))
    | true =>
      rw [if_pos rfl, hend rfl] at qY qN
      dsimp only at qY qN
      refine ⟨_, rfl, _, rfl, iteT ⟨_, rfl, a.a_ENDING, strsV sEnding, rfl, .inr (T.q_ENDING _), _, _, rfl, rfl, ?_⟩⟩
      refine ⟨_, rfl, _, rfl, _, _, rfl, rfl, _, rfl, ?_⟩
      have hl3 : (strsV sEnding).length = 3 := by decide +kernel
      rw [hl3]
      by_cases hc : b + 3 < ps.length
      · rw [if_pos hc] at qN
        rw [decide_eq_true (show (b : Int) + ((3 : Nat) : Int) < (ps.length : Int) by omega)]
        refine iteT ⟨_, rfl, (by decide : 1 ≤ 1000), err_end s3 (fun H6 d s' ed => qN (b + 3) rfl H6 d s' ?_)⟩
        rw [ed]
        rfl
      · rw [if_neg hc] at qY
        rw [decide_eq_false (show ¬ (b : Int) + ((3 : Nat) : Int) < (ps.length : Int) by omega)]
        refine iteF ⟨_, rfl, _, rfl, sz (show 2 ≤ 100000 by decide), fun o no => ?_⟩
        exact qY b true rfl o _ (s3.free no) upd_same (s3.trans (same_upd no))
theorem chkP_take : ∀ {t ks : List Str} (r : List Str), chkP t ks = none → chkP (t.take ks.length ++ r) ks = none ∧ (t.take ks.length).length = ks.length
  | t, [], r, _ => ⟨by unfold chkP; rfl, by simp⟩
  | [], k :: ks, r, h => by cases h
  | z :: zs, k :: ks, r, h => by
    have e : chkP (z :: zs) (k :: ks) = if ptM z k = true then (chkP zs ks).map (· + 1) else some 0 := rfl
    rw [e] at h
    by_cases hp : ptM z k = true
    · rw [if_pos hp] at h
      obtain ⟨h1, h2⟩ := chkP_take r (Option.map_eq_none_iff.mp h)
      rw [List.length_cons, List.take_succ_cons]
      refine ⟨?_, by rw [List.length_cons, h2]⟩
      show (if ptM z k = true then (chkP (zs.take ks.length ++ r) ks).map (· + 1) else some 0) = none
      rw [if_pos hp, h1]
      rfl
    · rw [if_neg hp] at h
      cases h
theorem mvE_take {l m : List Str} {may : Bool} (r : List Str) (h : mvE l may = .inr m) : mvE (m ++ r) may = .inr m := by
  cases l with
  | nil => cases h
  | cons x t =>
    rw [mvE_cons] at h
    cases hs : shp x with
    | none =>
      rw [hs] at h
      cases h
    | some ks =>
      rw [hs] at h
      by_cases c : (decide (x = "turn") && !may) = true
      · simp only [c, if_true] at h
        cases h
      · rw [Bool.not_eq_true] at c
        simp only [c] at h
        cases hc : chkP t ks with
        | some j =>
          rw [hc] at h
          cases h
        | none =>
          rw [hc] at h
          have h : x :: t.take ks.length = m := Sum.inr.inj h
          obtain ⟨h1, h2⟩ := chkP_take r hc
          rw [← h, List.cons_append, mvE_cons, hs]
          simp only [c]
          rw [h1]
          show Sum.inr (x :: (t.take ks.length ++ r).take ks.length) = _
          rw [List.take_append_of_le_length (by omega), List.take_of_length_le (by omega)]
theorem mvsE_tail {r : List Str} (hr : r.head? ≠ some ("then" : Str)) : ∀ {n : Nat} {ps : List Str} {k : Nat} {may : Bool} {ms : List (List Str)} {c : Nat}, k ≤ ps.length → mvsE n ((ps ++ [sNoP]).drop k) may = .inr (ms, c) → mvsE n (wpS ms ++ r) may = .inr (ms, c)
  | 0, ps, k, may, ms, c, _, h => by cases h
  | n + 1, ps, k, may, ms, c, hk, h => by
    rw [mvsE_succ] at h ⊢
    cases hm : mvE ((ps ++ [sNoP]).drop k) may with
    | inl j =>
      rw [hm] at h
      cases h
    | inr m =>
      rw [hm] at h
      dsimp only at h
      obtain ⟨m1, m2, m3⟩ := mvE_inr hk hm
      by_cases hc : n = 0 ∨ (((ps ++ [sNoP]).drop k).drop m.length).head? ≠ some ("then" : Str)
      · rw [if_pos hc] at h
        cases h
        rw [show wpS [m] = m from rfl, mvE_take r hm]
        dsimp only
        rw [List.drop_left, if_pos (.inr hr)]
      · rw [if_neg hc] at h
        rw [List.drop_drop, List.drop_drop] at h
        have hth : (((ps ++ [sNoP]).drop k).drop m.length).head? = some ("then" : Str) := Classical.byContradiction fun z => hc (.inr z)
        rw [List.drop_drop, List.head?_drop] at hth
        have hlt : k + m.length < ps.length := by
          rcases Nat.lt_or_ge (k + m.length) ps.length with q | q
          · exact q
          · have e : k + m.length = ps.length := by omega
            rw [e, List.getElem?_append_right (Nat.le_refl _), Nat.sub_self] at hth
            have e2 := Option.some.inj hth
            exact absurd e2 (by decide +kernel)
        cases hr2 : mvsE n ((ps ++ [sNoP]).drop (k + (m.length + 1))) (may && !decide (m = [("turn" : Str)])) with
        | inl j =>
          rw [hr2] at h
          cases h
        | inr q =>
          obtain ⟨ms', c'⟩ := q
          rw [hr2] at h
          cases h
          obtain ⟨r1, r2, r3, r4, r5⟩ := mvsE_le (by omega) hr2
          have ih := mvsE_tail hr (by omega) hr2
          have ew : wpS (m :: ms') ++ r = m ++ (sThen :: (wpS ms' ++ r)) := by
            cases ms' with
            | nil => exact absurd rfl r3
            | cons a b =>
              show (m ++ sThen :: wpS (a :: b)) ++ r = _
              rw [List.append_assoc]
              rfl
          have hn : n ≠ 0 := fun e => hc (.inl e)
          rw [ew, mvE_take _ hm]
          dsimp only
          rw [List.drop_left, if_neg (fun z => z.elim hn fun z => z rfl)]
          show (match mvsE n (wpS ms' ++ r) (may && !decide (m = [("turn" : Str)])) with
            | .inl j => .inl (m.length + 1 + j)
            | .inr (ms, c) => .inr (m :: ms, m.length + 1 + c) : Nat ⊕ (List (List Str) × Nat)) = _
          rw [ih]
theorem mvsE_take {n : Nat} {ps : List Str} {k : Nat} {may : Bool} {ms : List (List Str)} {c : Nat} (hk : k ≤ ps.length) (h : mvsE n ((ps ++ [sNoP]).drop k) may = .inr (ms, c)) : mvsE n (wpS ms ++ [sNoP]) may = .inr (ms, c) :=
  mvsE_tail (by decide +kernel) hk h
theorem wrdE_take {ps : List Str} {k : Nat} {ms : List (List Str)} {c : Nat} (hk : k ≤ ps.length) (h : mvsE 4 ((ps ++ [sNoP]).drop k) true = .inr (ms, c)) : wrdE (wpS ms) = .inr ms := by
  obtain ⟨r1, r2, r3, r4, r5⟩ := mvsE_le hk h
  unfold wrdE
  rw [mvsE_take hk h]
  dsimp only
  rw [if_neg (by omega)]
def LevelS (C : Addr) (H : Hp) (p : Addr) (z : Str) : Prop := ∃ dx fs, H p = some (.ins C dx fs) ∧ fs.lookup ("text" : Str) = some (.str z)
theorem lkN {f g : Str} {v r : V} {fs : List (Str × V)} (h : fs.lookup f = some r) (ne : f ≠ g) : (putF g v fs).lookup f = some r := by
  rw [lookup_putF, if_neg ne]
  exact h
theorem lkP {f : Str} {v : V} {fs : List (Str × V)} : (putF f v fs).lookup f = some v := by
  rw [lookup_putF, if_pos rfl]
theorem putF_le (f : Str) (v : V) : ∀ fs : List (Str × V), (putF f v fs).length ≤ fs.length + 1
  | [] => Nat.le_refl _
  | (g, y) :: r => by
    unfold putF
    by_cases h : g = f
    · simp [h]
    · have := putF_le f v r
      simp [h]
      try omega
theorem figs_FS : ∀ z ∈ FS, figM fronts2 z = true → (intText? z).isSome = true := by decide +kernel
theorem lNums_FS : ∀ i : Fin 12, (intText? (sN i.val)).isSome = true ∧ (sN i.val).length ≤ 100 := by decide +kernel
theorem lNums_int {s : Nat} (hs : s ≤ 12) {z : Str} (h : z ∈ lNums s) : (∃ n, intText? z = some n) ∧ z.length ≤ 100 := by
  obtain ⟨i, hi, rfl⟩ := List.mem_map.mp h
  rw [List.mem_range] at hi
  obtain ⟨h1, h2⟩ := lNums_FS ⟨i, by omega⟩
  exact ⟨Option.isSome_iff_exists.mp h1, h2⟩
theorem lvlE_body {ps : List Str} {size : Option Nat} {b : Nat} {g : Bool} (h : lvlE ps size = .inr (b, g)) : bodyE ps size = .inr b := by
  unfold lvlE at h
  cases hb : bodyE ps size with
  | inl j =>
    rw [hb] at h
    cases h
  | inr c =>
    rw [hb] at h
    dsimp only at h
    split at h
    · split at h
      · cases h
      · split at h
        · cases h
        · cases h
          rfl
    · split at h
      · cases h
      · cases h
        rfl
theorem cut_strs {ps : List Str} {b : Nat} (h1 : 1 ≤ ps.length) (hb : b ≤ ps.length) : cutV (strsV ps) (some 1) (some (b : Int)) = strsV ((ps.drop 1).take (b - 1)) := by
  have hsl : (strsV ps).length = ps.length := List.length_map ..
  show cutV (strsV ps) (some ((1 : Nat) : Int)) (some (b : Int)) = _
  unfold cutV
  rw [HT.sIx_nat, HT.sIx_nat, hsl, Nat.min_eq_left (by omega), Nat.min_eq_left (by omega)]
  unfold strsV
  rw [← List.map_drop, ← List.map_take]
/-- fields that an instance has -/
def FsK (ks : List Str) (vs : List V) (n : Nat) (fs : List (Str × V)) : Prop := fs.length ≤ n ∧ (∀ (i : Nat) (k : Str) (v : V), ks[i]? = some k → vs[i]? = some v → fs.lookup k = some v) ∧ ∀ k, k ∉ ks → fs.lookup k = none
theorem lkO {f g : Str} {v : V} {fs : List (Str × V)} (h : fs.lookup f = none) (ne : f ≠ g) : (putF g v fs).lookup f = none := by
  rw [lookup_putF, if_neg ne]
  exact h
theorem FsK.put {ks : List Str} {vs : List V} {n : Nat} {fs : List (Str × V)} (h : FsK ks vs n fs) (f : Str) (v : V) (hk : f ∉ ks) : FsK (f :: ks) (v :: vs) (n + 1) (putF f v fs) :=
  ⟨Nat.le_trans (putF_le f v fs) (Nat.succ_le_succ h.1), fun i k x hi hx => by
    cases i with
    | zero =>
      cases hi
      cases hx
      exact lkP
    | succ i =>
      have hi : ks[i]? = some k := by simpa using hi
      have hx : vs[i]? = some x := by simpa using hx
      exact lkN (h.2.1 i k x hi hx) fun e => hk (e ▸ List.mem_of_getElem? hi), fun k hk2 => lkO (h.2.2 k fun z => hk2 (List.mem_cons_of_mem _ z)) fun e => hk2 (e ▸ List.mem_cons_self ..)⟩
theorem FsK.nil : FsK [] [] 0 [] := ⟨Nat.le_refl _, fun i k v h => by simp at h, fun _ _ => rfl⟩
def lvKeys : List Str := ["entries", "place", "factor", "word", "to_end", "kind", "text"]
theorem WordS.offI {CW C p x dx : Addr} {H : Hp} {fs : List (Str × V)} {o : HO} {z : Str} {ms : List (List Str)} (hp : H p = some (.ins C dx fs)) (h : WordS CW H x z ms) (ne : x ≠ p) : WordS CW (upd H p o) x z ms := by
  obtain ⟨dy, t, rs, h1, h2, h3⟩ := h
  exact ⟨dy, t, rs, by rw [upd_ne ne]; exact h1, by rw [upd_ne (ne_of h2 hp (by intro z; cases z))]; exact h2, h3.offI hp⟩
/-- word, factor, place and entries of a level with these parts, whose body ends at b -/
def LvIs (CW : Addr) (H : Hp) (ps : List Str) (b : Nat) (w fa pl en : V) : Prop :=
  (nthS ps 0 = "same" ∧ ∃ a ms c, mvsE 4 ((ps ++ [sNoP]).drop 1) true = .inr (ms, c) ∧ w = .ref a ∧ WordS CW H a (Txt.join " " (wpS ms)) ms ∧ fa = .non ∧ pl = .non ∧ en = .non) ∨
  (nthS ps 0 = "along" ∧ ∃ n, intText? (nthS ps 1) = some n ∧ w = .non ∧ fa = .int n ∧ pl = .str (nthS ps 2) ∧ en = .non) ∨
  (nthS ps 0 ≠ "same" ∧ nthS ps 0 ≠ "along" ∧ ∃ t, en = .ref t ∧ H t = some (.tup (((ps.drop 1).take (b - 1)).map fun y => V.int ((intText? y).getD 0))) ∧ (∀ y ∈ (ps.drop 1).take (b - 1), (intText? y).isSome = true) ∧ w = .non ∧ fa = .non ∧ pl = .non)
/-- a level stands at p -/
def LevelF (C CW : Addr) (H : Hp) (p : Addr) (z : Str) (ps : List Str) (b : Nat) (g : Bool) : Prop := ∃ dx fs w fa pl en, H p = some (.ins C dx fs) ∧ fs.lookup ("text" : Str) = some (.str z) ∧ fs.lookup ("kind" : Str) = some (.str (nthS ps 0)) ∧ fs.lookup ("to_end" : Str) = some (.bl g) ∧
  fs.lookup ("word" : Str) = some w ∧ fs.lookup ("factor" : Str) = some fa ∧ fs.lookup ("place" : Str) = some pl ∧ fs.lookup ("entries" : Str) = some en ∧ (∀ k, k ∉ lvKeys → fs.lookup k = none) ∧ LvIs CW H ps b w fa pl en
def spLevelInit (C CW0 CW CS : Addr) : Sp := fun vs H Q E => ∃ (p dx : Addr) (z : Str) (sv : V), vs = [.ref p, .str z, sv] ∧ H p = some (.ins C dx []) ∧
  ((∃ size ps, sv = oN size ∧ SizeOk size ∧ Txt.split z " " = ps ∧ 1 ≤ ps.length ∧ ps.length ≤ 500 ∧ (∀ y ∈ ps, y ∈ FS) ∧ z.length ≤ 90000 ∧
    (∀ b g, lvlE ps size = .inr (b, g) → ∀ H', LevelF C CW0 H' p z ps b g → (∀ b o, H b = some o → b ≠ p → H' b = some o) → Q .non H') ∧
    (∀ j, lvlE ps size = .inl j → ∀ H' d, Same H H' → H' d = some (.xd [("index", .int ((j : Nat) : Int))]) → E (.ref CW) (some d) H')) ∨
   (∃ ib, IsI H sv ib ∧ sv ≠ .non ∧ btM 2 12 sv = false ∧ ∀ H' d, Same H H' → H' d = some (.xd [("size", sv)]) → E (.ref CS) (some d) H'))
theorem ok_Level_init (T : Tx w K mg a) : FnOk P w K mg base (L2.CX P w) 8 a.f_Level_init a.d_Level_init ["self", "text", "size"] (spLevelInit a.C_Level a.C_Word a.C_BadWord a.C_BadSize) := by
  refine T.F_Level_init.ok sc_Level_init (fun vs H Q E h => ?_) (fun cdv A outer s H vs Q E hr h => ?_)
  · obtain ⟨p, dx, z, sv, rfl, _⟩ := h
    rfl
  · obtain ⟨p, dx, z, sv, rfl, hp, hh⟩ := h
    refine ⟨_, 
(C8.pss_cut (ps_if (PW.pt (pw_and (pt_cmpR op_notN (pv 2) pe_non (nomark _)) (pw_and1 (pt_not (pt_val (pe_call (ok_is_between T) (hr.mono (by decide)) (by rfl) T.m_is_between T.F_is_between.kp T.b_is_between .nil pass0 (pa_cons (pv 2) (pa_cons (pe_glob (v := .int 2) (by rfl) T.m_LEAST_SINGLE.choose_spec ⟨_, rfl⟩) (pa_cons (pe_glob (v := .int 12) (by rfl) T.m_MOST_SINGLE.choose_spec ⟨_, rfl⟩) pa_nil)))))))))
  (pss_one (ps_raise rfl (takes_of rfl rfl rfl rfl) (pmk_oex T.ox_BadSize.o T.ox_BadSize.ini T.ox_BadSize.tin (ok_BadSize_init T) (hr.mono (by decide)) T.b_BadSize_init .nil pass0 (by rfl) T.c_BadSize (pa_cons (pv 2) pa_nil))))
  pss_nil)
  (pss_cons (ps_set (i := 3) sc_Level_init.nd rfl (.inl rfl) (pe_split (pv 1) pe_str))
  (pss_cons (ps_asg (pe_callS (ok_read_level T) hr (by rfl) T.m_read_level T.F_read_level.kp T.b_read_level (fun σ => passAt (takes_of rfl rfl rfl rfl) σ) (pa_cons (pe_lst (StX.pa_star (pv 3) (pa_cons (pe_glob (v := .str "") (by rfl) T.m_NO_PART.choose_spec ⟨_, rfl⟩) pa_nil))) (pa_cons (pv 2) pa_nil))) (pg_tup rfl (pgs_cons (pg_name (i := 4) sc_Level_init.nd rfl (.inl rfl)) (pgs_cons (pg_name (i := 5) sc_Level_init.nd rfl (.inl rfl)) pgs_nil))))
  (pss_cons (ps_fld (pv 0) (pv 1) rfl)
  (pss_cons (ps_fld (pv 0) (pe_ix ix_list (pv 3) pe_int (fun _ _ => rfl)) rfl)
  (pss_cons (ps_fld (pv 0) (pv 5) rfl)
  (pss_cons (ps_fld (pv 0) pe_non rfl)
  (pss_cons (ps_fld (pv 0) pe_non rfl)
  (pss_cons (ps_fld (pv 0) pe_non rfl)
  (pss_cons (ps_fld (pv 0) pe_non rfl)
  (pss_one (ps_if (pt_cmpR op_eq (pe_fld (pv 0) rfl) pe_str (nomark _))
  (pss_one (ps_fld (pv 0) (pe_makeS T.mk_Word (ok_Word_init T) hr (by rfl) T.c_Word T.b_Word_init .nil (takes_of rfl rfl rfl rfl) (pa_cons (pe_join pe_str (pe_slice sl_list (pv 3) (po_some pe_int) (po_some (pv 4)))) pa_nil)) rfl))
  (pss_one (ps_if (pt_cmpR op_eq (pe_fld (pv 0) rfl) pe_str (nomark _))
  (pss_cons (ps_fld (pv 0) (pe_callTy call_int_str (by rfl) T.z_int (by decide +kernel) (pa_cons (pe_ix ix_list (pv 3) pe_int (fun _ _ => rfl)) pa_nil)) rfl)
  (pss_one (ps_fld (pv 0) (pe_ix ix_list (pv 3) pe_int (fun _ _ => rfl)) rfl)))
  (pss_one (ps_fld (pv 0) (pe_callTy call_tuple_of (by rfl) T.z_tuple (by decide +kernel) (pa_cons (pe_lc (own := [("part", 6)]) (g := gName 6) rfl sc_Level_init.nd (pi_list (pe_slice sl_list (pv 3) (po_some pe_int) (po_some (pv 4)))) (blkOk_by (own := [("part", 6)]) (N := ["self", "text", "size", "parts", "behind", "goes_on", "part"]) (sc := defScope s_Level_init) (by decide +kernel)) (fun _ _ _ _ _ => pg_name (i := 6) sc_Level_init.nd rfl (Or.inl rfl)) (fun _ _ _ _ _ => pts_nil) (fun _ _ _ _ _ => (pe_callTy call_int_str (by rfl) T.z_int (by decide +kernel) (pa_cons (pv 6) pa_nil)))) pa_nil)) rfl)))))))))))))))), ?_⟩
    rcases hh with ⟨size, ps, rfl, hsz, hsp, h1, hl5, hF, hzl, qY, qN⟩ | ⟨ib, hI, hnn, hbt, hE⟩
    rotate_left
    · refine ⟨fun _ _ => False, ?_, fun _ _ h => h.elim⟩
      refine ⟨_, rfl, rfl, _, rfl, ?_⟩
      rw [decide_eq_false hnn]
      refine ⟨_, rfl, sv, ib, 2, 12, rfl, hI, _, rfl, ?_⟩
      rw [hbt]
      exact ⟨_, rfl, (by decide : 1 ≤ 1000), err_end (Same.refl H) hE⟩
    have hok := FS_ok hF hl5
    refine ⟨fun σ' H' => σ' = [some (.ref p), some (.str z), some (oN size), none, none, none, none] ∧ H' = H, ?_, ?_⟩
    · refine ⟨_, rfl, rfl, _, rfl, ?_⟩
      cases size with
      | none => exact ⟨rfl, rfl⟩
      | some n =>
        refine ⟨_, rfl, .int (n : Int), true, 2, 12, rfl, .int _, _, rfl, ?_⟩
        have e : btM 2 12 (.int (n : Int)) = true := by
          have := hsz.1
          have := hsz.2
          simp only [btM, Bool.and_eq_true, decide_eq_true_eq]
          omega
        rw [e]
        exact ⟨rfl, rfl⟩
    rintro σ' H' ⟨rfl, rfl⟩
    -- parts = text.split(' ')
    refine ⟨.str z, rfl, ⟨_, rfl⟩, z, " ", rfl, rfl, (by decide +kernel), sz (by omega), fun l nl => ?_⟩
    rw [hsp]
    have s1 := same_upd (o := .lst (ps.map V.str)) nl
    have hl1 : (upd H' l (.lst (ps.map V.str))) l = some (.lst (ps.map V.str)) := upd_same
    have hp1 := s1 _ _ hp
    generalize upd H' l (.lst (ps.map V.str)) = H1 at s1 hl1 hp1 ⊢
    -- behind, goes_on = read_level([*parts, NO_PART], size)
    refine ⟨.ref l, rfl, l, _, rfl, .inr (SqL.at hl1), sz (by simp; omega), fun l2 nl2 => ?_⟩
    have s2 := same_upd (o := .lst (ps.map V.str ++ [.str ""])) nl2
    have hl2 : (upd H1 l2 (.lst (ps.map V.str ++ [.str ""]))) l2 = some (.lst (strsV (ps ++ [sNoP]))) := by
      rw [upd_same]
      unfold strsV
      rw [List.map_append]
      rfl
    generalize upd H1 l2 (.lst (ps.map V.str ++ [.str ""])) = H2 at s2 hl2 ⊢
    refine ⟨_, rfl, l2, ps, size, rfl, hl2, h1, hok, hsz, fun b g hbg o H3 no ho s3 => ?_, fun j hj H3 d s3 ed => ?_⟩
    rotate_left
    · exact qN j hj H3 d (s1.trans (s2.trans s3)) ed
    refine ⟨o, [.int (b : Int), .bl g], rfl, SqT.at ho, rfl, _, [.bl g], rfl, _, [], rfl, rfl, ?_⟩
    have s13 := s2.trans s3
    have hl3 := s13 _ _ hl1
    have hp3 := s13 _ _ hp1
    have s03 := s1.trans s13
    have hbo := lvlE_body hbg
    obtain ⟨b1, b2⟩ := bodyE_le hsz h1 hbo
    have qY := qY _ _ hbg
    have npl : l ≠ p := ne_of hl3 hp3 (by intro z; cases z)
    have g0 : atI (ps.map V.str) ((0 : Nat) : Int) = some (.str (nthS ps 0)) := atI_nat (by
      have := nth_get (Nat.zero_le ps.length)
      rw [List.getElem?_append_left h1] at this
      rw [List.getElem?_map, this]
      rfl)
    clear hl2
    -- self.text = text; self.kind = parts[0]; self.to_end = goes_on
    refine ⟨.str z, rfl, .ref p, rfl, p, a.C_Level, dx, [], rfl, hp3, T.cl_Level, T.n_Level_text, (show 0 < 1000 by decide), ?_⟩
    have hlA : (upd H3 p (.ins a.C_Level dx (putF "text" (.str z) []))) l = some (.lst (ps.map V.str)) := by
      rw [upd_ne npl]
      exact hl3
    refine ⟨.ref l, rfl, l, _, _, _, rfl, rfl, SqL.at hlA, g0, .ref p, rfl, p, a.C_Level, dx, _, rfl, upd_same, T.cl_Level, T.n_Level_kind, (show 1 < 1000 by decide), ?_⟩
    rw [upd_upd]
    have k2 : FsK ["kind", "text"] [.str (nthS ps 0), .str z] 2 (putF "kind" (.str (nthS ps 0)) (putF "text" (.str z) [])) := (FsK.nil.put "text" (.str z) (by decide +kernel)).put "kind" (.str (nthS ps 0)) (by decide +kernel)
    generalize (putF "kind" (.str (nthS ps 0)) (putF "text" (.str z) [])) = f2 at k2 ⊢
    refine ⟨.bl g, rfl, .ref p, rfl, p, a.C_Level, dx, _, rfl, upd_same, T.cl_Level, T.n_Level_to_end, (by have := k2.1; omega), ?_⟩
    rw [upd_upd]
    have k3 := k2.put "to_end" (.bl g) (by decide +kernel)
    generalize (putF "to_end" (.bl g) f2) = f3 at k3 ⊢
    refine ⟨.ref p, rfl, p, a.C_Level, dx, _, rfl, upd_same, T.cl_Level, T.n_Level_word, (by have := k3.1; omega), ?_⟩
    rw [upd_upd]
    have k4 := k3.put "word" .non (by decide +kernel)
    generalize (putF "word" .non f3) = f4 at k4 ⊢
    refine ⟨.ref p, rfl, p, a.C_Level, dx, _, rfl, upd_same, T.cl_Level, T.n_Level_factor, (by have := k4.1; omega), ?_⟩
    rw [upd_upd]
    have k5 := k4.put "factor" .non (by decide +kernel)
    generalize (putF "factor" .non f4) = f5 at k5 ⊢
    refine ⟨.ref p, rfl, p, a.C_Level, dx, _, rfl, upd_same, T.cl_Level, T.n_Level_place, (by have := k5.1; omega), ?_⟩
    rw [upd_upd]
    have k6 := k5.put "place" .non (by decide +kernel)
    generalize (putF "place" .non f5) = f6 at k6 ⊢
    refine ⟨.ref p, rfl, p, a.C_Level, dx, _, rfl, upd_same, T.cl_Level, T.n_Level_entries, (by have := k6.1; omega), ?_⟩
    rw [upd_upd]
    have k7 := k6.put "entries" .non (by decide +kernel)
    generalize (putF "entries" .non f6) = fs at k7 ⊢
    have kl := k7.1
    have x0 : fs.lookup ("entries" : Str) = some .non := k7.2.1 0 _ _ rfl rfl
    have x1 : fs.lookup ("place" : Str) = some .non := k7.2.1 1 _ _ rfl rfl
    have x2 : fs.lookup ("factor" : Str) = some .non := k7.2.1 2 _ _ rfl rfl
    have x3 : fs.lookup ("word" : Str) = some .non := k7.2.1 3 _ _ rfl rfl
    have x4 : fs.lookup ("to_end" : Str) = some (.bl g) := k7.2.1 4 _ _ rfl rfl
    have x5 : fs.lookup ("kind" : Str) = some (.str (nthS ps 0)) := k7.2.1 5 _ _ rfl rfl
    have x6 : fs.lookup ("text" : Str) = some (.str z) := k7.2.1 6 _ _ rfl rfl
    have xo : ∀ k, k ∉ lvKeys → fs.lookup k = none := k7.2.2
    clear k7
    clear k2 k3 k4 k5 k6 hlA
    have hF7 : ∀ t u, H' t = some u → t ≠ p → (upd H3 p (.ins a.C_Level dx fs)) t = some u := fun t u e ne => by
      rw [upd_ne ne]
      exact s03 _ _ e
    have hl7 : (upd H3 p (.ins a.C_Level dx fs)) l = some (.lst (ps.map V.str)) := by
      rw [upd_ne npl]
      exact hl3
    have hp7 : (upd H3 p (.ins a.C_Level dx fs)) p = some (.ins a.C_Level dx fs) := upd_same
    generalize upd H3 p (.ins a.C_Level dx fs) = H7 at hF7 hl7 hp7 ⊢
    have hcut := cut_strs h1 b1
    -- if self.kind == 'same'
    refine ⟨.ref p, rfl, p, a.C_Level, dx, fs, _, rfl, hp7, T.cl_Level, T.n_Level_kind, x5, rfl, _, rfl, ?_⟩
    have hbo2 := hbo
    unfold bodyE hd at hbo
    by_cases c1 : nthS ps 0 = "same"
    · rw [decide_eq_true (show V.str (nthS ps 0) = V.str "same" by rw [c1])]
      rw [if_pos c1] at hbo
      cases hm : mvsE 4 ((ps ++ [sNoP]).drop 1) true with
      | inl j =>
        rw [hm] at hbo
        cases hbo
      | inr q =>
      obtain ⟨ms, c⟩ := q
      rw [hm] at hbo
      dsimp only at hbo
      have hbc : 1 + c = b := Sum.inr.inj hbo
      obtain ⟨r1, r2, r3, r4, r5⟩ := mvsE_le h1 hm
      have hw := wrdE_take h1 hm
      have hsl : (ps.drop 1).take (b - 1) = wpS ms := by rw [← hbc, Nat.add_sub_cancel_left]; exact r2
      have hwF : ∀ y ∈ wpS ms, y ∈ FS := fun y hy => by
        rw [← hsl] at hy
        exact hF y (List.mem_of_mem_drop (List.mem_of_mem_take hy))
      have hwl : (wpS ms).length ≤ 500 := by
        rw [← r5]
        omega
      have hwne : wpS ms ≠ [] := fun e => by
        obtain ⟨j, ej⟩ : ∃ j, mvsE 4 (wpS ms ++ [sNoP]) true = .inl j := by
          rw [e]
          exact ⟨0, by decide +kernel⟩
        rw [mvsE_take h1 hm] at ej
        cases ej
      refine iteT ⟨⟨_, rfl⟩, .ref l, rfl, _, rfl, _, rfl, _, rfl, l, _, rfl, SqL.at hl7, fun o2 no2 => ?_⟩
      have hcut : cutV (ps.map V.str) (some 1) (some (b : Int)) = (wpS ms).map V.str := by
        rw [← hsl]
        exact hcut
      rw [hcut]
      have s8 := same_upd (o := .lst ((wpS ms).map V.str)) no2
      have he : (upd H7 o2 (.lst ((wpS ms).map V.str))) o2 = some (.lst ((wpS ms).map V.str)) := upd_same
      generalize upd H7 o2 (.lst ((wpS ms).map V.str)) = H8 at s8 he ⊢
      have hwn : ∀ y ∈ wpS ms, y.length ≤ 100 := fun y hy => (FS_chk (hwF y hy)).2.2.1
      have hjl := join_len (zs := wpS ms) hwn
      refine ⟨" ", o2, wpS ms, rfl, rfl, .inl (SqL.at he), join_size hwn (by omega), fun x dx2 nx ndx nxd => ?_⟩
      have hold8 : ∀ t u, H8 t = some u → (upd (upd H8 dx2 (.own x)) x (.ins a.C_Word dx2 [])) t = some u := fun t u e => by
        rw [upd_ne (ne_of_none e nx), upd_ne (ne_of_none e ndx)]
        exact e
      refine ⟨x, dx2, Txt.join " " (wpS ms), wpS ms, rfl, upd_same, split_FS hwne hwF, FS_ok hwF hwl, by omega, fun ms' hm' H9 hW hold => ?_, fun j hj => ?_⟩
      · have h9p := hold p _ (hold8 p _ (s8 _ _ hp7)) (ne_of_none (s8 _ _ hp7) nx)
        refine ⟨rfl, .ref p, rfl, p, a.C_Level, dx, fs, rfl, h9p, T.cl_Level, T.n_Level_word, (by omega), ?_⟩
        have hxp : x ≠ p := (ne_of_none (s8 _ _ hp7) nx).symm
        have hwm : ms' = ms := by
          rw [hw] at hm'
          exact (Sum.inr.inj hm').symm
        subst hwm
        refine qY _ ⟨dx, _, _, _, _, _, upd_same, lkN x6 (by decide +kernel), lkN x5 (by decide +kernel), lkN x4 (by decide +kernel), lkP, lkN x2 (by decide +kernel), lkN x1 (by decide +kernel), lkN x0 (by decide +kernel), (fun k hk => lkO (xo k hk) fun e => hk (e ▸ (by decide +kernel))), .inl ⟨c1, x, _, c, hm, rfl, hW.offI h9p hxp, rfl, rfl, rfl⟩⟩ fun t u e ne => ?_
        rw [upd_ne ne]
        have e8 := s8 _ _ (hF7 t u e ne)
        exact hold t u (hold8 t u e8) (ne_of_none e8 nx)
      · rw [hw] at hj
        cases hj
    rw [decide_eq_false (show ¬ V.str (nthS ps 0) = V.str "same" from fun e => c1 (V.str.inj e))]
    rw [if_neg c1] at hbo
    refine iteF ⟨.ref p, rfl, p, a.C_Level, dx, fs, _, rfl, hp7, T.cl_Level, T.n_Level_kind, x5, rfl, _, rfl, ?_⟩
    by_cases c2 : nthS ps 0 = "along"
    · rw [decide_eq_true (show V.str (nthS ps 0) = V.str "along" by rw [c2])]
      rw [if_pos c2] at hbo
      by_cases f1 : figM fronts2 (nthS ps 1) = true
      rotate_left
      · rw [if_neg f1] at hbo
        cases hbo
      rw [if_pos f1] at hbo
      by_cases f2 : ipM (nthS ps 2) = true
      rotate_left
      · rw [if_neg f2] at hbo
        cases hbo
      rw [if_pos f2] at hbo
      have hb3 : 3 = b := Sum.inr.inj hbo
      have gk : ∀ k, k < ps.length → nthS ps k ∈ ps ∧ atI (ps.map V.str) ((k : Nat) : Int) = some (.str (nthS ps k)) := fun k hk => by
        have := nth_get (Nat.le_of_lt hk)
        rw [List.getElem?_append_left hk] at this
        exact ⟨List.mem_of_getElem? this, atI_nat (by
          rw [List.getElem?_map, this]
          rfl)⟩
      obtain ⟨m1, g1⟩ := gk 1 (by omega)
      obtain ⟨m2, g2⟩ := gk 2 (by omega)
      obtain ⟨n, hn⟩ := Option.isSome_iff_exists.mp (figs_FS _ (hF _ m1) f1)
      have hl1' := (FS_chk (hF _ m1)).2.2.1
      refine iteT ⟨.ref l, rfl, l, _, _, _, rfl, rfl, SqL.at hl7, g1, nthS ps 1, n, rfl, hn, by omega, .ref p, rfl, p, a.C_Level, dx, fs, rfl, hp7, T.cl_Level, T.n_Level_factor, (by omega), ?_⟩
      have hlA : (upd H7 p (.ins a.C_Level dx (putF "factor" (.int n) fs))) l = some (.lst (ps.map V.str)) := by
        rw [upd_ne npl]
        exact hl7
      have k9l := putF_le "factor" (.int n) fs
      refine ⟨.ref l, rfl, l, _, _, _, rfl, rfl, SqL.at hlA, g2, .ref p, rfl, p, a.C_Level, dx, _, rfl, upd_same, T.cl_Level, T.n_Level_place, (by omega), ?_⟩
      rw [upd_upd]
      refine qY _ ⟨dx, _, _, _, _, _, upd_same, lkN (lkN x6 (by decide +kernel)) (by decide +kernel), lkN (lkN x5 (by decide +kernel)) (by decide +kernel), lkN (lkN x4 (by decide +kernel)) (by decide +kernel), lkN (lkN x3 (by decide +kernel)) (by decide +kernel), lkN lkP (by decide +kernel), lkP, lkN (lkN x0 (by decide +kernel)) (by decide +kernel), (fun k hk => lkO (lkO (xo k hk) fun e => hk (e ▸ (by decide +kernel))) fun e => hk (e ▸ (by decide +kernel))), .inr (.inl ⟨c2, n, hn, rfl, rfl, rfl, rfl⟩)⟩ fun t u e ne => ?_
      rw [upd_ne ne]
      exact hF7 t u e ne
    rw [decide_eq_false (show ¬ V.str (nthS ps 0) = V.str "along" from fun e => c2 (V.str.inj e))]
    rw [if_neg c2] at hbo
    have hall : ∀ y ∈ (ps.drop 1).take (b - 1), (∃ n, intText? y = some n) ∧ y.length ≤ 100 := by
      cases size with
      | none => cases hbo
      | some s =>
        dsimp only at hbo
        by_cases c3 : nthS ps 0 = "list"
        · rw [if_pos c3] at hbo
          split at hbo
          · cases hbo
          · have hb4 : 1 + cntN (lNums s) s ((ps ++ [sNoP]).drop 1) = b := Sum.inr.inj hbo
            intro y hy
            refine lNums_int hsz.2 (cntN_all (lNums s) s ((ps ++ [sNoP]).drop 1) y ?_)
            rw [List.drop_append_of_le_length h1] at hb4 ⊢
            rw [List.take_append_of_le_length (by rw [List.length_drop]; omega), show cntN (lNums s) s (ps.drop 1 ++ [sNoP]) = b - 1 by omega]
            exact hy
        · rw [if_neg c3] at hbo
          cases hbo
    have hLl : ((ps.drop 1).take (b - 1)).length ≤ 500 := by
      rw [List.length_take, List.length_drop]
      omega
    refine iteF ⟨.ref l, rfl, _, rfl, _, rfl, _, rfl, l, _, rfl, SqL.at hl7, fun o2 no2 => ?_⟩
    rw [show cutV (ps.map V.str) (some 1) (some (b : Int)) = ((ps.drop 1).take (b - 1)).map V.str from hcut]
    generalize hL : (ps.drop 1).take (b - 1) = L at hall hLl
    have s8 := same_upd (o := .lst (L.map V.str)) no2
    have he : (upd H7 o2 (.lst (L.map V.str))) o2 = some (.lst (L.map V.str)) := upd_same
    generalize upd H7 o2 (.lst (L.map V.str)) = H8 at s8 he ⊢
    refine ⟨o2, rfl, ⟨_, SqL.at he⟩, fun D hD => ?_⟩
    refine lc_it (walk_list (xs := L.map V.str)) (fun j H' => Same H8 H' ∧ H' D = some (.lst ((L.take j).map fun y => V.int ((intText? y).getD 0)))) ?h0 ?hG ?hs ?hd
    case h0 => exact ⟨same_upd hD, upd_same⟩
    case hG =>
      rintro j H9 _ ⟨sm, _⟩
      exact SqL.at (sm _ _ he)
    case hs =>
      rintro j x H9 H10 hj ⟨sm, e⟩ ⟨rfl, ex⟩
      rw [List.length_map] at hj
      rw [List.getElem?_map, List.getElem?_eq_getElem hj] at ex
      cases ex
      obtain ⟨⟨n, hn⟩, hnl⟩ := hall L[j] (List.getElem_mem hj)
      have et : L.take (j + 1) = L.take j ++ [L[j]] := by
        rw [List.take_add_one, List.getElem?_eq_getElem hj]
        rfl
      refine ⟨rfl, _, rfl, L[j], n, rfl, hn, by omega, _, e, ?_, keep_upd sm hD, ?_⟩
      · rw [List.length_map, List.length_take]
        exact szlt (by omega)
      · rw [upd_same, et, List.map_append]
        simp only [List.map_cons, List.map_nil, hn, Option.getD_some]
    rintro H9 ⟨s9, e9⟩
    have s79 := s8.trans s9
    refine ⟨D, _, rfl, .inl ⟨SqL.at e9, fun t nt => ?_⟩⟩
    have s10 := s79.trans (same_upd (o := .tup ((L.take (L.map V.str).length).map fun y => V.int ((intText? y).getD 0))) nt)
    have et : (upd H9 t (.tup ((L.take (L.map V.str).length).map fun y => V.int ((intText? y).getD 0)))) t = some (.tup ((L.take (L.map V.str).length).map fun y => V.int ((intText? y).getD 0))) := upd_same
    have ntp : t ≠ p := (ne_of_none (s79 _ _ hp7) nt).symm
    refine ⟨.ref p, rfl, p, a.C_Level, dx, fs, rfl, s10 _ _ hp7, T.cl_Level, T.n_Level_entries, (by omega), ?_⟩
    refine qY _ ⟨dx, _, _, _, _, _, upd_same, lkN x6 (by decide +kernel), lkN x5 (by decide +kernel), lkN x4 (by decide +kernel), lkN x3 (by decide +kernel), lkN x2 (by decide +kernel), lkN x1 (by decide +kernel), lkP, (fun k hk => lkO (xo k hk) fun e => hk (e ▸ (by decide +kernel))), .inr (.inr ⟨c1, c2, t, rfl, ?_, fun y hy => ?_, rfl, rfl, rfl⟩)⟩ fun u o e ne => ?_
    · rw [upd_ne ntp, et, hL, List.length_map, List.take_length]
    · rw [hL] at hy
      obtain ⟨⟨n, hn⟩, _⟩ := hall y hy
      rw [hn]
      rfl
    · rw [upd_ne ne]
      exact s10 _ _ (hF7 u o e ne)
end

/-! ### the law's walk along a level -/
/-- where the ending that begins at b goes wrong -/
def endW (ps : List Str) (b : Nat) : Option Nat := if b = ps.length then none else match endE ((ps ++ [sNoP]).drop b) sEnding with
  | some j => some (b + j)
  | none => if b + 3 < ps.length then some (b + 3) else none
def lvlW (ps : List Str) (size : Option Nat) : Option Nat := match lvlE ps size with
  | .inl j => some j
  | .inr _ => none
def oV : Option Nat → V
  | none => .non
  | some j => .int (j : Int)
def szI : Option Nat → Int
  | none => 0
  | some s => (s : Int)
theorem nth_at {ps : List Str} {k : Nat} (hk : k < ps.length) : atI (ps.map V.str) ((k : Nat) : Int) = some (.str (nthS ps k)) := by
  have := nth_get (Nat.le_of_lt hk)
  rw [List.getElem?_append_left hk] at this
  exact atI_nat (by
    rw [List.getElem?_map, this]
    rfl)
theorem nth_mem {ps : List Str} {k : Nat} (hk : k < ps.length) : nthS ps k ∈ ps := by
  have := nth_get (Nat.le_of_lt hk)
  rw [List.getElem?_append_left hk] at this
  exact List.mem_of_getElem? this
theorem lvlW_list {ps : List Str} {n : Nat} (hh : hd ps = "list") : lvlW ps (some n) = if 1 + cntN (lNums n) n ((ps ++ [sNoP]).drop 1) < n then some (1 + cntN (lNums n) n ((ps ++ [sNoP]).drop 1)) else
    if n < 1 + cntN (lNums n) n ((ps ++ [sNoP]).drop 1) then (match endE ((ps ++ [sNoP]).drop (1 + cntN (lNums n) n ((ps ++ [sNoP]).drop 1))) sEnding with
      | some j => some (1 + cntN (lNums n) n ((ps ++ [sNoP]).drop 1) + j)
      | none => if 1 + cntN (lNums n) n ((ps ++ [sNoP]).drop 1) + 3 < ps.length then some (1 + cntN (lNums n) n ((ps ++ [sNoP]).drop 1) + 3) else none)
    else if 1 + cntN (lNums n) n ((ps ++ [sNoP]).drop 1) < ps.length then some (1 + cntN (lNums n) n ((ps ++ [sNoP]).drop 1)) else none := by
  have hbd : bodyE ps (some n) = if 1 + cntN (lNums n) n ((ps ++ [sNoP]).drop 1) < n then .inl (1 + cntN (lNums n) n ((ps ++ [sNoP]).drop 1)) else .inr (1 + cntN (lNums n) n ((ps ++ [sNoP]).drop 1)) := by
    unfold bodyE
    rw [hh, if_neg (by decide +kernel), if_neg (by decide +kernel)]
    exact if_pos rfl
  have hgo : ∀ b, goesOn ps (some n) b = decide (n < b) := fun b => by
    unfold goesOn
    rw [if_pos hh]
    rfl
  unfold lvlW lvlE
  rw [hbd]
  generalize 1 + cntN (lNums n) n ((ps ++ [sNoP]).drop 1) = b
  by_cases c1 : b < n
  · rw [if_pos c1, if_pos c1]
  · rw [if_neg c1, if_neg c1]
    dsimp only
    rw [hgo]
    by_cases c2 : n < b
    · rw [decide_eq_true c2, if_pos rfl, if_pos c2]
      cases endE ((ps ++ [sNoP]).drop b) sEnding with
      | some j => rfl
      | none =>
        dsimp only
        by_cases c3 : b + 3 < ps.length
        · rw [if_pos c3, if_pos c3]
        · rw [if_neg c3, if_neg c3]
    · rw [decide_eq_false c2, if_neg (by decide), if_neg c2]
      by_cases c3 : b < ps.length
      · rw [if_pos c3, if_pos c3]
      · rw [if_neg c3, if_neg c3]
theorem lvlW_other {ps : List Str} {size : Option Nat} {b : Nat} (hh : hd ps ≠ "list") (hb : bodyE ps size = .inr b) (hle : b ≤ ps.length) : lvlW ps size = endW ps b := by
  have hgo : goesOn ps size b = decide (b < ps.length) := by
    unfold goesOn
    rw [if_neg hh]
  unfold lvlW lvlE endW
  rw [hb]
  dsimp only
  rw [hgo]
  by_cases c : b = ps.length
  · rw [if_pos c, decide_eq_false (by omega), if_neg (by decide), if_neg (by omega)]
  · rw [if_neg c, decide_eq_true (by omega), if_pos rfl]
    cases endE ((ps ++ [sNoP]).drop b) sEnding with
    | some j => rfl
    | none =>
      dsimp only
      by_cases c3 : b + 3 < ps.length
      · rw [if_pos c3, if_pos c3]
      · rw [if_neg c3, if_neg c3]
theorem lvlW_inl {ps : List Str} {size : Option Nat} {b : Nat} (hb : bodyE ps size = .inl b) : lvlW ps size = some b := by
  unfold lvlW lvlE
  rw [hb]
theorem FS_nums : ∀ z ∈ FS, inV (.str z) (nums.map V.str) = figM fronts2 z := by decide +kernel
def rLen2 (K : PySem.W.Frag) : List V → Hp → VK → Prop := fun xs H_1 Q => ∃ p ys, xs = [V.ref p] ∧ (SqL K H_1 p ys ∨ SqT K H_1 p ys) ∧ Q (V.int ↑ys.length) H_1
section
variable {P : Program} {w : World} {K : PySem.W.Frag} {mg : Str → Option Value} {base : Heap} {a : Ad}
end

/-! ### the text of a list of ints, whatever stands on the stack -/
theorem listText_le {ts : List Str} (h : ∀ t ∈ ts, t.length ≤ 98) : (listText ts).length ≤ ts.length * 100 + 10 := by
  have hp : ∀ us : List Str, (∀ t ∈ us, t.length ≤ 98) → piled us ≤ us.length * 100 := by
    intro us
    induction us with
    | nil => intro _; exact Nat.le_refl _
    | cons t r ih =>
      intro hu
      rw [piled_cons, List.length_cons]
      have := ih fun y hy => hu y (List.mem_cons_of_mem _ hy)
      have := hu t (List.mem_cons_self ..)
      omega
  cases ts with
  | nil => decide +kernel
  | cons t r =>
    show (textFrom 1 ((Str.ofString "[" ++ Str.ofString "") ++ t) r ++ Str.ofString "]").length ≤ _
    rw [strLen_append, textFrom_length_pos _ _ _ (by decide), strLen_append, strLen_append]
    have h1 := hp r fun y hy => h y (List.mem_cons_of_mem _ hy)
    have h2 := h t (List.mem_cons_self ..)
    have e1 : (Str.ofString "[").length = 1 := by decide +kernel
    have e2 : (Str.ofString "").length = 0 := by decide +kernel
    have e3 : (Str.ofString "]").length = 1 := by decide +kernel
    rw [e1, e2, e3, List.length_cons]
    omega
section
theorem list_repr_headU {M : Model} {A : Around} {E : Value → Shared → Prop} {s : Shared} {Q : Fin → Shared → Prop} {a : Addr} {o : Obj} {x : Value} {l : List Value} {n} {b : Nat}
    (hget : s.heap.get? a = some o) (hd : o.data = .seq (x :: l).toArray n)
    (h1 : wpAny M A (do again (.builtin "list.__repr__.loop" ⟨[.ref a, rawInt 0, ← newList [], rawInt b], []⟩)) Q E s)
    (h2 : Q (.done (.ret (.str "[...]" s.toks))) { s with toks := s.toks + 1 }) : wpAny M A (Builtin.listReprAt b ⟨[.ref a], []⟩) Q E s := by
  intro Γ p hΓ
  have h1 := h1 Γ p hΓ
  unfold Builtin.listReprAt
  simp [slotArgs, Builtin.List.listItems, seqItems?, Sem.wp_load_of (h := hget), hd, PySem.stack, PySem.rule, PySem.retStr, PySem.ret]
  show Sem.wp M Γ (if (Γ.below.any _) = true then _ else _) _ _ p s
  split
  · exact h2
  · exact h1
variable {prog : Program} {w : World} {A : Around} {E : Value → Shared → Prop} {s : Shared} {a : Addr} {oa : Obj} {x : Value} {l : List Value} {na : Nat} {ts : List Str}
theorem list_repr_finU {R : Result → Shared → Prop}
    (ha : s.heap.get? a = some oa) (hda : oa.data = .seq (x :: l).toArray na) (hlen : ts.length = (x :: l).toArray.size)
    (hT : ∀ (i : Nat) (y : Value), (x :: l).toArray[i]? = some y → ∃ t, ts[i]? = some t ∧ ReprIs prog w y t)
    (hR : ∀ h' z u tk, (z = listText ts ∨ z = "[...]") → (∀ b o, s.heap.get? b = some o → h'.get? b = some o) → R (.ok (.ret (.str z u))) { s with heap := h', toks := tk })
    (hsz : (listText ts).length ≤ sizeLine) :
    wpAny (model prog w) A.in1 (Builtin.listReprAt 0 ⟨[.ref a], []⟩)
      (fun fin s' => match fin with | .done f => R (.ok f) s' | .again c' => c'.quiet = true ∧ codeAny (model prog w) A c' R s') (fun e s' => R (.error e) s') s := by
  refine list_repr_headU (A := A.in1) ha hda ?_ ?_
  · refine wpAny_bind (m := newList []) (wpAny_newObj_type ?_)
    refine wpAny_pure ⟨F.quiet_list_repr_loop _, ?_⟩
    refine codeAny_list_repr_start (P := s.heap.objs.size) (Nat.ne_of_lt (Heap.lt_size ha)) hlen hT (Heap.get?_push_of_some _ ha) hda (Heap.get?_push_size _ rfl) (fun h' u tk hk => ?_) (by omega)
    exact hR h' _ u tk (.inl rfl) fun b o e => hk b o (Nat.ne_of_lt (Heap.lt_size e)) (Heap.get?_push_of_some _ e)
  · exact hR s.heap _ _ _ (.inr rfl) fun _ _ e => e
theorem call_list_reprU {Q : Value → Shared → Prop} (hTy : s.TypeIs (.ref a) "list")
    (ha : s.heap.get? a = some oa) (hda : oa.data = .seq (x :: l).toArray na) (hlen : ts.length = (x :: l).toArray.size)
    (hT : ∀ (i : Nat) (y : Value), (x :: l).toArray[i]? = some y → ∃ t, ts[i]? = some t ∧ ReprIs prog w y t)
    (hQ : ∀ h' z u tk, (z = listText ts ∨ z = "[...]") → (∀ b o, s.heap.get? b = some o → h'.get? b = some o) → Q (.str z u) { s with heap := h', toks := tk })
    (hsz : (listText ts).length ≤ sizeLine) :
    wpAny (model prog w) A (call (.builtin "list.__repr__") [.ref a]) Q E s :=
  wpAny_call (codeAny_call_builtin F.slot_list_repr.plain F.entry_list_repr (F.slot_list_repr.check _ _ _ _ _ _ _ _ hTy (F.args_list_repr_1 _)
    (list_repr_finU (R := fun r s' => match r with | .ok (.ret v) => Q v s' | .ok _ => False | .error e => E e s') ha hda hlen hT hQ hsz)))
theorem str_listU {Q : Value → Shared → Prop} {h₀ : Heap} (h1 : h₀.get? a = some oa) (h2 : oa.cls = .type "list") (hda : oa.data = .seq (x :: l).toArray na) (hlen : ts.length = (x :: l).toArray.size)
    (hT : ∀ (prog : Program) (w : World) (i : Nat) (y : Value), (x :: l).toArray[i]? = some y → ∃ t, ts[i]? = some t ∧ ReprIs prog w y t)
    (hu : A.units + 4 < cLine) (hk0 : ∀ b o, h₀.get? b = some o → s.heap.get? b = some o)
    (hQ : ∀ h' z u tk, (z = listText ts ∨ z = "[...]") → (∀ b o, s.heap.get? b = some o → h'.get? b = some o) → Q (.str z u) { s with heap := h', toks := tk })
    (hsz : (listText ts).length ≤ sizeLine) : wpAny (model prog w) A (call (.type "str") [.ref a]) Q E s :=
  callType_new F.called_str (by decide) (F.typeCall_str_1 _) (F.newCall_str_1 _) (fun obj => F.args_object_init_2 obj _) F.entry_str_new
    (meets_str_new (S := fun A' R s' => A'.units + 3 < cLine ∧ (∀ b o, h₀.get? b = some o → s'.heap.get? b = some o) ∧
        ∀ h' z u tk, (z = listText ts ∨ z = "[...]") → (∀ b o, s'.heap.get? b = some o → h'.get? b = some o) → R (.ok (.ret (.str z u))) { s' with heap := h', toks := tk })
      fun prog' w' A' R s' h => wpAny_strOf_slot (A := A'.in1) rfl (by show A'.units + 1 + 1 < cLine; have := h.1; omega) ⟨oa, h.2.1 _ _ h1, h2⟩ F.slot_list_str F.slot_list_repr.toG
        (call_list_reprU (prog := prog') (w := w') ⟨oa, h.2.1 _ _ h1, h2⟩ (h.2.1 _ _ h1) hda hlen (hT prog' w') (fun h' z u tk hz hk => ⟨_, _, rfl, h.2.2 h' z u tk hz hk⟩) hsz))
    ⟨by show A.units + 1 + 3 < cLine; omega, hk0, fun h' z u tk hz hk => ⟨typeIs_str _ _ _, hQ h' z u tk hz hk⟩⟩
end
section
variable {X : Cx}
theorem ints_reprs {h : Heap} : ∀ {vs : List Value} {ns : List Int} {as : List Addr}, ReadsAll h vs (ns.map PyData.int) as → vs.length = ns.length ∧ ∀ (i : Nat) (y : Value), vs[i]? = some y → ∃ n t, ns[i]? = some n ∧ y = .int n t
  | [], [], _, _ => ⟨rfl, fun i y e => by simp at e⟩
  | [], _ :: _, _, r => nomatch r
  | _ :: _, [], _, r => nomatch r
  | v :: vs, n :: ns, _, r => by
    cases r with
    | cons r1 r2 =>
      obtain ⟨e1, e2⟩ := ints_reprs r2
      refine ⟨by rw [List.length_cons, List.length_cons, e1], fun i y e => ?_⟩
      cases i with
      | zero =>
        cases e
        cases r1 with
        | int _ t => exact ⟨n, t, rfl, rfl⟩
      | succ i =>
        obtain ⟨m, t, h1, h2⟩ := e2 i y (by simpa using e)
        exact ⟨m, t, by simpa using h1, h2⟩
/-- str of an int, a text, None, or a list of some small ints -/
def rStrA (K : PySem.W.Frag) : List V → Hp → VK → Prop := fun xs H Q => ∃ x, xs = [x] ∧ ((∃ i : Int, x = .int i ∧ i.natAbs.log2 < 1920 ∧ Q (.str (toString i)) H) ∨ (∃ a, x = .str a ∧ Q (.str a) H) ∨ (x = .non ∧ Q (.str "None") H) ∨
  (∃ (p : Addr) (ns : List Int), x = .ref p ∧ SqL K H p (ns.map V.int) ∧ ns ≠ [] ∧ ns.length ≤ 100 ∧ (∀ n ∈ ns, 0 ≤ n ∧ n < 40) ∧ ∀ z : Str, z.length ≤ 10010 → Q (.str z) H))
theorem call_strA (hu : X.A.units + 65 < cLine) : CallR X (.type "str") (rStrA X.K) := by
  intro pins s σ H xs us Q I r h
  obtain ⟨x, rfl, h⟩ := h
  obtain ⟨u, rfl, r1⟩ := vals1 r
  rcases h with ⟨i, rfl, hz, q⟩ | ⟨z, rfl, q⟩ | ⟨rfl, q⟩ | ⟨p, ns, rfl, hp, hne, hl, hb, q⟩
  · obtain ⟨t, rfl⟩ := r1
    exact PySem.P.str_of_int hz ⟨.str _, H, I.tok _, ⟨_, rfl⟩, q⟩
  · obtain ⟨t, rfl⟩ := r1
    exact PySem.P.str_of_str ⟨.str z, H, I, ⟨t, rfl⟩, q⟩
  · cases r1
    exact PySem.P.str_of_none ⟨.str _, H, I.tok _, ⟨_, rfl⟩, q⟩
  · have dp : Dp X.K H (.ref p) (.list (ns.map PyData.int)) := by
      refine .lst hp ?_
      clear hp hne hl hb q
      induction ns with
      | nil => exact .nil
      | cons n r ih => exact .cons (.int n) ih
    cases r1
    obtain ⟨as, rd⟩ := Dp.reads I _ _ _ dp rfl
    cases rd with
    | list g1 g2 g3 g4 =>
      rename_i o vs m as'
      obtain ⟨e1, e2⟩ := ints_reprs g4
      obtain ⟨l⟩ := vs
      cases l with
      | nil => exact absurd (List.length_eq_zero_iff.mp e1.symm) hne
      | cons v l =>
        have hT : ∀ t ∈ (ns.map fun n => Str.ofString (toString n)), t.length ≤ 98 := by
          intro t ht
          obtain ⟨n, hn, rfl⟩ := List.mem_map.mp ht
          obtain ⟨h0, h1⟩ := hb n hn
          have := num_len ⟨n.toNat, by omega⟩
          rw [show ((⟨n.toNat, by omega⟩ : Fin 40).val : Int) = n by show ((n.toNat : Nat) : Int) = n; omega] at this
          omega
        have hll := listText_le hT
        rw [List.length_map] at hll
        refine str_listU (ts := ns.map fun n => Str.ofString (toString n)) g1 g2 g3 (by rw [List.length_map]; exact e1.symm) (fun prog w i y e => ?_) (by omega) (fun _ _ e => e) (fun h' z u tk hz hk => ⟨.str z, H, I.kept hk, ⟨u, rfl⟩, q z ?_⟩) (by have h5 : (100000 : Nat) ≤ sizeLine := (by decide); omega)
        · obtain ⟨n, t, h1, rfl⟩ := e2 i y (by simpa using e)
          refine ⟨Str.ofString (toString n), by rw [List.getElem?_map, h1]; rfl, ReprIs.int t ?_⟩
          obtain ⟨b0, b1⟩ := hb n (List.mem_of_getElem? h1)
          exact lg n b0 b1
        · rcases hz with rfl | rfl
          · omega
          · decide +kernel
end

/-! ### a word's own parts are read as its moves -/
theorem mvE_ok {m : Mv} (h : m.ok) {may : Bool} (hm : m = .turn → may = true) (rest : List Str) : mvE (m.parts ++ rest) may = .inr m.parts := by
  have pw : ∀ {z : Str}, z ∈ wt → ptM z "place" = true := fun hz => (wt_chk hz).2.2.2.1
  have aw : ∀ {z : Str}, z ∈ am → ptM z "amount" = true := fun hz => (am_chk hz).2.2.1
  have ce : ∀ (z k : Str) (zs ks : List Str), chkP (z :: zs) (k :: ks) = if ptM z k = true then (chkP zs ks).map (· + 1) else some 0 := fun _ _ _ _ => rfl
  have c0 : ∀ zs, chkP zs [] = none := fun zs => by unfold chkP; rfl
  cases m with
  | turn =>
    show mvE (("turn" : Str) :: rest) may = _
    rw [mvE_cons, show shp ("turn" : Str) = some [] from by decide +kernel, hm rfl]
    simp only [c0]
    rfl
  | exch x y =>
    show mvE (("exchange" : Str) :: x :: y :: rest) may = _
    rw [mvE_cons, show shp ("exchange" : Str) = some [("place" : Str), "place"] from by decide +kernel]
    have e : (decide (("exchange" : Str) = "turn") && !may) = false := by
      rw [show decide (("exchange" : Str) = "turn") = false from by decide +kernel]
      rfl
    simp only [e, ce, c0, pw h.1, pw h.2]
    rfl
  | roll x y c =>
    show mvE (("roll" : Str) :: x :: y :: c :: rest) may = _
    rw [mvE_cons, show shp ("roll" : Str) = some [("place" : Str), "place", "amount"] from by decide +kernel]
    have e : (decide (("roll" : Str) = "turn") && !may) = false := by
      rw [show decide (("roll" : Str) = "turn") = false from by decide +kernel]
      rfl
    simp only [e, ce, c0, pw h.1, pw h.2.1, aw h.2.2]
    rfl
theorem mvsE_ok : ∀ {ms : List Mv} {n : Nat} {may : Bool}, ms ≠ [] → ms.length ≤ n → (∀ m ∈ ms, m.ok) → oneTurn ms → (Mv.turn ∈ ms → may = true) → mvsE n (wp ms ++ [sNoP]) may = .inr (ms.map Mv.parts, (wp ms).length)
  | [], _, _, h, _, _, _, _ => absurd rfl h
  | _ :: _, 0, _, _, h, _, _, _ => by simp at h
  | [m], n + 1, may, _, _, hok, _, ht => by
    have hm := mvE_ok (hok m (List.mem_cons_self ..)) (may := may) (fun e => ht (e ▸ List.mem_cons_self ..)) [sNoP]
    rw [mvsE_succ, show wp [m] = m.parts from rfl, hm]
    dsimp only
    rw [List.drop_left, if_pos (.inr (by show some sNoP ≠ _; decide +kernel))]
    rfl
  | m :: m2 :: r, n + 1, may, _, hl, hok, h1, ht => by
    have e : wp (m :: m2 :: r) ++ [sNoP] = m.parts ++ (sThen :: (wp (m2 :: r) ++ [sNoP])) := by
      show (m.parts ++ sThen :: wp (m2 :: r)) ++ [sNoP] = _
      rw [List.append_assoc]
      rfl
    have hm := mvE_ok (hok m (List.mem_cons_self ..)) (may := may) (fun q => ht (q ▸ List.mem_cons_self ..)) (sThen :: (wp (m2 :: r) ++ [sNoP]))
    simp only [List.length_cons] at hl
    rw [mvsE_succ, e, hm]
    dsimp only
    rw [List.drop_left, if_neg (fun h => h.elim (by omega) fun h => h rfl)]
    have ih := mvsE_ok (ms := m2 :: r) (n := n) (may := may && !decide (m.parts = [("turn" : Str)])) (by simp) (by simp only [List.length_cons]; omega) (fun x hx => hok x (List.mem_cons_of_mem _ hx)) ?_ ?_
    · rw [List.drop_succ_cons, List.drop_zero, ih]
      dsimp only
      congr 1
      congr 1
      show _ = (m.parts ++ sThen :: wp (m2 :: r)).length
      rw [List.length_append, List.length_cons]
      omega
    · intro pre x post ex hx
      have := h1 (m :: pre) x post (by rw [ex]; rfl) hx
      exact fun z => this (List.mem_cons_of_mem _ z)
    · intro hmem
      have hmay := ht (List.mem_cons_of_mem _ hmem)
      have hne : ¬ m.parts = [("turn" : Str)] := fun q => by
        have hmt : m = .turn := Mv.inj.mp q
        obtain ⟨pre, post, ex⟩ := List.append_of_mem hmem
        exact h1 (m :: pre) .turn post (by rw [ex]; rfl) rfl (hmt ▸ List.mem_cons_self ..)
      rw [hmay]
      simp [hne]
theorem wrdE_ok {ms : List Mv} (h : WordOk ms) : wrdE (wp ms) = .inr (ms.map Mv.parts) := by
  unfold wrdE
  rw [mvsE_ok h.ne h.l4 h.ok h.one (fun _ => rfl)]
  dsimp only
  rw [if_neg (Nat.lt_irrefl _)]
theorem wp_FS {ms : List Mv} (h : ∀ m ∈ ms, m.ok) : ∀ z ∈ wp ms, z ∈ FS := by
  have kx : ∀ z ∈ FSx, z ∈ FS := fun z hz => List.mem_append_right _ (List.mem_append_right _ hz)
  have kw : ∀ z ∈ wt, z ∈ FS := fun z hz => List.mem_append_left _ hz
  have ka : ∀ z ∈ am, z ∈ FS := fun z hz => List.mem_append_right _ (List.mem_append_left _ hz)
  have k1 : ("turn" : Str) ∈ FS := kx _ (by decide +kernel)
  have k2 : ("exchange" : Str) ∈ FS := kx _ (by decide +kernel)
  have k3 : ("roll" : Str) ∈ FS := kx _ (by decide +kernel)
  have k4 : sThen ∈ FS := kx _ (by decide +kernel)
  have one : ∀ {m : Mv}, m.ok → ∀ z ∈ m.parts, z ∈ FS := fun {m} hm z hz => by
    cases m with
    | turn =>
      rw [show Mv.turn.parts = [("turn" : Str)] from rfl, List.mem_singleton] at hz
      rw [hz]
      exact k1
    | exch x y =>
      rw [show (Mv.exch x y).parts = [("exchange" : Str), x, y] from rfl] at hz
      simp only [List.mem_cons, List.not_mem_nil, or_false] at hz
      rcases hz with rfl | rfl | rfl
      · exact k2
      · exact kw _ hm.1
      · exact kw _ hm.2
    | roll x y c =>
      rw [show (Mv.roll x y c).parts = [("roll" : Str), x, y, c] from rfl] at hz
      simp only [List.mem_cons, List.not_mem_nil, or_false] at hz
      rcases hz with rfl | rfl | rfl | rfl
      · exact k3
      · exact kw _ hm.1
      · exact kw _ hm.2.1
      · exact ka _ hm.2.2
  intro z hz
  induction ms with
  | nil => cases hz
  | cons m r ih =>
    cases r with
    | nil => exact one (h m (List.mem_cons_self ..)) z hz
    | cons m2 r =>
      rcases List.mem_append.mp hz with q | q
      · exact one (h m (List.mem_cons_self ..)) z q
      · rcases List.mem_cons.mp q with q | q
        · rw [q]
          exact k4
        · exact ih (fun x hx => h x (List.mem_cons_of_mem _ hx)) q
theorem joinL_wpS (S t : List Nat) (et : TL.tl sThen = t) : ∀ ms : List (List Str), (∀ m ∈ ms, m ≠ []) → TL.joinL (S ++ (t ++ S)) (ms.map fun m => TL.joinL S (m.map TL.tl)) = TL.joinL S ((wpS ms).map TL.tl)
  | [], _ => rfl
  | [m], _ => rfl
  | m :: n :: r, h => by
    have ih := joinL_wpS S t et (n :: r) fun x hx => h x (List.mem_cons_of_mem _ hx)
    show TL.joinL S (m.map TL.tl) ++ ((S ++ (t ++ S)) ++ TL.joinL (S ++ (t ++ S)) ((n :: r).map fun m => TL.joinL S (m.map TL.tl))) = TL.joinL S ((m ++ sThen :: wpS (n :: r)).map TL.tl)
    rw [ih, List.map_append, List.map_cons, et]
    have hm : m.map TL.tl ≠ [] := fun z => h m (List.mem_cons_self ..) (List.map_eq_nil_iff.mp z)
    have hw : (wpS (n :: r)).map TL.tl ≠ [] := by
      intro z
      have z := List.map_eq_nil_iff.mp z
      cases r with
      | nil => exact h n (by simp) z
      | cons a b => exact absurd z (by simp [wpS])
    rw [joinL_append hm (by simp), show t :: (wpS (n :: r)).map TL.tl = [t] ++ (wpS (n :: r)).map TL.tl from rfl, joinL_append (by simp) hw]
    show _ ++ (S ++ (t ++ S) ++ _) = _ ++ (S ++ (t ++ (S ++ _)))
    simp only [List.append_assoc]
theorem join_wpS (ms : List (List Str)) (h : ∀ m ∈ ms, m ≠ []) : Txt.join " then " (ms.map fun m => Txt.join " " m) = Txt.join " " (wpS ms) := by
  refine TL.ext_tl ?_
  rw [TL.join_eq, TL.tl_join, TL.join_eq, TL.tl_join, List.map_map]
  have e := joinL_wpS (TL.tl " ") (TL.tl sThen) rfl ms h
  rw [← e]
  have e2 : TL.tl " then " = TL.tl " " ++ (TL.tl sThen ++ TL.tl " ") := by decide +kernel
  rw [e2]
  refine congrArg _ (List.map_congr_left fun m _ => ?_)
  show TL.tl (Txt.join " " m) = _
  rw [TL.join_eq, TL.tl_join]
theorem mvsE_ne : ∀ {n : Nat} {ps : List Str} {k : Nat} {may : Bool} {ms : List (List Str)} {c : Nat}, k ≤ ps.length → mvsE n ((ps ++ [sNoP]).drop k) may = .inr (ms, c) → ∀ m ∈ ms, m ≠ [] ∧ m.length ≤ ps.length ∧ ∀ z ∈ m, z ∈ ps
  | 0, ps, k, may, ms, c, _, h => by cases h
  | n + 1, ps, k, may, ms, c, hk, h => by
    rw [mvsE_succ] at h
    cases hm : mvE ((ps ++ [sNoP]).drop k) may with
    | inl j =>
      rw [hm] at h
      cases h
    | inr m =>
      rw [hm] at h
      dsimp only at h
      obtain ⟨m1, m2, m3⟩ := mvE_inr hk hm
      have one : m ≠ [] ∧ m.length ≤ ps.length ∧ ∀ z ∈ m, z ∈ ps := by
        refine ⟨fun e => by rw [e] at m3; simp at m3, by omega, fun z hz => ?_⟩
        rw [← m2] at hz
        exact List.mem_of_mem_drop (List.mem_of_mem_take hz)
      by_cases hc : n = 0 ∨ (((ps ++ [sNoP]).drop k).drop m.length).head? ≠ some ("then" : Str)
      · rw [if_pos hc] at h
        cases h
        intro x hx
        rw [List.mem_singleton] at hx
        rw [hx]
        exact one
      · rw [if_neg hc] at h
        rw [List.drop_drop, List.drop_drop] at h
        have hth : (((ps ++ [sNoP]).drop k).drop m.length).head? = some ("then" : Str) := Classical.byContradiction fun z => hc (.inr z)
        rw [List.drop_drop, List.head?_drop] at hth
        have hlt : k + m.length < ps.length := by
          rcases Nat.lt_or_ge (k + m.length) ps.length with q | q
          · exact q
          · have e : k + m.length = ps.length := by omega
            rw [e, List.getElem?_append_right (Nat.le_refl _), Nat.sub_self] at hth
            have e2 := Option.some.inj hth
            exact absurd e2 (by decide +kernel)
        cases hr : mvsE n ((ps ++ [sNoP]).drop (k + (m.length + 1))) (may && !decide (m = [("turn" : Str)])) with
        | inl j =>
          rw [hr] at h
          cases h
        | inr q =>
          obtain ⟨ms', c'⟩ := q
          rw [hr] at h
          cases h
          have ih := mvsE_ne (by omega) hr
          intro x hx
          rcases List.mem_cons.mp hx with e | e
          · rw [e]
            exact one
          · exact ih x e
theorem wrdE_ne {ps : List Str} {ms : List (List Str)} (h : wrdE ps = .inr ms) : ∀ m ∈ ms, m ≠ [] ∧ m.length ≤ ps.length ∧ ∀ z ∈ m, z ∈ ps := by
  unfold wrdE at h
  cases hm : mvsE 4 (ps ++ [sNoP]) true with
  | inl j =>
    rw [hm] at h
    cases h
  | inr q =>
    obtain ⟨ms', c⟩ := q
    rw [hm] at h
    dsimp only at h
    by_cases hc : c < ps.length
    · rw [if_pos hc] at h
      cases h
    · rw [if_neg hc] at h
      cases h
      exact mvsE_ne (k := 0) (Nat.zero_le _) hm
theorem made2 {H : Hp} {x dx C : Addr} (hx : H x = none) (hd : H dx = none) (ne : dx ≠ x) : Same H (upd (upd H dx (.own x)) x (.ins C dx [])) ∧ (upd (upd H dx (.own x)) x (.ins C dx [])) x = some (.ins C dx []) :=
  ⟨(same_upd hd).trans (same_upd (by rw [upd_ne ne.symm]; exact hx)), upd_same⟩

/-! ### levels as the law writes them -/
inductive Lv where
  | same (ms : List Mv)
  | along (k : Int) (z : Str)
  | list (ns : List Int)
def Lv.body : Lv → List Str
  | .same ms => "same" :: wp ms
  | .along k z => ["along", toStr k, z]
  | .list ns => "list" :: ns.map toStr
def lvP (lv : Lv) (e : Bool) : List Str := lv.body ++ (if e = true then sEnding else [])
def Lv.base : Lv → Str
  | .same ms => Str.append "same " (wtext ms)
  | .along k z => Str.append (Str.append (Str.append "along " (toStr k)) " ") z
  | .list ns => Str.append "list " (Txt.join " " (ns.map toStr))
def lvText (lv : Lv) (e : Bool) : Str := Str.append lv.base (if e = true then " to the end" else "")
def LvOk (size : Option Nat) (e : Bool) : Lv → Prop
  | .same ms => WordOk ms
  | .along k z => toStr k ∈ nums ∧ z ∈ places ∧ -9 ≤ k ∧ k ≤ 9
  | .list ns => ∃ s, size = some s ∧ ns.length = (if e = true then s else s - 1) ∧ ∀ n ∈ ns, 0 ≤ n ∧ n < (s : Int) - 1
def LvT (H : Hp) (o : Addr) (e : Bool) : Lv → Prop
  | .same ms => ∃ m ps, H o = some (.tup [.str "same", .ref m, .non, .bl e]) ∧ H m = some (.lst (ps.map V.ref)) ∧ HeldL H ps ms
  | .along k z => H o = some (.tup [.str "along", .int k, .str z, .bl e])
  | .list ns => ∃ m, H o = some (.tup [.str "list", .ref m, .non, .bl e]) ∧ H m = some (.lst (ns.map V.int))
theorem join_cons {x : Str} {R : List Str} (h : R ≠ []) : Txt.join " " (x :: R) = Str.append (Str.append x " ") (Txt.join " " R) := by
  apply TL.ext_tl
  show _ = TL.tl ((x ++ Str.ofString " ") ++ Txt.join (Str.ofString " ") R)
  rw [TL.join_eq, TL.tl_join, TL.tl_append, TL.tl_append, TL.join_eq, TL.tl_join]
  cases R with
  | nil => exact absurd rfl h
  | cons y r =>
    show TL.tl x ++ (TL.tl " " ++ TL.joinL (TL.tl " ") ((y :: r).map TL.tl)) = _
    rw [List.append_assoc]
theorem join_end {P : List Str} (h : P ≠ []) : Txt.join " " (P ++ sEnding) = Str.append (Txt.join " " P) " to the end" := by
  apply TL.ext_tl
  show _ = TL.tl (Txt.join (Str.ofString " ") P ++ Str.ofString " to the end")
  rw [TL.join_eq, TL.tl_join, TL.tl_append, TL.join_eq, TL.tl_join, List.map_append, joinL_append (fun e => h (List.map_eq_nil_iff.mp e)) (by decide +kernel)]
  congr 1
theorem append_none (x : Str) : Str.append x "" = x := by
  apply TL.ext_tl
  show TL.tl (x ++ Str.ofString "") = _
  rw [TL.tl_append, show TL.tl (Str.ofString "") = [] from by decide +kernel, List.append_nil]
theorem nums_ne {size : Option Nat} {e : Bool} {ns : List Int} (hs : SizeOk size) (h : LvOk size e (.list ns)) : ns ≠ [] := by
  obtain ⟨s, rfl, hl, _⟩ := h
  have := hs.1
  intro z
  rw [z] at hl
  cases e with
  | true => rw [if_pos rfl] at hl; simp at hl; omega
  | false => rw [if_neg (by decide)] at hl; simp at hl; omega
theorem base_join {size : Option Nat} {e : Bool} {lv : Lv} (hs : SizeOk size) (h : LvOk size e lv) : lv.base = Txt.join " " lv.body := by
  cases lv with
  | same ms =>
    show Str.append "same " (Txt.join " " (wp ms)) = Txt.join " " ("same" :: wp ms)
    rw [join_cons (wp_ne h.ne), show Str.append (Str.ofString "same") (Str.ofString " ") = Str.ofString "same " from by decide +kernel]
  | along k z =>
    show Str.append (Str.append (Str.append "along " (toStr k)) " ") z = Txt.join " " [("along" : Str), toStr k, z]
    rw [join_cons (by simp), join_cons (by simp), show Str.append (Str.ofString "along") (Str.ofString " ") = Str.ofString "along " from by decide +kernel]
    have e1 : Txt.join " " [z] = z := by
      apply TL.ext_tl
      rw [TL.join_eq, TL.tl_join]
      rfl
    rw [e1]
    apply TL.ext_tl
    show TL.tl (((Str.ofString "along " ++ toStr k) ++ Str.ofString " ") ++ z) = TL.tl (Str.ofString "along " ++ ((toStr k ++ Str.ofString " ") ++ z))
    simp only [TL.tl_append, List.append_assoc]
  | list ns =>
    show Str.append "list " (Txt.join " " (ns.map toStr)) = Txt.join " " ("list" :: ns.map toStr)
    rw [join_cons (fun z => nums_ne hs h (List.map_eq_nil_iff.mp z)), show Str.append (Str.ofString "list") (Str.ofString " ") = Str.ofString "list " from by decide +kernel]
theorem body_ne (lv : Lv) : lv.body ≠ [] := by cases lv <;> simp [Lv.body]
theorem lvText_eq {size : Option Nat} {e : Bool} {lv : Lv} (hs : SizeOk size) (h : LvOk size e lv) : lvText lv e = Txt.join " " (lvP lv e) := by
  unfold lvText lvP
  rw [base_join hs h]
  cases e with
  | true => rw [if_pos rfl, if_pos rfl, join_end (body_ne lv)]
  | false => rw [if_neg (by decide), if_neg (by decide), List.append_nil, append_none]
theorem FS_more : ("same" : Str) ∈ FS ∧ ("along" : Str) ∈ FS ∧ ("list" : Str) ∈ FS ∧ ∀ z ∈ sEnding, z ∈ FS := by decide +kernel
theorem nums_FS : (∀ z ∈ nums, z ∈ FS ∧ figM fronts2 z = true) ∧ (∀ z ∈ places, z ∈ FS ∧ ipM z = true) := by decide +kernel
theorem toStr_FS : ∀ i : Fin 12, toStr ((i.val : Nat) : Int) ∈ FS := by decide +kernel
theorem lvP_FS {size : Option Nat} {e : Bool} {lv : Lv} (hs : SizeOk size) (h : LvOk size e lv) : ∀ z ∈ lvP lv e, z ∈ FS := by
  obtain ⟨f1, f2, f3, f4⟩ := FS_more
  intro z hz
  unfold lvP at hz
  rcases List.mem_append.mp hz with hz | hz
  · cases lv with
    | same ms =>
      rcases List.mem_cons.mp hz with rfl | hz
      · exact f1
      · exact wp_FS h.ok z hz
    | along k y =>
      have hz : z ∈ [("along" : Str), toStr k, y] := hz
      simp only [List.mem_cons, List.not_mem_nil, or_false] at hz
      rcases hz with rfl | rfl | rfl
      · exact f2
      · exact (nums_FS.1 _ h.1).1
      · exact (nums_FS.2 _ h.2.1).1
    | list ns =>
      obtain ⟨s, rfl, hl, hn⟩ := h
      rcases List.mem_cons.mp hz with rfl | hz
      · exact f3
      · obtain ⟨n, hn', rfl⟩ := List.mem_map.mp hz
        obtain ⟨h0, h1⟩ := hn n hn'
        have := hs.2
        have k := toStr_FS ⟨n.toNat, by omega⟩
        rw [show ((n.toNat : Nat) : Int) = n by omega] at k
        exact k
  · cases e with
    | true => exact f4 z hz
    | false => cases hz
theorem lvP_len {size : Option Nat} {e : Bool} {lv : Lv} (hs : SizeOk size) (h : LvOk size e lv) : 1 ≤ (lvP lv e).length ∧ (lvP lv e).length ≤ 30 := by
  have he : (if e = true then sEnding else []).length ≤ 3 := by cases e <;> decide +kernel
  unfold lvP
  rw [List.length_append]
  cases lv with
  | same ms =>
    have := wp_len ms
    have := h.l4
    show 1 ≤ ((wp ms).length + 1) + _ ∧ ((wp ms).length + 1) + _ ≤ 30
    omega
  | along k z =>
    show 1 ≤ 3 + _ ∧ 3 + _ ≤ 30
    omega
  | list ns =>
    obtain ⟨s, rfl, hl, _⟩ := h
    have h2 := hs.2
    have : (Lv.list ns).body.length = ns.length + 1 := by
      show (ns.map toStr).length + 1 = _
      rw [List.length_map]
    rw [this]
    have : ns.length ≤ 12 := by
      rw [hl]
      split <;> omega
    omega
theorem endW_ok (B : List Str) (e : Bool) : endW (B ++ (if e = true then sEnding else [])) B.length = none := by
  unfold endW
  have h3 : sEnding.length = 3 := by decide +kernel
  cases e with
  | false =>
    have e0 : (if false = true then sEnding else []) = ([] : List Str) := rfl
    rw [e0, List.append_nil, if_pos rfl]
  | true =>
    rw [if_pos rfl, List.length_append, h3, if_neg (by omega), List.append_assoc, List.drop_left]
    rw [show endE (sEnding ++ [sNoP]) sEnding = none from by decide +kernel]
    exact if_neg (Nat.lt_irrefl _)
theorem cntN_ok {N : List Str} : ∀ {L : List Str} {n : Nat} {r : List Str}, (∀ z ∈ L, z ∈ N) → L.length ≤ n → cntN N n (L ++ r) = L.length + cntN N (n - L.length) r
  | [], n, r, _, _ => by simp
  | z :: L, 0, r, _, h => by simp at h
  | z :: L, n + 1, r, hm, h => by
    have e : cntN N (n + 1) (z :: L ++ r) = if z ∈ N then cntN N n (L ++ r) + 1 else 0 := rfl
    rw [e, if_pos (hm z (List.mem_cons_self ..)), cntN_ok (fun y hy => hm y (List.mem_cons_of_mem _ hy)) (by simpa using h), List.length_cons, Nat.add_sub_add_right]
    omega
theorem lvP_right {size : Option Nat} {e : Bool} {lv : Lv} (hs : SizeOk size) (h : LvOk size e lv) : lvlW (lvP lv e) size = none := by
  have hE : ((if e = true then sEnding else []) ++ [sNoP]).head? ≠ some ("then" : Str) := by cases e <;> decide +kernel
  have hend := endW_ok lv.body e
  have hle : lv.body.length ≤ (lvP lv e).length := by unfold lvP; rw [List.length_append]; omega
  cases lv with
  | same ms =>
    have hh : hd (lvP (.same ms) e) = "same" := rfl
    have hm := mvsE_ok (n := 4) h.ne h.l4 h.ok h.one (fun _ => (rfl : true = true))
    have ew := (wrdE_inr (wrdE_ok h)).1
    have hm2 := mvsE_tail hE (ps := wp ms) (k := 0) (Nat.zero_le _) hm
    rw [← ew] at hm2
    have hb : bodyE (lvP (.same ms) e) size = .inr (1 + (wp ms).length) := by
      unfold bodyE
      rw [if_pos hh]
      have ed : (lvP (.same ms) e ++ [sNoP]).drop 1 = wp ms ++ ((if e = true then sEnding else []) ++ [sNoP]) := by
        show (wp ms ++ (if e = true then sEnding else [])) ++ [sNoP] = _
        rw [List.append_assoc]
      rw [ed, hm2]
    have hbl : (Lv.same ms).body.length = 1 + (wp ms).length := by
      show (wp ms).length + 1 = _
      omega
    rw [lvlW_other (by rw [hh]; decide +kernel) hb (by rw [← hbl]; exact hle), ← hbl]
    exact hend
  | along k z =>
    have hh : hd (lvP (.along k z) e) = "along" := rfl
    have hb : bodyE (lvP (.along k z) e) size = .inr 3 := by
      unfold bodyE
      rw [if_neg (by rw [hh]; decide +kernel), if_pos hh, show nthS (lvP (.along k z) e) 1 = toStr k from rfl, show nthS (lvP (.along k z) e) 2 = z from rfl, if_pos (nums_FS.1 _ h.1).2, if_pos (nums_FS.2 _ h.2.1).2]
    rw [lvlW_other (by rw [hh]; decide +kernel) hb hle]
    exact hend
  | list ns =>
    obtain ⟨s, rfl, hl, hn⟩ := h
    have hs2 := hs.1
    have hh : hd (lvP (.list ns) e) = "list" := rfl
    rw [lvlW_list hh]
    have ed : (lvP (.list ns) e ++ [sNoP]).drop 1 = ns.map toStr ++ ((if e = true then sEnding else []) ++ [sNoP]) := by
      show (ns.map toStr ++ (if e = true then sEnding else [])) ++ [sNoP] = _
      rw [List.append_assoc]
    have hmem : ∀ z ∈ ns.map toStr, z ∈ lNums s := fun z hz => by
      obtain ⟨n, hn', rfl⟩ := List.mem_map.mp hz
      obtain ⟨h0, h1⟩ := hn n hn'
      refine List.mem_map.mpr ⟨n.toNat, List.mem_range.mpr (by omega), ?_⟩
      show toStr ((n.toNat : Nat) : Int) = toStr n
      rw [show ((n.toNat : Nat) : Int) = n by omega]
    have hll : (ns.map toStr).length = ns.length := List.length_map ..
    have hbl : (Lv.list ns).body.length = 1 + ns.length := by
      show (ns.map toStr).length + 1 = _
      omega
    cases e with
    | true =>
      rw [if_pos rfl] at hl
      have hc : cntN (lNums s) s ((lvP (.list ns) true ++ [sNoP]).drop 1) = s := by
        rw [ed, cntN_ok hmem (by omega), hll, hl, Nat.sub_self]
        rfl
      rw [hc, if_neg (by omega), if_pos (by omega)]
      have hlen : (lvP (.list ns) true).length = 1 + s + 3 := by
        unfold lvP
        rw [List.length_append, hbl, hl]
        rfl
      unfold endW at hend
      rw [hbl, hl] at hend
      change (if 1 + s = (lvP (.list ns) true).length then none else match endE ((lvP (.list ns) true ++ [sNoP]).drop (1 + s)) sEnding with
        | some j => some (1 + s + j)
        | none => if 1 + s + 3 < (lvP (.list ns) true).length then some (1 + s + 3) else none) = none at hend
      rw [if_neg (by omega)] at hend
      exact hend
    | false =>
      rw [if_neg (by decide)] at hl
      have hc : cntN (lNums s) s ((lvP (.list ns) false ++ [sNoP]).drop 1) = s - 1 := by
        rw [ed, cntN_ok hmem (by omega), hll, hl, show s - (s - 1) = 1 by omega]
        show s - 1 + cntN (lNums s) 1 [sNoP] = s - 1
        have : cntN (lNums s) 1 [sNoP] = if sNoP ∈ lNums s then cntN (lNums s) 0 [] + 1 else 0 := rfl
        rw [this, if_neg (lNums_no hs.2)]
        rfl
      have hlen : (lvP (.list ns) false).length = s := by
        unfold lvP
        rw [List.length_append, hbl, hl]
        show 1 + (s - 1) + 0 = s
        omega
      rw [hc, if_neg (by omega), if_neg (by omega), if_neg (by omega)]
section
variable {P : Program} {w : World} {K : PySem.W.Frag} {mg : Str → Option Value} {base : Heap} {a : Ad}
theorem lgA {k : Int} (h1 : -9 ≤ k) (h2 : k ≤ 9) : k.natAbs.log2 < 1920 := by
  by_cases h : 0 ≤ k
  · exact lg k h (by omega)
  · rw [← Int.natAbs_neg]
    exact lg _ (by omega) (by omega)
theorem wt_places : ∀ z ∈ wt, z ∈ places := by decide +kernel
theorem pos_nums : ∀ i : Fin 9, toStr (((i.val : Nat) : Int) + 1) ∈ nums := by decide +kernel
theorem neg_nums : ∀ i : Fin 9, toStr (-1 - ((i.val : Nat) : Int)) ∈ nums := by decide +kernel
def spLawLevel : Sp := fun vs H Q _ => ∃ (d c : Addr) (n : Nat) (size : Option Nat), vs = [.ref d, .int (szI size)] ∧ Pen H d c n ∧ n + 400 < 2 ^ 40 ∧ SizeOk size ∧
  ∀ o lv e H', H o = none → LvT H' o e lv → LvOk size e lv → Pen H' d c (n + 200) → But d H H' → Q (.ref o) H'
theorem ok__law_level (T : Tx w K mg a) : FnOk P w K mg base CX0 5 a.f__law_level a.d__law_level ["pen", "size"] spLawLevel := by
  refine T.F__law_level.ok sc__law_level (fun vs H Q E h => ?_) (fun cdv A outer s H vs Q E hr h => ?_)
  · obtain ⟨d, c, n, size, rfl, _⟩ := h
    rfl
  · obtain ⟨d, c, n, size, rfl, hp, hn, hsz, q⟩ := h
    refine ⟨_, 
(pss_cons (ps_set (i := 2) sc__law_level.nd rfl (.inl rfl) (pe_cmpR op_eq (pe_call (ok__law_draw T) (hr.mono (by decide)) (by rfl) T.m__law_draw T.F__law_draw.kp T.b__law_draw .nil pass0 (pa_cons (pv 0) (pa_cons pe_int pa_nil))) pe_int (nomark _)))
  (C8.pss_cut (ps_set (i := 3) sc__law_level.nd rfl (.inl rfl) (pe_call (ok__law_draw T) (hr.mono (by decide)) (by rfl) T.m__law_draw T.F__law_draw.kp T.b__law_draw .nil pass0 (pa_cons (pv 0) (pa_cons (pe_ifExp (pt_cmpR op_gt (pv 1) pe_int (nomark _)) pe_int pe_int) pa_nil))))
  (pss_cons (ps_if (pt_cmpR op_lt (pv 3) pe_int (nomark _))
  (pss_one (ps_ret (pe_tup (pa_cons pe_str (pa_cons (pe_call (ok__law_moves T) hr (by rfl) T.m__law_moves T.F__law_moves.kp T.b__law_moves .nil pass0 (pa_cons (pv 0) pa_nil)) (pa_cons pe_non (pa_cons (pv 2) pa_nil)))))))
  pss_nil)
  (pss_cons (ps_if (pt_cmpR op_lt (pv 3) pe_int (nomark _))
  (pss_cons (ps_set (i := 4) sc__law_level.nd rfl (.inl rfl) (pe_call (ok__law_draw T) (hr.mono (by decide)) (by rfl) T.m__law_draw T.F__law_draw.kp T.b__law_draw .nil pass0 (pa_cons (pv 0) (pa_cons pe_int pa_nil))))
  (pss_one (ps_ret (pe_tup (pa_cons pe_str (pa_cons (pe_ifExp (pt_cmpR op_lt (pv 4) pe_int (nomark _)) (pe_op op_add (pv 4) pe_int) (pe_op op_sub pe_int (pv 4))) (pa_cons (pe_call (ok__law_place_word T) (hr.mono (by decide)) (by rfl) T.m__law_place_word T.F__law_place_word.kp T.b__law_place_word .nil pass0 (pa_cons (pv 0) pa_nil)) (pa_cons (pv 2) pa_nil))))))))
  pss_nil)
  (pss_one (ps_ret (pe_tup (pa_cons pe_str (pa_cons (pe_lc (own := [("k", 4)]) (g := gName 4) rfl sc__law_level.nd (pi_range1 (by rfl) T.z_range (pa_cons (pe_ifExp (pt_val (pv 2)) (pv 1) (pe_op op_sub (pv 1) pe_int)) pa_nil)) (blkOk_by (own := [("k", 4)]) (N := ["pen", "size", "end", "way", "k"]) (sc := defScope s__law_level) (by decide +kernel)) (fun _ _ _ _ _ => pg_name (i := 4) sc__law_level.nd rfl (Or.inl rfl)) (fun _ _ _ _ _ => pts_nil) (fun _ _ _ _ _ => (pe_call (ok__law_draw T) (hr.mono (by decide)) (by rfl) T.m__law_draw T.F__law_draw.kp T.b__law_draw .nil pass0 (pa_cons (pv 0) (pa_cons (pe_op op_sub (pv 1) pe_int) pa_nil))))) (pa_cons pe_non (pa_cons (pv 2) pa_nil))))))))))), ?_⟩
    -- end = _law_draw(pen, 3) == 0
    refine ⟨_, rfl, d, c, n, 3, rfl, hp, by omega, by decide, by decide, fun u H1 _ _ hp1 b1 => ⟨rfl, ?_⟩⟩
    generalize decide (V.int u = V.int 0) = e
    -- way = _law_draw(pen, 7 if size > 0 else 5)
    refine ⟨fun σ' H' => ∃ v : Int, σ' = [some (.ref d), some (.int (szI size)), some (.bl e), some (.int v), none] ∧ (5 ≤ v → ∃ s, size = some s) ∧ 0 ≤ v ∧ Pen H' d c (n + 2) ∧ But d H H', ?_, ?_⟩
    · refine ⟨_, rfl, _, rfl, _, 0, rfl, rfl, _, rfl, ?_⟩
      cases size with
      | none =>
        rw [decide_eq_false (show ¬ (0 : Int) < szI none by decide)]
        exact iteF ⟨d, c, n + 1, 5, rfl, hp1, by omega, by decide, by decide, fun v H2 v0 v1 hp2 b2 => ⟨v, rfl, fun h => absurd h (by omega), v0, hp2, b1.trans b2⟩⟩
      | some s =>
        have hs2 := hsz.1
        rw [decide_eq_true (show (0 : Int) < szI (some s) by show (0 : Int) < (s : Int); omega)]
        exact iteT ⟨d, c, n + 1, 7, rfl, hp1, by omega, by decide, by decide, fun v H2 v0 v1 hp2 b2 => ⟨v, rfl, fun _ => ⟨s, rfl⟩, v0, hp2, b1.trans b2⟩⟩
    rintro σ' H2 ⟨v, rfl, h5, v0, hp2, b02⟩
    refine ⟨_, rfl, _, 3, rfl, rfl, _, rfl, ite2 (fun hlt => ?_) (fun hge => ?_)⟩
    · refine ⟨_, rfl, d, c, n + 2, rfl, hp2, by omega, fun o ps ms H3 hw no eo hh nps hp3 b3 => ⟨_, rfl, sz (show 4 ≤ 100000 by decide), fun t nt => ?_⟩⟩
      have s4 := same_upd (o := .tup [.str "same", .ref o, .non, .bl e]) nt
      have b23 := b02.trans b3
      exact q t (.same ms) e _ (b23.free hp3 nt) ⟨o, ps, upd_same, s4 _ _ eo, hh.same s4⟩ hw ((hp3.same s4).up (by omega)) (b23.trans (but_same s4))
    refine ⟨_, rfl, _, 5, rfl, rfl, _, rfl, ite2 (fun hlt => ?_) (fun hge5 => ?_)⟩
    · refine ⟨_, rfl, d, c, n + 2, 18, rfl, hp2, by omega, by decide, by decide, fun k H3 k0 k1 hp3 b3 => ?_⟩
      have fin : ∀ (kk : Int) (z : Str) (H5 : Hp) (t : Addr), toStr kk ∈ nums → (-9 ≤ kk ∧ kk ≤ 9) → z ∈ wt → Pen H5 d c (n + 2 + 1 + 1) → But d H H5 → H5 t = none → Q (.ref t) (upd H5 t (.tup [.str "along", .int kk, .str z, .bl e])) := fun kk z H5 t h1 h2 hz hp5 b5 nt => by
        have s4 := same_upd (o := .tup [.str "along", .int kk, .str z, .bl e]) nt
        exact q t (.along kk z) e _ (b5.free hp5 nt) upd_same ⟨h1, wt_places z hz, h2⟩ ((hp5.same s4).up (by omega)) (b5.trans (but_same s4))
      have b23 := b02.trans b3
      refine ⟨_, rfl, _, 9, rfl, rfl, _, rfl, ite2 (fun hk => ?_) (fun hk => ?_)⟩
      · have hk9 : k < 9 := of_decide_eq_true hk
        refine ⟨_, rfl, _, 1, rfl, rfl, _, rfl, d, c, n + 2 + 1, rfl, hp3, by omega, fun z H5 hz hp5 b5 => ⟨_, rfl, sz (show 4 ≤ 100000 by decide), fun t nt => fin (k + 1) z H5 t ?_ ?_ hz hp5 (b23.trans b5) nt⟩⟩
        · have := pos_nums ⟨k.toNat, by omega⟩
          rw [show (((⟨k.toNat, by omega⟩ : Fin 9).val : Nat) : Int) + 1 = k + 1 by show ((k.toNat : Nat) : Int) + 1 = _; omega] at this
          exact this
        · omega
      · have hk9 : ¬ k < 9 := fun z => hk (decide_eq_true z)
        refine ⟨_, rfl, 8, _, rfl, rfl, _, rfl, d, c, n + 2 + 1, rfl, hp3, by omega, fun z H5 hz hp5 b5 => ⟨_, rfl, sz (show 4 ≤ 100000 by decide), fun t nt => fin (8 - k) z H5 t ?_ ?_ hz hp5 (b23.trans b5) nt⟩⟩
        · have := neg_nums ⟨(k - 9).toNat, by omega⟩
          rw [show -1 - (((⟨(k - 9).toNat, by omega⟩ : Fin 9).val : Nat) : Int) = 8 - k by show -1 - (((k - 9).toNat : Nat) : Int) = _; omega] at this
          exact this
        · omega
    have hv5 : 5 ≤ v := by
      have : ¬ v < 5 := fun z => hge5 (decide_eq_true z)
      omega
    obtain ⟨s, rfl⟩ := h5 hv5
    have hs2 := hsz.1
    have hs12 := hsz.2
    have fin : ∀ (ns : List Int) (D t : Addr) (H5 : Hp), ns.length = (if e = true then s else s - 1) → (∀ x ∈ ns, 0 ≤ x ∧ x < (s : Int) - 1) → H5 D = some (.lst (ns.map V.int)) → Pen H5 d c (n + 2 + 12) → But d H H5 → H5 t = none → Q (.ref t) (upd H5 t (.tup [.str "list", .ref D, .non, .bl e])) := fun ns D t H5 h1 h2 hD hp5 b5 nt => by
      have s4 := same_upd (o := .tup [.str "list", .ref D, .non, .bl e]) nt
      exact q t (.list ns) e _ (b5.free hp5 nt) ⟨D, upd_same, s4 _ _ hD⟩ ⟨s, rfl, h1, h2⟩ ((hp5.same s4).up (by omega)) (b5.trans (but_same s4))
    have gen : ∀ (m : Nat), m = (if e = true then s else s - 1) → ∀ D, H2 D = none → ∀ H5, (∃ ns : List Int, ns.length = m ∧ (∀ x ∈ ns, 0 ≤ x ∧ x < (s : Int) - 1) ∧ H5 D = some (.lst (ns.map V.int)) ∧ Pen H5 d c (n + 2 + m) ∧ But d H H5) → ∀ t, H5 t = none → Q (.ref t) (upd H5 t (.tup [.str "list", .ref D, .non, .bl e])) := fun m hm D hD H5 h t nt => by
      obtain ⟨ns, h1, h2, h3, h4, h6⟩ := h
      have : m ≤ 12 := by
        rw [hm]
        split <;> omega
      exact fin ns D t H5 (h1.trans hm) h2 h3 (h4.up (by omega)) h6 nt
    have step : ∀ (m : Nat), m ≤ 12 → ∀ D, H2 D = none → ∀ (l : Nat) (H' : Hp), l < m → (∃ ns : List Int, ns.length = l ∧ (∀ x ∈ ns, 0 ≤ x ∧ x < (s : Int) - 1) ∧ H' D = some (.lst (ns.map V.int)) ∧ Pen H' d c (n + 2 + l) ∧ But d H H') →
        spDraw [.ref d, .int ((s : Int) - 1)] H' (fun y H4 => ∃ acc, H4 D = some (.lst acc) ∧ acc.length < sizeLine ∧ (∃ ns : List Int, ns.length = l + 1 ∧ (∀ x ∈ ns, 0 ≤ x ∧ x < (s : Int) - 1) ∧ (upd H4 D (.lst (acc ++ [y]))) D = some (.lst (ns.map V.int)) ∧ Pen (upd H4 D (.lst (acc ++ [y]))) d c (n + 2 + (l + 1)) ∧ But d H (upd H4 D (.lst (acc ++ [y]))))) E0 := fun m hm D hD l H' hl h => by
      obtain ⟨ns, h1, h2, h3, h4, h6⟩ := h
      have nD : H D = none := b02.free hp2 hD
      obtain ⟨_, hd2⟩ := hp2.dict
      obtain ⟨_, hc2⟩ := hp2.cells
      obtain ⟨_, hd'⟩ := h4.dict
      refine ⟨d, c, n + 2 + l, (s : Int) - 1, rfl, h4, by omega, by omega, ?_, fun x H4 x0 x1 hp4 b4 => ⟨ns.map V.int, b4.list hd' h3, szlt (by rw [List.length_map]; omega), ns ++ [x], by rw [List.length_append, h1]; rfl, fun y hy => ?_, ?_, (hp4.mut (ne_of_none hd2 hD) (ne_of_none hc2 hD)).up (by omega), (h6.trans b4).mut nD⟩⟩
      · have : ((100000 : Nat) : Int) < 2 ^ 200 := by decide
        omega
      · rcases List.mem_append.mp hy with z | z
        · exact h2 y z
        · rw [List.mem_singleton.mp z]
          exact ⟨x0, x1⟩
      · rw [upd_same, List.map_append]
        rfl
    have start : ∀ D, H2 D = none → (∃ ns : List Int, ns.length = 0 ∧ (∀ x ∈ ns, 0 ≤ x ∧ x < (s : Int) - 1) ∧ (upd H2 D (.lst [])) D = some (.lst (ns.map V.int)) ∧ Pen (upd H2 D (.lst [])) d c (n + 2 + 0) ∧ But d H (upd H2 D (.lst []))) := fun D hD =>
      ⟨[], rfl, fun x hx => (by cases hx), upd_same, hp2.same (same_upd hD), b02.trans (but_same (same_upd hD))⟩
    clear fin
    cases e with
    | true =>
      refine ⟨_, rfl, _, rfl, iteT ⟨_, rfl, _, rfl, by show (-2 ^ 62 : Int) ≤ (s : Int); omega, by show (s : Int) < 2 ^ 62; omega, fun D hD => ?_⟩⟩
      refine lc_range (lo := 0) (n := ((s : Nat) : Int).toNat) (fun l H' => ∃ ns : List Int, ns.length = l ∧ (∀ x ∈ ns, 0 ≤ x ∧ x < (s : Int) - 1) ∧ H' D = some (.lst (ns.map V.int)) ∧ Pen H' d c (n + 2 + l) ∧ But d H H') ?c0 ?cs ?cd
      case c0 => exact start D hD
      case cs =>
        rintro l H' hl h
        exact ⟨rfl, _, rfl, _, rfl, _, 1, rfl, rfl, step s (by omega) D hD l H' (by omega) h⟩
      rintro H5 h
      rw [show ((s : Nat) : Int).toNat = s from rfl] at h
      exact ⟨_, rfl, sz (show 4 ≤ 100000 by decide), fun t nt => gen s rfl D hD H5 h t nt⟩
    | false =>
      refine ⟨_, rfl, _, rfl, iteF ⟨_, rfl, _, 1, rfl, rfl, _, rfl, by show (-2 ^ 62 : Int) ≤ (s : Int) - 1; omega, by show (s : Int) - 1 < 2 ^ 62; omega, fun D hD => ?_⟩⟩
      refine lc_range (lo := 0) (n := ((s : Int) - 1).toNat) (fun l H' => ∃ ns : List Int, ns.length = l ∧ (∀ x ∈ ns, 0 ≤ x ∧ x < (s : Int) - 1) ∧ H' D = some (.lst (ns.map V.int)) ∧ Pen H' d c (n + 2 + l) ∧ But d H H') ?d0 ?ds ?dd
      case d0 => exact start D hD
      case ds =>
        rintro l H' hl h
        exact ⟨rfl, _, rfl, _, rfl, _, 1, rfl, rfl, step s (by omega) D hD l H' (by omega) h⟩
      rintro H5 h
      rw [show ((s : Int) - 1).toNat = s - 1 by omega] at h
      exact ⟨_, rfl, sz (show 4 ≤ 100000 by decide), fun t nt => gen (s - 1) rfl D hD H5 h t nt⟩
def spLevelText : Sp := fun vs H Q _ => ∃ (o : Addr) (size : Option Nat) (lv : Lv) (e : Bool), vs = [.ref o] ∧ LvT H o e lv ∧ SizeOk size ∧ LvOk size e lv ∧ ∀ H', Same H H' → Q (.str (lvText lv e)) H'
theorem ok__law_level_text (T : Tx w K mg a) : FnOk P w K mg base CX0 2 a.f__law_level_text a.d__law_level_text ["level"] spLevelText := by
  refine T.F__law_level_text.ok sc__law_level_text (fun vs H Q E h => ?_) (fun cdv A outer s H vs Q E hr h => ?_)
  · obtain ⟨o, size, lv, e, rfl, _⟩ := h
    rfl
  · obtain ⟨o, size, lv, e, rfl, hT, hsz, hok, q⟩ := h
    refine ⟨_, 
(pss_cons (ps_asg (pv 0) (pg_tup rfl (pgs_cons (pg_name (i := 1) sc__law_level_text.nd rfl (.inl rfl)) (pgs_cons (pg_name (i := 2) sc__law_level_text.nd rfl (.inl rfl)) (pgs_cons (pg_name (i := 3) sc__law_level_text.nd rfl (.inl rfl)) (pgs_cons (pg_name (i := 4) sc__law_level_text.nd rfl (.inl rfl)) pgs_nil))))))
  (pss_cons (ps_set (i := 5) sc__law_level_text.nd rfl (.inl rfl) (pe_ifExp (pt_cmpR op_eq (pv 1) pe_str (nomark _)) (pe_op op_add_str pe_str (pe_call (ok__law_word_text T) hr (by rfl) T.m__law_word_text T.F__law_word_text.kp T.b__law_word_text .nil pass0 (pa_cons (pv 2) pa_nil))) (pe_op op_add_str (pe_op op_add_str (pe_op op_add_str pe_str (pe_callTy (call_strA (room65 hr)) (by rfl) T.z_str (by decide +kernel) (pa_cons (pv 2) pa_nil))) pe_str) (pe_callTy (call_strA (room65 hr)) (by rfl) T.z_str (by decide +kernel) (pa_cons (pv 3) pa_nil)))))
  (pss_cons (ps_if (pt_cmpR op_eq (pv 1) pe_str (nomark _))
  (pss_one (ps_set (i := 5) sc__law_level_text.nd rfl (.inl rfl) (pe_op op_add_str pe_str (pe_join pe_str (pe_lc (own := [("place", 6)]) (g := gName 6) rfl sc__law_level_text.nd (pi_list (pv 2)) (blkOk_by (own := [("place", 6)]) (N := ["level", "kind", "one", "other", "end", "text", "place"]) (sc := defScope s__law_level_text) (by decide +kernel)) (fun _ _ _ _ _ => pg_name (i := 6) sc__law_level_text.nd rfl (Or.inl rfl)) (fun _ _ _ _ _ => pts_nil) (fun _ _ _ _ _ => (pe_callTy call_str_int (by rfl) T.z_str (by decide +kernel) (pa_cons (pv 6) pa_nil))))))))
  pss_nil)
  (pss_one (ps_ret (pe_op op_add_str (pv 5) (pe_ifExp (pt_val (pv 4)) pe_str pe_str))))))), ?_⟩
    have l1 : (Str.ofString " to the end").length = 11 := by decide +kernel
    have l2 : (Str.ofString "").length = 0 := by decide +kernel
    have l3 : (Str.ofString "same ").length = 5 := by decide +kernel
    have l4 : (Str.ofString "along ").length = 6 := by decide +kernel
    have l5 : (Str.ofString "list ").length = 5 := by decide +kernel
    have l6 : (Str.ofString " ").length = 1 := by decide +kernel
    have d1 : ¬ V.str "same" = V.str "list" := fun e => absurd (V.str.inj e) (by decide +kernel)
    have d2 : ¬ V.str "along" = V.str "same" := fun e => absurd (V.str.inj e) (by decide +kernel)
    have d3 : ¬ V.str "along" = V.str "list" := fun e => absurd (V.str.inj e) (by decide +kernel)
    have d4 : ¬ V.str "list" = V.str "same" := fun e => absurd (V.str.inj e) (by decide +kernel)
    cases lv with
    | same ms =>
      obtain ⟨m, ps, h1, h2, h3⟩ := hT
      refine ⟨_, rfl, o, [.str "same", .ref m, .non, .bl e], rfl, SqT.at h1, rfl, _, [.ref m, .non, .bl e], rfl, _, [.non, .bl e], rfl, _, [.bl e], rfl, _, [], rfl, rfl, ?_⟩
      refine ⟨_, rfl, rfl, _, rfl, ?_⟩
      rw [decide_eq_true (show V.str "same" = V.str "same" from rfl)]
      have hl := wtext_len hok
      refine iteT ⟨_, rfl, m, ps, ms, rfl, SqL.at h2, h3, hok.l4, hok.ok, fun H1 s1 => ⟨_, _, rfl, rfl, sz (by rw [l3]; omega), ?_⟩⟩
      refine ⟨_, rfl, rfl, _, rfl, ?_⟩
      rw [decide_eq_false d1]
      refine iteF ⟨_, rfl, _, rfl, _, rfl, ?_⟩
      have hl2 : (Str.ofString "same " ++ wtext ms).length = 5 + (wtext ms).length := by rw [strLen_append, l3]
      cases e with
      | true => exact iteT ⟨_, _, rfl, rfl, sz (by rw [hl2, l1]; omega), q _ s1⟩
      | false => exact iteF ⟨_, _, rfl, rfl, sz (by rw [hl2, l2]; omega), q _ s1⟩
    | along k z =>
      refine ⟨_, rfl, o, [.str "along", .int k, .str z, .bl e], rfl, SqT.at hT, rfl, _, [.int k, .str z, .bl e], rfl, _, [.str z, .bl e], rfl, _, [.bl e], rfl, _, [], rfl, rfl, ?_⟩
      refine ⟨_, rfl, rfl, _, rfl, ?_⟩
      rw [decide_eq_false d2]
      have hk1 := (FS_chk (nums_FS.1 _ hok.1).1).2.2.1
      have hz1 := (FS_chk (nums_FS.2 _ hok.2.1).1).2.2.1
      have e1 : (Str.ofString "along " ++ toStr k).length = 6 + (toStr k).length := by rw [strLen_append, l4]
      have e2 : ((Str.ofString "along " ++ toStr k) ++ Str.ofString " ").length = 6 + (toStr k).length + 1 := by rw [strLen_append, e1, l6]
      have e3 : (((Str.ofString "along " ++ toStr k) ++ Str.ofString " ") ++ z).length = 6 + (toStr k).length + 1 + z.length := by rw [strLen_append, e2]
      refine iteF ⟨_, rfl, _, rfl, .inl ⟨k, rfl, lgA hok.2.2.1 hok.2.2.2, _, _, rfl, rfl, sz (show (Str.ofString "along ").length + (toStr k).length ≤ 100000 by rw [l4]; omega), _, _, rfl, rfl, sz (show (Str.ofString "along " ++ toStr k).length + (Str.ofString " ").length ≤ 100000 by rw [e1, l6]; omega), _, rfl, _, rfl, .inr (.inl ⟨z, rfl, _, _, rfl, rfl, sz (show ((Str.ofString "along " ++ toStr k) ++ Str.ofString " ").length + z.length ≤ 100000 by rw [e2]; omega), ?_⟩)⟩⟩
      refine ⟨_, rfl, rfl, _, rfl, ?_⟩
      rw [decide_eq_false d3]
      refine iteF ⟨_, rfl, _, rfl, _, rfl, ?_⟩
      cases e with
      | true => exact iteT ⟨_, _, rfl, rfl, sz (show (((Str.ofString "along " ++ toStr k) ++ Str.ofString " ") ++ z).length + (Str.ofString " to the end").length ≤ 100000 by rw [e3, l1]; omega), q _ (Same.refl H)⟩
      | false => exact iteF ⟨_, _, rfl, rfl, sz (show (((Str.ofString "along " ++ toStr k) ++ Str.ofString " ") ++ z).length + (Str.ofString "").length ≤ 100000 by rw [e3, l2]; omega), q _ (Same.refl H)⟩
    | list ns =>
      obtain ⟨m, h1, h2⟩ := hT
      have hne := nums_ne hsz hok
      obtain ⟨s, rfl, hl, hn⟩ := hok
      have hs2 := hsz.2
      have hl12 : ns.length ≤ 12 := by
        rw [hl]
        split <;> omega
      refine ⟨_, rfl, o, [.str "list", .ref m, .non, .bl e], rfl, SqT.at h1, rfl, _, [.ref m, .non, .bl e], rfl, _, [.non, .bl e], rfl, _, [.bl e], rfl, _, [], rfl, rfl, ?_⟩
      refine ⟨_, rfl, rfl, _, rfl, ?_⟩
      rw [decide_eq_false d4]
      refine iteF ⟨_, rfl, _, rfl, .inr (.inr (.inr ⟨m, ns, rfl, SqL.at h2, hne, by omega, fun x hx => ⟨(hn x hx).1, by have := (hn x hx).2; omega⟩, fun y hy => ?_⟩))⟩
      have e1 : (Str.ofString "along " ++ y).length = 6 + y.length := by rw [strLen_append, l4]
      have e2 : ((Str.ofString "along " ++ y) ++ Str.ofString " ").length = 6 + y.length + 1 := by rw [strLen_append, e1, l6]
      have l7 : (Str.ofString "None").length = 4 := by decide +kernel
      refine ⟨_, _, rfl, rfl, sz (by rw [l4]; omega), _, _, rfl, rfl, sz (by rw [e1, l6]; omega), _, rfl, _, rfl, .inr (.inr (.inl ⟨rfl, _, _, rfl, rfl, sz (by rw [e2, l7]; omega), ?_⟩))⟩
      refine ⟨_, rfl, rfl, _, rfl, ?_⟩
      rw [decide_eq_true (show V.str "list" = V.str "list" from rfl)]
      -- text = 'list ' + ' '.join([str(place) for place in one])
      refine iteT ⟨⟨_, rfl⟩, _, rfl, m, rfl, ⟨_, SqL.at h2⟩, fun D hD => ?_⟩
      refine lc_it (walk_list (xs := ns.map V.int)) (fun j H' => Same H H' ∧ H' D = some (.lst (((ns.map toStr).take j).map V.str))) ?h0 ?hG ?hs ?hd
      case h0 => exact ⟨same_upd hD, upd_same⟩
      case hG =>
        rintro j H9 _ ⟨sm, _⟩
        exact SqL.at (sm _ _ h2)
      case hs =>
        rintro j x H9 H10 hj ⟨sm, e9⟩ ⟨rfl, ex⟩
        rw [List.length_map] at hj
        rw [List.getElem?_map, List.getElem?_eq_getElem hj] at ex
        cases ex
        obtain ⟨b0, b1⟩ := hn ns[j] (List.getElem_mem hj)
        have et : (ns.map toStr).take (j + 1) = (ns.map toStr).take j ++ [toStr ns[j]] := by
          rw [List.take_add_one, List.getElem?_map, List.getElem?_eq_getElem hj]
          rfl
        refine ⟨rfl, _, rfl, ns[j], rfl, lg _ b0 (by omega), _, e9, ?_, keep_upd sm hD, ?_⟩
        · rw [List.length_map, List.length_take, List.length_map]
          exact szlt (by omega)
        · rw [upd_same, et, List.map_append]
          rfl
      rintro H9 ⟨s9, e9⟩
      rw [List.length_map, List.take_of_length_le (by rw [List.length_map]; omega)] at e9
      have hsl : ∀ y ∈ ns.map toStr, y.length ≤ 100 := fun y hy => by
        obtain ⟨x, hx, rfl⟩ := List.mem_map.mp hy
        obtain ⟨b0, b1⟩ := hn x hx
        have := toStr_FS ⟨x.toNat, by omega⟩
        rw [show (((⟨x.toNat, by omega⟩ : Fin 12).val : Nat) : Int) = x by show ((x.toNat : Nat) : Int) = x; omega] at this
        exact (FS_chk this).2.2.1
      have hjl := join_len hsl
      rw [List.length_map] at hjl
      have e4 : (Str.ofString "list " ++ Txt.join " " (ns.map toStr)).length = 5 + (Txt.join " " (ns.map toStr)).length := by rw [strLen_append, l5]
      refine ⟨" ", D, ns.map toStr, rfl, rfl, .inl (SqL.at e9), join_size hsl (by rw [List.length_map]; omega), _, _, rfl, rfl, sz (by rw [l5]; omega), ?_⟩
      refine ⟨_, rfl, _, rfl, _, rfl, ?_⟩
      cases e with
      | true => exact iteT ⟨_, _, rfl, rfl, sz (by rw [e4, l1]; omega), q _ s9⟩
      | false => exact iteF ⟨_, _, rfl, rfl, sz (by rw [e4, l2]; omega), q _ s9⟩
end

/-! ### levels and what they do -/
def Lv.kind : Lv → Str
  | .same _ => "same"
  | .along _ _ => "along"
  | .list _ => "list"
/-- the word, the factor, the place, the entries of a level -/
def LvHas (CW : Addr) (H : Hp) (w fa pl en : V) : Lv → Prop
  | .same ms => (∃ a, w = .ref a ∧ WordAt CW H a ms) ∧ fa = .non ∧ pl = .non ∧ en = .non
  | .along k z => w = .non ∧ fa = .int k ∧ pl = .str z ∧ en = .non
  | .list ns => w = .non ∧ fa = .non ∧ pl = .non ∧ ∃ t, en = .ref t ∧ H t = some (.tup (ns.map V.int))
/-- a level stands at p -/
def LevelL (C CW : Addr) (H : Hp) (p : Addr) (lv : Lv) (e : Bool) : Prop := ∃ dx fs w fa pl en, H p = some (.ins C dx fs) ∧ fs.lookup ("text" : Str) = some (.str (lvText lv e)) ∧ fs.lookup ("kind" : Str) = some (.str lv.kind) ∧ fs.lookup ("to_end" : Str) = some (.bl e) ∧
  fs.lookup ("word" : Str) = some w ∧ fs.lookup ("factor" : Str) = some fa ∧ fs.lookup ("place" : Str) = some pl ∧ fs.lookup ("entries" : Str) = some en ∧ (∀ k, k ∉ lvKeys → fs.lookup k = none) ∧ LvHas CW H w fa pl en lv
theorem LevelL.same {C CW : Addr} {H H' : Hp} {p : Addr} {lv : Lv} {e : Bool} (h : LevelL C CW H p lv e) (s : Same H H') : LevelL C CW H' p lv e := by
  obtain ⟨dx, fs, w, fa, pl, en, h1, h2, h3, h4, h5, h6, h7, h8, h0, h9⟩ := h
  refine ⟨dx, fs, w, fa, pl, en, s _ _ h1, h2, h3, h4, h5, h6, h7, h8, h0, ?_⟩
  cases lv with
  | same ms =>
    obtain ⟨⟨a, ha, hw⟩, hr⟩ := h9
    exact ⟨⟨a, ha, hw.same s⟩, hr⟩
  | along k z => exact h9
  | list ns =>
    obtain ⟨r1, r2, r3, t, ht, e⟩ := h9
    exact ⟨r1, r2, r3, t, ht, s _ _ e⟩
/-- how many steps a level does at size k, if it is one of that size -/
def lvMany (lv : Lv) (e : Bool) (k : Nat) : Option Nat := match lv with
  | .list ns => if ns.length = (if e = true then k else k - 1) then some (if e = true then k else k - 1) else none
  | _ => some (if e = true then k else k - 1)
/-- two promises of one def -/
theorem fn_or {P : Program} {w : World} {K : PySem.W.Frag} {mg : Str → Option Value} {base : Heap} {CX : CXT} {k : Nat} {f : Addr} {fd : FuncData} {ps : List Str} {sp sq : Sp} (F : FnOk P w K mg base CX k f fd ps sp) (G : FnOk P w K mg base CX k f fd ps sq) :
    FnOk P w K mg base CX k f fd ps (fun vs H Q E => sp vs H Q E ∨ sq vs H Q E) :=
  ⟨fun vs H Q E h => h.elim (F.len vs H Q E) (G.len vs H Q E), fun A outer s H args us vs Q E hr he hb hv h => h.elim (F.run A outer s H args us vs Q E hr he hb hv) (G.run A outer s H args us vs Q E hr he hb hv)⟩
section
variable {P : Program} {w : World} {K : PySem.W.Frag} {mg : Str → Option Value} {base : Heap} {a : Ad}
def spManySteps (C CW CS : Addr) : Sp := fun vs H Q E => ∃ (p : Addr) (y : V) (ib : Bool) (lv : Lv) (e : Bool), vs = [.ref p, y] ∧ IsI H y ib ∧ LevelL C CW H p lv e ∧
  ((∃ k m : Nat, y = .int (k : Int) ∧ 2 ≤ k ∧ lvMany lv e k = some m ∧ Q (.int (m : Int)) H) ∨
   ((frM 2 y = false ∨ ∃ k : Nat, y = .int (k : Int) ∧ 2 ≤ k ∧ lvMany lv e k = none) ∧ ∀ H' d, Same H H' → H' d = some (.xd [("size", y)]) → E (.ref CS) (some d) H'))
theorem ok_Level_many_steps (T : Tx w K mg a) : FnOk P w K mg base (L2.CX P w) 3 a.f_Level_many_steps a.d_Level_many_steps ["self", "k"] (spManySteps a.C_Level a.C_Word a.C_BadSize) := by
  refine T.F_Level_many_steps.okX sc_Level_many_steps (fun vs H Q E h => ?_) (fun cdv A outer s H vs Q E hr h => ?_)
  · obtain ⟨p, y, ib, lv, e, rfl, _⟩ := h
    rfl
  · obtain ⟨p, y, ib, lv, e, rfl, hI, hL, h⟩ := h
    obtain ⟨dx, fs, wv, fa, pl, en, hp, x1, x2, x3, x4, x5, x6, x7, xo, hv⟩ := hL
    refine ⟨_, 
(pss_cons (ps_if (pt_not (pt_val (pe_call (ok_is_from T) hr (by rfl) T.m_is_from T.F_is_from.kp T.b_is_from .nil pass0 (pa_cons (pv 1) (pa_cons pe_int pa_nil)))))
  (pss_one (ps_raise rfl (takes_of rfl rfl rfl rfl) (pmk_oex T.ox_BadSize.o T.ox_BadSize.ini T.ox_BadSize.tin (ok_BadSize_init T) hr T.b_BadSize_init .nil pass0 (by rfl) T.c_BadSize (pa_cons (pv 1) pa_nil))))
  pss_nil)
  (C8.pss_cut (ps_set (i := 2) sc_Level_many_steps.nd rfl (.inl rfl) (pe_ifExp (pt_val (pe_fld (pv 0) rfl)) (pv 1) (pe_op op_sub (pv 1) pe_int)))
  (pss_cons (ps_if (PW.pt (pw_and (pt_cmpR op_eq (pe_fld (pv 0) rfl) pe_str (nomark _)) (pw_and1 (pt_cmpR op_ne (pe_callB call_len_seq (by rfl) T.z_len PySem.boot_len (pa_cons (pe_fld (pv 0) rfl) pa_nil)) (pv 2) (nomark _)))))
  (pss_one (ps_raise rfl (takes_of rfl rfl rfl rfl) (pmk_oex T.ox_BadSize.o T.ox_BadSize.ini T.ox_BadSize.tin (ok_BadSize_init T) hr T.b_BadSize_init .nil pass0 (by rfl) T.c_BadSize (pa_cons (pv 1) pa_nil))))
  pss_nil)
  (pss_one (ps_ret (pv 2)))))), ?_⟩
    have main : (frM 2 y = false ∧ ∀ H' d, Same H H' → H' d = some (.xd [("size", y)]) → E (.ref a.C_BadSize) (some d) H') ∨ ∃ k : Nat, y = .int (k : Int) ∧ 2 ≤ k ∧ (∀ m, lvMany lv e k = some m → Q (.int ((m : Nat) : Int)) H) ∧ (lvMany lv e k = none → ∀ H' d, Same H H' → H' d = some (.xd [("size", y)]) → E (.ref a.C_BadSize) (some d) H') := by
      rcases h with ⟨k, m, rfl, hk, hm, q⟩ | ⟨hy | ⟨k, rfl, hk, hm⟩, hE⟩
      · refine .inr ⟨k, rfl, hk, fun m' e' => ?_, fun e' => ?_⟩
        · rw [hm] at e'
          cases e'
          exact q
        · rw [hm] at e'
          cases e'
      · exact .inl ⟨hy, hE⟩
      · refine .inr ⟨k, rfl, hk, fun m' e' => ?_, fun _ => hE⟩
        rw [hm] at e'
        cases e'
    clear h
    rcases main with ⟨hy, hE⟩ | ⟨k, rfl, hk, qY, qN⟩
    · refine ⟨_, rfl, y, ib, 2, rfl, hI, _, rfl, ?_⟩
      rw [hy]
      exact ⟨_, rfl, (by decide : 1 ≤ 1000), err_end (Same.refl H) hE⟩
    refine ⟨_, rfl, .int (k : Int), ib, 2, rfl, hI, _, rfl, ?_⟩
    rw [show frM 2 (.int (k : Int)) = true from decide_eq_true (by omega)]
    -- many = k if self.to_end else k - 1
    refine ⟨fun σ' H' => σ' = [some (.ref p), some (.int (k : Int)), some (.int (((if e = true then k else k - 1) : Nat) : Int))] ∧ H' = H, ?_, ?_⟩
    · refine ⟨.ref p, rfl, p, a.C_Level, dx, fs, _, rfl, hp, T.cl_Level, T.n_Level_to_end, x3, _, rfl, ?_⟩
      cases e with
      | true => exact iteT ⟨_, rfl, rfl, rfl⟩
      | false =>
        refine iteF ⟨_, rfl, _, 1, rfl, rfl, ?_, rfl⟩
        have : V.int ((k : Int) - 1) = V.int ((k - 1 : Nat) : Int) := by rw [show (k : Int) - 1 = ((k - 1 : Nat) : Int) by omega]
        exact congrArg (fun z => [some (V.ref p), some (V.int (k : Int)), some z]) this
    rintro σ' H' ⟨rfl, rfl⟩
    generalize hM : (if e = true then k else k - 1) = M
    -- if self.kind == 'list' and len(self.entries) != many
    refine ⟨.ref p, rfl, p, a.C_Level, dx, fs, _, rfl, hp, T.cl_Level, T.n_Level_kind, x2, rfl, _, rfl, ?_⟩
    cases lv with
    | same ms =>
      rw [decide_eq_false (show ¬ V.str (Lv.same ms).kind = V.str "list" from fun e => absurd (V.str.inj e) (by show ¬ Str.ofString "same" = Str.ofString "list"; decide +kernel))]
      exact ⟨_, rfl, qY M (by rw [← hM]; rfl)⟩
    | along j z =>
      rw [decide_eq_false (show ¬ V.str (Lv.along j z).kind = V.str "list" from fun e => absurd (V.str.inj e) (by show ¬ Str.ofString "along" = Str.ofString "list"; decide +kernel))]
      exact ⟨_, rfl, qY M (by rw [← hM]; rfl)⟩
    | list ns =>
      rw [decide_eq_true (show V.str (Lv.list ns).kind = V.str "list" from rfl)]
      obtain ⟨r1, r2, r3, t, rfl, ht⟩ := hv
      refine ⟨.ref p, rfl, p, a.C_Level, dx, fs, _, rfl, hp, T.cl_Level, T.n_Level_entries, x7, t, _, rfl, .inr (SqT.at ht), _, rfl, rfl, _, rfl, ?_⟩
      rw [List.length_map]
      have e1 : lvMany (.list ns) e k = if ns.length = M then some M else none := by rw [← hM]; rfl
      by_cases c : ns.length = M
      · rw [decide_eq_true (show V.int (ns.length : Int) = V.int (M : Int) by rw [c])]
        rw [if_pos c] at e1
        exact ⟨_, rfl, qY M e1⟩
      · rw [decide_eq_false (show ¬ V.int (ns.length : Int) = V.int (M : Int) from fun e => c (by have := V.int.inj e; omega))]
        rw [if_neg c] at e1
        exact ⟨_, rfl, (by decide : 1 ≤ 1000), err_end (Same.refl _) (qN e1)⟩
/-- what call i of a level is exchanged with -/
def lvPart (lv : Lv) (k : Nat) (i : Nat) : V := match lv with
  | .same _ => .non
  | .along j z => .int ((j * (i : Int) + plV z (k : Int)).fmod ((k : Int) - 1))
  | .list ns => .int (ns.getD i 0)
def spPartner (C CW CS CC : Addr) : Sp := fun vs H Q E => ∃ (p : Addr) (y : V) (k m : Nat) (ib : Bool) (lv : Lv) (e : Bool) (size : Option Nat), vs = [.ref p, .int (k : Int), y] ∧ IsI H y ib ∧ LevelL C CW H p lv e ∧ LvOk size e lv ∧ 2 ≤ k ∧ lvMany lv e k = some m ∧
  ((∃ i : Nat, y = .int (i : Int) ∧ i < m ∧ Q (lvPart lv k i) H) ∨
   (btM 0 ((m : Int) - 1) y = false ∧ ∀ H' d, Same H H' → H' d = some (.xd [("call", y)]) → E (.ref CC) (some d) H'))
theorem ok_Level_partnerA (T : Tx w K mg a) : FnOk P w K mg base (L2.CX P w) 4 a.f_Level_partner a.d_Level_partner ["self", "k", "i"] (spPartner a.C_Level a.C_Word a.C_BadSize a.C_BadCall) := by
  refine T.F_Level_partner.okX sc_Level_partner (fun vs H Q E h => ?_) (fun cdv A outer s H vs Q E hr h => ?_)
  · obtain ⟨p, y, k, m, ib, lv, e, size, rfl, _⟩ := h
    rfl
  · obtain ⟨p, y, k, m, ib, lv, e, size, rfl, hI, hL, hok, hk, hm, h⟩ := h
    refine ⟨_, 
(pss_cons (ps_if (pt_not (pt_val (pe_call (ok_is_between T) (hr.mono (by decide)) (by rfl) T.m_is_between T.F_is_between.kp T.b_is_between .nil pass0 (pa_cons (pv 2) (pa_cons pe_int (pa_cons (pe_op op_sub (pe_methS (pv 0) T.cl_Level T.me_Level_many_steps (ok_Level_many_steps T) hr T.b_Level_many_steps (takes_of rfl rfl rfl rfl) (pa_cons (pv 1) pa_nil)) pe_int) pa_nil))))))
  (pss_one (ps_raise rfl (takes_of rfl rfl rfl rfl) (pmk_oex T.ox_BadCall.o T.ox_BadCall.ini T.ox_BadCall.tin (ok_BadCall_init T) (hr.mono (by decide)) T.b_BadCall_init .nil pass0 (by rfl) T.c_BadCall (pa_cons (pv 2) pa_nil))))
  pss_nil)
  (pss_cons (ps_if (pt_cmpR op_eq (pe_fld (pv 0) rfl) pe_str (nomark _))
  (pss_one (ps_ret pe_non))
  pss_nil)
  (pss_cons (ps_if (pt_cmpR op_eq (pe_fld (pv 0) rfl) pe_str (nomark _))
  (pss_one (ps_ret (pe_op op_modN (pe_op op_add (pe_op op_mul (pe_fld (pv 0) rfl) (pv 2)) (pe_call (ok_place_of T) (hr.mono (by decide)) (by rfl) T.m_place_of T.F_place_of.kp T.b_place_of .nil pass0 (pa_cons (pe_fld (pv 0) rfl) (pa_cons (pv 1) pa_nil)))) (pe_op op_sub (pv 1) pe_int))))
  pss_nil)
  (pss_one (ps_ret (pe_ix ix_tup (pe_fld (pv 0) rfl) (pv 2) (fun _ _ => rfl))))))), ?_⟩
    have hL2 := hL
    obtain ⟨dx, fs, wv, fa, pl, en, hp, x1, x2, x3, x4, x5, x6, x7, xo, hv⟩ := hL
    have hms : fs.lookup ("many_steps" : Str) = none := xo _ (by decide +kernel)
    rcases h with ⟨i, rfl, hi, q⟩ | ⟨hy, hE⟩
    rotate_left
    · refine ⟨_, rfl, .ref p, rfl, p, dx, fs, rfl, hp, hms, _, rfl, p, .int (k : Int), true, lv, e, rfl, .int _, hL2, .inl ⟨k, m, rfl, hk, hm, _, 1, rfl, rfl, y, ib, 0, (m : Int) - 1, rfl, hI, _, rfl, ?_⟩⟩
      rw [hy]
      exact ⟨_, rfl, (by decide : 1 ≤ 1000), err_end (Same.refl H) hE⟩
    refine ⟨_, rfl, .ref p, rfl, p, dx, fs, rfl, hp, hms, _, rfl, p, .int (k : Int), true, lv, e, rfl, .int _, hL2, .inl ⟨k, m, rfl, hk, hm, _, 1, rfl, rfl, .int (i : Int), ib, 0, (m : Int) - 1, rfl, hI, _, rfl, ?_⟩⟩
    rw [show btM 0 ((m : Int) - 1) (.int (i : Int)) = true from by simp only [btM, Bool.and_eq_true, decide_eq_true_eq]; omega]
    refine ⟨.ref p, rfl, p, a.C_Level, dx, fs, _, rfl, hp, T.cl_Level, T.n_Level_kind, x2, rfl, _, rfl, ?_⟩
    cases lv with
    | same ms =>
      rw [decide_eq_true (show V.str (Lv.same ms).kind = V.str "same" from rfl)]
      exact iteT q
    | along j z =>
      rw [decide_eq_false (show ¬ V.str (Lv.along j z).kind = V.str "same" from fun e => absurd (V.str.inj e) (by show ¬ Str.ofString "along" = Str.ofString "same"; decide +kernel))]
      refine iteF ⟨.ref p, rfl, p, a.C_Level, dx, fs, _, rfl, hp, T.cl_Level, T.n_Level_kind, x2, rfl, _, rfl, ?_⟩
      rw [decide_eq_true (show V.str (Lv.along j z).kind = V.str "along" from rfl)]
      obtain ⟨_, rfl, rfl, _⟩ := hv
      refine iteT ⟨.ref p, rfl, p, a.C_Level, dx, fs, _, rfl, hp, T.cl_Level, T.n_Level_factor, x5, _, rfl, j, (i : Int), rfl, rfl, ?_, .ref p, rfl, p, a.C_Level, dx, fs, _, rfl, hp, T.cl_Level, T.n_Level_place, x6, _, rfl, z, (k : Int), rfl, places_wt _ hok.2.1, _, _, rfl, rfl, _, rfl, _, 1, rfl, rfl, _, _, rfl, rfl, ?_, q⟩
      · have h1 := hok.2.2.1
        have h2 := hok.2.2.2
        exact .inl ⟨by omega, by omega⟩
      · omega
    | list ns =>
      rw [decide_eq_false (show ¬ V.str (Lv.list ns).kind = V.str "same" from fun e => absurd (V.str.inj e) (by show ¬ Str.ofString "list" = Str.ofString "same"; decide +kernel))]
      refine iteF ⟨.ref p, rfl, p, a.C_Level, dx, fs, _, rfl, hp, T.cl_Level, T.n_Level_kind, x2, rfl, _, rfl, ?_⟩
      rw [decide_eq_false (show ¬ V.str (Lv.list ns).kind = V.str "along" from fun e => absurd (V.str.inj e) (by show ¬ Str.ofString "list" = Str.ofString "along"; decide +kernel))]
      obtain ⟨_, _, _, t, rfl, ht⟩ := hv
      have hml : m = ns.length := by
        have hm : (if ns.length = (if e = true then k else k - 1) then some (if e = true then k else k - 1) else none) = some m := hm
        by_cases c : ns.length = (if e = true then k else k - 1)
        · rw [if_pos c] at hm
          rw [c]
          exact (Option.some.inj hm).symm
        · rw [if_neg c] at hm
          cases hm
      have hin : i < ns.length := by omega
      have g : atI (ns.map V.int) ((i : Nat) : Int) = some (.int (ns.getD i 0)) := atI_nat (by
        rw [List.getElem?_map, List.getElem?_eq_getElem hin, List.getD_eq_getElem?_getD, List.getElem?_eq_getElem hin]
        rfl)
      exact iteF ⟨.ref p, rfl, p, a.C_Level, dx, fs, _, rfl, hp, T.cl_Level, T.n_Level_entries, x7, _, rfl, t, _, _, _, rfl, rfl, SqT.at ht, g, q⟩
/-- .. of a size that it has not -/
def spPartnerB (C CW CS : Addr) : Sp := fun vs H Q E => ∃ (p : Addr) (z y : V) (ib : Bool) (lv : Lv) (e : Bool), vs = [.ref p, z, y] ∧ IsI H z ib ∧ LevelL C CW H p lv e ∧ (frM 2 z = false ∨ ∃ k : Nat, z = .int (k : Int) ∧ 2 ≤ k ∧ lvMany lv e k = none) ∧ ∀ H' d, Same H H' → H' d = some (.xd [("size", z)]) → E (.ref CS) (some d) H'
theorem ok_Level_partnerB (T : Tx w K mg a) : FnOk P w K mg base (L2.CX P w) 4 a.f_Level_partner a.d_Level_partner ["self", "k", "i"] (spPartnerB a.C_Level a.C_Word a.C_BadSize) := by
  refine T.F_Level_partner.okX sc_Level_partner (fun vs H Q E h => ?_) (fun cdv A outer s H vs Q E hr h => ?_)
  · obtain ⟨p, z, y, ib, lv, e, rfl, _⟩ := h
    rfl
  · obtain ⟨p, z, y, ib, lv, e, rfl, hI, hL, hb, hE⟩ := h
    refine ⟨_, 
(pss_cons (ps_if (pt_not (pt_val (pe_call (ok_is_between T) (hr.mono (by decide)) (by rfl) T.m_is_between T.F_is_between.kp T.b_is_between .nil pass0 (pa_cons (pv 2) (pa_cons pe_int (pa_cons (pe_op op_sub (pe_methS (pv 0) T.cl_Level T.me_Level_many_steps (ok_Level_many_steps T) hr T.b_Level_many_steps (takes_of rfl rfl rfl rfl) (pa_cons (pv 1) pa_nil)) pe_int) pa_nil))))))
  (pss_one (ps_raise rfl (takes_of rfl rfl rfl rfl) (pmk_oex T.ox_BadCall.o T.ox_BadCall.ini T.ox_BadCall.tin (ok_BadCall_init T) (hr.mono (by decide)) T.b_BadCall_init .nil pass0 (by rfl) T.c_BadCall (pa_cons (pv 2) pa_nil))))
  pss_nil)
  (pss_cons (ps_if (pt_cmpR op_eq (pe_fld (pv 0) rfl) pe_str (nomark _))
  (pss_one (ps_ret pe_non))
  pss_nil)
  (pss_cons (ps_if (pt_cmpR op_eq (pe_fld (pv 0) rfl) pe_str (nomark _))
  (pss_one (ps_ret (pe_op op_modN (pe_op op_add (pe_op op_mul (pe_fld (pv 0) rfl) (pv 2)) (pe_call (ok_place_of T) (hr.mono (by decide)) (by rfl) T.m_place_of T.F_place_of.kp T.b_place_of .nil pass0 (pa_cons (pe_fld (pv 0) rfl) (pa_cons (pv 1) pa_nil)))) (pe_op op_sub (pv 1) pe_int))))
  pss_nil)
  (pss_one (ps_ret (pe_ix ix_tup (pe_fld (pv 0) rfl) (pv 2) (fun _ _ => rfl))))))), ?_⟩
    have hL2 := hL
    obtain ⟨dx, fs, wv, fa, pl, en, hp, x1, x2, x3, x4, x5, x6, x7, xo, hv⟩ := hL
    have hms : fs.lookup ("many_steps" : Str) = none := xo _ (by decide +kernel)
    exact ⟨_, rfl, .ref p, rfl, p, dx, fs, rfl, hp, hms, _, rfl, p, z, ib, lv, e, rfl, hI, hL2, .inr ⟨hb, hE⟩⟩
def spPartner2 (C CW CS CC : Addr) : Sp := fun vs H Q E => spPartner C CW CS CC vs H Q E ∨ spPartnerB C CW CS vs H Q E
theorem ok_Level_partner (T : Tx w K mg a) : FnOk P w K mg base (L2.CX P w) 4 a.f_Level_partner a.d_Level_partner ["self", "k", "i"] (spPartner2 a.C_Level a.C_Word a.C_BadSize a.C_BadCall) := fn_or (ok_Level_partnerA T) (ok_Level_partnerB T)
/-- the row of size k that step i of a level makes of 0, 1, .. -/
def lvStep (lv : Lv) (k : Nat) (i : Nat) : List Int := match lv with
  | .same ms => allF ms (ri k)
  | .along j z => exF (ri k) (((j * (i : Int) + plV z (k : Int)).fmod ((k : Int) - 1))).toNat (k - 1)
  | .list ns => exF (ri k) (ns.getD i 0).toNat (k - 1)
def spStep (C CW CS CC : Addr) : Sp := fun vs H Q E => ∃ (p : Addr) (y : V) (k m : Nat) (ib : Bool) (lv : Lv) (e : Bool) (size : Option Nat), vs = [.ref p, .int (k : Int), y] ∧ IsI H y ib ∧ LevelL C CW H p lv e ∧ LvOk size e lv ∧ 2 ≤ k ∧ k ≤ 1000 ∧ lvMany lv e k = some m ∧
  ((∃ i : Nat, y = .int (i : Int) ∧ i < m ∧ ∀ o H', H o = none → H' o = some (.lst ((lvStep lv k i).map V.int)) → Same H H' → Q (.ref o) H') ∨
   (btM 0 ((m : Int) - 1) y = false ∧ ∀ H' d, Same H H' → H' d = some (.xd [("call", y)]) → E (.ref CC) (some d) H'))
theorem ok_Level_stepA (T : Tx w K mg a) : FnOk P w K mg base (L2.CX P w) 5 a.f_Level_step a.d_Level_step ["self", "k", "i"] (spStep a.C_Level a.C_Word a.C_BadSize a.C_BadCall) := by
  refine T.F_Level_step.okX sc_Level_step (fun vs H Q E h => ?_) (fun cdv A outer s H vs Q E hr h => ?_)
  · obtain ⟨p, y, k, m, ib, lv, e, size, rfl, _⟩ := h
    rfl
  · obtain ⟨p, y, k, m, ib, lv, e, size, rfl, hI, hL, hok, hk, hk2, hm, h⟩ := h
    refine ⟨_, 
(pss_cons (ps_if (pt_not (pt_val (pe_call (ok_is_between T) (hr.mono (by decide)) (by rfl) T.m_is_between T.F_is_between.kp T.b_is_between .nil pass0 (pa_cons (pv 1) (pa_cons pe_int (pa_cons (pe_glob (v := .int 1000) (by rfl) T.m_MOST_PLACES.choose_spec ⟨_, rfl⟩) pa_nil))))))
  (pss_one (ps_raise rfl (takes_of rfl rfl rfl rfl) (pmk_oex T.ox_BadSize.o T.ox_BadSize.ini T.ox_BadSize.tin (ok_BadSize_init T) (hr.mono (by decide)) T.b_BadSize_init .nil pass0 (by rfl) T.c_BadSize (pa_cons (pv 1) pa_nil))))
  pss_nil)
  (pss_cons (ps_set (i := 3) sc_Level_step.nd rfl (.inl rfl) (pe_methS (pv 0) T.cl_Level T.me_Level_partner (ok_Level_partner T) hr T.b_Level_partner (takes_of rfl rfl rfl rfl) (pa_cons (pv 1) (pa_cons (pv 2) pa_nil))))
  (pss_cons (ps_if (pt_cmpR op_isN (pv 3) pe_non (nomark _))
  (pss_one (ps_ret (pe_methS (pe_fld (pv 0) rfl) T.cl_Word T.me_Word_at (ok_Word_at T) hr T.b_Word_at (takes_of rfl rfl rfl rfl) (pa_cons (pv 1) pa_nil))))
  pss_nil)
  (pss_one (ps_ret (pe_call (ok_exchanged T) (hr.mono (by decide)) (by rfl) T.m_exchanged T.F_exchanged.kp T.b_exchanged .nil pass0 (pa_cons (pe_listRg rfl (by rfl) T.z_list (prg_1 (by rfl) T.z_range (pv 1))) (pa_cons (pv 3) (pa_cons (pe_op op_sub (pv 1) pe_int) pa_nil))))))))), ?_⟩
    have hL2 := hL
    obtain ⟨dx, fs, wv, fa, pl, en, hp, x1, x2, x3, x4, x5, x6, x7, xo, hv⟩ := hL
    have hpt : fs.lookup ("partner" : Str) = none := xo _ (by decide +kernel)
    refine ⟨_, rfl, .int (k : Int), true, 2, 1000, rfl, .int _, _, rfl, ?_⟩
    rw [show btM 2 1000 (.int (k : Int)) = true from by simp only [btM, Bool.and_eq_true, decide_eq_true_eq]; omega]
    rcases h with ⟨i, rfl, hi, q⟩ | ⟨hy, hE⟩
    rotate_left
    · exact ⟨.ref p, rfl, p, dx, fs, rfl, hp, hpt, _, rfl, _, rfl, .inl ⟨p, y, k, m, ib, lv, e, size, rfl, hI, hL2, hok, hk, hm, .inr ⟨hy, hE⟩⟩⟩
    refine ⟨.ref p, rfl, p, dx, fs, rfl, hp, hpt, _, rfl, _, rfl, .inl ⟨p, .int (i : Int), k, m, ib, lv, e, size, rfl, hI, hL2, hok, hk, hm, .inl ⟨i, rfl, hi, ?_⟩⟩⟩
    have ex : ∀ (v : Int), 0 ≤ v → v < (k : Int) - 1 → (∀ o H', H o = none → H' o = some (.lst ((exF (ri k) v.toNat (k - 1)).map V.int)) → Same H H' → Q (.ref o) H') →
        tRet (tCall (spExchanged K) [] E0 (tCons (tLstRg (tRg1 (tVar 1))) (tCons (tVar 3) (tCons (tOp (rI0 fun i j => V.int (i - j)) (tVar 1) (tC (V.int 1))) tNil)))) { nx := fun x H' => Q V.non H', rt := Q } [some (.ref p), some (.int (k : Int)), some (.int (i : Int)), some (.int v)] H := fun v v0 v1 q => by
      refine ⟨_, rfl, _, rfl, RgOk.of_le (by decide) (by omega) (by decide) (by omega), fun o no => ?_⟩
      rw [rgV_ri]
      have s1 := same_upd (o := .lst ((ri k).map V.int)) no
      refine ⟨_, rfl, _, rfl, _, 1, rfl, rfl, o, ri k, v.toNat, k - 1, ?_, SqL.at upd_same, by rw [ri_len]; omega, by rw [ri_len]; omega, by rw [ri_len]; omega, fun o2 H2 no2 e2 s2 => q o2 H2 (s1.free no2) e2 (s1.trans s2)⟩
      rw [Int.toNat_of_nonneg v0, show ((k - 1 : Nat) : Int) = (k : Int) - 1 by omega]
      rfl
    cases lv with
    | same ms =>
      obtain ⟨⟨wa, rfl, hw⟩, _⟩ := hv
      have hw2 := hw
      obtain ⟨dxw, tw, rsw, w1, w2, w3⟩ := hw
      refine ⟨_, rfl, rfl, _, rfl, ?_⟩
      rw [show lvPart (Lv.same ms) k i = .non from rfl, decide_eq_true (show V.non = V.non from rfl)]
      exact iteT ⟨.ref p, rfl, p, a.C_Level, dx, fs, _, rfl, hp, T.cl_Level, T.n_Level_word, x4, wa, dxw, _, rfl, w1, flW_at _ _, _, rfl, wa, .int (k : Int), true, rfl, .int _, .inl ⟨ms, k, rfl, hw2, hok.ok, by omega, hk2, q⟩⟩
    | along j z =>
      refine ⟨_, rfl, rfl, _, rfl, ?_⟩
      rw [decide_eq_false (show ¬ lvPart (Lv.along j z) k i = V.non from fun e => by cases e)]
      have m0 : (0 : Int) < (k : Int) - 1 := by omega
      exact iteF (ex _ (Int.fmod_nonneg_of_pos _ m0) (Int.fmod_lt_of_pos _ m0) q)
    | list ns =>
      obtain ⟨s, rfl, hl, hn⟩ := hok
      have hm : (if ns.length = (if e = true then k else k - 1) then some (if e = true then k else k - 1) else none) = some m := hm
      have hc : ns.length = (if e = true then k else k - 1) := by
        by_cases c : ns.length = (if e = true then k else k - 1)
        · exact c
        · rw [if_neg c] at hm
          cases hm
      rw [if_pos hc] at hm
      have hmk : (if e = true then k else k - 1) = m := Option.some.inj hm
      have hin : i < ns.length := by omega
      have hb := hn (ns.getD i 0) (by
        rw [List.getD_eq_getElem?_getD, List.getElem?_eq_getElem hin]
        exact List.getElem_mem hin)
      have hks : (s : Int) ≤ (k : Int) := by
        cases e with
        | true =>
          rw [if_pos rfl] at hl hc
          omega
        | false =>
          rw [if_neg (by decide)] at hl hc
          omega
      refine ⟨_, rfl, rfl, _, rfl, ?_⟩
      rw [decide_eq_false (show ¬ lvPart (Lv.list ns) k i = V.non from fun e => by cases e)]
      exact iteF (ex _ hb.1 (by omega) q)
/-- .. of a size that it has not -/
def spStepB (C CW CS : Addr) : Sp := fun vs H Q E => ∃ (p : Addr) (z y : V) (ib : Bool) (lv : Lv) (e : Bool), vs = [.ref p, z, y] ∧ IsI H z ib ∧ LevelL C CW H p lv e ∧ (btM 2 1000 z = false ∨ ∃ k : Nat, z = .int (k : Int) ∧ 2 ≤ k ∧ k ≤ 1000 ∧ lvMany lv e k = none) ∧ ∀ H' d, Same H H' → H' d = some (.xd [("size", z)]) → E (.ref CS) (some d) H'
theorem ok_Level_stepB (T : Tx w K mg a) : FnOk P w K mg base (L2.CX P w) 5 a.f_Level_step a.d_Level_step ["self", "k", "i"] (spStepB a.C_Level a.C_Word a.C_BadSize) := by
  refine T.F_Level_step.okX sc_Level_step (fun vs H Q E h => ?_) (fun cdv A outer s H vs Q E hr h => ?_)
  · obtain ⟨p, z, y, ib, lv, e, rfl, _⟩ := h
    rfl
  · obtain ⟨p, z, y, ib, lv, e, rfl, hI, hL, hb, hE⟩ := h
    refine ⟨_, 
(pss_cons (ps_if (pt_not (pt_val (pe_call (ok_is_between T) (hr.mono (by decide)) (by rfl) T.m_is_between T.F_is_between.kp T.b_is_between .nil pass0 (pa_cons (pv 1) (pa_cons pe_int (pa_cons (pe_glob (v := .int 1000) (by rfl) T.m_MOST_PLACES.choose_spec ⟨_, rfl⟩) pa_nil))))))
  (pss_one (ps_raise rfl (takes_of rfl rfl rfl rfl) (pmk_oex T.ox_BadSize.o T.ox_BadSize.ini T.ox_BadSize.tin (ok_BadSize_init T) (hr.mono (by decide)) T.b_BadSize_init .nil pass0 (by rfl) T.c_BadSize (pa_cons (pv 1) pa_nil))))
  pss_nil)
  (pss_cons (ps_set (i := 3) sc_Level_step.nd rfl (.inl rfl) (pe_methS (pv 0) T.cl_Level T.me_Level_partner (ok_Level_partner T) hr T.b_Level_partner (takes_of rfl rfl rfl rfl) (pa_cons (pv 1) (pa_cons (pv 2) pa_nil))))
  (pss_cons (ps_if (pt_cmpR op_isN (pv 3) pe_non (nomark _))
  (pss_one (ps_ret (pe_methS (pe_fld (pv 0) rfl) T.cl_Word T.me_Word_at (ok_Word_at T) hr T.b_Word_at (takes_of rfl rfl rfl rfl) (pa_cons (pv 1) pa_nil))))
  pss_nil)
  (pss_one (ps_ret (pe_call (ok_exchanged T) (hr.mono (by decide)) (by rfl) T.m_exchanged T.F_exchanged.kp T.b_exchanged .nil pass0 (pa_cons (pe_listRg rfl (by rfl) T.z_list (prg_1 (by rfl) T.z_range (pv 1))) (pa_cons (pv 3) (pa_cons (pe_op op_sub (pv 1) pe_int) pa_nil))))))))), ?_⟩
    have hL2 := hL
    obtain ⟨dx, fs, wv, fa, pl, en, hp, x1, x2, x3, x4, x5, x6, x7, xo, hv⟩ := hL
    have hpt : fs.lookup ("partner" : Str) = none := xo _ (by decide +kernel)
    rcases hb with hb | ⟨k, rfl, hk, hk2, hm⟩
    · refine ⟨_, rfl, z, ib, 2, 1000, rfl, hI, _, rfl, ?_⟩
      rw [hb]
      exact ⟨_, rfl, (by decide : 1 ≤ 1000), err_end (Same.refl H) hE⟩
    · refine ⟨_, rfl, .int (k : Int), ib, 2, 1000, rfl, hI, _, rfl, ?_⟩
      rw [show btM 2 1000 (.int (k : Int)) = true from by simp only [btM, Bool.and_eq_true, decide_eq_true_eq]; omega]
      exact ⟨.ref p, rfl, p, dx, fs, rfl, hp, hpt, _, rfl, _, rfl, .inr ⟨p, .int (k : Int), y, ib, lv, e, rfl, hI, hL2, .inr ⟨k, rfl, hk, hm⟩, hE⟩⟩
def spStep2 (C CW CS CC : Addr) : Sp := fun vs H Q E => spStep C CW CS CC vs H Q E ∨ spStepB C CW CS vs H Q E
theorem ok_Level_step (T : Tx w K mg a) : FnOk P w K mg base (L2.CX P w) 5 a.f_Level_step a.d_Level_step ["self", "k", "i"] (spStep2 a.C_Level a.C_Word a.C_BadSize a.C_BadCall) := fn_or (ok_Level_stepA T) (ok_Level_stepB T)
end

/-! ### a right level that is read is what was written -/
theorem lvlE_goes {ps : List Str} {size : Option Nat} {b : Nat} {g : Bool} (h : lvlE ps size = .inr (b, g)) : g = goesOn ps size b := by
  unfold lvlE at h
  cases hb : bodyE ps size with
  | inl j =>
    rw [hb] at h
    cases h
  | inr c =>
    rw [hb] at h
    dsimp only at h
    cases hg : goesOn ps size c with
    | true =>
      rw [hg, if_pos rfl] at h
      cases he : endE ((ps ++ [sNoP]).drop c) sEnding with
      | some j =>
        rw [he] at h
        cases h
      | none =>
        rw [he] at h
        dsimp only at h
        by_cases hc : c + 3 < ps.length
        · rw [if_pos hc] at h
          cases h
        · rw [if_neg hc] at h
          cases h
          exact hg.symm
    | false =>
      rw [hg, if_neg (by decide)] at h
      by_cases hc : c < ps.length
      · rw [if_pos hc] at h
        cases h
      · rw [if_neg hc] at h
        cases h
        exact hg.symm
theorem lvP_body {size : Option Nat} {e : Bool} {lv : Lv} (hs : SizeOk size) (h : LvOk size e lv) : bodyE (lvP lv e) size = .inr lv.body.length := by
  have hE : ((if e = true then sEnding else []) ++ [sNoP]).head? ≠ some ("then" : Str) := by cases e <;> decide +kernel
  cases lv with
  | same ms =>
    have hh : hd (lvP (.same ms) e) = "same" := rfl
    have hm := mvsE_ok (n := 4) h.ne h.l4 h.ok h.one (fun _ => (rfl : true = true))
    have ew := (wrdE_inr (wrdE_ok h)).1
    have hm2 := mvsE_tail hE (ps := wp ms) (k := 0) (Nat.zero_le _) hm
    rw [← ew] at hm2
    have hbl : (Lv.same ms).body.length = 1 + (wp ms).length := by
      show (wp ms).length + 1 = _
      omega
    rw [hbl]
    unfold bodyE
    rw [if_pos hh]
    have ed : (lvP (.same ms) e ++ [sNoP]).drop 1 = wp ms ++ ((if e = true then sEnding else []) ++ [sNoP]) := by
      show (wp ms ++ (if e = true then sEnding else [])) ++ [sNoP] = _
      rw [List.append_assoc]
    rw [ed, hm2]
  | along k z =>
    have hh : hd (lvP (.along k z) e) = "along" := rfl
    show bodyE (lvP (.along k z) e) size = .inr 3
    unfold bodyE
    rw [if_neg (by rw [hh]; decide +kernel), if_pos hh, show nthS (lvP (.along k z) e) 1 = toStr k from rfl, show nthS (lvP (.along k z) e) 2 = z from rfl, if_pos (nums_FS.1 _ h.1).2, if_pos (nums_FS.2 _ h.2.1).2]
  | list ns =>
    obtain ⟨s, rfl, hl, hn⟩ := h
    have hs2 := hs.1
    have hh : hd (lvP (.list ns) e) = "list" := rfl
    have ed : (lvP (.list ns) e ++ [sNoP]).drop 1 = ns.map toStr ++ ((if e = true then sEnding else []) ++ [sNoP]) := by
      show (ns.map toStr ++ (if e = true then sEnding else [])) ++ [sNoP] = _
      rw [List.append_assoc]
    have hmem : ∀ z ∈ ns.map toStr, z ∈ lNums s := fun z hz => by
      obtain ⟨n, hn', rfl⟩ := List.mem_map.mp hz
      obtain ⟨h0, h1⟩ := hn n hn'
      refine List.mem_map.mpr ⟨n.toNat, List.mem_range.mpr (by omega), ?_⟩
      show toStr ((n.toNat : Nat) : Int) = toStr n
      rw [show ((n.toNat : Nat) : Int) = n by omega]
    have hll : (ns.map toStr).length = ns.length := List.length_map ..
    have hbl : (Lv.list ns).body.length = 1 + ns.length := by
      show (ns.map toStr).length + 1 = _
      omega
    have hc : cntN (lNums s) s ((lvP (.list ns) e ++ [sNoP]).drop 1) = ns.length := by
      cases e with
      | true =>
        rw [if_pos rfl] at hl
        rw [ed, cntN_ok hmem (by omega), hll, hl, Nat.sub_self]
        rfl
      | false =>
        rw [if_neg (by decide)] at hl
        rw [ed, cntN_ok hmem (by omega), hll, hl, show s - (s - 1) = 1 by omega]
        show s - 1 + cntN (lNums s) 1 [sNoP] = s - 1
        have : cntN (lNums s) 1 [sNoP] = if sNoP ∈ lNums s then cntN (lNums s) 0 [] + 1 else 0 := rfl
        rw [this, if_neg (lNums_no hs.2)]
        rfl
    have hlt : ¬ 1 + ns.length < s := by
      rw [hl]
      split <;> omega
    rw [hbl]
    unfold bodyE
    rw [if_neg (by rw [hh]; decide +kernel), if_neg (by rw [hh]; decide +kernel)]
    dsimp only
    rw [if_pos hh, hc, if_neg hlt]
theorem lvP_goes {size : Option Nat} {e : Bool} {lv : Lv} (hs : SizeOk size) (h : LvOk size e lv) : goesOn (lvP lv e) size lv.body.length = e := by
  have h3 : sEnding.length = 3 := by decide +kernel
  have hlen : (lvP lv e).length = lv.body.length + (if e = true then 3 else 0) := by
    unfold lvP
    rw [List.length_append]
    cases e with
    | true => rw [if_pos rfl, if_pos rfl, h3]
    | false => rfl
  have gen : ¬ hd (lvP lv e) = "list" → goesOn (lvP lv e) size lv.body.length = e := fun hn => by
    unfold goesOn
    rw [if_neg hn, hlen]
    cases e <;> simp
  cases lv with
  | same ms => exact gen (show ¬ Str.ofString "same" = Str.ofString "list" by decide +kernel)
  | along k z => exact gen (show ¬ Str.ofString "along" = Str.ofString "list" by decide +kernel)
  | list ns =>
    obtain ⟨s, rfl, hl, hn⟩ := h
    have hs2 := hs.1
    have hh : hd (lvP (.list ns) e) = "list" := rfl
    unfold goesOn
    rw [if_pos hh]
    have hbl : (Lv.list ns).body.length = ns.length + 1 := by
      show (ns.map toStr).length + 1 = _
      rw [List.length_map]
    rw [hbl]
    show decide (s < ns.length + 1) = e
    cases e with
    | true =>
      rw [if_pos rfl] at hl
      exact decide_eq_true (by omega)
    | false =>
      rw [if_neg (by decide)] at hl
      exact decide_eq_false (by omega)
theorem num_back : (∀ i : Fin 19, intText? (toStr ((i.val : Nat) - 9 : Int)) = some ((i.val : Nat) - 9 : Int)) ∧ ∀ i : Fin 12, intText? (toStr ((i.val : Nat) : Int)) = some ((i.val : Nat) : Int) := by decide +kernel
theorem LevelF.lv {C CW : Addr} {H : Hp} {p : Addr} {size : Option Nat} {e : Bool} {lv : Lv} {b : Nat} {g : Bool} (hs : SizeOk size) (h : LvOk size e lv) (hr : lvlE (lvP lv e) size = .inr (b, g)) (hF : LevelF C CW H p (lvText lv e) (lvP lv e) b g) : LevelL C CW H p lv e := by
  have hb : b = lv.body.length := by
    have := lvlE_body hr
    rw [lvP_body hs h] at this
    exact (Sum.inr.inj this).symm
  have hg : g = e := by
    rw [lvlE_goes hr, hb]
    exact lvP_goes hs h
  subst hg
  obtain ⟨dx, fs, w, fa, pl, en, h1, h2, h3, h4, h5, h6, h7, h8, h0, h9⟩ := hF
  have hk : nthS (lvP lv g) 0 = lv.kind := by cases lv <;> rfl
  rw [hk] at h3
  refine ⟨dx, fs, w, fa, pl, en, h1, h2, h3, h4, h5, h6, h7, h8, h0, ?_⟩
  unfold LvIs at h9
  rw [hk] at h9
  cases lv with
  | same ms =>
    rcases h9 with ⟨_, a, ms2, c, hm, rfl, hw, rfl, rfl, rfl⟩ | ⟨hn, _⟩ | ⟨hn, _⟩
    · have hE : ((if g = true then sEnding else []) ++ [sNoP]).head? ≠ some ("then" : Str) := by cases g <;> decide +kernel
      have hm1 := mvsE_ok (n := 4) h.ne h.l4 h.ok h.one (fun _ => (rfl : true = true))
      have ew := (wrdE_inr (wrdE_ok h)).1
      have hm2 := mvsE_tail hE (ps := wp ms) (k := 0) (Nat.zero_le _) hm1
      rw [← ew] at hm2
      have ed : (lvP (.same ms) g ++ [sNoP]).drop 1 = wp ms ++ ((if g = true then sEnding else []) ++ [sNoP]) := by
        show (wp ms ++ (if g = true then sEnding else [])) ++ [sNoP] = _
        rw [List.append_assoc]
      rw [ed, hm2] at hm
      cases hm
      rw [← ew] at hw
      exact ⟨⟨a, rfl, hw.mv⟩, rfl, rfl, rfl⟩
    · exact absurd hn (show ¬ Str.ofString "same" = Str.ofString "along" by decide +kernel)
    · exact absurd rfl hn
  | along k z =>
    rcases h9 with ⟨hn, _⟩ | ⟨_, n, hn, rfl, rfl, rfl, rfl⟩ | ⟨_, hn, _⟩
    · exact absurd hn (show ¬ Str.ofString "along" = Str.ofString "same" by decide +kernel)
    · have hn : intText? (toStr k) = some n := hn
      have h1 := h.2.2.1
      have h2 := h.2.2.2
      have q := num_back.1 ⟨(k + 9).toNat, by omega⟩
      rw [show (((⟨(k + 9).toNat, by omega⟩ : Fin 19).val : Nat) - 9 : Int) = k by show (((k + 9).toNat : Nat) - 9 : Int) = k; omega] at q
      rw [q] at hn
      cases hn
      exact ⟨rfl, rfl, rfl, rfl⟩
    · exact absurd rfl hn
  | list ns =>
    rcases h9 with ⟨hn, _⟩ | ⟨hn, _⟩ | ⟨_, _, t, rfl, ht, _, rfl, rfl, rfl⟩
    · exact absurd hn (show ¬ Str.ofString "list" = Str.ofString "same" by decide +kernel)
    · exact absurd hn (show ¬ Str.ofString "list" = Str.ofString "along" by decide +kernel)
    · refine ⟨rfl, rfl, rfl, t, rfl, ?_⟩
      obtain ⟨s, rfl, hl, hn⟩ := h
      have hs2 := hs.2
      have e1 : ((lvP (.list ns) g).drop 1).take (b - 1) = ns.map toStr := by
        have hbl : (Lv.list ns).body.length = ns.length + 1 := by
          show (ns.map toStr).length + 1 = _
          rw [List.length_map]
        rw [hb, hbl]
        show (ns.map toStr ++ (if g = true then sEnding else [])).take (ns.length + 1 - 1) = _
        rw [Nat.add_sub_cancel, List.take_append_of_le_length (by rw [List.length_map]; exact Nat.le_refl _), List.take_of_length_le (by rw [List.length_map]; exact Nat.le_refl _)]
      rw [ht, e1, List.map_map]
      congr 2
      refine List.map_congr_left fun n hn' => ?_
      obtain ⟨z0, z1⟩ := hn n hn'
      have q := num_back.2 ⟨n.toNat, by omega⟩
      rw [show (((⟨n.toNat, by omega⟩ : Fin 12).val : Nat) : Int) = n by show ((n.toNat : Nat) : Int) = n; omega] at q
      show V.int ((intText? (toStr n)).getD 0) = V.int n
      rw [q]
      rfl

theorem LvT.same {H H' : Hp} {o : Addr} {e : Bool} {lv : Lv} (h : LvT H o e lv) (s : Same H H') : LvT H' o e lv := by
  cases lv with
  | same ms =>
    obtain ⟨m, ps, h1, h2, h3⟩ := h
    exact ⟨m, ps, s _ _ h1, s _ _ h2, h3.same s⟩
  | along k z => exact s _ _ h
  | list ns =>
    obtain ⟨m, h1, h2⟩ := h
    exact ⟨m, s _ _ h1, s _ _ h2⟩
section
variable {P : Program} {w : World} {K : PySem.W.Frag} {mg : Str → Option Value} {base : Heap} {a : Ad}
def spLawPartner : Sp := fun vs H Q _ => ∃ (o : Addr) (k m i : Nat) (lv : Lv) (e : Bool) (size : Option Nat), vs = [.ref o, .int (k : Int), .int (i : Int)] ∧ LvT H o e lv ∧ LvOk size e lv ∧ 2 ≤ k ∧ lvMany lv e k = some m ∧ i < m ∧ Q (lvPart lv k i) H
theorem ok__law_partner (T : Tx w K mg a) : FnOk P w K mg base CX0 2 a.f__law_partner a.d__law_partner ["level", "k", "i"] spLawPartner := by
  refine T.F__law_partner.ok sc__law_partner (fun vs H Q E h => ?_) (fun cdv A outer s H vs Q E hr h => ?_)
  · obtain ⟨o, k, m, i, lv, e, size, rfl, _⟩ := h
    rfl
  · obtain ⟨o, k, m, i, lv, e, size, rfl, hT, hok, hk, hm, hi, q⟩ := h
    refine ⟨_, 
(pss_cons (ps_asg (pv 0) (pg_tup rfl (pgs_cons (pg_name (i := 3) sc__law_partner.nd rfl (.inl rfl)) (pgs_cons (pg_name (i := 4) sc__law_partner.nd rfl (.inl rfl)) (pgs_cons (pg_name (i := 5) sc__law_partner.nd rfl (.inl rfl)) (pgs_cons (pg_name (i := 6) sc__law_partner.nd rfl (.inl rfl)) pgs_nil))))))
  (pss_cons (ps_if (pt_cmpR op_eq (pv 3) pe_str (nomark _))
  (pss_one (ps_ret (pe_ix ix_list (pv 4) (pv 2) (fun _ _ => rfl))))
  pss_nil)
  (pss_one (ps_ret (pe_ifExp (pt_cmpR op_eq (pv 3) pe_str (nomark _)) pe_non (pe_op op_modN (pe_callTy call_int1 (by rfl) T.z_int (by decide +kernel) (pa_cons (pe_op op_add (pe_op op_mul (pv 4) (pv 2)) (pe_call (ok__law_value T) hr (by rfl) T.m__law_value T.F__law_value.kp T.b__law_value .nil pass0 (pa_cons (pv 5) (pa_cons (pv 1) pa_nil)))) pa_nil)) (pe_op op_sub (pv 1) pe_int))))))), ?_⟩
    have d1 : ¬ V.str "same" = V.str "list" := fun e => absurd (V.str.inj e) (by decide +kernel)
    have d2 : ¬ V.str "along" = V.str "same" := fun e => absurd (V.str.inj e) (by decide +kernel)
    have d3 : ¬ V.str "along" = V.str "list" := fun e => absurd (V.str.inj e) (by decide +kernel)
    cases lv with
    | same ms =>
      obtain ⟨mm, ps, h1, h2, h3⟩ := hT
      refine ⟨_, rfl, o, [.str "same", .ref mm, .non, .bl e], rfl, SqT.at h1, rfl, _, [.ref mm, .non, .bl e], rfl, _, [.non, .bl e], rfl, _, [.bl e], rfl, _, [], rfl, rfl, ?_⟩
      refine ⟨_, rfl, rfl, _, rfl, ?_⟩
      rw [decide_eq_false d1]
      refine iteF ⟨_, rfl, rfl, _, rfl, ?_⟩
      rw [decide_eq_true (show V.str "same" = V.str "same" from rfl)]
      exact iteT q
    | along j z =>
      refine ⟨_, rfl, o, [.str "along", .int j, .str z, .bl e], rfl, SqT.at hT, rfl, _, [.int j, .str z, .bl e], rfl, _, [.str z, .bl e], rfl, _, [.bl e], rfl, _, [], rfl, rfl, ?_⟩
      refine ⟨_, rfl, rfl, _, rfl, ?_⟩
      rw [decide_eq_false d3]
      refine iteF ⟨_, rfl, rfl, _, rfl, ?_⟩
      rw [decide_eq_false d2]
      have b1 := hok.2.2.1
      have b2 := hok.2.2.2
      refine iteF ⟨_, rfl, _, rfl, j, (i : Int), rfl, rfl, .inl ⟨by omega, by omega⟩, _, rfl, _, rfl, z, (k : Int), rfl, places_wt _ hok.2.1, _, _, rfl, rfl, .inl ⟨_, rfl, _, rfl, _, 1, rfl, rfl, _, _, rfl, rfl, by omega, q⟩⟩
    | list ns =>
      obtain ⟨mm, h1, h2⟩ := hT
      refine ⟨_, rfl, o, [.str "list", .ref mm, .non, .bl e], rfl, SqT.at h1, rfl, _, [.ref mm, .non, .bl e], rfl, _, [.non, .bl e], rfl, _, [.bl e], rfl, _, [], rfl, rfl, ?_⟩
      refine ⟨_, rfl, rfl, _, rfl, ?_⟩
      rw [decide_eq_true (show V.str "list" = V.str "list" from rfl)]
      have hin : i < ns.length := by
        have hm : (if ns.length = (if e = true then k else k - 1) then some (if e = true then k else k - 1) else none) = some m := hm
        by_cases c : ns.length = (if e = true then k else k - 1)
        · rw [if_pos c] at hm
          have := Option.some.inj hm
          omega
        · rw [if_neg c] at hm
          cases hm
      have g : atI (ns.map V.int) ((i : Nat) : Int) = some (.int (ns.getD i 0)) := atI_nat (by
        rw [List.getElem?_map, List.getElem?_eq_getElem hin, List.getD_eq_getElem?_getD, List.getElem?_eq_getElem hin]
        rfl)
      exact iteT ⟨_, rfl, _, rfl, mm, _, _, _, rfl, rfl, SqL.at h2, g, q⟩
def spLawStep : Sp := fun vs H Q _ => ∃ (o : Addr) (k m i : Nat) (lv : Lv) (e : Bool) (size : Option Nat), vs = [.ref o, .int (k : Int), .int (i : Int)] ∧ LvT H o e lv ∧ LvOk size e lv ∧ 2 ≤ k ∧ k ≤ 1000 ∧ lvMany lv e k = some m ∧ i < m ∧ ∀ r H', H r = none → H' r = some (.lst ((lvStep lv k i).map V.int)) → Same H H' → Q (.ref r) H'
theorem ok__law_step (T : Tx w K mg a) : FnOk P w K mg base CX0 4 a.f__law_step a.d__law_step ["level", "k", "i"] spLawStep := by
  refine T.F__law_step.ok sc__law_step (fun vs H Q E h => ?_) (fun cdv A outer s H vs Q E hr h => ?_)
  · obtain ⟨o, k, m, i, lv, e, size, rfl, _⟩ := h
    rfl
  · obtain ⟨o, k, m, i, lv, e, size, rfl, hT, hok, hk, hk2, hm, hi, q⟩ := h
    refine ⟨_, 
(pss_cons (ps_if (pt_cmpR op_eq (pe_ix ix_tup (pv 0) pe_int (fun _ _ => rfl)) pe_str (nomark _))
  (pss_one (ps_ret (pe_call (ok__law_all_moved T) hr (by rfl) T.m__law_all_moved T.F__law_all_moved.kp T.b__law_all_moved .nil pass0 (pa_cons (pe_listRg rfl (by rfl) T.z_list (prg_1 (by rfl) T.z_range (pv 1))) (pa_cons (pe_ix ix_tup (pv 0) pe_int (fun _ _ => rfl)) pa_nil)))))
  pss_nil)
  (pss_cons (ps_par (i := 3) (j := 4) (by rfl) sc__law_step.nd rfl rfl (by decide) rfl rfl (pa_cons (pe_listRg rfl (by rfl) T.z_list (prg_1 (by rfl) T.z_range (pv 1))) (pa_cons (pe_call (ok__law_partner T) (hr.mono (by decide)) (by rfl) T.m__law_partner T.F__law_partner.kp T.b__law_partner .nil pass0 (pa_cons (pv 0) (pa_cons (pv 1) (pa_cons (pv 2) pa_nil)))) pa_nil)) (by rfl))
  (pss_cons (ps_asg (pe_tup (pa_cons (pe_op op_sub (pv 1) pe_int) (pa_cons (pv 4) pa_nil))) (pg_tup rfl (pgs_cons (pg_sub (pv 3) (pv 4) set_list) (pgs_cons (pg_sub (pv 3) (pe_op op_sub (pv 1) pe_int) set_list) pgs_nil))))
  (pss_one (ps_ret (pv 3)))))), ?_⟩
    have d1 : ¬ V.str "list" = V.str "same" := fun e => absurd (V.str.inj e) (by decide +kernel)
    have d2 : ¬ V.str "along" = V.str "same" := fun e => absurd (V.str.inj e) (by decide +kernel)
    have hrl : (ri k).length = k := ri_len k
    have gen : (∃ ms, lv = .same ms) ∨ ∃ (kd : Str) (x1 x2 : V) (v : Int), H o = some (.tup [.str kd, x1, x2, .bl e]) ∧ ¬ V.str kd = V.str "same" ∧ lvPart lv k i = .int v ∧ 0 ≤ v ∧ v < (k : Int) - 1 ∧ lvStep lv k i = exF (ri k) v.toNat (k - 1) := by
      cases lv with
      | same ms => exact .inl ⟨ms, rfl⟩
      | along j z =>
        have m0 : (0 : Int) < (k : Int) - 1 := by omega
        exact .inr ⟨_, _, _, _, hT, d2, rfl, Int.fmod_nonneg_of_pos _ m0, Int.fmod_lt_of_pos _ m0, rfl⟩
      | list ns =>
        obtain ⟨mm, h1, h2⟩ := hT
        obtain ⟨s, rfl, hl, hn⟩ := hok
        have hm : (if ns.length = (if e = true then k else k - 1) then some (if e = true then k else k - 1) else none) = some m := hm
        have hc : ns.length = (if e = true then k else k - 1) := by
          by_cases c : ns.length = (if e = true then k else k - 1)
          · exact c
          · rw [if_neg c] at hm
            cases hm
        rw [if_pos hc] at hm
        have hmk : (if e = true then k else k - 1) = m := Option.some.inj hm
        have hin : i < ns.length := by omega
        have hb := hn (ns.getD i 0) (by
          rw [List.getD_eq_getElem?_getD, List.getElem?_eq_getElem hin]
          exact List.getElem_mem hin)
        have hks : (s : Int) ≤ (k : Int) := by
          cases e with
          | true =>
            rw [if_pos rfl] at hl hc
            omega
          | false =>
            rw [if_neg (by decide)] at hl hc
            omega
        exact .inr ⟨_, _, _, _, h1, d1, rfl, hb.1, by omega, rfl⟩
    rcases gen with ⟨ms, rfl⟩ | ⟨kd, x1, x2, v, hT1, hkd, hv, v0, v1, hst⟩
    · obtain ⟨mm, ps, h1, h2, h3⟩ := hT
      refine ⟨_, rfl, o, _, 0, _, rfl, rfl, SqT.at h1, rfl, rfl, _, rfl, ?_⟩
      rw [decide_eq_true (show V.str "same" = V.str "same" from rfl)]
      refine iteT ⟨_, rfl, _, rfl, RgOk.of_le (by decide) (by omega) (by decide) (by omega), fun r0 nr0 => ?_⟩
      rw [rgV_ri]
      have s1 := same_upd (o := .lst ((ri k).map V.int)) nr0
      exact ⟨_, rfl, o, _, 1, _, rfl, rfl, SqT.at (s1 _ _ h1), rfl, r0, mm, ps, ms, ri k, rfl, SqL.at upd_same, SqL.at (s1 _ _ h2), h3.same s1, hok.ok, by rw [hrl]; omega, fun r H' nr er s2 => q r H' (s1.free nr) er (s1.trans s2)⟩
    refine ⟨_, rfl, o, _, 0, _, rfl, rfl, SqT.at hT1, rfl, rfl, _, rfl, ?_⟩
    rw [decide_eq_false hkd]
    refine iteF ⟨_, rfl, _, rfl, RgOk.of_le (by decide) (by omega) (by decide) (by omega), fun r0 nr0 => ?_⟩
    rw [rgV_ri]
    have s1 := same_upd (o := .lst ((ri k).map V.int)) nr0
    have e1 : (upd H r0 (.lst ((ri k).map V.int))) r0 = some (.lst ((ri k).map V.int)) := upd_same
    have hT3 := LvT.same hT s1
    generalize upd H r0 (.lst ((ri k).map V.int)) = H1 at s1 e1 hT3 ⊢
    refine ⟨_, rfl, _, rfl, _, rfl, o, k, m, i, lv, e, size, rfl, hT3, hok, hk, hm, hi, ?_⟩
    rw [hv]
    refine ⟨_, _, rfl, ?_⟩
    refine ⟨_, rfl, _, 1, rfl, rfl, _, rfl, sz (show 2 ≤ 100000 by decide), fun tt ntt => ?_⟩
    have s2 := same_upd (o := .tup [.int ((k : Int) - 1), .int v]) ntt
    have e2 := s2 _ _ e1
    have ml : ((ri k).map V.int).length = k := by rw [List.length_map, hrl]
    have gi : ∀ n : Nat, n < k → (ri k).getD n 0 = (n : Int) := fun n hn => by
      rw [List.getD_eq_getElem?_getD, ri_get hn]
      rfl
    have ixu : ∀ u : Int, 0 ≤ u → u < (k : Int) → ixN k u = some u.toNat := fun u u0 u1 => by
      have := ixN_nat (n := k) (i := u.toNat) (by omega) (by omega)
      rw [show ((u.toNat : Nat) : Int) = u by omega] at this
      exact this
    refine ⟨tt, [.int ((k : Int) - 1), .int v], rfl, SqT.at upd_same, rfl, .int ((k : Int) - 1), [.int v], rfl, .ref r0, rfl, _, rfl, r0, _, _, v.toNat, rfl, rfl, e2, by rw [ml]; exact ixu v v0 (by omega), ?_⟩
    refine ⟨.int v, [], rfl, .ref r0, rfl, _, rfl, _, 1, rfl, rfl, r0, _, _, ((k : Int) - 1).toNat, rfl, rfl, upd_same, by rw [List.length_set, ml]; exact ixu _ (by omega) (by omega), rfl, ?_⟩
    refine ⟨_, rfl, q r0 _ nr0 ?_ (keep_upd (keep_upd (s1.trans s2) nr0) nr0)⟩
    rw [upd_same, hst]
    unfold exF
    rw [List.map_set, List.map_set, gi (k - 1) (by omega), gi v.toNat (by omega), show ((k - 1 : Nat) : Int) = (k : Int) - 1 by omega, show ((v.toNat : Nat) : Int) = v by omega, show ((k : Int) - 1).toNat = k - 1 by omega]
end

section
variable {P : Program} {w : World} {K : PySem.W.Frag} {mg : Str → Option Value} {base : Heap} {a : Ad}
/-! ### levels beside each other, numbers and tuples -/
theorem LevelL.textF {C CW : Addr} {H : Hp} {p : Addr} {lv : Lv} {e : Bool} (h : LevelL C CW H p lv e) : ∃ dx fs, H p = some (.ins C dx fs) ∧ fs.lookup ("text" : Str) = some (.str (lvText lv e)) := by
  obtain ⟨dx, fs, _, _, _, _, h1, h2, _⟩ := h
  exact ⟨dx, fs, h1, h2⟩
/-- what is not a level -/
inductive NoLv (H : Hp) : V → Prop where
  | str (s : Str) : NoLv H (.str s)
  | int (i : Int) : NoLv H (.int i)
  | tup {p : Addr} {xs : List V} (e : H p = some (.tup xs)) : NoLv H (.ref p)
def spLevelEq (C : Addr) : Sp := fun vs H Q _ => ∃ (p dx : Addr) (fs : List (Str × V)) (t : Str), H p = some (.ins C dx fs) ∧ fs.lookup ("text" : Str) = some (.str t) ∧
  ((∃ (q dy : Addr) (gs : List (Str × V)) (u : Str), vs = [.ref p, .ref q] ∧ H q = some (.ins C dy gs) ∧ gs.lookup ("text" : Str) = some (.str u) ∧ Q (.bl (decide (t = u))) H) ∨ (∃ y : V, vs = [.ref p, y] ∧ NoLv H y ∧ Q (.bl false) H))
theorem ok_Level_eq (T : Tx w K mg a) : FnOk P w K mg base CX0 3 a.f_Level_eq a.d_Level_eq ["self", "other"] (spLevelEq a.C_Level) := by
  refine T.F_Level_eq.ok sc_Level_eq (fun vs H Q E h => ?_) (fun cdv A outer s H vs Q E hr h => ?_)
  · obtain ⟨p, _, _, _, _, _, ⟨q, _, _, _, rfl, _⟩ | ⟨y, rfl, _⟩⟩ := h <;> rfl
  · obtain ⟨p, dx, fs, t, p1, p2, h⟩ := h
    refine ⟨_, 
(pss_one (ps_ret (pe_and (pe_callB call_isi (by rfl) T.z_isinstance (by decide +kernel) (pa_cons (pv 1) (pa_cons (pe_glob (v := .ref a.C_Level) (by rfl) T.c_Level rfl) pa_nil))) (pe_one (pe_cmpR op_eq (pe_fld (pv 0) rfl) (pe_fld (pv 1) rfl) (nomark _)))))), ?_⟩
    rcases h with ⟨q, dy, gs, u, rfl, q1, q2, k⟩ | ⟨y, rfl, ny, k⟩
    · refine ⟨.ref q, rfl, ?_⟩
      refine ⟨.ref q, .ref a.C_Level, .ref a.C_Level, .ref a.C_Level, true, rfl, .own _, .base (.ins q1 T.cl_Level T.ow_Level.cls T.ow_Level.get T.ow_Level.tak T.ow_Level.mro), ?_, ?_⟩
      · unfold PySem.W.kitOne
        rw [if_pos (by simp)]
      exact ⟨true, rfl, .ref p, rfl, p, a.C_Level, dx, _, _, rfl, p1, T.cl_Level, T.n_Level_text, p2, .ref q, rfl, q, a.C_Level, dy, _, _, rfl, q1, T.cl_Level, T.n_Level_text, q2, eq_texts k⟩
    · refine ⟨y, rfl, ?_⟩
      cases ny with
      | str s => exact ⟨.str s, .ref a.C_Level, .type "str", .ref a.C_Level, false, rfl, .own _, .base (.str _), T.ow_Level.kit, ⟨false, rfl, k⟩⟩
      | int i => exact ⟨.int i, .ref a.C_Level, .type "int", .ref a.C_Level, false, rfl, .own _, .base (.int _), T.ow2_Level.kti, ⟨false, rfl, k⟩⟩
      | @tup o xs e => exact ⟨.ref o, .ref a.C_Level, .type "tuple", .ref a.C_Level, false, rfl, .own _, .base (.tup e), T.ow2_Level.ktt, ⟨false, rfl, k⟩⟩
end
section
variable {P : Program} {w : World} {K : PySem.W.Frag} {mg : Str → Option Value} {base : Heap} {a : Ad}
def rs9 (a : Ad) : List (Addr × Str × Str) := [(a.C_BadSize, "size", "size"), (a.C_BadCall, "call", "call")]
theorem ok__law_met (T : Tx w K mg a) : FnOk P w K mg base CX0 7 a.f__law_met a.d__law_met ["call"] (spMet P w K mg base 6 (rs9 a)) := by
  refine T.F__law_met.ok sc__law_met (fun vs H Q E h => ?_) (fun cdv A outer s H vs Q E hr h => ?_)
  · obtain ⟨f, sp, rfl, _⟩ := h
    rfl
  · obtain ⟨f, sp, rfl, hT, hsp⟩ := h
    refine ⟨_, 
(pss_one (ps_try_manyAs rfl rfl sc__law_met.nd takes0 (fun W pn xe tk po => (pss_one (ps_ret (pe_tup (pa_cons pe_str (pa_cons (show PE _ _ (rThk P w K mg base _ 0 W) from pe_thk (i := 0) rfl (.inl rfl) hr tk) pa_nil))))))
  (.cons (i := 1) rfl rfl ⟨rfl, by decide, .inl T.c_BadSize⟩ (fun x oe cls d pn hz hf => (pss_one (ps_ret (pe_tup (pa_cons pe_str (pa_cons (pe_xf T.ox_BadSize.x T.ox_BadSize.no hz hf (pv 1)) (pa_cons (pe_callB (call_isD T.ox_BadSize.i hz hf) (by rfl) T.z_isinstance (by decide +kernel) (pa_cons (pv 1) (pa_cons (pe_glob (v := .ref a.C_EveryError) (by rfl) T.c_EveryError rfl) pa_nil))) pa_nil)))))))
  (.cons (i := 1) rfl rfl ⟨rfl, by decide, .inl T.c_BadCall⟩ (fun x oe cls d pn hz hf => (pss_one (ps_ret (pe_tup (pa_cons pe_str (pa_cons (pe_xf T.ox_BadCall.x T.ox_BadCall.no hz hf (pv 1)) (pa_cons (pe_callB (call_isD T.ox_BadCall.i hz hf) (by rfl) T.z_isinstance (by decide +kernel) (pa_cons (pv 1) (pa_cons (pe_glob (v := .ref a.C_EveryError) (by rfl) T.c_EveryError rfl) pa_nil))) pa_nil)))))))
  .nil)))), ?_⟩
    refine ⟨f, sp, rfl, hT, hsp _ _ (fun v H' q => ?_) (fun cls d H' hx => ?_)⟩
    · exact ⟨sz (show 2 ≤ 100000 by decide), fun o no => q o no⟩
    · obtain ⟨C, tag, fld, dd, v, hm, rfl, rfl, hd, q⟩ := hx
      have hm : (C, tag, fld) = (a.C_BadSize, Str.ofString "size", Str.ofString "size") ∨ (C, tag, fld) = (a.C_BadCall, Str.ofString "call", Str.ofString "call") := by simpa [rs9] using hm
      rcases hm with e | e
      · cases e
        refine ⟨true, T.em_BadSize_BadSize, fun _ x hx => ?_, fun q => Bool.noConfusion q⟩
        refine ⟨.ref x, rfl, rfl, rfl, dd, _, _, rfl, hd, rfl, .ref x, rfl, dd, _, .ref a.C_EveryError, .ref a.C_EveryError, true, rfl, rfl, hd, rfl, fun u r => r, T.kt_BadSize_EveryError, ?_⟩
        exact ⟨sz (show 3 ≤ 100000 by decide), fun o no => q o no⟩
      · cases e
        refine ⟨false, T.em_BadCall_BadSize, fun q => Bool.noConfusion q, fun _ => ⟨true, T.em_BadCall_BadCall, fun _ x hx => ?_, fun q => Bool.noConfusion q⟩⟩
        refine ⟨.ref x, rfl, rfl, rfl, dd, _, _, rfl, hd, rfl, .ref x, rfl, dd, _, .ref a.C_EveryError, .ref a.C_EveryError, true, rfl, rfl, hd, rfl, fun u r => r, T.kt_BadCall_EveryError, ?_⟩
        exact ⟨sz (show 3 ≤ 100000 by decide), fun o no => q o no⟩
end

theorem strOk_tl {x : Str} : PyData.strOk x = true ↔ ∀ n ∈ TL.tl x, n < 0x110000 := by
  unfold PyData.strOk
  rw [← Array.all_toList, List.all_eq_true]
  constructor
  · intro h n hn
    exact of_decide_eq_true (h n hn)
  · intro h n hn
    exact decide_eq_true (h n hn)
theorem joinL_mem {S : List Nat} : ∀ {ps : List (List Nat)} {n : Nat}, n ∈ TL.joinL S ps → n ∈ S ∨ ∃ p ∈ ps, n ∈ p
  | [], n, h => by cases h
  | [p], n, h => .inr ⟨p, List.mem_cons_self .., h⟩
  | p :: q :: r, n, h => by
    have h : n ∈ p ++ (S ++ TL.joinL S (q :: r)) := h
    rcases List.mem_append.mp h with h | h
    · exact .inr ⟨p, List.mem_cons_self .., h⟩
    · rcases List.mem_append.mp h with h | h
      · exact .inl h
      · rcases joinL_mem h with h | ⟨y, hy, h⟩
        · exact .inl h
        · exact .inr ⟨y, List.mem_cons_of_mem _ hy, h⟩
theorem strOk_join {ps : List Str} (h : ∀ z ∈ ps, z ∈ FS) : PyData.strOk (Txt.join " " ps) = true := by
  rw [strOk_tl]
  intro n hn
  rw [TL.join_eq, TL.tl_join] at hn
  rcases joinL_mem hn with hn | ⟨y, hy, hn⟩
  · have : ∀ n ∈ TL.tl " ", n < 0x110000 := by decide +kernel
    exact this n hn
  · obtain ⟨z, hz, rfl⟩ := List.mem_map.mp hy
    exact strOk_tl.mp (FS_chk (h z hz)).2.2.2.1 n hn
theorem strD_ok {J : Str} (h : PyData.strOk J = true) : SeqAt.shaped (.str J) = true ∧ PyData.eqv (.str J) (.str J) = true := by
  have e : SeqAt.shaped (.str J) = true := by
    unfold SeqAt.shaped
    simp [PyData.canLay0, PyData.depth, h]
  exact ⟨e, SeqAt.eqv_refl _ (SeqAt.canLay_of_shaped e)⟩

/-! ### a level that was made, beside the drawn tuple -/
theorem LvT.tup {H : Hp} {o : Addr} {e : Bool} {lv : Lv} (h : LvT H o e lv) : ∃ v1 v2, H o = some (.tup [.str lv.kind, v1, v2, .bl e]) := by
  cases lv with
  | same ms =>
    obtain ⟨m, ps, h1, h2, h3⟩ := h
    exact ⟨_, _, h1⟩
  | along k z => exact ⟨_, _, h⟩
  | list ns =>
    obtain ⟨m, h1, h2⟩ := h
    exact ⟨_, _, h1⟩
theorem lvText_ok {size : Option Nat} {e : Bool} {lv : Lv} (hs : SizeOk size) (h : LvOk size e lv) : PyData.strOk (lvText lv e) = true := by
  rw [lvText_eq hs h]
  exact strOk_join (lvP_FS hs h)
theorem shaped3 {x y : Str} {b : Bool} (hx : PyData.strOk x = true) (hy : PyData.strOk y = true) : SeqAt.shaped (.tuple [.str x, .str y, .bool b]) = true ∧ PyData.eqv (.tuple [.str x, .str y, .bool b]) (.tuple [.str x, .str y, .bool b]) = true := by
  have h : SeqAt.shaped (.tuple [.str x, .str y, .bool b]) = true := by
    unfold SeqAt.shaped
    simp [PyData.canLay0, PyData.canLayAll0, PyData.depth, PyData.depthAll, hx, hy]
  exact ⟨h, SeqAt.eqv_refl _ (SeqAt.canLay_of_shaped h)⟩
theorem ne_self7 {d : PyData} {A B : Prop} (h : PyData.eqv d d = true) (q : B) : if (!PyData.eqv d d) = true then A else B := by
  rw [h]
  exact q
theorem shapedT_ints (xs : List Int) : SeqAt.shaped (.tuple (xs.map PyData.int)) = true := by
  have h := shaped_ints (ns := xs)
  unfold SeqAt.shaped iD at h
  unfold SeqAt.shaped
  simpa [PyData.canLay0, PyData.depth] using h
theorem eqD_self {K : PySem.W.Frag} {H : Hp} {x y : V} {D : PyData} {Q : VK} (hx : Dp K H x D) (hy : Dp K H y D) (h : SeqAt.shaped D = true) (q : Q (.bl true) H) : rEqD K x y H Q := by
  refine ⟨D, D, hx, hy, h, h, ?_⟩
  rw [SeqAt.eqv_refl _ (SeqAt.canLay_of_shaped h)]
  exact q
theorem neD_self {K : PySem.W.Frag} {H : Hp} {x y : V} {D : PyData} {Q : VK} (hx : Dp K H x D) (hy : Dp K H y D) (h : SeqAt.shaped D = true) (q : Q (.bl false) H) : rNeD K x y H Q := by
  refine ⟨D, D, hx, hy, h, h, ?_⟩
  rw [SeqAt.eqv_refl _ (SeqAt.canLay_of_shaped h)]
  exact q
section
variable {P : Program} {w : World} {K : PySem.W.Frag} {mg : Str → Option Value} {base : Heap} {a : Ad}
def spPartsRight (C CW : Addr) : Sp := fun vs H Q _ => ∃ (p o : Addr) (lv : Lv) (e : Bool) (size : Option Nat), vs = [.ref p, .ref o] ∧ LevelL C CW H p lv e ∧ LvT H o e lv ∧ SizeOk size ∧ LvOk size e lv ∧ ∀ H', Same H H' → Q (.bl true) H'
theorem ok__law_parts_right (T : Tx w K mg a) : FnOk P w K mg base CX0 3 a.f__law_parts_right a.d__law_parts_right ["made", "level"] (spPartsRight a.C_Level a.C_Word) := by
  refine T.F__law_parts_right.ok sc__law_parts_right (fun vs H Q E h => ?_) (fun cdv A outer s H vs Q E hr h => ?_)
  · obtain ⟨p, o, lv, e, size, rfl, _⟩ := h
    rfl
  · obtain ⟨p, o, lv, e, size, rfl, hL, hT, hsz, hok, q⟩ := h
    refine ⟨_, 
(pss_cons (ps_asg (pv 1) (pg_tup rfl (pgs_cons (pg_name (i := 2) sc__law_parts_right.nd rfl (.inl rfl)) (pgs_cons (pg_name (i := 3) sc__law_parts_right.nd rfl (.inl rfl)) (pgs_cons (pg_name (i := 4) sc__law_parts_right.nd rfl (.inl rfl)) (pgs_cons (pg_name (i := 5) sc__law_parts_right.nd rfl (.inl rfl)) pgs_nil))))))
  (pss_cons (ps_if (pt_cmpR (op_neD hr.units) (pe_tup (pa_cons (pe_fld (pv 0) rfl) (pa_cons (pe_fld (pv 0) rfl) (pa_cons (pe_fld (pv 0) rfl) pa_nil)))) (pe_tup (pa_cons (pv 2) (pa_cons (pe_call (ok__law_level_text T) hr (by rfl) T.m__law_level_text T.F__law_level_text.kp T.b__law_level_text .nil pass0 (pa_cons (pv 1) pa_nil)) (pa_cons (pv 5) pa_nil)))) (nomark _))
  (pss_one (ps_ret pe_bl))
  pss_nil)
  (pss_cons (ps_if (pt_cmpR op_eq (pv 2) pe_str (nomark _))
  (pss_one (ps_ret (pe_and (pe_cmpR op_eq (pe_fld (pe_fld (pv 0) rfl) rfl) (pe_call (ok__law_word_text T) (hr.mono (by decide)) (by rfl) T.m__law_word_text T.F__law_word_text.kp T.b__law_word_text .nil pass0 (pa_cons (pv 3) pa_nil)) (nomark _)) (pe_one (pe_cmpR (op_eqD hr.units) (pe_tup (pa_cons (pe_fld (pv 0) rfl) (pa_cons (pe_fld (pv 0) rfl) (pa_cons (pe_fld (pv 0) rfl) pa_nil)))) (pe_tup (pa_cons pe_non (pa_cons pe_non (pa_cons pe_non pa_nil)))) (nomark _))))))
  pss_nil)
  (pss_cons (ps_if (pt_cmpR op_eq (pv 2) pe_str (nomark _))
  (pss_one (ps_ret (pe_cmpR (op_eqD hr.units) (pe_tup (pa_cons (pe_fld (pv 0) rfl) (pa_cons (pe_fld (pv 0) rfl) (pa_cons (pe_fld (pv 0) rfl) (pa_cons (pe_fld (pv 0) rfl) pa_nil))))) (pe_tup (pa_cons (pv 3) (pa_cons (pv 4) (pa_cons pe_non (pa_cons pe_non pa_nil))))) (nomark _))))
  pss_nil)
  (pss_one (ps_ret (pe_and (pe_cmpR (op_eqD hr.units) (pe_fld (pv 0) rfl) (pe_callTy call_tuple_of (by rfl) T.z_tuple (by decide +kernel) (pa_cons (pv 3) pa_nil)) (nomark _)) (pe_and (pe_cmpR op_isN (pe_fld (pv 0) rfl) pe_non (nomark _)) (pe_and (pe_cmpR op_isN (pe_fld (pv 0) rfl) pe_non (nomark _)) (pe_one (pe_cmpR op_isN (pe_fld (pv 0) rfl) pe_non (nomark _)))))))))))), ?_⟩
    obtain ⟨v1, v2, hT0⟩ := hT.tup
    have hL2 := hL
    obtain ⟨dx, fs, wv, fa, pl, en, hp, x1, x2, x3, x4, x5, x6, x7, xo, hv⟩ := hL
    have kok : PyData.strOk lv.kind = true := by
      cases lv with
      | same ms => exact (show PyData.strOk (Str.ofString "same") = true by decide +kernel)
      | along k z => exact (show PyData.strOk (Str.ofString "along") = true by decide +kernel)
      | list ns => exact (show PyData.strOk (Str.ofString "list") = true by decide +kernel)
    -- kind, one, other, end = level
    refine ⟨_, rfl, o, [.str lv.kind, v1, v2, .bl e], rfl, SqT.at hT0, rfl, _, [v1, v2, .bl e], rfl, _, [v2, .bl e], rfl, _, [.bl e], rfl, _, [], rfl, rfl, ?_⟩
    refine ⟨.ref p, rfl, p, a.C_Level, dx, fs, _, rfl, hp, T.cl_Level, T.n_Level_kind, x2, .ref p, rfl, p, a.C_Level, dx, fs, _, rfl, hp, T.cl_Level, T.n_Level_text, x1, .ref p, rfl, p, a.C_Level, dx, fs, _, rfl, hp, T.cl_Level, T.n_Level_to_end, x3, sz (show 3 ≤ 100000 by decide), fun t1 n1 => ?_⟩
    have u1 := same_upd (o := .tup [.str lv.kind, .str (lvText lv e), .bl e]) n1
    have e1 : (upd H t1 (.tup [.str lv.kind, .str (lvText lv e), .bl e])) t1 = some (.tup [.str lv.kind, .str (lvText lv e), .bl e]) := upd_same
    generalize upd H t1 (.tup [.str lv.kind, .str (lvText lv e), .bl e]) = H1 at u1 e1 ⊢
    refine ⟨_, rfl, _, rfl, o, size, lv, e, rfl, hT.same u1, hsz, hok, fun H2 s2 => ?_⟩
    refine ⟨_, rfl, sz (show 3 ≤ 100000 by decide), fun t2 n2 => ?_⟩
    have u2 := s2.trans (same_upd (o := .tup [.str lv.kind, .str (lvText lv e), .bl e]) n2)
    have e2 : (upd H2 t2 (.tup [.str lv.kind, .str (lvText lv e), .bl e])) t2 = some (.tup [.str lv.kind, .str (lvText lv e), .bl e]) := upd_same
    generalize upd H2 t2 (.tup [.str lv.kind, .str (lvText lv e), .bl e]) = H3 at u2 e2 ⊢
    have u3 := u1.trans u2
    have tok := lvText_ok hsz hok
    have dd : ∀ {t : Addr}, H3 t = some (.tup [.str lv.kind, .str (lvText lv e), .bl e]) → Dp K H3 (.ref t) (.tuple [.str lv.kind, .str (lvText lv e), .bool e]) := fun h => .tup (SqT.at h) (.cons (.str _) (.cons (.str _) (.cons (.bl _) .nil)))
    refine ⟨_, _, dd (u2 _ _ e1), dd e2, (shaped3 kok tok).1, (shaped3 kok tok).1, _, rfl, ne_self7 (shaped3 kok tok).2 ?_⟩
    have hp3 := u3 _ _ hp
    have hT3 := hT.same u3
    have hT0 := u3 _ _ hT0
    clear dd e1 e2 u1 u2 s2
    have ns : ∀ {x y : Str}, x ≠ y → decide (V.str x = V.str y) = false := fun h => decide_eq_false fun e => h (V.str.inj e)
    cases lv with
    | same ms =>
      obtain ⟨m, ps, h1, h2, h3⟩ := hT3
      rw [h1] at hT0
      cases hT0
      obtain ⟨⟨aw, rfl, hw⟩, rfl, rfl, rfl⟩ := hv
      have hw3 := hw.same u3
      obtain ⟨dw, tw, rs, w1, w2, w3⟩ := hw3
      refine ⟨_, rfl, rfl, _, rfl, ?_⟩
      rw [show decide (V.str (Lv.same ms).kind = V.str "same") = true from decide_eq_true rfl]
      refine iteT ⟨.ref p, rfl, p, a.C_Level, dx, fs, _, rfl, hp3, T.cl_Level, T.n_Level_word, x4, aw, a.C_Word, dw, _, _, rfl, w1, T.cl_Word, T.n_Word_text, flW_text _ _, _, rfl, m, ps, ms, rfl, SqL.at h2, h3, hok.l4, hok.ok, fun H4 s4 => ?_⟩
      refine eq_texts ⟨true, by rw [decide_eq_true rfl], ?_⟩
      have hp4 := s4 _ _ hp3
      refine ⟨.ref p, rfl, p, a.C_Level, dx, fs, _, rfl, hp4, T.cl_Level, T.n_Level_factor, x5, .ref p, rfl, p, a.C_Level, dx, fs, _, rfl, hp4, T.cl_Level, T.n_Level_place, x6, .ref p, rfl, p, a.C_Level, dx, fs, _, rfl, hp4, T.cl_Level, T.n_Level_entries, x7, sz (show 3 ≤ 100000 by decide), fun t1 n1 => ⟨sz (show 3 ≤ 100000 by decide), fun t2 n2 => ?_⟩⟩
      have g1 := same_upd (o := .tup [.non, .non, .non]) n1
      have g2 := same_upd (o := .tup [.non, .non, .non]) n2
      exact eqD_self (D := .tuple [.none, .none, .none]) (.tup (SqT.at (g2 _ _ upd_same)) (.cons .non (.cons .non (.cons .non .nil)))) (.tup (SqT.at upd_same) (.cons .non (.cons .non (.cons .non .nil)))) (by decide +kernel) (q _ (((u3.trans s4).trans g1).trans g2))
    | along k z => 
      obtain ⟨rfl, rfl, rfl, rfl⟩ := hv
      have hT4 : H3 o = some (.tup [.str "along", .int k, .str z, .bl e]) := hT3
      rw [hT4] at hT0
      cases hT0
      refine ⟨_, rfl, rfl, _, rfl, ?_⟩
      rw [ns (show (Lv.along k z).kind ≠ Str.ofString "same" from (show ¬ Str.ofString "along" = Str.ofString "same" by decide +kernel))]
      refine iteF ⟨_, rfl, rfl, _, rfl, ?_⟩
      rw [show decide (V.str (Lv.along k z).kind = V.str "along") = true from decide_eq_true rfl]
      refine iteT ⟨.ref p, rfl, p, a.C_Level, dx, fs, _, rfl, hp3, T.cl_Level, T.n_Level_factor, x5, .ref p, rfl, p, a.C_Level, dx, fs, _, rfl, hp3, T.cl_Level, T.n_Level_place, x6, .ref p, rfl, p, a.C_Level, dx, fs, _, rfl, hp3, T.cl_Level, T.n_Level_word, x4, .ref p, rfl, p, a.C_Level, dx, fs, _, rfl, hp3, T.cl_Level, T.n_Level_entries, x7, sz (show 4 ≤ 100000 by decide), fun t1 n1 => ⟨_, rfl, _, rfl, sz (show 4 ≤ 100000 by decide), fun t2 n2 => ?_⟩⟩
      have g1 := same_upd (o := .tup [.int k, .str z, .non, .non]) n1
      have g2 := same_upd (o := .tup [.int k, .str z, .non, .non]) n2
      have zok : PyData.strOk z = true := (FS_chk (nums_FS.2 _ hok.2.1).1).2.2.2.1
      have sh : SeqAt.shaped (.tuple [.int k, .str z, .none, .none]) = true := by
        unfold SeqAt.shaped
        simp [PyData.canLay0, PyData.canLayAll0, PyData.depth, PyData.depthAll, zok]
      exact eqD_self (D := .tuple [.int k, .str z, .none, .none]) (.tup (SqT.at (g2 _ _ upd_same)) (.cons (.int _) (.cons (.str _) (.cons .non (.cons .non .nil))))) (.tup (SqT.at upd_same) (.cons (.int _) (.cons (.str _) (.cons .non (.cons .non .nil))))) sh (q _ ((u3.trans g1).trans g2))
    | list ls =>
      obtain ⟨m, h1, h2⟩ := hT3
      rw [h1] at hT0
      cases hT0
      obtain ⟨rfl, rfl, rfl, tt, rfl, htt⟩ := hv
      refine ⟨_, rfl, rfl, _, rfl, ?_⟩
      rw [ns (show (Lv.list ls).kind ≠ Str.ofString "same" from (show ¬ Str.ofString "list" = Str.ofString "same" by decide +kernel))]
      refine iteF ⟨_, rfl, rfl, _, rfl, ?_⟩
      rw [ns (show (Lv.list ls).kind ≠ Str.ofString "along" from (show ¬ Str.ofString "list" = Str.ofString "along" by decide +kernel))]
      refine iteF ⟨.ref p, rfl, p, a.C_Level, dx, fs, _, rfl, hp3, T.cl_Level, T.n_Level_entries, x7, _, rfl, m, _, rfl, .inl ⟨SqL.at h2, fun t2 n2 => ?_⟩⟩
      have g2 := same_upd (o := .tup (ls.map V.int)) n2
      have htt3 := g2 _ _ (u3 _ _ htt)
      have hp4 := g2 _ _ hp3
      refine eqD_self (D := .tuple (ls.map PyData.int)) (.tup (SqT.at htt3) (dp_all ls)) (.tup (SqT.at upd_same) (dp_all ls)) (shapedT_ints ls) ⟨true, rfl, ?_⟩
      refine iteT ⟨.ref p, rfl, p, a.C_Level, dx, fs, _, rfl, hp4, T.cl_Level, T.n_Level_word, x4, rfl, _, rfl, ?_⟩
      rw [show decide (V.non = V.non) = true from decide_eq_true rfl]
      refine iteT ⟨.ref p, rfl, p, a.C_Level, dx, fs, _, rfl, hp4, T.cl_Level, T.n_Level_factor, x5, rfl, _, rfl, ?_⟩
      rw [show decide (V.non = V.non) = true from decide_eq_true rfl]
      refine iteT ⟨.ref p, rfl, p, a.C_Level, dx, fs, _, rfl, hp4, T.cl_Level, T.n_Level_place, x6, rfl, ?_⟩
      rw [show decide (V.non = V.non) = true from decide_eq_true rfl]
      exact q _ (u3.trans g2)
end

/-! ### what stands of a level behind draws, lambdas and calls -/
def K3 (H H' : Hp) : Prop := ∀ b o, H b = some o → (∃ xs, o = .lst xs ∨ o = .tup xs) ∨ (∃ C dx fs, o = .ins C dx fs) → H' b = some o
theorem K3.refl {H : Hp} : K3 H H := fun _ _ e _ => e
theorem K3.trans {H H1 H2 : Hp} (x : K3 H H1) (y : K3 H1 H2) : K3 H H2 := fun b o e h => y b o (x b o e h) h
theorem k3_same {H H' : Hp} (s : Same H H') : K3 H H' := fun b o e _ => s b o e
theorem k3_but {d c : Addr} {n : Nat} {H H' : Hp} (p : Pen H d c n) (s : But d H H') : K3 H H' := fun b o e h => by
  obtain ⟨_, hd⟩ := p.dict
  exact s b o e (ne_of e hd (by rcases h with ⟨xs, rfl | rfl⟩ | ⟨_, _, _, rfl⟩ <;> intro z <;> cases z))
theorem k3_ext {H H' : Hp} (s : LamX.ExtN H H') : K3 H H' := fun b o e h => s b o e fun ps z => by rcases h with ⟨xs, rfl | rfl⟩ | ⟨_, _, _, rfl⟩ <;> cases z
theorem K3.lst {H H' : Hp} (k : K3 H H') {b : Addr} {xs : List V} (e : H b = some (.lst xs)) : H' b = some (.lst xs) := k _ _ e (.inl ⟨_, .inl rfl⟩)
theorem K3.tup {H H' : Hp} (k : K3 H H') {b : Addr} {xs : List V} (e : H b = some (.tup xs)) : H' b = some (.tup xs) := k _ _ e (.inl ⟨_, .inr rfl⟩)
theorem K3.ins {H H' : Hp} (k : K3 H H') {b C dx : Addr} {fs : List (Str × V)} (e : H b = some (.ins C dx fs)) : H' b = some (.ins C dx fs) := k _ _ e (.inr ⟨_, _, _, rfl⟩)
theorem Held.k3 {H H' : Hp} (e : K3 H H') : ∀ {rs : List Addr} {ms : List Mv}, Held H rs ms → Held H' rs ms
  | [], [], _ => trivial
  | _ :: _, _ :: _, h => ⟨e.tup h.1, Held.k3 e h.2⟩
theorem WordAt.k3 {C : Addr} {H H' : Hp} {p : Addr} {ms : List Mv} (h : WordAt C H p ms) (e : K3 H H') : WordAt C H' p ms := by
  obtain ⟨dx, t, rs, h1, h2, h3⟩ := h
  exact ⟨dx, t, rs, e.ins h1, e.tup h2, h3.k3 e⟩
theorem LevelL.k3 {C CW : Addr} {H H' : Hp} {p : Addr} {lv : Lv} {e : Bool} (h : LevelL C CW H p lv e) (s : K3 H H') : LevelL C CW H' p lv e := by
  obtain ⟨dx, fs, w, fa, pl, en, h1, h2, h3, h4, h5, h6, h7, h8, h0, h9⟩ := h
  refine ⟨dx, fs, w, fa, pl, en, s.ins h1, h2, h3, h4, h5, h6, h7, h8, h0, ?_⟩
  cases lv with
  | same ms =>
    obtain ⟨⟨a, ha, hw⟩, hr⟩ := h9
    exact ⟨⟨a, ha, hw.k3 s⟩, hr⟩
  | along k z => exact h9
  | list ns =>
    obtain ⟨r1, r2, r3, t, ht, e⟩ := h9
    exact ⟨r1, r2, r3, t, ht, s.tup e⟩
theorem LvT.k3 {H H' : Hp} {o : Addr} {e : Bool} {lv : Lv} (h : LvT H o e lv) (s : K3 H H') : LvT H' o e lv := by
  cases lv with
  | same ms =>
    obtain ⟨m, ps, h1, h2, h3⟩ := h
    exact ⟨m, ps, s.tup h1, s.lst h2, h3.mono fun _ _ _ _ e => s.lst e⟩
  | along k z => exact s.tup h
  | list ns =>
    obtain ⟨m, h1, h2⟩ := h
    exact ⟨m, s.tup h1, s.lst h2⟩
theorem lvMany_is {lv : Lv} {e : Bool} {k m : Nat} (h : lvMany lv e k = some m) : m = if e = true then k else k - 1 := by
  cases lv with
  | list ns =>
    have h : (if ns.length = (if e = true then k else k - 1) then some (if e = true then k else k - 1) else none) = some m := h
    by_cases c : ns.length = (if e = true then k else k - 1)
    · rw [if_pos c] at h
      exact (Option.some.inj h).symm
    · rw [if_neg c] at h
      cases h
  | same ms => exact (Option.some.inj h).symm
  | along j z => exact (Option.some.inj h).symm
/-- how a call is told that is none -/
def oddC (m : Nat) : List V := [.int (-1), .int (m : Int), .bl true, .non, .str "1", .int ((m : Int) + 10 ^ (30 : Int).toNat)]
theorem oddC_ok {m : Nat} (hm : m ≤ 10 ^ 30 + 10 ^ 7) {y : V} (h : y ∈ oddC m) : (∃ b, ∀ H, IsI H y b) ∧ btM 0 ((m : Int) - 1) y = false ∧ ∃ d, (∀ K H, Dp K H y d) ∧ ∀ tag : Str, PyData.strOk tag = true → SeqAt.shaped (.tuple [.str tag, d, .bool true]) = true := by
  have sh : ∀ (d : PyData), PyData.canLay0 d = true → PyData.depth d = 0 → ∀ tag : Str, PyData.strOk tag = true → SeqAt.shaped (.tuple [.str tag, d, .bool true]) = true := fun d h1 h2 tag ht => by
    unfold SeqAt.shaped
    simp [PyData.canLay0, PyData.canLayAll0, PyData.depth, PyData.depthAll, h1, h2, ht]
  have bi : ∀ i : Int, i < 0 ∨ (m : Int) ≤ i → btM 0 ((m : Int) - 1) (.int i) = false := fun i hi => by
    simp only [btM, Bool.and_eq_false_iff, decide_eq_false_iff_not]
    omega
  simp only [oddC, List.mem_cons, List.not_mem_nil, or_false] at h
  rcases h with rfl | rfl | rfl | rfl | rfl | rfl
  · exact ⟨⟨_, fun _ => .int _⟩, bi _ (.inl (by decide)), _, fun _ _ => .int _, sh _ (by simp [PyData.canLay0]) (by simp [PyData.depth])⟩
  · exact ⟨⟨_, fun _ => .int _⟩, bi _ (.inr (Int.le_refl _)), _, fun _ _ => .int _, sh _ (by simp [PyData.canLay0]) (by simp [PyData.depth])⟩
  · exact ⟨⟨_, fun _ => .bl _⟩, rfl, _, fun _ _ => .bl _, sh _ (by simp [PyData.canLay0]) (by simp [PyData.depth])⟩
  · exact ⟨⟨_, fun _ => .non⟩, rfl, _, fun _ _ => .non, sh _ (by simp [PyData.canLay0]) (by simp [PyData.depth])⟩
  · exact ⟨⟨_, fun _ => .str _⟩, rfl, _, fun _ _ => .str _, sh _ (by decide +kernel) (by simp [PyData.depth])⟩
  · exact ⟨⟨_, fun _ => .int _⟩, bi _ (.inr (by have : (0 : Int) ≤ 10 ^ (30 : Int).toNat := by decide +kernel
                                                omega)), _, fun _ _ => .int _, sh _ (by simp [PyData.canLay0]) (by simp [PyData.depth])⟩
section
variable {P : Program} {w : World} {K : PySem.W.Frag} {mg : Str → Option Value} {base : Heap} {a : Ad}
def spAtRight (C CW : Addr) (TT : List (Addr × Str)) : Sp := fun vs H Q _ => ∃ (d c p o : Addr) (n k m : Nat) (lv : Lv) (e : Bool) (size : Option Nat), vs = [.ref d, .ref p, .ref o, .int (k : Int)] ∧ PT2 TT H d c n ∧ n + 10 < 2 ^ 40 ∧ LevelL C CW H p lv e ∧ LvT H o e lv ∧ LvOk size e lv ∧
  2 ≤ k ∧ k ≤ 10 ^ 30 + 10 ^ 7 ∧ lvMany lv e k = some m ∧ ∀ H', PT2 TT H' d c (n + 2) → K3 H H' → Q (.bl true) H'
theorem ok__law_at_right (T : Tx w K mg a) (B : Tb base mg a) : FnOk P w K mg base CX0 8 a.f__law_at_right a.d__law_at_right ["pen", "made", "level", "size"] (spAtRight a.C_Level a.C_Word (tabsOf a)) := by
  refine T.L__law_at_right.ok T.b__law_at_right sc__law_at_right (fun vs H Q E h => ?_) (fun A outer s H vs Q E hr h => ?_)
  · obtain ⟨d, c, p, o, n, k, m, lv, e, size, rfl, _⟩ := h
    rfl
  · obtain ⟨d, c, p, o, n, k, m, lv, e, size, rfl, hpt, hn, hL, hT, hok, hk, hk2, hm, q⟩ := h
    refine ⟨_, 
(C8.pss_cut (ps_set (i := 4) sc__law_at_right.nd rfl (.inl rfl) (pe_ifExp (pt_val (pe_ix ix_tup (pv 2) pe_int (fun _ _ => rfl))) (pv 3) (pe_op op_sub (pv 3) pe_int)))
  (pss_cons (ps_if (pt_cmpR op_ne (pe_methS (pv 1) T.cl_Level T.me_Level_many_steps (ok_Level_many_steps T) (hr.mono (by decide)) T.b_Level_many_steps takes0 (pa_cons (pv 3) pa_nil)) (pv 4) (nomark _))
  (pss_one (ps_ret pe_bl))
  pss_nil)
  (pss_cons (ps_for PassesOwn.never rfl (pi_list (pe_lst (pa_cons pe_int (pa_cons (pe_op op_sub (pv 4) pe_int) (pa_cons (pe_call (ok__law_draw T) (hr.mono (by decide)) (by rfl) T.m__law_draw T.F__law_draw.kp T.b__law_draw .nil pass0 (pa_cons (pv 0) (pa_cons (pe_callB (call_min2 rfl) (by rfl) T.z_min (by decide +kernel) (pa_cons pe_int (pa_cons (pe_callTy call_int1 (by rfl) T.z_int (by decide +kernel) (pa_cons (pv 4) pa_nil)) pa_nil))) pa_nil))) pa_nil))))) (pg_name (i := 5) sc__law_at_right.nd rfl (.inl rfl))
  (pss_cons (ps_if (pt_cmpR op_ne (pe_methS (pv 1) T.cl_Level T.me_Level_partner (ok_Level_partner T) (hr.mono (by decide)) T.b_Level_partner takes0 (pa_cons (pv 3) (pa_cons (pv 5) pa_nil))) (pe_call (ok__law_partner T) (hr.mono (by decide)) (by rfl) T.m__law_partner T.F__law_partner.kp T.b__law_partner .nil pass0 (pa_cons (pv 2) (pa_cons (pv 3) (pa_cons (pv 5) pa_nil)))) (nomark _))
  (pss_one (ps_ret pe_bl))
  pss_nil)
  (pss_one (ps_if (PW.pt (pw_and (pt_cmpR op_le (pv 3) pe_int (nomark _)) (pw_and1 (pt_cmpR (op_neD hr.units) (pe_methS (pv 1) T.cl_Level T.me_Level_step (ok_Level_step T) (hr.mono (by decide)) T.b_Level_step takes0 (pa_cons (pv 3) (pa_cons (pv 5) pa_nil))) (pe_call (ok__law_step T) (hr.mono (by decide)) (by rfl) T.m__law_step T.F__law_step.kp T.b__law_step .nil pass0 (pa_cons (pv 2) (pa_cons (pv 3) (pa_cons (pv 5) pa_nil)))) (nomark _)))))
  (pss_one (ps_ret pe_bl))
  pss_nil))))
  (pss_cons (ps_set (i := 6) sc__law_at_right.nd rfl (.inr rfl) (pe_call (ok__law_pick T) (hr.mono (by decide)) (by rfl) T.m__law_pick T.F__law_pick.kp T.b__law_pick .nil pass0 (pa_cons (pv 0) (pa_cons (pe_lst (pa_cons (pe_un un_neg pe_int) (pa_cons (pv 4) (pa_cons pe_bl (pa_cons pe_non (pa_cons pe_str (pa_cons (pe_op op_add (pv 4) (pe_op op_pow pe_int pe_int)) pa_nil))))))) pa_nil))))
  (pss_cons (ps_if (pt_cmpR (op_neD hr.units) (pe_callH (ok__law_met (P := P) (base := base) T) hr (by rfl) T.m__law_met T.F__law_met.kp T.b__law_met (pa_cons (pe_lam (k := 4) (T := tabsOf a) B.tb__law_at_right rfl (.head _) B.hu__law_at_right rfl ⟨LamX.lamS_by (sc := defScope s__law_at_right) (by decide +kernel), fun _ _ _ _ _ => rfl, fun A outer s H E f c hr => (pe_methS (pv 1) T.cl_Level T.me_Level_partner (ok_Level_partner T) hr T.b_Level_partner (takes_of rfl rfl rfl rfl) (pa_cons (pv 3) (pa_cons (pv 6) pa_nil)))⟩) pa_nil)) (pe_tup (pa_cons pe_str (pa_cons (pv 6) (pa_cons pe_bl pa_nil)))) (nomark _))
  (pss_one (ps_ret pe_bl))
  pss_nil)
  (pss_one (ps_ret (pe_or (pe_cmpR op_gt (pv 3) pe_int (nomark _)) (pe_one (pe_cmpR (op_eqD hr.units) (pe_callH (ok__law_met (P := P) (base := base) T) hr (by rfl) T.m__law_met T.F__law_met.kp T.b__law_met (pa_cons (pe_lam (k := 5) (T := tabsOf a) B.tb__law_at_right rfl (.head _) B.hu__law_at_right rfl ⟨LamX.lamS_by (sc := defScope s__law_at_right) (by decide +kernel), fun _ _ _ _ _ => rfl, fun A outer s H E f c hr => (pe_methS (pv 1) T.cl_Level T.me_Level_step (ok_Level_step T) hr T.b_Level_step (takes_of rfl rfl rfl rfl) (pa_cons (pv 3) (pa_cons (pv 6) pa_nil)))⟩) pa_nil)) (pe_tup (pa_cons pe_str (pa_cons (pv 6) (pa_cons pe_bl pa_nil)))) (nomark _))))))))))), ?_⟩
    obtain ⟨v1, v2, hT0⟩ := hT.tup
    have hL2 := hL
    obtain ⟨dx, fs, wv, fa, pl, en, hp, x1, x2, x3, x4, x5, x6, x7, xo, hv⟩ := hL
    have m1 : 1 ≤ m := by
      have := lvMany_is hm
      cases e <;> simp at this <;> omega
    have m2 : m ≤ k := by
      have := lvMany_is hm
      cases e <;> simp at this <;> omega
    have no1 : fs.lookup ("many_steps" : Str) = none := xo _ (by decide +kernel)
    have no2 : fs.lookup ("partner" : Str) = none := xo _ (by decide +kernel)
    have no3 : fs.lookup ("step" : Str) = none := xo _ (by decide +kernel)
    -- many = size if level[3] else size - 1
    refine ⟨fun σ' H' => σ' = [some (.ref d), some (.ref p), some (.ref o), some (.int (k : Int)), some (.int (m : Int)), none, none] ∧ H' = H, ?_, ?_⟩
    · refine ⟨_, rfl, o, _, 3, _, rfl, rfl, SqT.at hT0, rfl, _, rfl, ?_⟩
      have hmi := lvMany_is hm
      cases e with
      | true => exact iteT ⟨_, rfl, by rw [hmi]; rfl, rfl⟩
      | false =>
        refine iteF ⟨_, rfl, _, 1, rfl, rfl, ?_, rfl⟩
        have : V.int ((k : Int) - 1) = V.int (m : Int) := by
          have hmi : m = k - 1 := hmi
          rw [show (k : Int) - 1 = (m : Int) by omega]
        exact congrArg (fun z => [some (V.ref d), some (V.ref p), some (V.ref o), some (V.int (k : Int)), some z, none, none]) this
    rintro σ' H' ⟨rfl, rfl⟩
    -- if made.many_steps(size) != many
    refine ⟨.ref p, rfl, p, dx, fs, rfl, hp, no1, _, rfl, p, .int (k : Int), true, lv, e, rfl, .int _, hL2, .inl ⟨k, m, rfl, hk, hm, _, rfl, rfl, ?_⟩⟩
    rw [show decide (V.int (m : Int) = V.int (m : Int)) = true from decide_eq_true rfl]
    refine ⟨_, rfl, iteF ?_⟩
    -- for call in [0, many - 1, _law_draw(pen, min(1000, int(many)))]
    refine ⟨_, rfl, _, 1, rfl, rfl, _, rfl, _, rfl, .inl ⟨_, rfl, 1000, (m : Int), rfl, ?_⟩⟩
    obtain ⟨M, hM, M1, M2⟩ : ∃ M : Int, (if (m : Int) < 1000 then (m : Int) else 1000) = M ∧ 0 < M ∧ M ≤ (m : Int) ∧ M ≤ 1000 := ⟨_, rfl, by split <;> omega, by split <;> omega⟩
    rw [hM]
    refine ⟨d, c, n, M, rfl, hpt.pen, by omega, M1, Int.lt_of_le_of_lt M2.2 (by decide +kernel), fun v H3 w0 w1 hp3 b3 => ⟨sz (show 3 ≤ 100000 by decide), fun lo nlo => ⟨lo, rfl, ⟨_, SqL.at upd_same⟩, ?_⟩⟩⟩
    have k3 := k3_but hpt.pen b3
    obtain ⟨pt3, _⟩ := hpt.but hp3 b3
    have u4 := same_upd (o := .lst [.int 0, .int ((m : Int) - 1), .int v]) nlo
    have elo : (upd H3 lo (.lst [.int 0, .int ((m : Int) - 1), .int v])) lo = some (.lst [.int 0, .int ((m : Int) - 1), .int v]) := upd_same
    have pt4 := pt3.same u4
    have k4 := k3.trans (k3_same u4)
    generalize upd H3 lo (.lst [.int 0, .int ((m : Int) - 1), .int v]) = H4 at u4 elo pt4 k4 ⊢
    have hit : ∀ y ∈ [V.int 0, .int ((m : Int) - 1), .int v], ∃ i : Nat, y = .int (i : Int) ∧ i < m := fun y hy => by
      simp only [List.mem_cons, List.not_mem_nil, or_false] at hy
      rcases hy with rfl | rfl | rfl
      · exact ⟨0, rfl, m1⟩
      · exact ⟨m - 1, by rw [show (m : Int) - 1 = ((m - 1 : Nat) : Int) by omega], by omega⟩
      · exact ⟨v.toNat, by rw [show v = ((v.toNat : Nat) : Int) by omega]; rfl, by omega⟩
    clear k3 u4 hM M1 M2 w0 w1 hp3 b3 pt3
    have hL4 := hL2.k3 k4
    have hT4 := hT.k3 k4
    have hp4 := k4.ins hp
    refine for_it (walk_list (xs := [V.int 0, .int ((m : Int) - 1), .int v])) (fun j σ H' => ∃ y5, σ = [some (.ref d), some (.ref p), some (.ref o), some (.int (k : Int)), some (.int (m : Int)), y5, none] ∧ Same H4 H') ?g0 ?gG ?gs ?gd
    case g0 => exact ⟨none, rfl, Same.refl _⟩
    case gG =>
      rintro j σ H' _ ⟨y5, _, sm⟩
      exact sm.seq (SqL.at elo)
    case gs =>
      rintro j y σ H5 H6 hj ⟨y5, rfl, sm⟩ ⟨rfl, ex⟩
      obtain ⟨i, rfl, hi⟩ := hit y (List.mem_of_getElem? ex)
      have hL5 := hL4.same sm
      have hT5 := hT4.same sm
      have hp5 := sm _ _ hp4
      -- made.partner(size, call) != _law_partner(level, size, call)
      refine ⟨.ref p, rfl, p, dx, fs, rfl, hp5, no2, _, rfl, _, rfl, .inl ⟨p, .int (i : Int), k, m, true, lv, e, size, rfl, .int _, hL5, hok, hk, hm, .inl ⟨i, rfl, hi, ?_⟩⟩⟩
      refine ⟨_, rfl, _, rfl, _, rfl, o, k, m, i, lv, e, size, rfl, hT5, hok, hk, hm, hi, ⟨by cases lv <;> rfl, ?_⟩⟩
      rw [decide_eq_true rfl]
      refine ⟨_, rfl, iteF ⟨_, rfl, _, 1000, rfl, rfl, _, rfl, ?_⟩⟩
      by_cases hk3 : k ≤ 1000
      · rw [decide_eq_true (show (k : Int) ≤ 1000 by omega)]
        refine iteT ⟨.ref p, rfl, p, dx, fs, rfl, hp5, no3, _, rfl, _, rfl, .inl ⟨p, .int (i : Int), k, m, true, lv, e, size, rfl, .int _, hL5, hok, hk, hk3, hm, .inl ⟨i, rfl, hi, fun r H7 nr er s7 => ?_⟩⟩⟩
        refine ⟨_, rfl, _, rfl, _, rfl, o, k, m, i, lv, e, size, rfl, hT5.same s7, hok, hk, hk3, hm, hi, fun r2 H8 nr2 er2 s8 => ?_⟩
        exact neD_self (dp_ints (SqL.at (s8 _ _ er))) (dp_ints (SqL.at er2)) shaped_ints ⟨_, rfl, iteF ⟨_, rfl, (sm.trans s7).trans s8⟩⟩
      · rw [decide_eq_false (show ¬ (k : Int) ≤ 1000 by omega)]
        exact iteF (iteF ⟨_, rfl, sm⟩)
    case gd =>
      rintro σ H5 ⟨y5, rfl, sm⟩
      have pt5 := pt4.same sm
      have k5 := k4.trans (k3_same sm)
      clear hL4 hT4 hp4 hit elo sm pt4 k4
      -- odd = _law_pick(pen, [-1, many, True, None, '1', many + 10 ** 30])
      refine ⟨_, rfl, 1, rfl, _, rfl, _, rfl, 10, 30, rfl, rfl, ⟨by decide, by decide, by decide⟩, _, _, rfl, rfl, sz (show 6 ≤ 100000 by decide), fun lo2 nlo2 => ?_⟩
      have u6 := same_upd (o := .lst (oddC m)) nlo2
      refine ⟨d, c, lo2, n + 1, oddC m, rfl, pt5.pen.same u6, by omega, SqL.at upd_same, (show 0 < 6 by decide), (show 6 ≤ 100000 by decide), fun y H6 hy hp6 b6 => ?_⟩
      obtain ⟨pt6, _⟩ := (pt5.same u6).but hp6 b6
      have k6 := (k5.trans (k3_same u6)).trans (k3_but (pt5.pen.same u6) b6)
      clear u6 pt5 k5 hp6 b6
      obtain ⟨⟨ib, hI⟩, hbt, D, hD, hsh⟩ := oddC_ok (by omega) hy
      have hL6 := hL2.k3 k6
      have hp6 := k6.ins hp
      -- _law_met(lambda: made.partner(size, odd)) != ('call', odd, True)
      refine ⟨pt6.tabs, fun f Ha e7 r7 T7 n7 l7 h7 hh7 => met_live hh7 l7 (by decide) fun H0 told err s0 r0 htold herr => ?_⟩
      have ka := k3_ext e7
      have hL0 := (hL6.k3 ka).same s0
      have hp0 := s0 _ _ (ka.ins hp6)
      refine ⟨.ref p, rfl, p, dx, fs, rfl, hp0, no2, _, rfl, _, rfl, .inl ⟨p, y, k, m, ib, lv, e, size, rfl, hI _, hL0, hok, hk, hm, .inr ⟨hbt, fun H' d' s' ed => herr a.C_BadCall "call" "call" d' y H' (List.mem_cons_of_mem _ List.mem_cons_self) s' ed fun pa Hb sa epa => ?_⟩⟩⟩
      clear hL0 hp0 htold herr
      refine ⟨_, rfl, sz (show 3 ≤ 100000 by decide), fun qa nqa => ?_⟩
      have ua := same_upd (o := .tup [.str "call", y, .bl true]) nqa
      refine neD_self (.tup (SqT.at (ua _ _ epa)) (.cons (.str _) (.cons (hD _ _) (.cons (.bl _) .nil)))) (.tup (SqT.at upd_same) (.cons (.str _) (.cons (hD _ _) (.cons (.bl _) .nil)))) (hsh "call" (by decide +kernel)) ⟨_, rfl, iteF ?_⟩
      have kb := k6.trans (ka.trans (k3_same (sa.trans ua)))
      have pt8 := (PT2.mk (pt6.pen.ext e7) T7).same (sa.trans ua)
      generalize upd Hb qa (.tup [.str "call", y, .bl true]) = H8 at kb pt8 ⊢
      clear e7 r7 T7 n7 l7 h7 hh7 ka hL6 hp6 k6 pt6 sa ua epa
      -- size > 1000 or _law_met(lambda: made.step(size, odd)) == ('call', odd, True)
      refine ⟨_, rfl, _, 1000, rfl, rfl, _, rfl, ?_⟩
      by_cases hk3 : 1000 < k
      · rw [decide_eq_true (show (1000 : Int) < (k : Int) by omega)]
        exact iteT (q _ pt8 kb)
      · rw [decide_eq_false (show ¬ (1000 : Int) < (k : Int) by omega)]
        have hL8 := hL2.k3 kb
        have hp8 := kb.ins hp
        refine iteF ⟨pt8.tabs, fun f Ha e7 r7 T7 n7 l7 h7 hh7 => met_live hh7 l7 (by decide) fun H0 told err s0 r0 htold herr => ?_⟩
        have ka := k3_ext e7
        have hL0 := (hL8.k3 ka).same s0
        have hp0 := s0 _ _ (ka.ins hp8)
        refine ⟨.ref p, rfl, p, dx, fs, rfl, hp0, no3, _, rfl, _, rfl, .inl ⟨p, y, k, m, ib, lv, e, size, rfl, hI _, hL0, hok, hk, by omega, hm, .inr ⟨hbt, fun H' d' s' ed => herr a.C_BadCall "call" "call" d' y H' (List.mem_cons_of_mem _ List.mem_cons_self) s' ed fun pa Hb sa epa => ?_⟩⟩⟩
        clear hL0 hp0 htold herr
        refine ⟨_, rfl, sz (show 3 ≤ 100000 by decide), fun qa nqa => ?_⟩
        have ua := same_upd (o := .tup [.str "call", y, .bl true]) nqa
        exact eqD_self (.tup (SqT.at (ua _ _ epa)) (.cons (.str _) (.cons (hD _ _) (.cons (.bl _) .nil)))) (.tup (SqT.at upd_same) (.cons (.str _) (.cons (hD _ _) (.cons (.bl _) .nil)))) (hsh "call" (by decide +kernel)) (q _ ((PT2.mk (pt8.pen.ext e7) T7).same (sa.trans ua)) (kb.trans (ka.trans (k3_same (sa.trans ua)))))
end

/-! ### levels are made again, and beside each other -/
theorem cut_pre (x y : Str) : cutS (Str.append x y) none (some ((x.length : Nat) : Int)) = x := by
  apply TL.ext_tl
  have e1 : TL.tl (Str.append x y) = TL.tl x ++ TL.tl y := TL.tl_append x y
  have e2 : (Str.append x y).length = (TL.tl x).length + (TL.tl y).length := by rw [TL.len_tl, e1, List.length_append]
  have e3 : x.length = (TL.tl x).length := TL.len_tl x
  unfold cutS
  rw [HT.sIx_none, HT.sIx_nat, e2, e3, Nat.min_eq_left (by omega)]
  show ((TL.tl (Str.append x y)).drop 0).take _ = _
  rw [e1, List.drop_zero, Nat.sub_zero, List.take_left]
theorem app_nil (x : Str) : Str.append x "" = x := by
  apply TL.ext_tl
  have e1 : TL.tl (Str.append x "") = TL.tl x ++ TL.tl "" := TL.tl_append x ""
  rw [e1, show TL.tl "" = [] from by decide +kernel, List.append_nil]
def sTo : Str := " to the end"
theorem text_true (lv : Lv) : lvText lv true = Str.append lv.base sTo := rfl
theorem text_false (lv : Lv) : lvText lv false = lv.base := app_nil _
theorem len_app (x y : Str) : (Str.append x y).length = x.length + y.length := by
  have e1 : TL.tl (Str.append x y) = TL.tl x ++ TL.tl y := TL.tl_append x y
  rw [TL.len_tl, e1, List.length_append, ← TL.len_tl, ← TL.len_tl]
theorem text_ne (lv : Lv) (e : Bool) : lvText lv e ≠ lvText lv (!e) := by
  have h : ∀ lv : Lv, lvText lv true ≠ lvText lv false := fun lv z => by
    rw [text_true, text_false] at z
    have := congrArg Str.length z
    rw [len_app, show sTo.length = 11 from by decide +kernel] at this
    omega
  cases e
  · exact fun z => h lv z.symm
  · exact h lv
theorem list_ne (ns : List Int) (e : Bool) : lvText (.list ns) e ≠ "same turn" := fun z => by
  have h : TL.tl (lvText (.list ns) e) = TL.tl "list " ++ (TL.tl (Txt.join " " (ns.map toStr)) ++ TL.tl (if e = true then " to the end" else "")) := by
    show TL.tl (Str.append (Str.append "list " (Txt.join " " (ns.map toStr))) _) = _
    rw [show ∀ x y : Str, TL.tl (Str.append x y) = TL.tl x ++ TL.tl y from TL.tl_append, show ∀ x y : Str, TL.tl (Str.append x y) = TL.tl x ++ TL.tl y from TL.tl_append, List.append_assoc]
  rw [z] at h
  have := congrArg (fun l => l.take 1) h
  revert this
  rw [show TL.tl "list " = [108, 105, 115, 116, 32] from by decide +kernel, show TL.tl "same turn" = [115, 97, 109, 101, 32, 116, 117, 114, 110] from by decide +kernel]
  simp
def Lv.notList : Lv → Bool
  | .list _ => false
  | _ => true
theorem lvOk_any {size size' : Option Nat} {e e' : Bool} {lv : Lv} (n : lv.notList = true) (h : LvOk size e lv) : LvOk size' e' lv := by
  cases lv with
  | same ms => exact h
  | along k z => exact h
  | list ns => cases n
def lvTurn : Lv := .same [.turn]
theorem turn_one : oneTurn [.turn] := fun pre m post h _ hm => by
  have := congrArg List.length h
  simp only [List.length_append, List.length_cons, List.length_nil] at this
  rw [List.eq_nil_of_length_eq_zero (show pre.length = 0 by omega)] at hm
  cases hm
theorem turn_ok (size : Option Nat) (e : Bool) : LvOk size e lvTurn := ⟨by simp, by decide, fun m hm => by simp at hm; subst hm; exact trivial, turn_one⟩
theorem turn_text : lvText lvTurn false = "same turn" := by decide +kernel
theorem lvText_len {size : Option Nat} {e : Bool} {lv : Lv} (hs : SizeOk size) (h : LvOk size e lv) : (lvText lv e).length ≤ 3030 := by
  have tl := join_len (zs := lvP lv e) fun z hz => (FS_chk (lvP_FS hs h z hz)).2.2.1
  rw [← lvText_eq hs h] at tl
  have := (lvP_len hs h).2
  omega
theorem lv_make {C CW0 CW CS : Addr} {H : Hp} {x dx : Addr} {size : Option Nat} {e : Bool} {lv : Lv} {z : Str} {sv : V} {R : VK} {E : XK} (hx : H x = none) (hdx : H dx = none) (ne : dx ≠ x) (hs : SizeOk size) (hok : LvOk size e lv) (hz : z = lvText lv e) (hsv : sv = oN size)
    (q : ∀ H', LevelL C CW0 H' x lv e → Same H H' → R .non H') : spLevelInit C CW0 CW CS [.ref x, .str z, sv] (upd (upd H dx (.own x)) x (.ins C dx [])) R E := by
  subst hz hsv
  obtain ⟨s1, ex⟩ := made2 (C := C) hx hdx ne
  generalize upd (upd H dx (.own x)) x (.ins C dx []) = H1 at s1 ex ⊢
  have pF := lvP_FS hs hok
  obtain ⟨p1, p2⟩ := lvP_len hs hok
  have pne : lvP lv e ≠ [] := fun z => by rw [z] at p1; exact absurd p1 (by decide)
  have tsp : Txt.split (lvText lv e) " " = lvP lv e := by
    rw [lvText_eq hs hok]
    exact split_FS pne pF
  have hr := lvP_right hs hok
  refine ⟨x, dx, lvText lv e, oN size, rfl, ex, .inl ⟨size, lvP lv e, rfl, hs, tsp, p1, by omega, pF, Nat.le_trans (lvText_len hs hok) (by decide), fun b g hb H' hF hk => ?_, fun j hj H' d s2 ed => ?_⟩⟩
  · exact q H' (hF.lv hs hok hb) fun b o e => hk b o (s1 b o e) (ne_of_none e hx)
  · exfalso
    unfold lvlW at hr
    rw [hj] at hr
    cases hr
section
variable {P : Program} {w : World} {K : PySem.W.Frag} {mg : Str → Option Value} {base : Heap} {a : Ad}
theorem nf_self (K : PySem.W.Frag) (C : Addr) : PySem.W.notFirst K C (.ref C) = true := by
  unfold PySem.W.notFirst
  simp
theorem eq_lv {K : PySem.W.Frag} {C CW : Addr} {H : Hp} {p q : Addr} {lv lv' : Lv} {e e' : Bool} {Q : VK} (h1 : LevelL C CW H p lv e) (h2 : LevelL C CW H q lv' e') (k : Q (.bl (decide (lvText lv e = lvText lv' e'))) H) : rEqOwn2 K C (spLevelEq C) (.ref p) (.ref q) H Q := by
  obtain ⟨dx, fs, p1, p2⟩ := h1.textF
  obtain ⟨dy, gs, q1, q2⟩ := h2.textF
  exact ⟨p, dx, fs, .ref C, rfl, p1, .ins q1, nf_self K C, p, dx, fs, _, p1, p2, .inl ⟨q, dy, gs, _, rfl, q1, q2, ⟨_, rfl⟩, k⟩⟩
theorem ne_lv {K : PySem.W.Frag} {C CW : Addr} {H : Hp} {p q : Addr} {lv lv' : Lv} {e e' : Bool} {Q : VK} (h1 : LevelL C CW H p lv e) (h2 : LevelL C CW H q lv' e') (k : Q (.bl (!decide (lvText lv e = lvText lv' e'))) H) : rNeOwn2 K C (spLevelEq C) (.ref p) (.ref q) H Q := by
  obtain ⟨dx, fs, p1, p2⟩ := h1.textF
  obtain ⟨dy, gs, q1, q2⟩ := h2.textF
  exact ⟨p, dx, fs, .ref C, rfl, p1, .ins q1, nf_self K C, p, dx, fs, _, p1, p2, .inl ⟨q, dy, gs, _, rfl, q1, q2, _, rfl, k⟩⟩
theorem eq_no {K : PySem.W.Frag} {C CW : Addr} {H : Hp} {p : Addr} {lv : Lv} {e : Bool} {y : V} {tb : Value} {Q : VK} (h1 : LevelL C CW H p lv e) (hy : EqTy2 H y tb) (hn : PySem.W.notFirst K C tb = true) (h2 : NoLv H y) (k : Q (.bl false) H) : rEqOwn2 K C (spLevelEq C) (.ref p) y H Q := by
  obtain ⟨dx, fs, p1, p2⟩ := h1.textF
  exact ⟨p, dx, fs, tb, rfl, p1, hy, hn, p, dx, fs, _, p1, p2, .inr ⟨y, rfl, h2, ⟨_, rfl⟩, k⟩⟩
def spEqualRight (C CW : Addr) : Sp := fun vs H Q _ => ∃ (p o : Addr) (lv : Lv) (e : Bool) (size : Option Nat), vs = [.ref p, .ref o, .int (szI size)] ∧ LevelL C CW H p lv e ∧ LvT H o e lv ∧ SizeOk size ∧ LvOk size e lv ∧ ∀ H', Same H H' → Q (.bl true) H'
theorem ok__law_equal_right (T : Tx w K mg a) : FnOk P w K mg base CX0 10 a.f__law_equal_right a.d__law_equal_right ["made", "level", "own"] (spEqualRight a.C_Level a.C_Word) := by
  refine T.F__law_equal_right.ok sc__law_equal_right (fun vs H Q E h => ?_) (fun cdv A outer s H vs Q E hr h => ?_)
  · obtain ⟨p, o, lv, e, size, rfl, _⟩ := h
    rfl
  · obtain ⟨p, o, lv, e, size, rfl, hL, hT, hsz, hok, q⟩ := h
    refine ⟨_, 
(pss_cons (ps_par (i := 3) (j := 4) (by rfl) sc__law_equal_right.nd rfl rfl (by decide) rfl rfl (pa_cons (pe_call (ok__law_level_text T) (hr.mono (by decide)) (by rfl) T.m__law_level_text T.F__law_level_text.kp T.b__law_level_text .nil pass0 (pa_cons (pv 1) pa_nil)) (pa_cons pe_str pa_nil)) (by rfl))
  (pss_cons (ps_if (PW.pt (pw_or (pt_cmpR (op_eq_own2 (ok_Level_eq T) (hr.mono (by decide)) T.ow_Level.eq T.ow_Level.fn T.b_Level_eq) (pv 0) (pv 3) (nomark _)) (pw_or (pt_cmpR (op_eq_own2 (ok_Level_eq T) (hr.mono (by decide)) T.ow_Level.eq T.ow_Level.fn T.b_Level_eq) (pv 0) pe_int (nomark _)) (pw_or1 (pt_cmpR (op_eq_own2 (ok_Level_eq T) (hr.mono (by decide)) T.ow_Level.eq T.ow_Level.fn T.b_Level_eq) (pv 0) (pe_tup pa_nil) (nomark _))))))
  (pss_one (ps_ret pe_bl))
  pss_nil)
  (pss_cons (ps_if (pt_cmpR op_eq (pe_ix ix_tup (pv 1) pe_int (fun _ _ => rfl)) pe_str (nomark _))
  (pss_one (ps_ret (pe_and (pe_cmpR (op_eq_own2 (ok_Level_eq T) (hr.mono (by decide)) T.ow_Level.eq T.ow_Level.fn T.b_Level_eq) (pv 0) (pe_makeS T.mk_Level (ok_Level_init T) hr (by rfl) T.c_Level T.b_Level_init .nil takes0 (pa_cons (pv 3) (pa_cons (pv 2) pa_nil))) (nomark _)) (pe_one (pe_not (pe_cmpR (op_eq_own2 (ok_Level_eq T) (hr.mono (by decide)) T.ow_Level.eq T.ow_Level.fn T.b_Level_eq) (pv 0) (pe_makeS T.mk_Level (ok_Level_init T) hr (by rfl) T.c_Level T.bd_Level_init.choose_spec.2 T.bd_Level_init.choose_spec.1 takes0 (pa_cons pe_str pa_nil)) (nomark _)))))))
  pss_nil)
  (C8.pss_cut (ps_set (i := 5) sc__law_equal_right.nd rfl (.inl rfl) (pe_ifExp (pt_val (pe_ix ix_tup (pv 1) pe_int (fun _ _ => rfl))) (pe_slice sl_str (pv 3) po_none (po_some (pe_op op_sub (pe_callB call_len_str (by rfl) T.z_len PySem.boot_len (pa_cons (pv 3) pa_nil)) (pe_callB call_len_str (by rfl) T.z_len PySem.boot_len (pa_cons (pv 4) pa_nil))))) (pe_op op_add_str (pv 3) (pv 4))))
  (pss_cons (ps_if (PW.pt (pw_or (pt_cmpR (op_eq_own2 (ok_Level_eq T) (hr.mono (by decide)) T.ow_Level.eq T.ow_Level.fn T.b_Level_eq) (pv 0) (pe_makeS T.mk_Level (ok_Level_init T) hr (by rfl) T.c_Level T.bd_Level_init.choose_spec.2 T.bd_Level_init.choose_spec.1 takes0 (pa_cons (pv 5) pa_nil)) (nomark _)) (pw_or (pt_cmpR (op_eq_own2 (ok_Level_eq T) (hr.mono (by decide)) T.ow_Level.eq T.ow_Level.fn T.b_Level_eq) (pe_makeS T.mk_Level (ok_Level_init T) hr (by rfl) T.c_Level T.b_Level_init .nil takes0 (pa_cons (pv 5) (pa_cons pe_int pa_nil))) (pv 0) (nomark _)) (pw_or1 (pt_cmpR (op_ne_own2 (ok_Level_eq T) (hr.mono (by decide)) T.ow_Level.eq T.ow2_Level.ne T.ow_Level.mro T.ow_Level.fn T.b_Level_eq) (pv 0) (pe_makeS T.mk_Level (ok_Level_init T) hr (by rfl) T.c_Level T.bd_Level_init.choose_spec.2 T.bd_Level_init.choose_spec.1 takes0 (pa_cons (pv 3) pa_nil)) (nomark _))))))
  (pss_one (ps_ret pe_bl))
  pss_nil)
  (pss_cons (ps_if (PW.pt (pw_or (pt_not (pt_cmpR (op_eq_own2 (ok_Level_eq T) (hr.mono (by decide)) T.ow_Level.eq T.ow_Level.fn T.b_Level_eq) (pv 0) (pe_makeS T.mk_Level (ok_Level_init T) hr (by rfl) T.c_Level T.b_Level_init .nil takes0 (pa_cons (pv 3) (pa_cons pe_int pa_nil))) (nomark _))) (pw_or1 (pt_not (pt_cmpR (op_eq_own2 (ok_Level_eq T) (hr.mono (by decide)) T.ow_Level.eq T.ow_Level.fn T.b_Level_eq) (pe_makeS T.mk_Level (ok_Level_init T) hr (by rfl) T.c_Level T.b_Level_init .nil takes0 (pa_cons (pv 3) (pa_cons pe_int pa_nil))) (pv 0) (nomark _))))))
  (pss_one (ps_ret pe_bl))
  pss_nil)
  (pss_one (ps_ret (pe_cmpR op_eq (pe_cmpR (op_eq_own2 (ok_Level_eq T) (hr.mono (by decide)) T.ow_Level.eq T.ow_Level.fn T.b_Level_eq) (pv 0) (pe_makeS T.mk_Level (ok_Level_init T) hr (by rfl) T.c_Level T.bd_Level_init.choose_spec.2 T.bd_Level_init.choose_spec.1 takes0 (pa_cons pe_str pa_nil)) (nomark _)) (pe_cmpR op_eq (pv 3) pe_str (nomark _)) (nomark _)))))))))), ?_⟩
    have tl := lvText_len hsz hok
    -- text, end = _law_level_text(level), ' to the end'
    refine ⟨_, rfl, o, size, lv, e, rfl, hT, hsz, hok, fun H1 s1 => ?_⟩
    have hL1 := hL.same s1
    have hT1 := hT.same s1
    refine ⟨_, _, rfl, ?_⟩
    -- made == text or made == 5 or made == ()
    refine ⟨_, rfl, _, rfl, eq_no hL1 (.str _) T.ow_Level.fst (.str _) ⟨_, rfl, iteF ?_⟩⟩
    refine ⟨_, rfl, eq_no hL1 (.int _) T.ow2_Level.fsi (.int _) ⟨_, rfl, iteF ?_⟩⟩
    refine ⟨_, rfl, sz (show 0 ≤ 100000 by decide), fun t0 n0 => ?_⟩
    have s2 := s1.trans (same_upd (o := .tup []) n0)
    have e0 : (upd H1 t0 (.tup [])) t0 = some (.tup []) := upd_same
    generalize upd H1 t0 (.tup []) = H2 at s2 e0 ⊢
    refine eq_no (hL.same s2) (.tup e0) T.ow2_Level.fst (.tup e0) ⟨_, rfl, iteF ?_⟩
    have hL2 := hL.same s2
    have hT2 := hT.same s2
    obtain ⟨v1, v2, hT0⟩ := hT2.tup
    clear hL1 hT1
    -- if level[0] == 'list'
    refine ⟨_, rfl, o, _, 0, _, rfl, rfl, SqT.at hT0, rfl, rfl, _, rfl, ?_⟩
    cases hlv : lv.notList with
    | false =>
      cases lv with
      | same ms => cases hlv
      | along k z => cases hlv
      | list ls =>
        rw [show decide (V.str (Lv.list ls).kind = V.str "list") = true from decide_eq_true rfl]
        obtain ⟨s0, rfl, _⟩ := id hok
        refine iteT ⟨_, rfl, _, rfl, _, rfl, fun x dx hx hdx ne => lv_make hx hdx ne hsz hok rfl rfl fun H3 hx3 s3 => ⟨rfl, ?_⟩⟩
        refine eq_lv (hL2.same s3) hx3 ⟨true, by rw [decide_eq_true rfl], iteT ?_⟩
        refine ⟨_, rfl, fun x dx hx hdx ne => lv_make hx hdx ne (show SizeOk none from trivial) (turn_ok none false) turn_text.symm rfl fun H4 hx4 s4 => ⟨rfl, ?_⟩⟩
        refine eq_lv ((hL2.same s3).same s4) hx4 ?_
        refine ⟨_, rfl, ?_⟩
        rw [turn_text, decide_eq_false (list_ne ls e)]
        exact q _ ((s2.trans s3).trans s4)
    | true =>
      have hkd : decide (V.str lv.kind = V.str "list") = false := decide_eq_false fun z => by
        have z := V.str.inj z
        cases lv with
        | same ms => exact absurd z (show ¬ Str.ofString "same" = Str.ofString "list" by decide +kernel)
        | along k z' => exact absurd z (show ¬ Str.ofString "along" = Str.ofString "list" by decide +kernel)
        | list ls => cases hlv
      rw [hkd]
      refine iteF ⟨fun σ' H' => σ' = [some (.ref p), some (.ref o), some (.int (szI size)), some (.str (lvText lv e)), some (.str sTo), some (.str (lvText lv (!e)))] ∧ H' = H2, ?_, ?_⟩
      · refine ⟨_, rfl, o, _, 3, _, rfl, rfl, SqT.at hT0, rfl, _, rfl, ?_⟩
        cases e with
        | true =>
          have l1 : lv.base.length = (lvText lv true).length - sTo.length := by
            rw [text_true, len_app]
            omega
          have l2 : sTo.length ≤ (lvText lv true).length := by
            rw [text_true, len_app]
            omega
          refine iteT ⟨_, rfl, _, rfl, _, rfl, Nat.le_trans tl (by decide), _, rfl, sTo, rfl, (by decide +kernel), _, _, rfl, rfl, _, rfl, _, rfl, Nat.le_trans tl (by decide), ?_, rfl⟩
          have e5 : V.str (cutS (lvText lv true) none (some (((lvText lv true).length : Int) - (sTo.length : Int)))) = V.str (lvText lv (!true)) := by
            rw [show ((lvText lv true).length : Int) - (sTo.length : Int) = ((lv.base.length : Nat) : Int) by omega, text_true, cut_pre]
            exact congrArg V.str (text_false lv).symm
          exact congrArg (fun z => [some (V.ref p), some (V.ref o), some (V.int (szI size)), some (V.str (lvText lv true)), some (V.str sTo), some z]) e5
        | false =>
          refine iteF ⟨_, rfl, _, rfl, _, _, rfl, rfl, ?_, ?_, rfl⟩
          · rw [show (Str.ofString " to the end").length = 11 from by decide +kernel]
            exact Nat.le_trans (Nat.add_le_add_right tl 11) (by decide)
          · have e5 : V.str (lvText lv false ++ Str.ofString " to the end") = V.str (lvText lv (!false)) := by
              rw [text_false]
              rfl
            exact congrArg (fun z => [some (V.ref p), some (V.ref o), some (V.int (szI size)), some (V.str (lvText lv false)), some (V.str sTo), some z]) e5
      rintro σ' H' ⟨rfl, rfl⟩
      have nt : decide (lvText lv e = lvText lv (!e)) = false := decide_eq_false (text_ne lv e)
      have tn : decide (lvText lv (!e) = lvText lv e) = false := decide_eq_false fun z => text_ne lv e z.symm
      have any : ∀ (s' : Option Nat) (e' : Bool), LvOk s' e' lv := fun _ _ => lvOk_any hlv hok
      -- made == Level(other) or Level(other, 5) == made or made != Level(text)
      refine ⟨_, rfl, _, rfl, fun x dx hx hdx ne => lv_make hx hdx ne (show SizeOk none from trivial) (any none (!e)) rfl rfl fun H3 hx3 s3 => ⟨rfl, ?_⟩⟩
      have g3 := s2.trans s3
      refine eq_lv (hL.same g3) hx3 ⟨_, rfl, ?_⟩
      rw [nt]
      refine iteF ⟨_, rfl, fun x dx hx hdx ne => lv_make hx hdx ne (show SizeOk (some 5) from ⟨by decide, by decide⟩) (any _ (!e)) rfl rfl fun H4 hx4 s4 => ⟨rfl, ?_⟩⟩
      have g4 := g3.trans s4
      refine ⟨_, rfl, eq_lv hx4 (hL.same g4) ⟨_, rfl, ?_⟩⟩
      rw [tn]
      refine iteF ⟨_, rfl, _, rfl, fun x dx hx hdx ne => lv_make hx hdx ne (show SizeOk none from trivial) (any none e) rfl rfl fun H5 hx5 s5 => ⟨rfl, ?_⟩⟩
      have g5 := g4.trans s5
      refine ne_lv (hL.same g5) hx5 ⟨_, rfl, ?_⟩
      rw [decide_eq_true rfl]
      refine iteF ?_
      -- not made == Level(text, 2) or not Level(text, 12) == made
      refine ⟨_, rfl, _, rfl, fun x dx hx hdx ne => lv_make hx hdx ne (show SizeOk (some 2) from ⟨by decide, by decide⟩) (any _ e) rfl rfl fun H6 hx6 s6 => ⟨rfl, ?_⟩⟩
      have g6 := g5.trans s6
      refine eq_lv (hL.same g6) hx6 ⟨_, rfl, ?_⟩
      rw [decide_eq_true rfl]
      refine iteF ⟨_, rfl, fun x dx hx hdx ne => lv_make hx hdx ne (show SizeOk (some 12) from ⟨by decide, by decide⟩) (any _ e) rfl rfl fun H7 hx7 s7 => ⟨rfl, ?_⟩⟩
      have g7 := g6.trans s7
      refine ⟨_, rfl, eq_lv hx7 (hL.same g7) ⟨_, rfl, ?_⟩⟩
      rw [decide_eq_true rfl]
      refine iteF ?_
      -- (made == Level('same turn')) == (text == 'same turn')
      refine ⟨_, rfl, fun x dx hx hdx ne => lv_make hx hdx ne (show SizeOk none from trivial) (turn_ok none false) turn_text.symm rfl fun H8 hx8 s8 => ⟨rfl, ?_⟩⟩
      have g8 := g7.trans s8
      refine eq_lv (hL.same g8) hx8 ?_
      rw [turn_text]
      refine ⟨_, rfl, ?_⟩
      refine (show rEq (V.str (lvText lv e)) (V.str (Str.ofString "same turn")) H8 (fun y H2 => rEq (V.bl (decide (lvText lv e = Str.ofString "same turn"))) y H2 Q) from ?_)
      refine eq_texts ?_
      refine ⟨rfl, ?_⟩
      rw [decide_eq_true rfl]
      exact q _ g8
end

theorem lvMany_pos {lv : Lv} {e : Bool} {k : Nat} (n : lv.notList = true) : ∃ m, lvMany lv e k = some m := by
  cases lv with
  | same ms => exact ⟨_, rfl⟩
  | along j z => exact ⟨_, rfl⟩
  | list ns => cases n
theorem lvMany_own {size : Option Nat} {lv : Lv} {e : Bool} (n : lv.notList = false) (h : LvOk size e lv) : ∃ s m, size = some s ∧ lvMany lv e s = some m ∧ ∀ k, k ≠ s → 1 ≤ s → 2 ≤ k → lvMany lv e k = none := by
  cases lv with
  | same ms => cases n
  | along j z => cases n
  | list ns =>
    obtain ⟨s, rfl, hl, _⟩ := h
    refine ⟨s, _, rfl, if_pos hl, fun k hk hs h2 => if_neg ?_⟩
    rw [hl]
    cases e with
    | true => exact fun z => hk z.symm
    | false =>
      intro z
      have z : s - 1 = k - 1 := z
      omega
theorem kdN_list {lv : Lv} (h : lv.notList = false) : decide (V.str lv.kind = V.str "list") = true := by
  cases lv with
  | same ms => cases h
  | along k z' => cases h
  | list ls => exact decide_eq_true rfl
theorem kdN_no {lv : Lv} (h : lv.notList = true) : decide (V.str lv.kind = V.str "list") = false := decide_eq_false fun z => by
  have z := V.str.inj z
  cases lv with
  | same ms => exact absurd z (show ¬ Str.ofString "same" = Str.ofString "list" by decide +kernel)
  | along k z' => exact absurd z (show ¬ Str.ofString "along" = Str.ofString "list" by decide +kernel)
  | list ls => cases h
theorem dp_reps {K : PySem.W.Frag} {H : Hp} {D : PyData} : ∀ {vs : List V}, (∀ v ∈ vs, Dp K H v D) → DpAll K H vs (List.replicate vs.length D)
  | [], _ => .nil
  | v :: r, h => .cons (h v List.mem_cons_self) (dp_reps fun x hx => h x (List.mem_cons_of_mem _ hx))
theorem reps_ok {D : PyData} (n : Nat) (h1 : PyData.canLay0 D = true) (h2 : PyData.depth D ≤ 3) : SeqAt.shaped (.list (List.replicate n D)) = true ∧ PyData.eqv (.list (List.replicate n D)) (.list (List.replicate n D)) = true := by
  have a1 : ∀ n, PyData.canLayAll0 (List.replicate n D) = true := fun n => by
    induction n with
    | zero => simp [PyData.canLayAll0]
    | succ n ih => simp [List.replicate_succ, PyData.canLayAll0, h1, ih]
  have a2 : ∀ n, PyData.depthAll (List.replicate n D) ≤ 4 := fun n => by
    induction n with
    | zero => simp [PyData.depthAll]
    | succ n ih =>
      simp only [List.replicate_succ, PyData.depthAll]
      omega
  have h : SeqAt.shaped (.list (List.replicate n D)) = true := by
    unfold SeqAt.shaped
    rw [Bool.and_eq_true, decide_eq_true_eq]
    refine ⟨by rw [PyData.canLay0]; exact a1 n, ?_⟩
    have := a2 n
    rw [PyData.depth]
    omega
  exact ⟨h, SeqAt.eqv_refl _ (SeqAt.canLay_of_shaped h)⟩
/-- all but tables and lists at c -/
theorem extn_upd {H G : Hp} {c : Addr} {o : HO} (s : LamX.ExtN H G) (n : H c = none) : LamX.ExtN H (upd G c o) := fun b u e ne => by
  rw [upd_ne (ne_of_none e n)]
  exact s b u e ne
theorem tabs_lst {TT : List (Addr × Str)} {H : Hp} {c : Addr} {xs ys : List V} (h : LamX.Tabs TT H) (e : H c = some (.lst xs)) : LamX.Tabs TT (upd H c (.lst ys)) := fun p hp => by
  obtain ⟨ps, h1, h2, h3⟩ := h p hp
  refine ⟨ps, ?_, h2, fun pos cv hc => ?_⟩
  · rw [upd_ne (ne_of h1 e (by intro z; cases z))]
    exact h1
  · obtain ⟨c', e1, e2⟩ := h3 pos cv hc
    refine ⟨c', e1, ?_⟩
    rw [upd_ne (ne_of e2 e (by intro z; unfold LamX.CodeO at z; cases z))]
    exact e2
def FK (H G : Hp) : Prop := ∀ b o, H b = some o → Firm o → G b = some o
theorem FK.trans {H G J : Hp} (x : FK H G) (y : FK G J) : FK H J := fun b o e f => y b o (x b o e f) f
theorem fk_ext {H G : Hp} (s : LamX.ExtN H G) : FK H G := fun b o e f => s b o e fun ps z => by
  rcases f with ⟨ob, u, rfl⟩ | ⟨φ, rfl⟩ <;> cases z
theorem fk_same {H G : Hp} (s : Same H G) : FK H G := fun b o e _ => s b o e
theorem fk_lst {H : Hp} {c : Addr} {xs ys : List V} (e : H c = some (.lst xs)) : FK H (upd H c (.lst ys)) := fun b o h f => by
  rw [upd_ne (ne_of h e (by rcases f with ⟨ob, u, rfl⟩ | ⟨φ, rfl⟩ <;> intro z <;> cases z))]
  exact h
theorem bt_of_fr {y : V} (h : frM 2 y = false) : btM 2 1000 y = false := by
  cases y with
  | int i =>
    have h : decide ((2 : Int) ≤ i) = false := h
    simp only [btM, Bool.and_eq_false_iff, decide_eq_false_iff_not]
    exact .inl (of_decide_eq_false h)
  | _ => rfl
/-- how a size is told that a level has not -/
def OddS (lv : Lv) (e : Bool) (y : V) : Prop := (∃ ib, ∀ H, IsI H y ib) ∧ (frM 2 y = false ∨ ∃ k : Nat, y = .int (k : Int) ∧ 2 ≤ k ∧ k ≤ 1000 ∧ lvMany lv e k = none) ∧ ∃ D, (∀ K H, Dp K H y D) ∧ PyData.canLay0 D = true ∧ PyData.depth D = 0
theorem oddS_int {lv : Lv} {e : Bool} {i : Int} (h : i < 2 ∨ ∃ k : Nat, i = (k : Int) ∧ 2 ≤ k ∧ k ≤ 1000 ∧ lvMany lv e k = none) : OddS lv e (.int i) := by
  refine ⟨⟨_, fun _ => .int _⟩, ?_, .int i, fun _ _ => .int _, by simp [PyData.canLay0], by simp [PyData.depth]⟩
  rcases h with h | ⟨k, rfl, h⟩
  · exact .inl (decide_eq_false (by omega))
  · exact .inr ⟨k, rfl, h⟩
def oddA : List V := [.int 1, .int 0, .int (-3), .bl true, .non, .str "4"]
theorem oddS_a {lv : Lv} {e : Bool} {y : V} (h : y ∈ oddA) : OddS lv e y := by
  simp only [oddA, List.mem_cons, List.not_mem_nil, or_false] at h
  rcases h with rfl | rfl | rfl | rfl | rfl | rfl
  · exact oddS_int (.inl (by decide))
  · exact oddS_int (.inl (by decide))
  · exact oddS_int (.inl (by decide))
  · exact ⟨⟨_, fun _ => .bl _⟩, .inl rfl, _, fun _ _ => .bl _, by simp [PyData.canLay0], by simp [PyData.depth]⟩
  · exact ⟨⟨_, fun _ => .non⟩, .inl rfl, _, fun _ _ => .non, by simp [PyData.canLay0], by simp [PyData.depth]⟩
  · exact ⟨⟨_, fun _ => .str _⟩, .inl rfl, _, fun _ _ => .str _, by decide +kernel, by simp [PyData.depth]⟩
theorem oddS_own {size : Option Nat} {lv : Lv} {e : Bool} {y : V} (n : lv.notList = false) (hs : SizeOk size) (hok : LvOk size e lv) (h : y ∈ [V.int (szI size + 1), .int (szI size - 1)]) : OddS lv e y := by
  obtain ⟨s, m, rfl, _, hm⟩ := lvMany_own n hok
  have h1 := hs.1
  have h2 := hs.2
  simp only [List.mem_cons, List.not_mem_nil, or_false] at h
  rcases h with rfl | rfl
  · exact oddS_int (.inr ⟨s + 1, rfl, by omega, by omega, hm _ (by omega) (by omega) (by omega)⟩)
  · by_cases c : s = 2
    · subst c
      exact oddS_int (.inl (by decide))
    · exact oddS_int (.inr ⟨s - 1, (by show (s : Int) - 1 = _; omega), by omega, by omega, hm _ (by omega) (by omega) (by omega)⟩)
section
variable {P : Program} {w : World} {K : PySem.W.Frag} {mg : Str → Option Value} {base : Heap} {a : Ad}
def spLaw (K : PySem.W.Frag) (TT : List (Addr × Str)) : Sp := fun vs H Q _ => ∃ (s : Addr) (ns : List Int), vs = [.ref s] ∧ SqL K H s (ns.map V.int) ∧ ns.length ≤ 63 ∧ LamX.Tabs TT H ∧ ∀ H', Q (.bl true) H'
theorem ok_law (T : Tx w K mg a) (B : Tb base mg a) : FnOk P w K mg base CX0 11 a.f_law a.d_law ["script"] (spLaw K (tabsOf a)) := by
  refine T.L_law.ok T.b_law sc_law (fun vs H Q E h => ?_) (fun A outer s H vs Q E hr h => ?_)
  · obtain ⟨x, ns, rfl, _⟩ := h
    rfl
  · obtain ⟨x, ns, rfl, hS, hlen, hTb, q⟩ := h
    refine ⟨_, 
(pss_cons (ps_set (i := 1) sc_law.nd rfl (.inl rfl) (pe_call (ok__law_pen T) (hr.mono (by decide)) (by rfl) T.m__law_pen T.F__law_pen.kp T.b__law_pen .nil pass0 (pa_cons (pv 0) pa_nil)))
  (pss_cons (ps_for PassesOwn.never rfl (pi_range1 (by rfl) T.z_range (pa_cons pe_int pa_nil)) (pg_name (i := 2) sc_law.nd rfl (.inl rfl))
  (C8.pss_cut (ps_set (i := 3) sc_law.nd rfl (.inl rfl) (pe_ifExp (pt_cmpR op_eq (pe_call (ok__law_draw T) (hr.mono (by decide)) (by rfl) T.m__law_draw T.F__law_draw.kp T.b__law_draw .nil pass0 (pa_cons (pv 1) (pa_cons pe_int pa_nil))) pe_int (nomark _)) (pe_op op_add pe_int (pe_call (ok__law_draw T) (hr.mono (by decide)) (by rfl) T.m__law_draw T.F__law_draw.kp T.b__law_draw .nil pass0 (pa_cons (pv 1) (pa_cons pe_int pa_nil)))) pe_int))
  (pss_cons (ps_set (i := 4) sc_law.nd rfl (.inl rfl) (pe_call (ok__law_level T) (hr.mono (by decide)) (by rfl) T.m__law_level T.F__law_level.kp T.b__law_level .nil pass0 (pa_cons (pv 1) (pa_cons (pv 3) pa_nil))))
  (C8.pss_cut (ps_set (i := 8) sc_law.nd rfl (.inr rfl) (pe_ifExp (pt_cmpR op_gt (pv 3) pe_int (nomark _)) (pe_makeS T.mk_Level (ok_Level_init T) (hr.mono (by decide)) (by rfl) T.c_Level T.b_Level_init .nil takes0 (pa_cons (pe_call (ok__law_level_text T) (hr.mono (by decide)) (by rfl) T.m__law_level_text T.F__law_level_text.kp T.b__law_level_text .nil pass0 (pa_cons (pv 4) pa_nil)) (pa_cons (pv 3) pa_nil))) (pe_makeS T.mk_Level (ok_Level_init T) (hr.mono (by decide)) (by rfl) T.c_Level T.bd_Level_init.choose_spec.2 T.bd_Level_init.choose_spec.1 takes0 (pa_cons (pe_call (ok__law_level_text T) (hr.mono (by decide)) (by rfl) T.m__law_level_text T.F__law_level_text.kp T.b__law_level_text .nil pass0 (pa_cons (pv 4) pa_nil)) pa_nil))))
  (C8.pss_cut (ps_if (PW.pt (pw_or (pt_not (pt_val (pe_call (ok__law_parts_right T) (hr.mono (by decide)) (by rfl) T.m__law_parts_right T.F__law_parts_right.kp T.b__law_parts_right .nil pass0 (pa_cons (pv 8) (pa_cons (pv 4) pa_nil))))) (pw_or1 (pt_not (pt_cmpR (op_eq_own2 (ok_Level_eq T) (hr.mono (by decide)) T.ow_Level.eq T.ow_Level.fn T.b_Level_eq) (pv 8) (pe_makeS T.mk_Level (ok_Level_init T) (hr.mono (by decide)) (by rfl) T.c_Level T.b_Level_init .nil takes0 (pa_cons (pe_call (ok__law_level_text T) (hr.mono (by decide)) (by rfl) T.m__law_level_text T.F__law_level_text.kp T.b__law_level_text .nil pass0 (pa_cons (pv 4) pa_nil)) (pa_cons (pe_ifExp (pt_cmpR op_gt (pv 3) pe_int (nomark _)) (pv 3) pe_non) pa_nil))) (nomark _))))))
  (pss_one (ps_ret pe_bl))
  pss_nil)
  (pss_cons (ps_if (pt_not (pt_val (pe_call (ok__law_equal_right T) hr (by rfl) T.m__law_equal_right T.F__law_equal_right.kp T.b__law_equal_right .nil pass0 (pa_cons (pv 8) (pa_cons (pv 4) (pa_cons (pv 3) pa_nil))))))
  (pss_one (ps_ret pe_bl))
  pss_nil)
  (pss_cons (ps_set (i := 5) sc_law.nd rfl (.inl rfl) (pe_lst (pa_cons pe_int (pa_cons pe_int (pa_cons (pe_op op_add pe_int (pe_call (ok__law_draw T) (hr.mono (by decide)) (by rfl) T.m__law_draw T.F__law_draw.kp T.b__law_draw .nil pass0 (pa_cons (pv 1) (pa_cons pe_int pa_nil)))) (pa_cons (pe_op op_add (pe_op op_pow pe_int pe_int) (pe_call (ok__law_draw T) (hr.mono (by decide)) (by rfl) T.m__law_draw T.F__law_draw.kp T.b__law_draw .nil pass0 (pa_cons (pv 1) (pa_cons (pe_op op_pow pe_int pe_int) pa_nil)))) pa_nil))))))
  (C8.pss_cut (ps_if (pt_cmpR op_eq (pe_ix ix_tup (pv 4) pe_int (fun _ _ => rfl)) pe_str (nomark _))
  (pss_one (ps_set (i := 5) sc_law.nd rfl (.inl rfl) (pe_lst (pa_cons (pv 3) pa_nil))))
  pss_nil)
  (C8.pss_cut (ps_if (PW.pt (pw_and (pt_cmpR op_eq (pv 2) pe_int (nomark _)) (pw_and1 (pt_cmpR op_ne (pe_ix ix_tup (pv 4) pe_int (fun _ _ => rfl)) pe_str (nomark _)))))
  (pss_one (ps_expr (pe_bm PySem.F.plainAttrs_list PySem.F.slot_list_append PySem.F.type_list_append mt_append (pv 5) (pa_cons pe_int pa_nil))))
  pss_nil)
  (pss_cons (ps_for PassesOwn.never rfl (pi_list (pv 5)) (pg_name (i := 6) sc_law.nd rfl (.inl rfl))
  (pss_one (ps_if (pt_not (pt_val (pe_call (ok__law_at_right (P := P) (base := base) T B) (hr.mono (by decide)) (by rfl) T.m__law_at_right T.F__law_at_right.kp T.b__law_at_right .nil pass0 (pa_cons (pv 1) (pa_cons (pv 8) (pa_cons (pv 4) (pa_cons (pv 6) pa_nil)))))))
  (pss_one (ps_ret pe_bl))
  pss_nil)))
  (C8.pss_cut (ps_set (i := 9) sc_law.nd rfl (.inr rfl) (pe_call (ok__law_pick T) (hr.mono (by decide)) (by rfl) T.m__law_pick T.F__law_pick.kp T.b__law_pick .nil pass0 (pa_cons (pv 1) (pa_cons (pe_op op_cat (pe_lst (pa_cons pe_int (pa_cons pe_int (pa_cons (pe_un un_neg pe_int) (pa_cons pe_bl (pa_cons pe_non (pa_cons pe_str pa_nil))))))) (pe_op op_rep (pe_lst (pa_cons (pe_op op_add (pv 3) pe_int) (pa_cons (pe_op op_sub (pv 3) pe_int) pa_nil))) (pe_callTy call_int1 (by rfl) T.z_int (by decide +kernel) (pa_cons (pe_cmpR op_eq (pe_ix ix_tup (pv 4) pe_int (fun _ _ => rfl)) pe_str (nomark _)) pa_nil)))) pa_nil))))
  (pss_cons (ps_set (i := 7) sc_law.nd rfl (.inl rfl) (pe_lst (pa_cons (pe_lam (k := 3) (T := tabsOf a) B.tb_law rfl (.tail _ (.head _)) B.hu_law rfl ⟨LamX.lamS_by (sc := defScope s_law) (by decide +kernel), fun _ _ _ _ _ => rfl, fun A outer s H E f c hr => (pe_methS (pv 8) T.cl_Level T.me_Level_many_steps (ok_Level_many_steps T) hr T.b_Level_many_steps (takes_of rfl rfl rfl rfl) (pa_cons (pv 9) pa_nil))⟩) pa_nil)))
  (pss_cons (ps_expr (pe_bm PySem.F.plainAttrs_list PySem.F.slot_list_append PySem.F.type_list_append mt_append (pv 7) (pa_cons (pe_lam (k := 4) (T := tabsOf a) B.tb_law rfl (.tail _ (.head _)) B.hu_law rfl ⟨LamX.lamS_by (sc := defScope s_law) (by decide +kernel), fun _ _ _ _ _ => rfl, fun A outer s H E f c hr => (pe_methS (pv 8) T.cl_Level T.me_Level_partner (ok_Level_partner T) hr T.b_Level_partner (takes_of rfl rfl rfl rfl) (pa_cons (pv 9) (pa_cons (pe_un un_neg pe_int) pa_nil)))⟩) pa_nil)))
  (pss_cons (ps_expr (pe_bm PySem.F.plainAttrs_list PySem.F.slot_list_append PySem.F.type_list_append mt_append (pv 7) (pa_cons (pe_lam (k := 5) (T := tabsOf a) B.tb_law rfl (.tail _ (.head _)) B.hu_law rfl ⟨LamX.lamS_by (sc := defScope s_law) (by decide +kernel), fun _ _ _ _ _ => rfl, fun A outer s H E f c hr => (pe_methS (pv 8) T.cl_Level T.me_Level_step (ok_Level_step T) hr T.b_Level_step (takes_of rfl rfl rfl rfl) (pa_cons (pv 9) (pa_cons pe_non pa_nil)))⟩) pa_nil)))
  (pss_cons (ps_if (pt_cmpR (op_neD hr.units) (pe_lcG (own := [("call", 10)]) (g := gName 10) rfl sc_law.nd (pi_list (pv 7)) (blkOk_by (own := [("call", 10)]) (N := ["script", "pen", "lap", "own", "level", "sizes", "size", "calls", "made", "odd", "call"]) (sc := defScope s_law) (by decide +kernel)) (fun _ _ _ _ _ => pg_name (i := 10) sc_law.nd rfl (Or.inl rfl)) (fun pins σ z G C cl fp I0 f0 => (pe_callBk I0 f0 (ok__law_met (P := P) (base := base) T) (hr.mono (by decide)) (by rfl) T.m__law_met T.F__law_met.kp T.b__law_met (pa_cons (pv 10) pa_nil)))) (pe_op op_rep (pe_lst (pa_cons (pe_tup (pa_cons pe_str (pa_cons (pv 9) (pa_cons pe_bl pa_nil)))) pa_nil)) pe_int) (nomark _))
  (pss_one (ps_ret pe_bl))
  pss_nil)
  (pss_one (ps_if (PW.pt (pw_and (pt_cmpR op_ne (pe_ix ix_tup (pv 4) pe_int (fun _ _ => rfl)) pe_str (nomark _)) (pw_and1 (pt_cmpR (op_neD hr.units) (pe_callH (ok__law_met (P := P) (base := base) T) (hr.mono (by decide)) (by rfl) T.m__law_met T.F__law_met.kp T.b__law_met (pa_cons (pe_lam (k := 5) (T := tabsOf a) B.tb_law rfl (.tail _ (.head _)) B.hu_law rfl ⟨LamX.lamS_by (sc := defScope s_law) (by decide +kernel), fun _ _ _ _ _ => rfl, fun A outer s H E f c hr => (pe_methS (pv 8) T.cl_Level T.me_Level_step (ok_Level_step T) hr T.b_Level_step (takes_of rfl rfl rfl rfl) (pa_cons pe_int (pa_cons (pe_un un_neg pe_int) pa_nil)))⟩) pa_nil)) (pe_tup (pa_cons pe_str (pa_cons pe_int (pa_cons pe_bl pa_nil)))) (nomark _)))))
  (pss_one (ps_ret pe_bl))
  pss_nil)))))))))))))))))
  (pss_one (ps_ret pe_bl)))), ?_⟩
    refine ⟨.ref x, rfl, x, ns, rfl, hS, hlen, fun d c H1 hdn hcn hp s1 => ?_⟩
    have hT1 := hTb.ext s1
    refine ⟨6, rfl, by decide, by decide, ?_⟩
    refine for_range (lo := 0) (n := 6) (fun i σ H2 => (∃ y2 y3 y4 y5 y6 y7 y8 y9 y10 : Option V, σ = [some (.ref x), some (.ref d), y2, y3, y4, y5, y6, y7, y8, y9, y10]) ∧ PT2 (tabsOf a) H2 d c (i * 1000)) ?_ ?_ ?_
    · exact ⟨⟨none, none, none, none, none, none, none, none, none, rfl⟩, hp, hT1⟩
    · rintro i σ H2 hi ⟨⟨y2, y3, y4, y5, y6, y7, y8, y9, y10, rfl⟩, hp2⟩
      -- own = 2 + _law_draw(pen, 11) if _law_draw(pen, 2) == 0 else 0
      refine ⟨fun σ' H' => ∃ size, σ' = [some (.ref x), some (.ref d), some (.int (0 + (i : Int))), some (.int (szI size)), y4, y5, y6, y7, y8, y9, y10] ∧ SizeOk size ∧ PT2 (tabsOf a) H' d c (i * 1000 + 10), ?_, ?_⟩
      · refine ⟨_, rfl, d, c, i * 1000, 2, rfl, hp2.pen, by omega, by decide, by decide, fun v H3 v0 v1 hp3 b3 => ?_⟩
        obtain ⟨pt3, _⟩ := hp2.but hp3 b3
        refine ⟨rfl, _, rfl, ite2 (fun _ => ?_) (fun _ => ⟨none, rfl, trivial, pt3.up (by omega)⟩)⟩
        refine ⟨_, rfl, d, c, i * 1000 + 1, 11, rfl, pt3.pen, by omega, by decide, by decide, fun v2 H4 w0 w1 hp4 b4 => ⟨2, v2, rfl, rfl, ?_⟩⟩
        obtain ⟨pt4, _⟩ := pt3.but hp4 b4
        have e : V.int (2 + v2) = V.int (szI (some (2 + v2).toNat)) := by
          show _ = V.int (((2 + v2).toNat : Nat) : Int)
          rw [Int.toNat_of_nonneg (by omega)]
        exact ⟨some (2 + v2).toNat, congrArg (fun z => [some (V.ref x), some (V.ref d), some (V.int (0 + (i : Int))), some z, y4, y5, y6, y7, y8, y9, y10]) e, ⟨by omega, by omega⟩, pt4.up (by omega)⟩
      rintro σ' H3 ⟨size, rfl, hsz, hp3⟩
      -- level = _law_level(pen, own)
      refine ⟨_, rfl, _, rfl, d, c, i * 1000 + 10, size, rfl, hp3.pen, by omega, hsz, fun o lv e H4 no hT hok hp4 b4 => ?_⟩
      obtain ⟨pt4, _⟩ := hp3.but hp4 b4
      clear hp4 b4 hp3 no
      -- made = Level(_law_level_text(level), own) if own > 0 else Level(_law_level_text(level))
      refine ⟨fun σ' H' => ∃ p, σ' = [some (.ref x), some (.ref d), some (.int (0 + (i : Int))), some (.int (szI size)), some (.ref o), y5, y6, y7, some (.ref p), y9, y10] ∧ LevelL a.C_Level a.C_Word H' p lv e ∧ Same H4 H', ?_, ?_⟩
      · refine ⟨_, rfl, _, _, rfl, rfl, _, rfl, ?_⟩
        cases size with
        | none => exact iteF ⟨_, rfl, o, none, lv, e, rfl, hT, hsz, hok, fun H5 s5 p dx hx hdx ne => lv_make hx hdx ne hsz hok rfl rfl fun H6 hx6 s6 => ⟨rfl, p, rfl, hx6, s5.trans s6⟩⟩
        | some s0 =>
          rw [decide_eq_true (show (0 : Int) < szI (some s0) from by have := hsz.1; show (0 : Int) < (s0 : Int); omega)]
          exact iteT ⟨_, rfl, o, some s0, lv, e, rfl, hT, hsz, hok, fun H5 s5 => ⟨_, rfl, fun p dx hx hdx ne => lv_make hx hdx ne hsz hok rfl rfl fun H6 hx6 s6 => ⟨rfl, p, rfl, hx6, s5.trans s6⟩⟩⟩
      rintro σ' H5 ⟨p, rfl, hL, s5⟩
      have pt5 := pt4.same s5
      have hT5 := hT.same s5
      clear pt4 hT s5
      -- if not _law_parts_right(made, level) or not made == Level(..)
      refine ⟨fun σ' H' => σ' = [some (.ref x), some (.ref d), some (.int (0 + (i : Int))), some (.int (szI size)), some (.ref o), y5, y6, y7, some (.ref p), y9, y10] ∧ Same H5 H', ?_, ?_⟩
      · refine ⟨_, rfl, _, rfl, p, o, lv, e, size, rfl, hL, hT5, hsz, hok, fun H6 s6 => ⟨_, rfl, iteF ⟨_, rfl, _, rfl, o, size, lv, e, rfl, hT5.same s6, hsz, hok, fun H7 s7 => ⟨_, rfl, _, _, rfl, rfl, _, rfl, ?_⟩⟩⟩⟩
        cases size with
        | none =>
          refine iteF (fun q dx hx hdx ne => lv_make hx hdx ne hsz hok rfl rfl fun H8 hx8 s8 => ⟨rfl, ?_⟩)
          have g8 := (s6.trans s7).trans s8
          refine eq_lv (hL.same g8) hx8 ⟨_, rfl, ?_⟩
          rw [decide_eq_true rfl]
          exact iteF ⟨rfl, g8⟩
        | some s0 =>
          rw [decide_eq_true (show (0 : Int) < szI (some s0) from by have := hsz.1; show (0 : Int) < (s0 : Int); omega)]
          refine iteT ⟨_, rfl, fun q dx hx hdx ne => lv_make hx hdx ne hsz hok rfl rfl fun H8 hx8 s8 => ⟨rfl, ?_⟩⟩
          have g8 := (s6.trans s7).trans s8
          refine eq_lv (hL.same g8) hx8 ⟨_, rfl, ?_⟩
          rw [decide_eq_true rfl]
          exact iteF ⟨rfl, g8⟩
      rintro σ' H6 ⟨rfl, s6⟩
      have pt6 := pt5.same s6
      have hT6 := hT5.same s6
      have hL6 := hL.same s6
      clear pt5 hT5 hL s6
      -- if not _law_equal_right(made, level, own)
      refine ⟨_, rfl, _, rfl, _, rfl, p, o, lv, e, size, rfl, hL6, hT6, hsz, hok, fun H7 s7 => ⟨_, rfl, iteF ?_⟩⟩
      have pt7 := pt6.same s7
      have hT7 := hT6.same s7
      have hL7 := hL6.same s7
      clear pt6 hT6 hL6 s7
      -- sizes = [2, 3, 4 + _law_draw(pen, 37), 10 ** 30 + _law_draw(pen, 10 ** 6)]
      refine ⟨_, rfl, d, c, _, 37, rfl, pt7.pen, by omega, by decide, by decide, fun v8 H8 a0 a1 hp8 b8 => ⟨4, v8, rfl, rfl, ?_⟩⟩
      obtain ⟨pt8, _⟩ := pt7.but hp8 b8
      have k8 := k3_but pt7.pen b8
      refine ⟨10, 30, rfl, rfl, ⟨by decide, by decide, by decide⟩, _, rfl, 10, 6, rfl, rfl, ⟨by decide, by decide, by decide⟩, d, c, _, _, rfl, pt8.pen, by omega, by decide +kernel, by decide +kernel, fun v9 H9 b0 b1 hp9 b9 => ⟨_, _, rfl, rfl, sz (show 4 ≤ 100000 by decide), fun po npo => ?_⟩⟩
      obtain ⟨pt9, _⟩ := pt8.but hp9 b9
      have k9 := k8.trans (k3_but pt8.pen b9)
      have e30 : (10 : Int) ^ (30 : Int).toNat = 10 ^ 30 := by decide +kernel
      have e6 : (10 : Int) ^ (6 : Int).toNat = 10 ^ 6 := by decide +kernel
      rw [e6] at b1
      rw [e30]
      clear e30 e6 k8 hp8 b8 hp9 b9 pt8
      have ss : ∀ y ∈ [V.int 2, .int 3, .int (4 + v8), .int (10 ^ 30 + v9)], ∃ k : Nat, y = .int (k : Int) ∧ 2 ≤ k ∧ k ≤ 10 ^ 30 + 10 ^ 7 := fun y hy => by
        simp only [List.mem_cons, List.not_mem_nil, or_false] at hy
        rcases hy with rfl | rfl | rfl | rfl
        · exact ⟨2, rfl, by decide, by decide⟩
        · exact ⟨3, rfl, by decide, by decide⟩
        · exact ⟨(4 + v8).toNat, by rw [Int.toNat_of_nonneg (by omega)], by omega, by omega⟩
        · exact ⟨((10 : Int) ^ 30 + v9).toNat, by rw [Int.toNat_of_nonneg (by omega)], by omega, by omega⟩
      have u9 := same_upd (o := .lst [.int 2, .int 3, .int (4 + v8), .int (10 ^ 30 + v9)]) npo
      have epo : (upd H9 po (.lst [.int 2, .int 3, .int (4 + v8), .int (10 ^ 30 + v9)])) po = some (.lst [.int 2, .int 3, .int (4 + v8), .int (10 ^ 30 + v9)]) := upd_same
      have pt10 := pt9.same u9
      have k10 := k9.trans (k3_same u9)
      generalize upd H9 po (.lst [.int 2, .int 3, .int (4 + v8), .int (10 ^ 30 + v9)]) = H10 at epo pt10 k10 u9 ⊢
      generalize hxs : [V.int 2, .int 3, .int (4 + v8), .int (10 ^ 30 + v9)] = xs at ss epo
      have xl : xs.length = 4 := by rw [← hxs]; rfl
      have hL9 := hL7.k3 k9
      have hT9 := hT7.k3 k9
      have hL10 := hL7.k3 k10
      have hT10 := hT7.k3 k10
      clear hxs k9 b0 b1 a0 a1 hL7 hT7 k10 pt7
      -- if level[0] == 'list': sizes = [own]
      refine ⟨fun σ' H' => ∃ po xs Hb, σ' = [some (.ref x), some (.ref d), some (.int (0 + (i : Int))), some (.int (szI size)), some (.ref o), some (.ref po), y6, y7, some (.ref p), y9, y10] ∧ H' po = some (.lst xs) ∧ xs.length ≤ 4 ∧ (∀ y ∈ xs, ∃ k m : Nat, y = .int (k : Int) ∧ 2 ≤ k ∧ k ≤ 10 ^ 30 + 10 ^ 7 ∧ lvMany lv e k = some m) ∧ Same Hb H' ∧ Hb po = none ∧ LevelL a.C_Level a.C_Word Hb p lv e ∧ LvT Hb o e lv ∧ PT2 (tabsOf a) Hb d c (i * 1000 + 10 + 200 + 1 + 1), ?_, ?_⟩
      · obtain ⟨v1, v2, hT0⟩ := hT10.tup
        refine ⟨_, rfl, o, _, 0, _, rfl, rfl, SqT.at hT0, rfl, rfl, _, rfl, ?_⟩
        cases hlv : lv.notList with
        | false =>
          obtain ⟨s0, m, rfl, hm, _⟩ := lvMany_own hlv hok
          rw [kdN_list hlv]
          refine iteT ⟨_, rfl, sz (show 1 ≤ 100000 by decide), fun ro nro => ?_⟩
          refine ⟨ro, [.int (s0 : Int)], H10, rfl, upd_same, (show 1 ≤ 4 by decide), fun y hy => ?_, same_upd nro, nro, hL10, hT10, pt10⟩
          rw [List.mem_singleton.mp hy]
          have := hsz
          exact ⟨s0, m, rfl, this.1, Nat.le_trans this.2 (by decide), hm⟩
        | true =>
          rw [kdN_no hlv]
          refine iteF ⟨po, xs, H9, rfl, epo, Nat.le_of_eq xl, fun y hy => ?_, u9, npo, hL9, hT9, pt9⟩
          obtain ⟨k, rfl, h1, h2⟩ := ss y hy
          obtain ⟨m, hm⟩ := lvMany_pos (e := e) (k := k) hlv
          exact ⟨k, m, rfl, h1, h2, hm⟩
      rintro σ' H11 ⟨qo, zs, Hb, rfl, eqo, zl, hzs, s11, nqo, hLb, hTb', ptb⟩
      clear ss xl epo u9 hL9 hT9 npo pt9 hL10 hT10 pt10
      have hT11 := hTb'.same s11
      -- if lap == 0 and level[0] != 'list': sizes.append(1000)
      refine ⟨fun σ' H' => ∃ zs, σ' = [some (.ref x), some (.ref d), some (.int (0 + (i : Int))), some (.int (szI size)), some (.ref o), some (.ref qo), y6, y7, some (.ref p), y9, y10] ∧ H' qo = some (.lst zs) ∧ zs.length ≤ 5 ∧ (∀ y ∈ zs, ∃ k m : Nat, y = .int (k : Int) ∧ 2 ≤ k ∧ k ≤ 10 ^ 30 + 10 ^ 7 ∧ lvMany lv e k = some m) ∧ PT2 (tabsOf a) H' d c (i * 1000 + 300) ∧ LevelL a.C_Level a.C_Word H' p lv e ∧ LvT H' o e lv, ?_, ?_⟩
      · obtain ⟨v1, v2, hT0⟩ := hT11.tup
        refine ⟨_, rfl, rfl, _, rfl, ite2 (fun _ => ?_) (fun _ => ?_)⟩
        · refine ⟨_, rfl, o, _, 0, _, rfl, rfl, SqT.at hT0, rfl, rfl, _, rfl, ?_⟩
          cases hlv : lv.notList with
          | false =>
            rw [kdN_list hlv]
            exact iteF ⟨zs, rfl, eqo, by omega, hzs, (ptb.same s11).up (by omega), hLb.same s11, hT11⟩
          | true =>
            rw [kdN_no hlv]
            have s12 := keep_upd (o := .lst (zs ++ [.int 1000])) s11 nqo
            refine iteT ⟨_, rfl, .inl ⟨rfl, _, SqL.at eqo⟩, qo, zs, .int 1000, rfl, rfl, eqo, szlt (by omega), zs ++ [.int 1000], rfl, upd_same, ?_, fun y hy => ?_, (ptb.same s12).up (by omega), hLb.same s12, hTb'.same s12⟩
            · rw [List.length_append]
              show zs.length + 1 ≤ 5
              omega
            · rcases List.mem_append.mp hy with hy | hy
              · exact hzs y hy
              · rw [List.mem_singleton.mp hy]
                obtain ⟨m, hm⟩ := lvMany_pos (e := e) (k := 1000) hlv
                exact ⟨1000, m, rfl, by decide, by decide, hm⟩
        · exact iteF ⟨zs, rfl, eqo, by omega, hzs, (ptb.same s11).up (by omega), hLb.same s11, hT11⟩
      rintro σ' H12 ⟨zs, rfl, eqo, zl, hzs, pt12, hL12, hT12⟩
      clear hT11 s11 nqo hLb hTb' ptb
      -- for size in sizes
      refine ⟨_, rfl, qo, rfl, ⟨_, SqL.at eqo⟩, ?_⟩
      refine for_it (walk_list (xs := zs)) (fun j σ H' => ∃ y6, σ = [some (.ref x), some (.ref d), some (.int (0 + (i : Int))), some (.int (szI size)), some (.ref o), some (.ref qo), y6, y7, some (.ref p), y9, y10] ∧ PT2 (tabsOf a) H' d c (i * 1000 + 300 + 2 * j) ∧ K3 H12 H') ?g0 ?gG ?gs ?gd
      case g0 => exact ⟨y6, rfl, pt12, K3.refl⟩
      case gG =>
        rintro j σ H' _ ⟨y6, _, _, k⟩
        exact SqL.at (k.lst eqo)
      case gs =>
        rintro j y σ H5 H6 hj ⟨y6, rfl, pt, k⟩ ⟨rfl, ex⟩
        obtain ⟨sz0, m, rfl, h1, h2, hm⟩ := hzs y (List.mem_of_getElem? ex)
        refine ⟨_, rfl, _, rfl, _, rfl, _, rfl, d, c, p, o, _, sz0, m, lv, e, size, rfl, pt, by omega, hL12.k3 k, hT12.k3 k, hok, h1, h2, hm, fun H7 pt7 k7 => ⟨_, rfl, iteF ?_⟩⟩
        exact ⟨_, rfl, pt7.up (by omega), k.trans k7⟩
      rintro σ H13 ⟨y6, rfl, pt13, k13⟩
      have hL13 := hL12.k3 k13
      have hT13 := hT12.k3 k13
      clear hL12 hT12 pt12 k13 eqo hzs
      have pt13 := pt13.up (show i * 1000 + 300 + 2 * zs.length ≤ i * 1000 + 400 by omega)
      -- odd = _law_pick(pen, ..)
      obtain ⟨v1, v2, hT0⟩ := hT13.tup
      refine ⟨fun σ' H' => ∃ y, σ' = [some (.ref x), some (.ref d), some (.int (0 + (i : Int))), some (.int (szI size)), some (.ref o), some (.ref qo), y6, y7, some (.ref p), some y, y10] ∧ OddS lv e y ∧ PT2 (tabsOf a) H' d c (i * 1000 + 401) ∧ LevelL a.C_Level a.C_Word H' p lv e ∧ LvT H' o e lv, ?_, ?_⟩
      · refine ⟨_, rfl, 3, rfl, sz (show 6 ≤ 100000 by decide), fun la nla => ?_⟩
        have u1 := same_upd (o := .lst oddA) nla
        have ea : (upd H13 la (.lst oddA)) la = some (.lst oddA) := upd_same
        change tOp rRep _ _ _ (upd H13 la (.lst oddA)) _
        generalize upd H13 la (.lst oddA) = H14 at u1 ea ⊢
        refine ⟨_, rfl, _, 1, rfl, rfl, _, rfl, _, 1, rfl, rfl, sz (show 2 ≤ 100000 by decide), fun lb nlb => ?_⟩
        have u2 := same_upd (o := .lst [.int (szI size + 1), .int (szI size - 1)]) nlb
        have eb : (upd H14 lb (.lst [.int (szI size + 1), .int (szI size - 1)])) lb = some (.lst [.int (szI size + 1), .int (szI size - 1)]) := upd_same
        generalize upd H14 lb (.lst [.int (szI size + 1), .int (szI size - 1)]) = H15 at u2 eb ⊢
        have u12 := u1.trans u2
        refine ⟨_, rfl, o, _, 0, _, rfl, rfl, SqT.at (u12 _ _ hT0), rfl, rfl, .inr ⟨_, rfl, ?_⟩⟩
        obtain ⟨n, hn, n0, n1, hr1, hr2⟩ : ∃ n : Int, (if decide (V.str lv.kind = V.str "list") = true then 1 else 0) = n ∧ 0 ≤ n ∧ n ≤ 1 ∧ (∀ y ∈ (List.replicate n.toNat [V.int (szI size + 1), V.int (szI size - 1)]).flatten, OddS lv e y) ∧ (List.replicate n.toNat [V.int (szI size + 1), V.int (szI size - 1)]).flatten.length ≤ 2 := by
          cases hlv : lv.notList with
          | false =>
            rw [kdN_list hlv]
            exact ⟨1, rfl, by decide, by decide, fun y hy => oddS_own hlv hsz hok hy, (show 2 ≤ 2 by decide)⟩
          | true =>
            rw [kdN_no hlv]
            exact ⟨0, rfl, by decide, by decide, fun y hy => absurd hy List.not_mem_nil, (show 0 ≤ 2 by decide)⟩
        rw [hn]
        refine ⟨lb, n, _, rfl, rfl, eb, by omega, by omega, ?_, fun rb nrb => ?_⟩
        · exact sz (show 2 * n.toNat ≤ 100000 by omega)
        have u3 := same_upd (o := .lst (List.replicate n.toNat [V.int (szI size + 1), V.int (szI size - 1)]).flatten) nrb
        have erb : (upd H15 rb (.lst (List.replicate n.toNat [V.int (szI size + 1), V.int (szI size - 1)]).flatten)) rb = some (.lst (List.replicate n.toNat [V.int (szI size + 1), V.int (szI size - 1)]).flatten) := upd_same
        generalize (List.replicate n.toNat [V.int (szI size + 1), V.int (szI size - 1)]).flatten = rs at hr1 hr2 u3 erb ⊢
        generalize upd H15 rb (.lst rs) = H16 at u3 erb ⊢
        refine ⟨la, rb, oddA, rs, rfl, rfl, u3 _ _ (u2 _ _ ea), erb, sz (show 6 + rs.length ≤ 100000 by omega), fun rc nrc => ?_⟩
        have u4 := same_upd (o := .lst (oddA ++ rs)) nrc
        have pt17 := pt13.same ((u12.trans u3).trans u4)
        refine ⟨d, c, rc, _, oddA ++ rs, rfl, pt17.pen, by omega, SqL.at upd_same, (by rw [List.length_append]; show 0 < 6 + rs.length; omega), (by rw [List.length_append]; show 6 + rs.length ≤ 100000; omega), fun y H18 hy hp18 b18 => ?_⟩
        have k18 := (k3_same ((u12.trans u3).trans u4)).trans (k3_but pt17.pen b18)
        refine ⟨y, rfl, (List.mem_append.mp hy).elim oddS_a (hr1 y), ((pt17.but hp18 b18).1).up (by omega), hL13.k3 k18, hT13.k3 k18⟩
      rintro σ' H16 ⟨y, rfl, ⟨⟨ib, hI⟩, hod, D, hD, hD0, hDd⟩, pt16, hL16, hT16⟩
      clear hL13 hT13 pt13 hT0
      -- calls = [lambda: made.many_steps(odd)]
      refine ⟨pt16.tabs, fun f1 H17 e17 r17 T17 n17 l17 => ⟨sz (show 1 ≤ 100000 by decide), fun ca nca => ?_⟩⟩
      have pt17 : PT2 (tabsOf a) H17 d c (i * 1000 + 401) := ⟨pt16.pen.ext e17, T17⟩
      have hL17 := hL16.k3 (k3_ext e17)
      have hT17 := hT16.k3 (k3_ext e17)
      have x18 := LamX.ExtN.of (same_upd (o := .lst [.ref f1]) nca)
      have T18 := T17.ext (same_upd (o := .lst [.ref f1]) nca)
      have f18 := fk_same (same_upd (o := .lst [.ref f1]) nca)
      have c18 : (upd H17 ca (.lst [.ref f1])) ca = some (.lst [.ref f1]) := upd_same
      change gName 7 (V.ref ca) _ (upd H17 ca (.lst [.ref f1])) _
      generalize upd H17 ca (.lst [.ref f1]) = H18 at x18 T18 f18 c18 ⊢
      clear pt16 hL16 hT16 e17 r17 T17 n17
      -- calls.append(lambda: made.partner(odd, -1))
      refine ⟨_, rfl, .inl ⟨rfl, _, SqL.at c18⟩, T18, fun f2 H19 e19 r19 T19 n19 l19 => ⟨ca, [.ref f1], .ref f2, rfl, rfl, e19 _ _ c18 (fun ps z => by cases z), szlt (show 1 ≤ 100000 by decide), ?_⟩⟩
      have c19 := e19 _ _ c18 (fun ps z => by cases z)
      have x20 := extn_upd (o := .lst ([.ref f1] ++ [.ref f2])) (x18.trans e19) nca
      have T20 := tabs_lst (ys := [.ref f1] ++ [.ref f2]) T19 c19
      have f20 := (f18.trans (fk_ext e19)).trans (fk_lst (ys := [.ref f1] ++ [.ref f2]) c19)
      have f20' := fk_lst (ys := [.ref f1] ++ [.ref f2]) c19
      have c20 : (upd H19 ca (.lst ([.ref f1] ++ [.ref f2]))) ca = some (.lst [.ref f1, .ref f2]) := upd_same
      generalize upd H19 ca (.lst ([.ref f1] ++ [.ref f2])) = H20 at x20 T20 f20 f20' c20 ⊢
      clear x18 T18 f18 c18 e19 r19 T19 n19 c19
      -- calls.append(lambda: made.step(odd, None))
      refine ⟨_, rfl, .inl ⟨rfl, _, SqL.at c20⟩, T20, fun f3 H21 e21 r21 T21 n21 l21 => ⟨ca, [.ref f1, .ref f2], .ref f3, rfl, rfl, e21 _ _ c20 (fun ps z => by cases z), szlt (show 2 ≤ 100000 by decide), ?_⟩⟩
      have c21 := e21 _ _ c20 (fun ps z => by cases z)
      have x22 := extn_upd (o := .lst ([.ref f1, .ref f2] ++ [.ref f3])) (x20.trans e21) nca
      have T22 := tabs_lst (ys := [.ref f1, .ref f2] ++ [.ref f3]) T21 c21
      have l1 := l17.keep ((f20.trans (fk_ext e21)).trans (fk_lst (ys := [.ref f1, .ref f2] ++ [.ref f3]) c21))
      have l2 := l19.keep ((f20'.trans (fk_ext e21)).trans (fk_lst (ys := [.ref f1, .ref f2] ++ [.ref f3]) c21))
      have l3 := l21.keep (fk_lst (ys := [.ref f1, .ref f2] ++ [.ref f3]) c21)
      have c22 : (upd H21 ca (.lst ([.ref f1, .ref f2] ++ [.ref f3]))) ca = some (.lst [.ref f1, .ref f2, .ref f3]) := upd_same
      generalize upd H21 ca (.lst ([.ref f1, .ref f2] ++ [.ref f3])) = H22 at x22 T22 l1 l2 l3 c22 ⊢
      clear x20 T20 f20 f20' c20 e21 r21 T21 n21 c21 l17 l19 l21
      have pt22 : PT2 (tabsOf a) H22 d c (i * 1000 + 401) := ⟨pt17.pen.ext x22, T22⟩
      have hL22 := hL17.k3 (k3_ext x22)
      have hT22 := hT17.k3 (k3_ext x22)
      clear pt17 hL17 hT17 x22 T22
      -- [_law_met(call) for call in calls] != [('size', odd, True)] * 3
      refine ⟨_, rfl, ca, rfl, ⟨_, SqL.at c22⟩, fun D' hD' => ?_⟩
      have hLp := hL22
      obtain ⟨dx, fs, _, _, _, _, hp22, _, _, _, _, _, _, _, xo, _⟩ := hLp
      have no1 : fs.lookup ("many_steps" : Str) = none := xo _ (by decide +kernel)
      have no2 : fs.lookup ("partner" : Str) = none := xo _ (by decide +kernel)
      have no3 : fs.lookup ("step" : Str) = none := xo _ (by decide +kernel)
      clear xo
      have hbt : btM 2 1000 y = false ∨ ∃ k : Nat, y = .int (k : Int) ∧ 2 ≤ k ∧ k ≤ 1000 ∧ lvMany lv e k = none := by
        rcases hod with h | h
        · exact .inl (bt_of_fr h)
        · exact .inr h
      have hfr : frM 2 y = false ∨ ∃ k : Nat, y = .int (k : Int) ∧ 2 ≤ k ∧ lvMany lv e k = none := hod.imp id fun ⟨k, h1, h2, _, h4⟩ => ⟨k, h1, h2, h4⟩
      refine lc_it (walk_list (xs := [V.ref f1, .ref f2, .ref f3])) (fun j H' => Same H22 H' ∧ ∃ ps : List Addr, ps.length = j ∧ H' D' = some (.lst (ps.map V.ref)) ∧ ∀ p ∈ ps, H' p = some (.tup [.str "size", y, .bl true])) ?h0 ?hG ?hs ?hd
      case h0 => exact ⟨same_upd hD', [], rfl, upd_same, fun p hp => absurd hp List.not_mem_nil⟩
      case hG =>
        rintro j H' _ ⟨sm, _⟩
        exact sm.seq (SqL.at c22)
      case hs =>
        rintro j yy H3 H4 hj ⟨sm, ps, hpl, hpD, hps⟩ ⟨rfl, ex⟩
        have hj3 : j < 3 := hj
        have fin : ∀ (pa : Addr) (Hf : Hp), Same H4 Hf → Hf pa = some (.tup [.str "size", y, .bl true]) → ∃ acc, Hf D' = some (.lst acc) ∧ acc.length < sizeLine ∧ (Same H22 (upd Hf D' (.lst (acc ++ [.ref pa]))) ∧ ∃ ps : List Addr, ps.length = j + 1 ∧ (upd Hf D' (.lst (acc ++ [.ref pa]))) D' = some (.lst (ps.map V.ref)) ∧ ∀ p ∈ ps, (upd Hf D' (.lst (acc ++ [.ref pa]))) p = some (.tup [.str "size", y, .bl true])) := fun pa Hf sf epa => by
          refine ⟨_, sf _ _ hpD, szlt (by rw [List.length_map]; omega), keep_upd (sm.trans sf) hD', ps ++ [pa], by rw [List.length_append, hpl]; rfl, by rw [upd_same, List.map_append]; rfl, fun p hp => ?_⟩
          have e : Hf p = some (.tup [.str "size", y, .bl true]) := by
            rcases List.mem_append.mp hp with h | h
            · exact sf _ _ (hps p h)
            · rw [List.mem_singleton.mp h]
              exact epa
          have ne : p ≠ D' := fun z => by
            rw [z, sf _ _ hpD] at e
            cases e
          rw [upd_ne ne]
          exact e
        refine ⟨rfl, _, rfl, fun h hh => ?_⟩
        have mem := List.mem_of_getElem? ex
        simp only [List.mem_cons, List.not_mem_nil, or_false] at mem
        rcases mem with rfl | rfl | rfl
        · refine met_live hh (l1.keep (fk_same sm)) (by decide) fun H0 told err s0 r0 htold herr => ?_
          exact ⟨.ref p, rfl, p, dx, fs, rfl, s0 _ _ (sm _ _ hp22), no1, _, rfl, p, y, ib, lv, e, rfl, hI _, hL22.same (sm.trans s0), .inr ⟨hfr, fun H' d' s' ed => herr a.C_BadSize "size" "size" d' y H' List.mem_cons_self s' ed fin⟩⟩
        · refine met_live hh (l2.keep (fk_same sm)) (by decide) fun H0 told err s0 r0 htold herr => ?_
          exact ⟨.ref p, rfl, p, dx, fs, rfl, s0 _ _ (sm _ _ hp22), no2, _, rfl, 1, rfl, .inr ⟨p, y, .int (-1), ib, lv, e, rfl, hI _, hL22.same (sm.trans s0), hfr, fun H' d' s' ed => herr a.C_BadSize "size" "size" d' y H' List.mem_cons_self s' ed fin⟩⟩
        · refine met_live hh (l3.keep (fk_same sm)) (by decide) fun H0 told err s0 r0 htold herr => ?_
          exact ⟨.ref p, rfl, p, dx, fs, rfl, s0 _ _ (sm _ _ hp22), no3, _, rfl, .inr ⟨p, y, .non, ib, lv, e, rfl, hI _, hL22.same (sm.trans s0), hbt, fun H' d' s' ed => herr a.C_BadSize "size" "size" d' y H' List.mem_cons_self s' ed fin⟩⟩
      case hd =>
        rintro H23 ⟨s23, ps, hpl, epD, hps⟩
        have pt23 := pt22.same s23
        have hL23 := hL22.same s23
        have hT23 := hT22.same s23
        have hp23 := s23 _ _ hp22
        clear pt22 hL22 hT22 hp22 s23 c22 l1 l2 l3
        refine ⟨_, rfl, sz (show 3 ≤ 100000 by decide), fun q1 nq1 => ?_⟩
        have u1 := same_upd (o := .tup [.str "size", y, .bl true]) nq1
        have eq1 : (upd H23 q1 (.tup [.str "size", y, .bl true])) q1 = some (.tup [.str "size", y, .bl true]) := upd_same
        generalize upd H23 q1 (.tup [.str "size", y, .bl true]) = H24 at u1 eq1 ⊢
        refine ⟨sz (show 1 ≤ 100000 by decide), fun q2 nq2 => ⟨q2, 3, [.ref q1], rfl, rfl, upd_same, by decide, by decide, sz (show 1 * 3 ≤ 100000 by decide), fun q3 nq3 => ?_⟩⟩
        have u3 := (same_upd (o := .lst [.ref q1]) nq2).trans (same_upd (o := .lst (List.replicate (3 : Int).toNat [V.ref q1]).flatten) nq3)
        have eq3 : (upd (upd H24 q2 (.lst [.ref q1])) q3 (.lst (List.replicate (3 : Int).toNat [V.ref q1]).flatten)) q3 = some (.lst (List.replicate 3 (.ref q1))) := by rw [upd_same]; rfl
        generalize upd (upd H24 q2 (.lst [.ref q1])) q3 (.lst (List.replicate (3 : Int).toNat [V.ref q1]).flatten) = H25 at u3 eq3 ⊢
        have u25 := u1.trans u3
        have dT : ∀ {t : Addr}, H25 t = some (.tup [.str "size", y, .bl true]) → Dp K H25 (.ref t) (.tuple [.str "size", D, .bool true]) := fun h => .tup (SqT.at h) (.cons (.str _) (.cons (hD _ _) (.cons (.bl _) .nil)))
        have sT : SeqAt.shaped (.tuple [.str "size", D, .bool true]) = true := by
          unfold SeqAt.shaped
          simp [PyData.canLay0, PyData.canLayAll0, PyData.depth, PyData.depthAll, hD0, hDd, show PyData.strOk (Str.ofString "size") = true from by decide +kernel]
        have sR := (reps_ok (D := .tuple [.str "size", D, .bool true]) 3 (by simp [PyData.canLay0, PyData.canLayAll0, hD0, show PyData.strOk (Str.ofString "size") = true from by decide +kernel]) (by simp [PyData.depth, PyData.depthAll, hDd])).1
        have dA : Dp K H25 (.ref D') (.list (List.replicate 3 (.tuple [.str "size", D, .bool true]))) := by
          have z := dp_reps (K := K) (H := H25) (D := .tuple [.str "size", D, .bool true]) (vs := ps.map V.ref) fun v hv => by
            obtain ⟨p, hp, rfl⟩ := List.mem_map.mp hv
            exact dT (u25 _ _ (hps p hp))
          rw [List.length_map, hpl] at z
          exact .lst (SqL.at (u25 _ _ epD)) z
        have dB : Dp K H25 (.ref q3) (.list (List.replicate 3 (.tuple [.str "size", D, .bool true]))) := by
          have z := dp_reps (K := K) (H := H25) (D := .tuple [.str "size", D, .bool true]) (vs := List.replicate 3 (V.ref q1)) fun v hv => by
            rw [List.eq_of_mem_replicate hv]
            exact dT (u3 _ _ eq1)
          rw [List.length_replicate] at z
          exact .lst (SqL.at eq3) z
        refine neD_self dA dB sR ⟨_, rfl, iteF ?_⟩
        have pt25 := pt23.same u25
        have hL25 := hL23.same u25
        have hT25 := hT23.same u25
        have hp25 := u25 _ _ hp23
        clear dA dB sR sT dT u25 u3 u1 eq1 eq3 epD hps hpl pt23 hL23 hT23 hp23 hfr hbt hod hI hD hD0 hDd
        -- if level[0] != 'list' and _law_met(lambda: made.step(1001, -1)) != ('size', 1001, True)
        obtain ⟨w1, w2, hT0⟩ := hT25.tup
        refine ⟨_, rfl, o, _, 0, _, rfl, rfl, SqT.at hT0, rfl, rfl, _, rfl, ?_⟩
        cases hlv : lv.notList with
        | false =>
          rw [kdN_list hlv]
          exact iteF (iteF ⟨⟨_, _, _, _, _, _, _, _, _, rfl⟩, pt25.up (by omega)⟩)
        | true =>
          rw [kdN_no hlv]
          refine iteT ⟨pt25.tabs, fun f Ha e7 r7 T7 n7 l7 h7 hh7 => met_live hh7 l7 (by decide) fun H0 told err s0 r0 htold herr => ?_⟩
          have ka := k3_ext e7
          refine ⟨.ref p, rfl, p, dx, fs, rfl, s0 _ _ (ka.ins hp25), no3, 1, rfl, .inr ⟨p, .int 1001, .int (-1), true, lv, e, rfl, .int _, (hL25.k3 ka).same s0, .inl (by decide), fun H' d' s' ed => herr a.C_BadSize "size" "size" d' (.int 1001) H' List.mem_cons_self s' ed fun pa Hb sa epa => ?_⟩⟩
          clear htold herr
          refine ⟨sz (show 3 ≤ 100000 by decide), fun qa nqa => ?_⟩
          have ua := same_upd (o := .tup [.str "size", .int 1001, .bl true]) nqa
          refine neD_self (D := .tuple [.str "size", .int 1001, .bool true]) (.tup (SqT.at (ua _ _ epa)) (.cons (.str _) (.cons (.int _) (.cons (.bl _) .nil)))) (.tup (SqT.at upd_same) (.cons (.str _) (.cons (.int _) (.cons (.bl _) .nil)))) (by decide +kernel) ⟨_, rfl, iteF ?_⟩
          exact ⟨⟨_, _, _, _, _, _, _, _, _, rfl⟩, ((PT2.mk (pt25.pen.ext e7) T7).same (sa.trans ua)).up (by omega)⟩
    · rintro σ H2 ⟨⟨y2, y3, y4, y5, y6, y7, y8, y9, y10, rfl⟩, _⟩
      exact q _
end


theorem all_mk {l : PySem.W.OpenLaw} {w : World} {K : PySem.W.Frag} {h : Heap} {mg : Str → Option Value} {fa : Addr} (X : K.In h) (G : h.Ns mainGlobals mg) (hfa : mg "law" = some (.ref fa)) {ts : List Addr} (hts : ∀ P ∈ ts, h.get? P = some (PySem.W.tabObj #[]))
    {f0 : Addr} {od0 an0 : Option Addr} {sl0 : Array (Option Value)} {oc0 kV0 dc0 pm0 cd0 ct0 : Value}
    {f1 : Addr} {od1 an1 : Option Addr} {sl1 : Array (Option Value)} {oc1 kV1 dc1 pm1 cd1 ct1 : Value}
    {f2 : Addr} {od2 an2 : Option Addr} {sl2 : Array (Option Value)} {oc2 kV2 dc2 pm2 cd2 ct2 : Value}
    {f3 : Addr} {od3 an3 : Option Addr} {sl3 : Array (Option Value)} {oc3 kV3 dc3 pm3 cd3 ct3 : Value}
    {f4 : Addr} {od4 an4 : Option Addr} {sl4 : Array (Option Value)} {oc4 kV4 dc4 pm4 cd4 ct4 : Value}
    {f5 : Addr} {od5 an5 : Option Addr} {sl5 : Array (Option Value)} {oc5 kV5 dc5 pm5 cd5 ct5 : Value}
    {f6 : Addr} {od6 an6 : Option Addr} {sl6 : Array (Option Value)} {oc6 kV6 dc6 pm6 cd6 ct6 : Value}
    {f7 : Addr} {od7 an7 : Option Addr} {sl7 : Array (Option Value)} {oc7 kV7 dc7 pm7 cd7 ct7 : Value}
    {f8 : Addr} {od8 an8 : Option Addr} {sl8 : Array (Option Value)} {oc8 kV8 dc8 pm8 cd8 ct8 : Value}
    {f9 : Addr} {od9 an9 : Option Addr} {sl9 : Array (Option Value)} {oc9 kV9 dc9 pm9 cd9 ct9 : Value}
    {f10 : Addr} {od10 an10 : Option Addr} {sl10 : Array (Option Value)} {oc10 kV10 dc10 pm10 cd10 ct10 : Value}
    {f11 : Addr} {od11 an11 : Option Addr} {sl11 : Array (Option Value)} {oc11 kV11 dc11 pm11 cd11 ct11 : Value}
    {f12 : Addr} {od12 an12 : Option Addr} {sl12 : Array (Option Value)} {oc12 kV12 dc12 pm12 cd12 ct12 : Value}
    {f13 : Addr} {od13 an13 : Option Addr} {sl13 : Array (Option Value)} {oc13 kV13 dc13 pm13 cd13 ct13 : Value}
    {f14 : Addr} {od14 an14 : Option Addr} {sl14 : Array (Option Value)} {oc14 kV14 dc14 pm14 cd14 ct14 : Value}
    {f15 : Addr} {od15 an15 : Option Addr} {sl15 : Array (Option Value)} {oc15 kV15 dc15 pm15 cd15 ct15 : Value}
    {f16 : Addr} {od16 an16 : Option Addr} {sl16 : Array (Option Value)} {oc16 kV16 dc16 pm16 cd16 ct16 : Value}
    {f17 : Addr} {od17 an17 : Option Addr} {sl17 : Array (Option Value)} {oc17 kV17 dc17 pm17 cd17 ct17 : Value}
    {f18 : Addr} {od18 an18 : Option Addr} {sl18 : Array (Option Value)} {oc18 kV18 dc18 pm18 cd18 ct18 : Value}
    {f19 : Addr} {od19 an19 : Option Addr} {sl19 : Array (Option Value)} {oc19 kV19 dc19 pm19 cd19 ct19 : Value}
    {f20 : Addr} {od20 an20 : Option Addr} {sl20 : Array (Option Value)} {oc20 kV20 dc20 pm20 cd20 ct20 : Value}
    {f21 : Addr} {od21 an21 : Option Addr} {sl21 : Array (Option Value)} {oc21 kV21 dc21 pm21 cd21 ct21 : Value}
    {f22 : Addr} {od22 an22 : Option Addr} {sl22 : Array (Option Value)} {oc22 kV22 dc22 pm22 cd22 ct22 : Value}
    {f23 : Addr} {od23 an23 : Option Addr} {sl23 : Array (Option Value)} {oc23 kV23 dc23 pm23 cd23 ct23 : Value}
    {f24 : Addr} {od24 an24 : Option Addr} {sl24 : Array (Option Value)} {oc24 kV24 dc24 pm24 cd24 ct24 : Value}
    {f25 : Addr} {od25 an25 : Option Addr} {sl25 : Array (Option Value)} {oc25 kV25 dc25 pm25 cd25 ct25 : Value}
    {f26 : Addr} {od26 an26 : Option Addr} {sl26 : Array (Option Value)} {oc26 kV26 dc26 pm26 cd26 ct26 : Value}
    {f27 : Addr} {od27 an27 : Option Addr} {sl27 : Array (Option Value)} {oc27 kV27 dc27 pm27 cd27 ct27 : Value}
    {f28 : Addr} {od28 an28 : Option Addr} {sl28 : Array (Option Value)} {oc28 kV28 dc28 pm28 cd28 ct28 : Value}
    {f29 : Addr} {od29 an29 : Option Addr} {sl29 : Array (Option Value)} {oc29 kV29 dc29 pm29 cd29 ct29 : Value}
    {f30 : Addr} {od30 an30 : Option Addr} {sl30 : Array (Option Value)} {oc30 kV30 dc30 pm30 cd30 ct30 : Value}
    {f31 : Addr} {od31 an31 : Option Addr} {sl31 : Array (Option Value)} {oc31 kV31 dc31 pm31 cd31 ct31 : Value}
    {f32 : Addr} {od32 an32 : Option Addr} {sl32 : Array (Option Value)} {oc32 kV32 dc32 pm32 cd32 ct32 : Value}
    {f33 : Addr} {od33 an33 : Option Addr} {sl33 : Array (Option Value)} {oc33 kV33 dc33 pm33 cd33 ct33 : Value}
    {f34 : Addr} {od34 an34 : Option Addr} {sl34 : Array (Option Value)} {oc34 kV34 dc34 pm34 cd34 ct34 : Value}
    {f35 : Addr} {od35 an35 : Option Addr} {sl35 : Array (Option Value)} {oc35 kV35 dc35 pm35 cd35 ct35 : Value}
    {f36 : Addr} {od36 an36 : Option Addr} {sl36 : Array (Option Value)} {oc36 kV36 dc36 pm36 cd36 ct36 : Value}
    {f37 : Addr} {od37 an37 : Option Addr} {sl37 : Array (Option Value)} {oc37 kV37 dc37 pm37 cd37 ct37 : Value}
    {f38 : Addr} {od38 an38 : Option Addr} {sl38 : Array (Option Value)} {oc38 kV38 dc38 pm38 cd38 ct38 : Value}
    {f39 : Addr} {od39 an39 : Option Addr} {sl39 : Array (Option Value)} {oc39 kV39 dc39 pm39 cd39 ct39 : Value}
    {f40 : Addr} {od40 an40 : Option Addr} {sl40 : Array (Option Value)} {oc40 kV40 dc40 pm40 cd40 ct40 : Value}
    {f41 : Addr} {od41 an41 : Option Addr} {sl41 : Array (Option Value)} {oc41 kV41 dc41 pm41 cd41 ct41 : Value}
    {f42 : Addr} {od42 an42 : Option Addr} {sl42 : Array (Option Value)} {oc42 kV42 dc42 pm42 cd42 ct42 : Value}
    {f43 : Addr} {od43 an43 : Option Addr} {sl43 : Array (Option Value)} {oc43 kV43 dc43 pm43 cd43 ct43 : Value}
    {f44 : Addr} {od44 an44 : Option Addr} {sl44 : Array (Option Value)} {oc44 kV44 dc44 pm44 cd44 ct44 : Value}
    {f45 : Addr} {od45 an45 : Option Addr} {sl45 : Array (Option Value)} {oc45 kV45 dc45 pm45 cd45 ct45 : Value}
    {f46 : Addr} {od46 an46 : Option Addr} {sl46 : Array (Option Value)} {oc46 kV46 dc46 pm46 cd46 ct46 : Value}
    {f47 : Addr} {od47 an47 : Option Addr} {sl47 : Array (Option Value)} {oc47 kV47 dc47 pm47 cd47 ct47 : Value}
    {f48 cA48 : Addr} {od48 an48 : Option Addr} {sl48 : Array (Option Value)} {oc48 kV48 dc48 pm48 ct48 : Value}
    {f49 : Addr} {od49 an49 : Option Addr} {sl49 : Array (Option Value)} {oc49 kV49 dc49 pm49 cd49 ct49 : Value}
    {f50 cA50 : Addr} {od50 an50 : Option Addr} {sl50 : Array (Option Value)} {oc50 kV50 dc50 pm50 ct50 : Value}
    {C_EveryError : Addr}
    {C_BadWord : Addr}
    {C_BadSize : Addr}
    {C_BadCall : Addr}
    {C_Word : Addr}
    {C_Level : Addr}
    {dV25 : Addr} {dO25 : Obj}
    {en_BadWord eq_BadWord : Str} {eN_BadWord : Addr} {eb_BadWord em_BadWord : List Value} {es_BadWord : List Str} {eu_BadWord : List Value} {ea_BadWord : Bool} {eo_BadWord : Option Bool} {ed_BadWord : Option Addr} {e0_BadWord e1_BadWord e2_BadWord e3_BadWord e5_BadWord : Option Value}
    {en_BadSize eq_BadSize : Str} {eN_BadSize : Addr} {eb_BadSize em_BadSize : List Value} {es_BadSize : List Str} {eu_BadSize : List Value} {ea_BadSize : Bool} {eo_BadSize : Option Bool} {ed_BadSize : Option Addr} {e0_BadSize e1_BadSize e2_BadSize e3_BadSize e5_BadSize : Option Value}
    {en_BadCall eq_BadCall : Str} {eN_BadCall : Addr} {eb_BadCall em_BadCall : List Value} {es_BadCall : List Str} {eu_BadCall : List Value} {ea_BadCall : Bool} {eo_BadCall : Option Bool} {ed_BadCall : Option Addr} {e0_BadCall e1_BadCall e2_BadCall e3_BadCall e5_BadCall : Option Value}
    {t_MOST_PLACES : Tok}
    {t_MOST_MOVES : Tok}
    {a_FIGURES : Addr} {o_FIGURES : Obj}
    {a_PLACE_FRONTS : Addr} {o_PLACE_FRONTS : Obj}
    {a_AMOUNT_FRONTS : Addr} {o_AMOUNT_FRONTS : Obj}
    {a_SHAPES : Addr} {es_SHAPES : Array DictEntry} {n_SHAPES : Nat} {p_SHAPES_0 : Addr} {o_SHAPES_0 : Obj} {p_SHAPES_1 : Addr} {o_SHAPES_1 : Obj} {p_SHAPES_2 : Addr} {o_SHAPES_2 : Obj}
    {t_NO_PART : Tok}
    {t_LEAST_SINGLE : Tok}
    {t_MOST_SINGLE : Tok}
    {a_ENDING : Addr} {o_ENDING : Obj}
    (c_EveryError : PySem.W.nsIn K mainGlobals "EveryError" = some (some (.ref C_EveryError)))
    (c_BadWord : PySem.W.nsIn K mainGlobals "BadWord" = some (some (.ref C_BadWord)))
    (c_BadSize : PySem.W.nsIn K mainGlobals "BadSize" = some (some (.ref C_BadSize)))
    (c_BadCall : PySem.W.nsIn K mainGlobals "BadCall" = some (some (.ref C_BadCall)))
    (c_Word : PySem.W.nsIn K mainGlobals "Word" = some (some (.ref C_Word)))
    (c_Level : PySem.W.nsIn K mainGlobals "Level" = some (some (.ref C_Level)))
    (a0 : PySem.W.nsIn K mainGlobals "_wall" = some (some (.ref f0)))
    (l0 : K.lookup f0 = some ⟨oc0, od0, .func (PySem.W.fnOf "_wall" "_wall" (defArgs s__wall) (defBody s__wall) (defScope s__wall) .none kV0 dc0 pm0 an0 cd0 ct0), sl0⟩)
    (e0 : PySem.W.codeIn K cd0 "_wall" = true)
    (k0 : PySem.W.keepIn K (.ref f0) = true)
    (a1 : PySem.W.nsIn K mainGlobals "is_integer" = some (some (.ref f1)))
    (l1 : K.lookup f1 = some ⟨oc1, od1, .func (PySem.W.fnOf "is_integer" "is_integer" (defArgs s_is_integer) (defBody s_is_integer) (defScope s_is_integer) .none kV1 dc1 pm1 an1 cd1 ct1), sl1⟩)
    (e1 : PySem.W.codeIn K cd1 "is_integer" = true)
    (k1 : PySem.W.keepIn K (.ref f1) = true)
    (a2 : PySem.W.nsIn K mainGlobals "is_from" = some (some (.ref f2)))
    (l2 : K.lookup f2 = some ⟨oc2, od2, .func (PySem.W.fnOf "is_from" "is_from" (defArgs s_is_from) (defBody s_is_from) (defScope s_is_from) .none kV2 dc2 pm2 an2 cd2 ct2), sl2⟩)
    (e2 : PySem.W.codeIn K cd2 "is_from" = true)
    (k2 : PySem.W.keepIn K (.ref f2) = true)
    (a3 : PySem.W.nsIn K mainGlobals "is_between" = some (some (.ref f3)))
    (l3 : K.lookup f3 = some ⟨oc3, od3, .func (PySem.W.fnOf "is_between" "is_between" (defArgs s_is_between) (defBody s_is_between) (defScope s_is_between) .none kV3 dc3 pm3 an3 cd3 ct3), sl3⟩)
    (e3 : PySem.W.codeIn K cd3 "is_between" = true)
    (k3 : PySem.W.keepIn K (.ref f3) = true)
    (a4 : PySem.W.findIn K (.ref C_BadWord) "__init__" = some (some (.ref f4)))
    (l4 : K.lookup f4 = some ⟨oc4, od4, .func (PySem.W.fnOf "__init__" "BadWord.__init__" (defArgs s_BadWord_init) (defBody s_BadWord_init) (defScope s_BadWord_init) .none kV4 dc4 pm4 an4 cd4 ct4), sl4⟩)
    (e4 : PySem.W.codeIn K cd4 "BadWord.__init__" = true)
    (k4 : PySem.W.keepIn K (.ref f4) = true)
    (a5 : PySem.W.findIn K (.ref C_BadSize) "__init__" = some (some (.ref f5)))
    (l5 : K.lookup f5 = some ⟨oc5, od5, .func (PySem.W.fnOf "__init__" "BadSize.__init__" (defArgs s_BadSize_init) (defBody s_BadSize_init) (defScope s_BadSize_init) .none kV5 dc5 pm5 an5 cd5 ct5), sl5⟩)
    (e5 : PySem.W.codeIn K cd5 "BadSize.__init__" = true)
    (k5 : PySem.W.keepIn K (.ref f5) = true)
    (a6 : PySem.W.findIn K (.ref C_BadCall) "__init__" = some (some (.ref f6)))
    (l6 : K.lookup f6 = some ⟨oc6, od6, .func (PySem.W.fnOf "__init__" "BadCall.__init__" (defArgs s_BadCall_init) (defBody s_BadCall_init) (defScope s_BadCall_init) .none kV6 dc6 pm6 an6 cd6 ct6), sl6⟩)
    (e6 : PySem.W.codeIn K cd6 "BadCall.__init__" = true)
    (k6 : PySem.W.keepIn K (.ref f6) = true)
    (a7 : PySem.W.nsIn K mainGlobals "is_figure_behind" = some (some (.ref f7)))
    (l7 : K.lookup f7 = some ⟨oc7, od7, .func (PySem.W.fnOf "is_figure_behind" "is_figure_behind" (defArgs s_is_figure_behind) (defBody s_is_figure_behind) (defScope s_is_figure_behind) .none kV7 dc7 pm7 an7 cd7 ct7), sl7⟩)
    (e7 : PySem.W.codeIn K cd7 "is_figure_behind" = true)
    (k7 : PySem.W.keepIn K (.ref f7) = true)
    (a8 : PySem.W.nsIn K mainGlobals "is_place_word" = some (some (.ref f8)))
    (l8 : K.lookup f8 = some ⟨oc8, od8, .func (PySem.W.fnOf "is_place_word" "is_place_word" (defArgs s_is_place_word) (defBody s_is_place_word) (defScope s_is_place_word) .none kV8 dc8 pm8 an8 cd8 ct8), sl8⟩)
    (e8 : PySem.W.codeIn K cd8 "is_place_word" = true)
    (k8 : PySem.W.keepIn K (.ref f8) = true)
    (a9 : PySem.W.nsIn K mainGlobals "is_amount" = some (some (.ref f9)))
    (l9 : K.lookup f9 = some ⟨oc9, od9, .func (PySem.W.fnOf "is_amount" "is_amount" (defArgs s_is_amount) (defBody s_is_amount) (defScope s_is_amount) .none kV9 dc9 pm9 an9 cd9 ct9), sl9⟩)
    (e9 : PySem.W.codeIn K cd9 "is_amount" = true)
    (k9 : PySem.W.keepIn K (.ref f9) = true)
    (a10 : PySem.W.nsIn K mainGlobals "place_of" = some (some (.ref f10)))
    (l10 : K.lookup f10 = some ⟨oc10, od10, .func (PySem.W.fnOf "place_of" "place_of" (defArgs s_place_of) (defBody s_place_of) (defScope s_place_of) .none kV10 dc10 pm10 an10 cd10 ct10), sl10⟩)
    (e10 : PySem.W.codeIn K cd10 "place_of" = true)
    (k10 : PySem.W.keepIn K (.ref f10) = true)
    (a11 : PySem.W.nsIn K mainGlobals "amount_of" = some (some (.ref f11)))
    (l11 : K.lookup f11 = some ⟨oc11, od11, .func (PySem.W.fnOf "amount_of" "amount_of" (defArgs s_amount_of) (defBody s_amount_of) (defScope s_amount_of) .none kV11 dc11 pm11 an11 cd11 ct11), sl11⟩)
    (e11 : PySem.W.codeIn K cd11 "amount_of" = true)
    (k11 : PySem.W.keepIn K (.ref f11) = true)
    (a12 : PySem.W.nsIn K mainGlobals "is_part" = some (some (.ref f12)))
    (l12 : K.lookup f12 = some ⟨oc12, od12, .func (PySem.W.fnOf "is_part" "is_part" (defArgs s_is_part) (defBody s_is_part) (defScope s_is_part) .none kV12 dc12 pm12 an12 cd12 ct12), sl12⟩)
    (e12 : PySem.W.codeIn K cd12 "is_part" = true)
    (k12 : PySem.W.keepIn K (.ref f12) = true)
    (a13 : PySem.W.nsIn K mainGlobals "read_move" = some (some (.ref f13)))
    (l13 : K.lookup f13 = some ⟨oc13, od13, .func (PySem.W.fnOf "read_move" "read_move" (defArgs s_read_move) (defBody s_read_move) (defScope s_read_move) .none kV13 dc13 pm13 an13 cd13 ct13), sl13⟩)
    (e13 : PySem.W.codeIn K cd13 "read_move" = true)
    (k13 : PySem.W.keepIn K (.ref f13) = true)
    (a14 : PySem.W.nsIn K mainGlobals "read_moves" = some (some (.ref f14)))
    (l14 : K.lookup f14 = some ⟨oc14, od14, .func (PySem.W.fnOf "read_moves" "read_moves" (defArgs s_read_moves) (defBody s_read_moves) (defScope s_read_moves) .none kV14 dc14 pm14 an14 cd14 ct14), sl14⟩)
    (e14 : PySem.W.codeIn K cd14 "read_moves" = true)
    (k14 : PySem.W.keepIn K (.ref f14) = true)
    (a15 : PySem.W.nsIn K mainGlobals "exchanged" = some (some (.ref f15)))
    (l15 : K.lookup f15 = some ⟨oc15, od15, .func (PySem.W.fnOf "exchanged" "exchanged" (defArgs s_exchanged) (defBody s_exchanged) (defScope s_exchanged) .none kV15 dc15 pm15 an15 cd15 ct15), sl15⟩)
    (e15 : PySem.W.codeIn K cd15 "exchanged" = true)
    (k15 : PySem.W.keepIn K (.ref f15) = true)
    (a16 : PySem.W.nsIn K mainGlobals "rolled" = some (some (.ref f16)))
    (l16 : K.lookup f16 = some ⟨oc16, od16, .func (PySem.W.fnOf "rolled" "rolled" (defArgs s_rolled) (defBody s_rolled) (defScope s_rolled) .none kV16 dc16 pm16 an16 cd16 ct16), sl16⟩)
    (e16 : PySem.W.codeIn K cd16 "rolled" = true)
    (k16 : PySem.W.keepIn K (.ref f16) = true)
    (a17 : PySem.W.nsIn K mainGlobals "moved" = some (some (.ref f17)))
    (l17 : K.lookup f17 = some ⟨oc17, od17, .func (PySem.W.fnOf "moved" "moved" (defArgs s_moved) (defBody s_moved) (defScope s_moved) .none kV17 dc17 pm17 an17 cd17 ct17), sl17⟩)
    (e17 : PySem.W.codeIn K cd17 "moved" = true)
    (k17 : PySem.W.keepIn K (.ref f17) = true)
    (a18 : PySem.W.findIn K (.ref C_Word) "__init__" = some (some (.ref f18)))
    (l18 : K.lookup f18 = some ⟨oc18, od18, .func (PySem.W.fnOf "__init__" "Word.__init__" (defArgs s_Word_init) (defBody s_Word_init) (defScope s_Word_init) .none kV18 dc18 pm18 an18 cd18 ct18), sl18⟩)
    (e18 : PySem.W.codeIn K cd18 "Word.__init__" = true)
    (k18 : PySem.W.keepIn K (.ref f18) = true)
    (a19 : PySem.W.findIn K (.ref C_Word) "__eq__" = some (some (.ref f19)))
    (l19 : K.lookup f19 = some ⟨oc19, od19, .func (PySem.W.fnOf "__eq__" "Word.__eq__" (defArgs s_Word_eq) (defBody s_Word_eq) (defScope s_Word_eq) .none kV19 dc19 pm19 an19 cd19 ct19), sl19⟩)
    (e19 : PySem.W.codeIn K cd19 "Word.__eq__" = true)
    (k19 : PySem.W.keepIn K (.ref f19) = true)
    (a20 : PySem.W.findIn K (.ref C_Word) "at" = some (some (.ref f20)))
    (l20 : K.lookup f20 = some ⟨oc20, od20, .func (PySem.W.fnOf "at" "Word.at" (defArgs s_Word_at) (defBody s_Word_at) (defScope s_Word_at) .none kV20 dc20 pm20 an20 cd20 ct20), sl20⟩)
    (e20 : PySem.W.codeIn K cd20 "Word.at" = true)
    (k20 : PySem.W.keepIn K (.ref f20) = true)
    (a21 : PySem.W.nsIn K mainGlobals "read_along" = some (some (.ref f21)))
    (l21 : K.lookup f21 = some ⟨oc21, od21, .func (PySem.W.fnOf "read_along" "read_along" (defArgs s_read_along) (defBody s_read_along) (defScope s_read_along) .none kV21 dc21 pm21 an21 cd21 ct21), sl21⟩)
    (e21 : PySem.W.codeIn K cd21 "read_along" = true)
    (k21 : PySem.W.keepIn K (.ref f21) = true)
    (a22 : PySem.W.nsIn K mainGlobals "read_list" = some (some (.ref f22)))
    (l22 : K.lookup f22 = some ⟨oc22, od22, .func (PySem.W.fnOf "read_list" "read_list" (defArgs s_read_list) (defBody s_read_list) (defScope s_read_list) .none kV22 dc22 pm22 an22 cd22 ct22), sl22⟩)
    (e22 : PySem.W.codeIn K cd22 "read_list" = true)
    (k22 : PySem.W.keepIn K (.ref f22) = true)
    (a23 : PySem.W.nsIn K mainGlobals "read_body" = some (some (.ref f23)))
    (l23 : K.lookup f23 = some ⟨oc23, od23, .func (PySem.W.fnOf "read_body" "read_body" (defArgs s_read_body) (defBody s_read_body) (defScope s_read_body) .none kV23 dc23 pm23 an23 cd23 ct23), sl23⟩)
    (e23 : PySem.W.codeIn K cd23 "read_body" = true)
    (k23 : PySem.W.keepIn K (.ref f23) = true)
    (a24 : PySem.W.nsIn K mainGlobals "read_level" = some (some (.ref f24)))
    (l24 : K.lookup f24 = some ⟨oc24, od24, .func (PySem.W.fnOf "read_level" "read_level" (defArgs s_read_level) (defBody s_read_level) (defScope s_read_level) .none kV24 dc24 pm24 an24 cd24 ct24), sl24⟩)
    (e24 : PySem.W.codeIn K cd24 "read_level" = true)
    (k24 : PySem.W.keepIn K (.ref f24) = true)
    (a25 : PySem.W.findIn K (.ref C_Level) "__init__" = some (some (.ref f25)))
    (l25 : K.lookup f25 = some ⟨oc25, od25, .func (PySem.W.fnOf "__init__" "Level.__init__" (defArgs s_Level_init) (defBody s_Level_init) (defScope s_Level_init) (.ref dV25) kV25 dc25 pm25 an25 cd25 ct25), sl25⟩)
    (w25 : K.lookup dV25 = some dO25)
    (h_w25 : dfB dO25 [V.non] = true)
    (e25 : PySem.W.codeIn K cd25 "Level.__init__" = true)
    (k25 : PySem.W.keepIn K (.ref f25) = true)
    (a26 : PySem.W.findIn K (.ref C_Level) "__eq__" = some (some (.ref f26)))
    (l26 : K.lookup f26 = some ⟨oc26, od26, .func (PySem.W.fnOf "__eq__" "Level.__eq__" (defArgs s_Level_eq) (defBody s_Level_eq) (defScope s_Level_eq) .none kV26 dc26 pm26 an26 cd26 ct26), sl26⟩)
    (e26 : PySem.W.codeIn K cd26 "Level.__eq__" = true)
    (k26 : PySem.W.keepIn K (.ref f26) = true)
    (a27 : PySem.W.findIn K (.ref C_Level) "many_steps" = some (some (.ref f27)))
    (l27 : K.lookup f27 = some ⟨oc27, od27, .func (PySem.W.fnOf "many_steps" "Level.many_steps" (defArgs s_Level_many_steps) (defBody s_Level_many_steps) (defScope s_Level_many_steps) .none kV27 dc27 pm27 an27 cd27 ct27), sl27⟩)
    (e27 : PySem.W.codeIn K cd27 "Level.many_steps" = true)
    (k27 : PySem.W.keepIn K (.ref f27) = true)
    (a28 : PySem.W.findIn K (.ref C_Level) "partner" = some (some (.ref f28)))
    (l28 : K.lookup f28 = some ⟨oc28, od28, .func (PySem.W.fnOf "partner" "Level.partner" (defArgs s_Level_partner) (defBody s_Level_partner) (defScope s_Level_partner) .none kV28 dc28 pm28 an28 cd28 ct28), sl28⟩)
    (e28 : PySem.W.codeIn K cd28 "Level.partner" = true)
    (k28 : PySem.W.keepIn K (.ref f28) = true)
    (a29 : PySem.W.findIn K (.ref C_Level) "partners" = some (some (.ref f29)))
    (l29 : K.lookup f29 = some ⟨oc29, od29, .func (PySem.W.fnOf "partners" "Level.partners" (defArgs s_Level_partners) (defBody s_Level_partners) (defScope s_Level_partners) .none kV29 dc29 pm29 an29 cd29 ct29), sl29⟩)
    (e29 : PySem.W.codeIn K cd29 "Level.partners" = true)
    (k29 : PySem.W.keepIn K (.ref f29) = true)
    (a30 : PySem.W.findIn K (.ref C_Level) "step" = some (some (.ref f30)))
    (l30 : K.lookup f30 = some ⟨oc30, od30, .func (PySem.W.fnOf "step" "Level.step" (defArgs s_Level_step) (defBody s_Level_step) (defScope s_Level_step) .none kV30 dc30 pm30 an30 cd30 ct30), sl30⟩)
    (e30 : PySem.W.codeIn K cd30 "Level.step" = true)
    (k30 : PySem.W.keepIn K (.ref f30) = true)
    (a31 : PySem.W.nsIn K mainGlobals "_law_pen" = some (some (.ref f31)))
    (l31 : K.lookup f31 = some ⟨oc31, od31, .func (PySem.W.fnOf "_law_pen" "_law_pen" (defArgs s__law_pen) (defBody s__law_pen) (defScope s__law_pen) .none kV31 dc31 pm31 an31 cd31 ct31), sl31⟩)
    (e31 : PySem.W.codeIn K cd31 "_law_pen" = true)
    (k31 : PySem.W.keepIn K (.ref f31) = true)
    (a32 : PySem.W.nsIn K mainGlobals "_law_draw" = some (some (.ref f32)))
    (l32 : K.lookup f32 = some ⟨oc32, od32, .func (PySem.W.fnOf "_law_draw" "_law_draw" (defArgs s__law_draw) (defBody s__law_draw) (defScope s__law_draw) .none kV32 dc32 pm32 an32 cd32 ct32), sl32⟩)
    (e32 : PySem.W.codeIn K cd32 "_law_draw" = true)
    (k32 : PySem.W.keepIn K (.ref f32) = true)
    (a33 : PySem.W.nsIn K mainGlobals "_law_pick" = some (some (.ref f33)))
    (l33 : K.lookup f33 = some ⟨oc33, od33, .func (PySem.W.fnOf "_law_pick" "_law_pick" (defArgs s__law_pick) (defBody s__law_pick) (defScope s__law_pick) .none kV33 dc33 pm33 an33 cd33 ct33), sl33⟩)
    (e33 : PySem.W.codeIn K cd33 "_law_pick" = true)
    (k33 : PySem.W.keepIn K (.ref f33) = true)
    (a34 : PySem.W.nsIn K mainGlobals "_law_place_word" = some (some (.ref f34)))
    (l34 : K.lookup f34 = some ⟨oc34, od34, .func (PySem.W.fnOf "_law_place_word" "_law_place_word" (defArgs s__law_place_word) (defBody s__law_place_word) (defScope s__law_place_word) .none kV34 dc34 pm34 an34 cd34 ct34), sl34⟩)
    (e34 : PySem.W.codeIn K cd34 "_law_place_word" = true)
    (k34 : PySem.W.keepIn K (.ref f34) = true)
    (a35 : PySem.W.nsIn K mainGlobals "_law_value" = some (some (.ref f35)))
    (l35 : K.lookup f35 = some ⟨oc35, od35, .func (PySem.W.fnOf "_law_value" "_law_value" (defArgs s__law_value) (defBody s__law_value) (defScope s__law_value) .none kV35 dc35 pm35 an35 cd35 ct35), sl35⟩)
    (e35 : PySem.W.codeIn K cd35 "_law_value" = true)
    (k35 : PySem.W.keepIn K (.ref f35) = true)
    (a36 : PySem.W.nsIn K mainGlobals "_law_amount" = some (some (.ref f36)))
    (l36 : K.lookup f36 = some ⟨oc36, od36, .func (PySem.W.fnOf "_law_amount" "_law_amount" (defArgs s__law_amount) (defBody s__law_amount) (defScope s__law_amount) .none kV36 dc36 pm36 an36 cd36 ct36), sl36⟩)
    (e36 : PySem.W.codeIn K cd36 "_law_amount" = true)
    (k36 : PySem.W.keepIn K (.ref f36) = true)
    (a37 : PySem.W.nsIn K mainGlobals "_law_move" = some (some (.ref f37)))
    (l37 : K.lookup f37 = some ⟨oc37, od37, .func (PySem.W.fnOf "_law_move" "_law_move" (defArgs s__law_move) (defBody s__law_move) (defScope s__law_move) .none kV37 dc37 pm37 an37 cd37 ct37), sl37⟩)
    (e37 : PySem.W.codeIn K cd37 "_law_move" = true)
    (k37 : PySem.W.keepIn K (.ref f37) = true)
    (a38 : PySem.W.nsIn K mainGlobals "_law_moves" = some (some (.ref f38)))
    (l38 : K.lookup f38 = some ⟨oc38, od38, .func (PySem.W.fnOf "_law_moves" "_law_moves" (defArgs s__law_moves) (defBody s__law_moves) (defScope s__law_moves) .none kV38 dc38 pm38 an38 cd38 ct38), sl38⟩)
    (e38 : PySem.W.codeIn K cd38 "_law_moves" = true)
    (k38 : PySem.W.keepIn K (.ref f38) = true)
    (a39 : PySem.W.nsIn K mainGlobals "_law_word_text" = some (some (.ref f39)))
    (l39 : K.lookup f39 = some ⟨oc39, od39, .func (PySem.W.fnOf "_law_word_text" "_law_word_text" (defArgs s__law_word_text) (defBody s__law_word_text) (defScope s__law_word_text) .none kV39 dc39 pm39 an39 cd39 ct39), sl39⟩)
    (e39 : PySem.W.codeIn K cd39 "_law_word_text" = true)
    (k39 : PySem.W.keepIn K (.ref f39) = true)
    (a40 : PySem.W.nsIn K mainGlobals "_law_moved" = some (some (.ref f40)))
    (l40 : K.lookup f40 = some ⟨oc40, od40, .func (PySem.W.fnOf "_law_moved" "_law_moved" (defArgs s__law_moved) (defBody s__law_moved) (defScope s__law_moved) .none kV40 dc40 pm40 an40 cd40 ct40), sl40⟩)
    (e40 : PySem.W.codeIn K cd40 "_law_moved" = true)
    (k40 : PySem.W.keepIn K (.ref f40) = true)
    (a41 : PySem.W.nsIn K mainGlobals "_law_all_moved" = some (some (.ref f41)))
    (l41 : K.lookup f41 = some ⟨oc41, od41, .func (PySem.W.fnOf "_law_all_moved" "_law_all_moved" (defArgs s__law_all_moved) (defBody s__law_all_moved) (defScope s__law_all_moved) .none kV41 dc41 pm41 an41 cd41 ct41), sl41⟩)
    (e41 : PySem.W.codeIn K cd41 "_law_all_moved" = true)
    (k41 : PySem.W.keepIn K (.ref f41) = true)
    (a42 : PySem.W.nsIn K mainGlobals "_law_level" = some (some (.ref f42)))
    (l42 : K.lookup f42 = some ⟨oc42, od42, .func (PySem.W.fnOf "_law_level" "_law_level" (defArgs s__law_level) (defBody s__law_level) (defScope s__law_level) .none kV42 dc42 pm42 an42 cd42 ct42), sl42⟩)
    (e42 : PySem.W.codeIn K cd42 "_law_level" = true)
    (k42 : PySem.W.keepIn K (.ref f42) = true)
    (a43 : PySem.W.nsIn K mainGlobals "_law_level_text" = some (some (.ref f43)))
    (l43 : K.lookup f43 = some ⟨oc43, od43, .func (PySem.W.fnOf "_law_level_text" "_law_level_text" (defArgs s__law_level_text) (defBody s__law_level_text) (defScope s__law_level_text) .none kV43 dc43 pm43 an43 cd43 ct43), sl43⟩)
    (e43 : PySem.W.codeIn K cd43 "_law_level_text" = true)
    (k43 : PySem.W.keepIn K (.ref f43) = true)
    (a44 : PySem.W.nsIn K mainGlobals "_law_partner" = some (some (.ref f44)))
    (l44 : K.lookup f44 = some ⟨oc44, od44, .func (PySem.W.fnOf "_law_partner" "_law_partner" (defArgs s__law_partner) (defBody s__law_partner) (defScope s__law_partner) .none kV44 dc44 pm44 an44 cd44 ct44), sl44⟩)
    (e44 : PySem.W.codeIn K cd44 "_law_partner" = true)
    (k44 : PySem.W.keepIn K (.ref f44) = true)
    (a45 : PySem.W.nsIn K mainGlobals "_law_step" = some (some (.ref f45)))
    (l45 : K.lookup f45 = some ⟨oc45, od45, .func (PySem.W.fnOf "_law_step" "_law_step" (defArgs s__law_step) (defBody s__law_step) (defScope s__law_step) .none kV45 dc45 pm45 an45 cd45 ct45), sl45⟩)
    (e45 : PySem.W.codeIn K cd45 "_law_step" = true)
    (k45 : PySem.W.keepIn K (.ref f45) = true)
    (a46 : PySem.W.nsIn K mainGlobals "_law_met" = some (some (.ref f46)))
    (l46 : K.lookup f46 = some ⟨oc46, od46, .func (PySem.W.fnOf "_law_met" "_law_met" (defArgs s__law_met) (defBody s__law_met) (defScope s__law_met) .none kV46 dc46 pm46 an46 cd46 ct46), sl46⟩)
    (e46 : PySem.W.codeIn K cd46 "_law_met" = true)
    (k46 : PySem.W.keepIn K (.ref f46) = true)
    (a47 : PySem.W.nsIn K mainGlobals "_law_parts_right" = some (some (.ref f47)))
    (l47 : K.lookup f47 = some ⟨oc47, od47, .func (PySem.W.fnOf "_law_parts_right" "_law_parts_right" (defArgs s__law_parts_right) (defBody s__law_parts_right) (defScope s__law_parts_right) .none kV47 dc47 pm47 an47 cd47 ct47), sl47⟩)
    (e47 : PySem.W.codeIn K cd47 "_law_parts_right" = true)
    (k47 : PySem.W.keepIn K (.ref f47) = true)
    (a48 : PySem.W.nsIn K mainGlobals "_law_at_right" = some (some (.ref f48)))
    (l48 : K.lookup f48 = some ⟨oc48, od48, .func (PySem.W.fnOf "_law_at_right" "_law_at_right" (defArgs s__law_at_right) (defBody s__law_at_right) (defScope s__law_at_right) .none kV48 dc48 pm48 an48 (.ref cA48) ct48), sl48⟩)
    (e48 : PySem.W.codeIn K (.ref cA48) "_law_at_right" = true)
    (k48 : PySem.W.keepIn K (.ref f48) = true)
    (a49 : PySem.W.nsIn K mainGlobals "_law_equal_right" = some (some (.ref f49)))
    (l49 : K.lookup f49 = some ⟨oc49, od49, .func (PySem.W.fnOf "_law_equal_right" "_law_equal_right" (defArgs s__law_equal_right) (defBody s__law_equal_right) (defScope s__law_equal_right) .none kV49 dc49 pm49 an49 cd49 ct49), sl49⟩)
    (e49 : PySem.W.codeIn K cd49 "_law_equal_right" = true)
    (k49 : PySem.W.keepIn K (.ref f49) = true)
    (a50 : PySem.W.nsIn K mainGlobals "law" = some (some (.ref f50)))
    (l50 : K.lookup f50 = some ⟨oc50, od50, .func (PySem.W.fnOf "law" "law" (defArgs s_law) (defBody s_law) (defScope s_law) .none kV50 dc50 pm50 an50 (.ref cA50) ct50), sl50⟩)
    (e50 : PySem.W.codeIn K (.ref cA50) "law" = true)
    (k50 : PySem.W.keepIn K (.ref f50) = true)
    (pg_Word : PySem.W.plainGet K C_Word Str.empty = true)
    (hd_Word : PySem.W.hasDictIn K C_Word = true)
    (po_Word : PySem.W.plainOver K C_Word = true)
    (sa_Word : PySem.W.findIn K (.ref C_Word) "__setattr__" = some (some (.builtin "object.__setattr__")))
    (mk_Word : PySem.W.makesIn K C_Word = true)
    (kc_Word : PySem.W.keepIn K (.ref C_Word) = true)
    (n_Word_text : PySem.W.findIn K (.ref C_Word) "text" = some none)
    (n_Word_moves : PySem.W.findIn K (.ref C_Word) "moves" = some none)
    (n_Word_has_turn : PySem.W.findIn K (.ref C_Word) "has_turn" = some none)
    (i_Word_init : PySem.W.isFn K (.ref f18) = true)
    (i_Word_eq : PySem.W.isFn K (.ref f19) = true)
    (i_Word_at : PySem.W.isFn K (.ref f20) = true)
    (og_Word : PySem.W.findIn K (.ref C_Word) "__class__" = some (some (.builtin "object.__class__")))
    (on_Word : PySem.W.specialIn K (.builtin "object.__class__") "__get__" = some (some (.builtin "getset_descriptor.__get__")))
    (ot_Word : PySem.W.takesIn K (.builtin "object.__class__") = some true)
    (om_Word : PySem.W.mroIn K C_Word (.type "object") = some true)
    (of_Word : PySem.W.notFirst K C_Word (.type "str") = true)
    (ok_Word : PySem.W.kitOne K (.type "str") (.ref C_Word) = some false)
    (pg_Level : PySem.W.plainGet K C_Level Str.empty = true)
    (hd_Level : PySem.W.hasDictIn K C_Level = true)
    (po_Level : PySem.W.plainOver K C_Level = true)
    (sa_Level : PySem.W.findIn K (.ref C_Level) "__setattr__" = some (some (.builtin "object.__setattr__")))
    (mk_Level : PySem.W.makesIn K C_Level = true)
    (kc_Level : PySem.W.keepIn K (.ref C_Level) = true)
    (n_Level_text : PySem.W.findIn K (.ref C_Level) "text" = some none)
    (n_Level_kind : PySem.W.findIn K (.ref C_Level) "kind" = some none)
    (n_Level_to_end : PySem.W.findIn K (.ref C_Level) "to_end" = some none)
    (n_Level_word : PySem.W.findIn K (.ref C_Level) "word" = some none)
    (n_Level_factor : PySem.W.findIn K (.ref C_Level) "factor" = some none)
    (n_Level_place : PySem.W.findIn K (.ref C_Level) "place" = some none)
    (n_Level_entries : PySem.W.findIn K (.ref C_Level) "entries" = some none)
    (i_Level_init : PySem.W.isFn K (.ref f25) = true)
    (i_Level_eq : PySem.W.isFn K (.ref f26) = true)
    (i_Level_many_steps : PySem.W.isFn K (.ref f27) = true)
    (i_Level_partner : PySem.W.isFn K (.ref f28) = true)
    (i_Level_partners : PySem.W.isFn K (.ref f29) = true)
    (i_Level_step : PySem.W.isFn K (.ref f30) = true)
    (og_Level : PySem.W.findIn K (.ref C_Level) "__class__" = some (some (.builtin "object.__class__")))
    (on_Level : PySem.W.specialIn K (.builtin "object.__class__") "__get__" = some (some (.builtin "getset_descriptor.__get__")))
    (ot_Level : PySem.W.takesIn K (.builtin "object.__class__") = some true)
    (om_Level : PySem.W.mroIn K C_Level (.type "object") = some true)
    (of_Level : PySem.W.notFirst K C_Level (.type "str") = true)
    (ok_Level : PySem.W.kitOne K (.type "str") (.ref C_Level) = some false)
    (o2a_Level : PySem.W.findIn K (.ref C_Level) "__ne__" = some (some (.builtin "object.__ne__")))
    (o2b_Level : PySem.W.notFirst K C_Level (.type "int") = true)
    (o2c_Level : PySem.W.notFirst K C_Level (.type "tuple") = true)
    (ok_int_Level : PySem.W.kitOne K (.type "int") (.ref C_Level) = some false)
    (ok_tup_Level : PySem.W.kitOne K (.type "tuple") (.ref C_Level) = some false)
    (xl_BadWord : K.lookup C_BadWord = some (excClassObj en_BadWord eq_BadWord C_BadWord eN_BadWord eb_BadWord em_BadWord true es_BadWord eu_BadWord ea_BadWord eo_BadWord ed_BadWord e0_BadWord e1_BadWord e2_BadWord e3_BadWord e5_BadWord "ValueError.__new__"))
    (xr_BadWord : PySem.HandSPX.refsVE em_BadWord = true)
    (xsa_BadWord : PySem.W.findIn K (.ref C_BadWord) "__setattr__" = some (some (.builtin "object.__setattr__")))
    (xex_BadWord : PySem.W.subIn K (.ref C_BadWord) (.type "BaseException") = some true)
    (xty_BadWord : PySem.W.typeIn K (.ref C_BadWord) = some (.type "type"))
    (xkc_BadWord : PySem.W.keepIn K (.ref C_BadWord) = true)
    (xga_BadWord : PySem.W.findIn K (.ref C_BadWord) "__getattribute__" = some (some (.builtin "BaseException.__getattribute__")))
    (xgg_BadWord : PySem.W.findIn K (.ref C_BadWord) "__getattr__" = some none)
    (xhd_BadWord : PySem.W.hasDictIn K C_BadWord = true)
    (xha_BadWord : PySem.W.findIn K (.ref C_BadWord) "__class__" = some (some (.builtin "object.__class__")))
    (xhm_BadWord : PySem.W.mroIn K C_BadWord (.type "object") = some true)
    (xno_BadWord : PySem.W.findIn K (.ref C_BadWord) "index" = some none)
    (xhn_BadWord : PySem.W.specialIn K (.builtin "object.__class__") "__get__" = some (some (.builtin "getset_descriptor.__get__")))
    (xht_BadWord : PySem.W.takesIn K (.builtin "object.__class__") = some true)
    (xti_BadWord : PySem.W.typeIn K (.ref f4) = some (.type "function"))
    (xs_BadWord_BadCall : PySem.W.subIn K (.ref C_BadWord) (.ref C_BadCall) = some false)
    (xs_BadWord_BadSize : PySem.W.subIn K (.ref C_BadWord) (.ref C_BadSize) = some false)
    (ok_BadWord_EveryError : PySem.W.kitOne K (.ref C_BadWord) (.ref C_EveryError) = some true)
    (xl_BadSize : K.lookup C_BadSize = some (excClassObj en_BadSize eq_BadSize C_BadSize eN_BadSize eb_BadSize em_BadSize true es_BadSize eu_BadSize ea_BadSize eo_BadSize ed_BadSize e0_BadSize e1_BadSize e2_BadSize e3_BadSize e5_BadSize "ValueError.__new__"))
    (xr_BadSize : PySem.HandSPX.refsVE em_BadSize = true)
    (xsa_BadSize : PySem.W.findIn K (.ref C_BadSize) "__setattr__" = some (some (.builtin "object.__setattr__")))
    (xex_BadSize : PySem.W.subIn K (.ref C_BadSize) (.type "BaseException") = some true)
    (xty_BadSize : PySem.W.typeIn K (.ref C_BadSize) = some (.type "type"))
    (xkc_BadSize : PySem.W.keepIn K (.ref C_BadSize) = true)
    (xga_BadSize : PySem.W.findIn K (.ref C_BadSize) "__getattribute__" = some (some (.builtin "BaseException.__getattribute__")))
    (xgg_BadSize : PySem.W.findIn K (.ref C_BadSize) "__getattr__" = some none)
    (xhd_BadSize : PySem.W.hasDictIn K C_BadSize = true)
    (xha_BadSize : PySem.W.findIn K (.ref C_BadSize) "__class__" = some (some (.builtin "object.__class__")))
    (xhm_BadSize : PySem.W.mroIn K C_BadSize (.type "object") = some true)
    (xno_BadSize : PySem.W.findIn K (.ref C_BadSize) "size" = some none)
    (xhn_BadSize : PySem.W.specialIn K (.builtin "object.__class__") "__get__" = some (some (.builtin "getset_descriptor.__get__")))
    (xht_BadSize : PySem.W.takesIn K (.builtin "object.__class__") = some true)
    (xti_BadSize : PySem.W.typeIn K (.ref f5) = some (.type "function"))
    (xs_BadSize_BadCall : PySem.W.subIn K (.ref C_BadSize) (.ref C_BadCall) = some false)
    (xs_BadSize_BadSize : PySem.W.subIn K (.ref C_BadSize) (.ref C_BadSize) = some true)
    (ok_BadSize_EveryError : PySem.W.kitOne K (.ref C_BadSize) (.ref C_EveryError) = some true)
    (xl_BadCall : K.lookup C_BadCall = some (excClassObj en_BadCall eq_BadCall C_BadCall eN_BadCall eb_BadCall em_BadCall true es_BadCall eu_BadCall ea_BadCall eo_BadCall ed_BadCall e0_BadCall e1_BadCall e2_BadCall e3_BadCall e5_BadCall "ValueError.__new__"))
    (xr_BadCall : PySem.HandSPX.refsVE em_BadCall = true)
    (xsa_BadCall : PySem.W.findIn K (.ref C_BadCall) "__setattr__" = some (some (.builtin "object.__setattr__")))
    (xex_BadCall : PySem.W.subIn K (.ref C_BadCall) (.type "BaseException") = some true)
    (xty_BadCall : PySem.W.typeIn K (.ref C_BadCall) = some (.type "type"))
    (xkc_BadCall : PySem.W.keepIn K (.ref C_BadCall) = true)
    (xga_BadCall : PySem.W.findIn K (.ref C_BadCall) "__getattribute__" = some (some (.builtin "BaseException.__getattribute__")))
    (xgg_BadCall : PySem.W.findIn K (.ref C_BadCall) "__getattr__" = some none)
    (xhd_BadCall : PySem.W.hasDictIn K C_BadCall = true)
    (xha_BadCall : PySem.W.findIn K (.ref C_BadCall) "__class__" = some (some (.builtin "object.__class__")))
    (xhm_BadCall : PySem.W.mroIn K C_BadCall (.type "object") = some true)
    (xno_BadCall : PySem.W.findIn K (.ref C_BadCall) "call" = some none)
    (xhn_BadCall : PySem.W.specialIn K (.builtin "object.__class__") "__get__" = some (some (.builtin "getset_descriptor.__get__")))
    (xht_BadCall : PySem.W.takesIn K (.builtin "object.__class__") = some true)
    (xti_BadCall : PySem.W.typeIn K (.ref f6) = some (.type "function"))
    (xs_BadCall_BadCall : PySem.W.subIn K (.ref C_BadCall) (.ref C_BadCall) = some true)
    (xs_BadCall_BadSize : PySem.W.subIn K (.ref C_BadCall) (.ref C_BadSize) = some false)
    (ok_BadCall_EveryError : PySem.W.kitOne K (.ref C_BadCall) (.ref C_EveryError) = some true)
    (z_bool : PySem.W.nsIn K mainGlobals "bool" = some none)
    (z_enumerate : PySem.W.nsIn K mainGlobals "enumerate" = some none)
    (z_int : PySem.W.nsIn K mainGlobals "int" = some none)
    (z_isinstance : PySem.W.nsIn K mainGlobals "isinstance" = some none)
    (z_len : PySem.W.nsIn K mainGlobals "len" = some none)
    (z_list : PySem.W.nsIn K mainGlobals "list" = some none)
    (z_min : PySem.W.nsIn K mainGlobals "min" = some none)
    (z_range : PySem.W.nsIn K mainGlobals "range" = some none)
    (z_str : PySem.W.nsIn K mainGlobals "str" = some none)
    (z_tuple : PySem.W.nsIn K mainGlobals "tuple" = some none)
    (m_MOST_PLACES : PySem.W.nsIn K mainGlobals "MOST_PLACES" = some (some (.int 1000 t_MOST_PLACES)))
    (m_MOST_MOVES : PySem.W.nsIn K mainGlobals "MOST_MOVES" = some (some (.int 4 t_MOST_MOVES)))
    (m_FIGURES : PySem.W.nsIn K mainGlobals "FIGURES" = some (some (.ref a_FIGURES)))
    (l_FIGURES : K.lookup a_FIGURES = some o_FIGURES)
    (h_FIGURES : tupB o_FIGURES [.str "1", .str "2", .str "3", .str "4", .str "5", .str "6", .str "7", .str "8", .str "9"] = true)
    (m_PLACE_FRONTS : PySem.W.nsIn K mainGlobals "PLACE_FRONTS" = some (some (.ref a_PLACE_FRONTS)))
    (l_PLACE_FRONTS : K.lookup a_PLACE_FRONTS = some o_PLACE_FRONTS)
    (h_PLACE_FRONTS : tupB o_PLACE_FRONTS [.str "", .str "-", .str "half-", .str "half+"] = true)
    (m_AMOUNT_FRONTS : PySem.W.nsIn K mainGlobals "AMOUNT_FRONTS" = some (some (.ref a_AMOUNT_FRONTS)))
    (l_AMOUNT_FRONTS : K.lookup a_AMOUNT_FRONTS = some o_AMOUNT_FRONTS)
    (h_AMOUNT_FRONTS : tupB o_AMOUNT_FRONTS [.str "", .str "-"] = true)
    (m_SHAPES : PySem.W.nsIn K mainGlobals "SHAPES" = some (some (.ref a_SHAPES)))
    (l_SHAPES : K.lookup a_SHAPES = some ⟨.type "dict", none, .dict es_SHAPES n_SHAPES, #[]⟩)
    (y_SHAPES : PySem.W.KeysLit w.params es_SHAPES.toList)
    (h_SHAPES : (a_SHAPES == sysModules) = false)
    (e_SHAPES : PySem.W.nsIn K a_SHAPES "" = some none)
    (h_k_SHAPES : keyB ["exchange", "roll", "turn"] es_SHAPES.toList = true)
    (v_SHAPES_0 : PySem.W.nsIn K a_SHAPES "exchange" = some (some (.ref p_SHAPES_0)))
    (l_SHAPES_0 : K.lookup p_SHAPES_0 = some o_SHAPES_0)
    (h_SHAPES_0 : tupB o_SHAPES_0 [.str "place", .str "place"] = true)
    (v_SHAPES_1 : PySem.W.nsIn K a_SHAPES "roll" = some (some (.ref p_SHAPES_1)))
    (l_SHAPES_1 : K.lookup p_SHAPES_1 = some o_SHAPES_1)
    (h_SHAPES_1 : tupB o_SHAPES_1 [.str "place", .str "place", .str "amount"] = true)
    (v_SHAPES_2 : PySem.W.nsIn K a_SHAPES "turn" = some (some (.ref p_SHAPES_2)))
    (l_SHAPES_2 : K.lookup p_SHAPES_2 = some o_SHAPES_2)
    (h_SHAPES_2 : tupB o_SHAPES_2 [] = true)
    (m_NO_PART : PySem.W.nsIn K mainGlobals "NO_PART" = some (some (.str "" t_NO_PART)))
    (m_LEAST_SINGLE : PySem.W.nsIn K mainGlobals "LEAST_SINGLE" = some (some (.int 2 t_LEAST_SINGLE)))
    (m_MOST_SINGLE : PySem.W.nsIn K mainGlobals "MOST_SINGLE" = some (some (.int 12 t_MOST_SINGLE)))
    (m_ENDING : PySem.W.nsIn K mainGlobals "ENDING" = some (some (.ref a_ENDING)))
    (l_ENDING : K.lookup a_ENDING = some o_ENDING)
    (h_ENDING : tupB o_ENDING [.str "to", .str "the", .str "end"] = true)
    (kr_t48 : PySem.W.codeHdIn K cA48 (tabAddr K cA48) = true)
    (kr_u48 : (K.lookup (tabAddr K cA48)).isNone = true)
    (kr_v48 : ts.contains (tabAddr K cA48) = true)
    (kr_t50 : PySem.W.codeHdIn K cA50 (tabAddr K cA50) = true)
    (kr_u50 : (K.lookup (tabAddr K cA50)).isNone = true)
    (kr_v50 : ts.contains (tabAddr K cA50) = true)
    (kr_d50_48 : (tabAddr K cA50 == tabAddr K cA48) = false)
    : LamX.LawAtS l w K CX0 11 63 "script" mg fa h := by
  have e := hfa.symm.trans (PySem.W.mg_of X G a50)
  cases e
  let a : Ad := ⟨f0, PySem.W.fnOf "_wall" "_wall" (defArgs s__wall) (defBody s__wall) (defScope s__wall) .none kV0 dc0 pm0 an0 cd0 ct0, f1, PySem.W.fnOf "is_integer" "is_integer" (defArgs s_is_integer) (defBody s_is_integer) (defScope s_is_integer) .none kV1 dc1 pm1 an1 cd1 ct1, f2, PySem.W.fnOf "is_from" "is_from" (defArgs s_is_from) (defBody s_is_from) (defScope s_is_from) .none kV2 dc2 pm2 an2 cd2 ct2, f3, PySem.W.fnOf "is_between" "is_between" (defArgs s_is_between) (defBody s_is_between) (defScope s_is_between) .none kV3 dc3 pm3 an3 cd3 ct3, f4, PySem.W.fnOf "__init__" "BadWord.__init__" (defArgs s_BadWord_init) (defBody s_BadWord_init) (defScope s_BadWord_init) .none kV4 dc4 pm4 an4 cd4 ct4, f5, PySem.W.fnOf "__init__" "BadSize.__init__" (defArgs s_BadSize_init) (defBody s_BadSize_init) (defScope s_BadSize_init) .none kV5 dc5 pm5 an5 cd5 ct5, f6, PySem.W.fnOf "__init__" "BadCall.__init__" (defArgs s_BadCall_init) (defBody s_BadCall_init) (defScope s_BadCall_init) .none kV6 dc6 pm6 an6 cd6 ct6, f7, PySem.W.fnOf "is_figure_behind" "is_figure_behind" (defArgs s_is_figure_behind) (defBody s_is_figure_behind) (defScope s_is_figure_behind) .none kV7 dc7 pm7 an7 cd7 ct7, f8, PySem.W.fnOf "is_place_word" "is_place_word" (defArgs s_is_place_word) (defBody s_is_place_word) (defScope s_is_place_word) .none kV8 dc8 pm8 an8 cd8 ct8, f9, PySem.W.fnOf "is_amount" "is_amount" (defArgs s_is_amount) (defBody s_is_amount) (defScope s_is_amount) .none kV9 dc9 pm9 an9 cd9 ct9, f10, PySem.W.fnOf "place_of" "place_of" (defArgs s_place_of) (defBody s_place_of) (defScope s_place_of) .none kV10 dc10 pm10 an10 cd10 ct10, f11, PySem.W.fnOf "amount_of" "amount_of" (defArgs s_amount_of) (defBody s_amount_of) (defScope s_amount_of) .none kV11 dc11 pm11 an11 cd11 ct11, f12, PySem.W.fnOf "is_part" "is_part" (defArgs s_is_part) (defBody s_is_part) (defScope s_is_part) .none kV12 dc12 pm12 an12 cd12 ct12, f13, PySem.W.fnOf "read_move" "read_move" (defArgs s_read_move) (defBody s_read_move) (defScope s_read_move) .none kV13 dc13 pm13 an13 cd13 ct13, f14, PySem.W.fnOf "read_moves" "read_moves" (defArgs s_read_moves) (defBody s_read_moves) (defScope s_read_moves) .none kV14 dc14 pm14 an14 cd14 ct14, f15, PySem.W.fnOf "exchanged" "exchanged" (defArgs s_exchanged) (defBody s_exchanged) (defScope s_exchanged) .none kV15 dc15 pm15 an15 cd15 ct15, f16, PySem.W.fnOf "rolled" "rolled" (defArgs s_rolled) (defBody s_rolled) (defScope s_rolled) .none kV16 dc16 pm16 an16 cd16 ct16, f17, PySem.W.fnOf "moved" "moved" (defArgs s_moved) (defBody s_moved) (defScope s_moved) .none kV17 dc17 pm17 an17 cd17 ct17, f18, PySem.W.fnOf "__init__" "Word.__init__" (defArgs s_Word_init) (defBody s_Word_init) (defScope s_Word_init) .none kV18 dc18 pm18 an18 cd18 ct18, f19, PySem.W.fnOf "__eq__" "Word.__eq__" (defArgs s_Word_eq) (defBody s_Word_eq) (defScope s_Word_eq) .none kV19 dc19 pm19 an19 cd19 ct19, f20, PySem.W.fnOf "at" "Word.at" (defArgs s_Word_at) (defBody s_Word_at) (defScope s_Word_at) .none kV20 dc20 pm20 an20 cd20 ct20, f21, PySem.W.fnOf "read_along" "read_along" (defArgs s_read_along) (defBody s_read_along) (defScope s_read_along) .none kV21 dc21 pm21 an21 cd21 ct21, f22, PySem.W.fnOf "read_list" "read_list" (defArgs s_read_list) (defBody s_read_list) (defScope s_read_list) .none kV22 dc22 pm22 an22 cd22 ct22, f23, PySem.W.fnOf "read_body" "read_body" (defArgs s_read_body) (defBody s_read_body) (defScope s_read_body) .none kV23 dc23 pm23 an23 cd23 ct23, f24, PySem.W.fnOf "read_level" "read_level" (defArgs s_read_level) (defBody s_read_level) (defScope s_read_level) .none kV24 dc24 pm24 an24 cd24 ct24, f25, PySem.W.fnOf "__init__" "Level.__init__" (defArgs s_Level_init) (defBody s_Level_init) (defScope s_Level_init) (.ref dV25) kV25 dc25 pm25 an25 cd25 ct25, f26, PySem.W.fnOf "__eq__" "Level.__eq__" (defArgs s_Level_eq) (defBody s_Level_eq) (defScope s_Level_eq) .none kV26 dc26 pm26 an26 cd26 ct26, f27, PySem.W.fnOf "many_steps" "Level.many_steps" (defArgs s_Level_many_steps) (defBody s_Level_many_steps) (defScope s_Level_many_steps) .none kV27 dc27 pm27 an27 cd27 ct27, f28, PySem.W.fnOf "partner" "Level.partner" (defArgs s_Level_partner) (defBody s_Level_partner) (defScope s_Level_partner) .none kV28 dc28 pm28 an28 cd28 ct28, f29, PySem.W.fnOf "partners" "Level.partners" (defArgs s_Level_partners) (defBody s_Level_partners) (defScope s_Level_partners) .none kV29 dc29 pm29 an29 cd29 ct29, f30, PySem.W.fnOf "step" "Level.step" (defArgs s_Level_step) (defBody s_Level_step) (defScope s_Level_step) .none kV30 dc30 pm30 an30 cd30 ct30, f31, PySem.W.fnOf "_law_pen" "_law_pen" (defArgs s__law_pen) (defBody s__law_pen) (defScope s__law_pen) .none kV31 dc31 pm31 an31 cd31 ct31, f32, PySem.W.fnOf "_law_draw" "_law_draw" (defArgs s__law_draw) (defBody s__law_draw) (defScope s__law_draw) .none kV32 dc32 pm32 an32 cd32 ct32, f33, PySem.W.fnOf "_law_pick" "_law_pick" (defArgs s__law_pick) (defBody s__law_pick) (defScope s__law_pick) .none kV33 dc33 pm33 an33 cd33 ct33, f34, PySem.W.fnOf "_law_place_word" "_law_place_word" (defArgs s__law_place_word) (defBody s__law_place_word) (defScope s__law_place_word) .none kV34 dc34 pm34 an34 cd34 ct34, f35, PySem.W.fnOf "_law_value" "_law_value" (defArgs s__law_value) (defBody s__law_value) (defScope s__law_value) .none kV35 dc35 pm35 an35 cd35 ct35, f36, PySem.W.fnOf "_law_amount" "_law_amount" (defArgs s__law_amount) (defBody s__law_amount) (defScope s__law_amount) .none kV36 dc36 pm36 an36 cd36 ct36, f37, PySem.W.fnOf "_law_move" "_law_move" (defArgs s__law_move) (defBody s__law_move) (defScope s__law_move) .none kV37 dc37 pm37 an37 cd37 ct37, f38, PySem.W.fnOf "_law_moves" "_law_moves" (defArgs s__law_moves) (defBody s__law_moves) (defScope s__law_moves) .none kV38 dc38 pm38 an38 cd38 ct38, f39, PySem.W.fnOf "_law_word_text" "_law_word_text" (defArgs s__law_word_text) (defBody s__law_word_text) (defScope s__law_word_text) .none kV39 dc39 pm39 an39 cd39 ct39, f40, PySem.W.fnOf "_law_moved" "_law_moved" (defArgs s__law_moved) (defBody s__law_moved) (defScope s__law_moved) .none kV40 dc40 pm40 an40 cd40 ct40, f41, PySem.W.fnOf "_law_all_moved" "_law_all_moved" (defArgs s__law_all_moved) (defBody s__law_all_moved) (defScope s__law_all_moved) .none kV41 dc41 pm41 an41 cd41 ct41, f42, PySem.W.fnOf "_law_level" "_law_level" (defArgs s__law_level) (defBody s__law_level) (defScope s__law_level) .none kV42 dc42 pm42 an42 cd42 ct42, f43, PySem.W.fnOf "_law_level_text" "_law_level_text" (defArgs s__law_level_text) (defBody s__law_level_text) (defScope s__law_level_text) .none kV43 dc43 pm43 an43 cd43 ct43, f44, PySem.W.fnOf "_law_partner" "_law_partner" (defArgs s__law_partner) (defBody s__law_partner) (defScope s__law_partner) .none kV44 dc44 pm44 an44 cd44 ct44, f45, PySem.W.fnOf "_law_step" "_law_step" (defArgs s__law_step) (defBody s__law_step) (defScope s__law_step) .none kV45 dc45 pm45 an45 cd45 ct45, f46, PySem.W.fnOf "_law_met" "_law_met" (defArgs s__law_met) (defBody s__law_met) (defScope s__law_met) .none kV46 dc46 pm46 an46 cd46 ct46, f47, PySem.W.fnOf "_law_parts_right" "_law_parts_right" (defArgs s__law_parts_right) (defBody s__law_parts_right) (defScope s__law_parts_right) .none kV47 dc47 pm47 an47 cd47 ct47, f48, PySem.W.fnOf "_law_at_right" "_law_at_right" (defArgs s__law_at_right) (defBody s__law_at_right) (defScope s__law_at_right) .none kV48 dc48 pm48 an48 (.ref cA48) ct48, f49, PySem.W.fnOf "_law_equal_right" "_law_equal_right" (defArgs s__law_equal_right) (defBody s__law_equal_right) (defScope s__law_equal_right) .none kV49 dc49 pm49 an49 cd49 ct49, fa, PySem.W.fnOf "law" "law" (defArgs s_law) (defBody s_law) (defScope s_law) .none kV50 dc50 pm50 an50 (.ref cA50) ct50, C_EveryError, C_BadWord, C_BadSize, C_BadCall, C_Word, C_Level, a_FIGURES, a_PLACE_FRONTS, a_AMOUNT_FRONTS, a_SHAPES, a_ENDING, cA48, tabAddr K cA48, cA50, tabAddr K cA50⟩
  have F0 : Fun K "_wall" "_wall" s__wall a.f__wall a.d__wall := fun_mk (st := s__wall) l0 e0 k0
  have F1 : Fun K "is_integer" "is_integer" s_is_integer a.f_is_integer a.d_is_integer := fun_mk (st := s_is_integer) l1 e1 k1
  have F2 : Fun K "is_from" "is_from" s_is_from a.f_is_from a.d_is_from := fun_mk (st := s_is_from) l2 e2 k2
  have F3 : Fun K "is_between" "is_between" s_is_between a.f_is_between a.d_is_between := fun_mk (st := s_is_between) l3 e3 k3
  have F4 : Fun K "__init__" "BadWord.__init__" s_BadWord_init a.f_BadWord_init a.d_BadWord_init := fun_mk (st := s_BadWord_init) l4 e4 k4
  have F5 : Fun K "__init__" "BadSize.__init__" s_BadSize_init a.f_BadSize_init a.d_BadSize_init := fun_mk (st := s_BadSize_init) l5 e5 k5
  have F6 : Fun K "__init__" "BadCall.__init__" s_BadCall_init a.f_BadCall_init a.d_BadCall_init := fun_mk (st := s_BadCall_init) l6 e6 k6
  have F7 : Fun K "is_figure_behind" "is_figure_behind" s_is_figure_behind a.f_is_figure_behind a.d_is_figure_behind := fun_mk (st := s_is_figure_behind) l7 e7 k7
  have F8 : Fun K "is_place_word" "is_place_word" s_is_place_word a.f_is_place_word a.d_is_place_word := fun_mk (st := s_is_place_word) l8 e8 k8
  have F9 : Fun K "is_amount" "is_amount" s_is_amount a.f_is_amount a.d_is_amount := fun_mk (st := s_is_amount) l9 e9 k9
  have F10 : Fun K "place_of" "place_of" s_place_of a.f_place_of a.d_place_of := fun_mk (st := s_place_of) l10 e10 k10
  have F11 : Fun K "amount_of" "amount_of" s_amount_of a.f_amount_of a.d_amount_of := fun_mk (st := s_amount_of) l11 e11 k11
  have F12 : Fun K "is_part" "is_part" s_is_part a.f_is_part a.d_is_part := fun_mk (st := s_is_part) l12 e12 k12
  have F13 : Fun K "read_move" "read_move" s_read_move a.f_read_move a.d_read_move := fun_mk (st := s_read_move) l13 e13 k13
  have F14 : Fun K "read_moves" "read_moves" s_read_moves a.f_read_moves a.d_read_moves := fun_mk (st := s_read_moves) l14 e14 k14
  have F15 : Fun K "exchanged" "exchanged" s_exchanged a.f_exchanged a.d_exchanged := fun_mk (st := s_exchanged) l15 e15 k15
  have F16 : Fun K "rolled" "rolled" s_rolled a.f_rolled a.d_rolled := fun_mk (st := s_rolled) l16 e16 k16
  have F17 : Fun K "moved" "moved" s_moved a.f_moved a.d_moved := fun_mk (st := s_moved) l17 e17 k17
  have F18 : Fun K "__init__" "Word.__init__" s_Word_init a.f_Word_init a.d_Word_init := fun_mk (st := s_Word_init) l18 e18 k18
  have F19 : Fun K "__eq__" "Word.__eq__" s_Word_eq a.f_Word_eq a.d_Word_eq := fun_mk (st := s_Word_eq) l19 e19 k19
  have F20 : Fun K "at" "Word.at" s_Word_at a.f_Word_at a.d_Word_at := fun_mk (st := s_Word_at) l20 e20 k20
  have F21 : Fun K "read_along" "read_along" s_read_along a.f_read_along a.d_read_along := fun_mk (st := s_read_along) l21 e21 k21
  have F22 : Fun K "read_list" "read_list" s_read_list a.f_read_list a.d_read_list := fun_mk (st := s_read_list) l22 e22 k22
  have F23 : Fun K "read_body" "read_body" s_read_body a.f_read_body a.d_read_body := fun_mk (st := s_read_body) l23 e23 k23
  have F24 : Fun K "read_level" "read_level" s_read_level a.f_read_level a.d_read_level := fun_mk (st := s_read_level) l24 e24 k24
  have F25 : FunD K "__init__" "Level.__init__" (defArgs s_Level_init) (defBody s_Level_init) (defScope s_Level_init) [V.non] [] a.f_Level_init a.d_Level_init := ⟨⟨_, _, _, _, _, _, _, _, _, _, rfl, l25, e25, dfB_ok w25 h_w25, .inl rfl⟩, k25⟩
  have F26 : Fun K "__eq__" "Level.__eq__" s_Level_eq a.f_Level_eq a.d_Level_eq := fun_mk (st := s_Level_eq) l26 e26 k26
  have F27 : Fun K "many_steps" "Level.many_steps" s_Level_many_steps a.f_Level_many_steps a.d_Level_many_steps := fun_mk (st := s_Level_many_steps) l27 e27 k27
  have F28 : Fun K "partner" "Level.partner" s_Level_partner a.f_Level_partner a.d_Level_partner := fun_mk (st := s_Level_partner) l28 e28 k28
  have F29 : Fun K "partners" "Level.partners" s_Level_partners a.f_Level_partners a.d_Level_partners := fun_mk (st := s_Level_partners) l29 e29 k29
  have F30 : Fun K "step" "Level.step" s_Level_step a.f_Level_step a.d_Level_step := fun_mk (st := s_Level_step) l30 e30 k30
  have F31 : Fun K "_law_pen" "_law_pen" s__law_pen a.f__law_pen a.d__law_pen := fun_mk (st := s__law_pen) l31 e31 k31
  have F32 : Fun K "_law_draw" "_law_draw" s__law_draw a.f__law_draw a.d__law_draw := fun_mk (st := s__law_draw) l32 e32 k32
  have F33 : Fun K "_law_pick" "_law_pick" s__law_pick a.f__law_pick a.d__law_pick := fun_mk (st := s__law_pick) l33 e33 k33
  have F34 : Fun K "_law_place_word" "_law_place_word" s__law_place_word a.f__law_place_word a.d__law_place_word := fun_mk (st := s__law_place_word) l34 e34 k34
  have F35 : Fun K "_law_value" "_law_value" s__law_value a.f__law_value a.d__law_value := fun_mk (st := s__law_value) l35 e35 k35
  have F36 : Fun K "_law_amount" "_law_amount" s__law_amount a.f__law_amount a.d__law_amount := fun_mk (st := s__law_amount) l36 e36 k36
  have F37 : Fun K "_law_move" "_law_move" s__law_move a.f__law_move a.d__law_move := fun_mk (st := s__law_move) l37 e37 k37
  have F38 : Fun K "_law_moves" "_law_moves" s__law_moves a.f__law_moves a.d__law_moves := fun_mk (st := s__law_moves) l38 e38 k38
  have F39 : Fun K "_law_word_text" "_law_word_text" s__law_word_text a.f__law_word_text a.d__law_word_text := fun_mk (st := s__law_word_text) l39 e39 k39
  have F40 : Fun K "_law_moved" "_law_moved" s__law_moved a.f__law_moved a.d__law_moved := fun_mk (st := s__law_moved) l40 e40 k40
  have F41 : Fun K "_law_all_moved" "_law_all_moved" s__law_all_moved a.f__law_all_moved a.d__law_all_moved := fun_mk (st := s__law_all_moved) l41 e41 k41
  have F42 : Fun K "_law_level" "_law_level" s__law_level a.f__law_level a.d__law_level := fun_mk (st := s__law_level) l42 e42 k42
  have F43 : Fun K "_law_level_text" "_law_level_text" s__law_level_text a.f__law_level_text a.d__law_level_text := fun_mk (st := s__law_level_text) l43 e43 k43
  have F44 : Fun K "_law_partner" "_law_partner" s__law_partner a.f__law_partner a.d__law_partner := fun_mk (st := s__law_partner) l44 e44 k44
  have F45 : Fun K "_law_step" "_law_step" s__law_step a.f__law_step a.d__law_step := fun_mk (st := s__law_step) l45 e45 k45
  have F46 : Fun K "_law_met" "_law_met" s__law_met a.f__law_met a.d__law_met := fun_mk (st := s__law_met) l46 e46 k46
  have F47 : Fun K "_law_parts_right" "_law_parts_right" s__law_parts_right a.f__law_parts_right a.d__law_parts_right := fun_mk (st := s__law_parts_right) l47 e47 k47
  have F48 : Fun K "_law_at_right" "_law_at_right" s__law_at_right a.f__law_at_right a.d__law_at_right := fun_mk (st := s__law_at_right) l48 e48 k48
  have F49 : Fun K "_law_equal_right" "_law_equal_right" s__law_equal_right a.f__law_equal_right a.d__law_equal_right := fun_mk (st := s__law_equal_right) l49 e49 k49
  have F50 : Fun K "law" "law" s_law a.f_law a.d_law := fun_mk (st := s_law) l50 e50 k50
  have T : Tx w K mg a := ⟨(F0),
    (F0.binds (ps := ["k"]) fun _ _ _ _ _ _ us hl => match us, hl with | [_], _ => rfl),
    (PySem.W.mg_of X G a0),
    (F1),
    (F1.binds (ps := ["value"]) fun _ _ _ _ _ _ us hl => match us, hl with | [_], _ => rfl),
    (PySem.W.mg_of X G a1),
    (F2),
    (F2.binds (ps := ["value", "low"]) fun _ _ _ _ _ _ us hl => match us, hl with | [_, _], _ => rfl),
    (PySem.W.mg_of X G a2),
    (F3),
    (F3.binds (ps := ["value", "low", "high"]) fun _ _ _ _ _ _ us hl => match us, hl with | [_, _, _], _ => rfl),
    (PySem.W.mg_of X G a3),
    (F4),
    (F4.binds (ps := ["self", "index"]) fun _ _ _ _ _ _ us hl => match us, hl with | [_, _], _ => rfl),
    (F5),
    (F5.binds (ps := ["self", "size"]) fun _ _ _ _ _ _ us hl => match us, hl with | [_, _], _ => rfl),
    (F6),
    (F6.binds (ps := ["self", "call"]) fun _ _ _ _ _ _ us hl => match us, hl with | [_, _], _ => rfl),
    (F7),
    (F7.binds (ps := ["fronts", "text"]) fun _ _ _ _ _ _ us hl => match us, hl with | [_, _], _ => rfl),
    (PySem.W.mg_of X G a7),
    (F8),
    (F8.binds (ps := ["text"]) fun _ _ _ _ _ _ us hl => match us, hl with | [_], _ => rfl),
    (PySem.W.mg_of X G a8),
    (F9),
    (F9.binds (ps := ["text"]) fun _ _ _ _ _ _ us hl => match us, hl with | [_], _ => rfl),
    (PySem.W.mg_of X G a9),
    (F10),
    (F10.binds (ps := ["word", "size"]) fun _ _ _ _ _ _ us hl => match us, hl with | [_, _], _ => rfl),
    (PySem.W.mg_of X G a10),
    (F11),
    (F11.binds (ps := ["text", "length"]) fun _ _ _ _ _ _ us hl => match us, hl with | [_, _], _ => rfl),
    (PySem.W.mg_of X G a11),
    (F12),
    (F12.binds (ps := ["text", "kind"]) fun _ _ _ _ _ _ us hl => match us, hl with | [_, _], _ => rfl),
    (PySem.W.mg_of X G a12),
    (F13),
    (F13.binds (ps := ["parts", "start", "may_turn"]) fun _ _ _ _ _ _ us hl => match us, hl with | [_, _, _], _ => rfl),
    (PySem.W.mg_of X G a13),
    (F14),
    (F14.binds (ps := ["parts", "start"]) fun _ _ _ _ _ _ us hl => match us, hl with | [_, _], _ => rfl),
    (PySem.W.mg_of X G a14),
    (F15),
    (F15.binds (ps := ["old", "x", "y"]) fun _ _ _ _ _ _ us hl => match us, hl with | [_, _, _], _ => rfl),
    (PySem.W.mg_of X G a15),
    (F16),
    (F16.binds (ps := ["old", "x", "y", "amount"]) fun _ _ _ _ _ _ us hl => match us, hl with | [_, _, _, _], _ => rfl),
    (PySem.W.mg_of X G a16),
    (F17),
    (F17.binds (ps := ["old", "move"]) fun _ _ _ _ _ _ us hl => match us, hl with | [_, _], _ => rfl),
    (PySem.W.mg_of X G a17),
    (F18),
    (F18.binds (ps := ["self", "text"]) fun _ _ _ _ _ _ us hl => match us, hl with | [_, _], _ => rfl),
    (F19),
    (F19.binds (ps := ["self", "other"]) fun _ _ _ _ _ _ us hl => match us, hl with | [_, _], _ => rfl),
    (F20),
    (F20.binds (ps := ["self", "k"]) fun _ _ _ _ _ _ us hl => match us, hl with | [_, _], _ => rfl),
    (F21),
    (F21.binds (ps := ["parts"]) fun _ _ _ _ _ _ us hl => match us, hl with | [_], _ => rfl),
    (PySem.W.mg_of X G a21),
    (F22),
    (F22.binds (ps := ["parts", "size"]) fun _ _ _ _ _ _ us hl => match us, hl with | [_, _], _ => rfl),
    (PySem.W.mg_of X G a22),
    (F23),
    (F23.binds (ps := ["parts", "size"]) fun _ _ _ _ _ _ us hl => match us, hl with | [_, _], _ => rfl),
    (PySem.W.mg_of X G a23),
    (F24),
    (F24.binds (ps := ["parts", "size"]) fun _ _ _ _ _ _ us hl => match us, hl with | [_, _], _ => rfl),
    (PySem.W.mg_of X G a24),
    (F25),
    (binds_full (F25.binds1 (ps := ["self", "text", "size"]) 3 1 (by simp) (by rfl) fun _ _ _ _ _ _ _ us its hu hi => match us, its, hu, hi with | [_, _, _], [_], _, _ => ⟨_, rfl, rfl⟩)),
    (F25.binds1 (ps := ["self", "text", "size"]) 2 0 (by simp) (by rfl) fun _ _ _ _ _ _ _ us its hu hi => match us, its, hu, hi with | [_, _], [_], _, _ => ⟨_, rfl, rfl⟩),
    (F26),
    (F26.binds (ps := ["self", "other"]) fun _ _ _ _ _ _ us hl => match us, hl with | [_, _], _ => rfl),
    (F27),
    (F27.binds (ps := ["self", "k"]) fun _ _ _ _ _ _ us hl => match us, hl with | [_, _], _ => rfl),
    (F28),
    (F28.binds (ps := ["self", "k", "i"]) fun _ _ _ _ _ _ us hl => match us, hl with | [_, _, _], _ => rfl),
    (F29),
    (F29.binds (ps := ["self", "k", "many"]) fun _ _ _ _ _ _ us hl => match us, hl with | [_, _, _], _ => rfl),
    (F30),
    (F30.binds (ps := ["self", "k", "i"]) fun _ _ _ _ _ _ us hl => match us, hl with | [_, _, _], _ => rfl),
    (F31),
    (F31.binds (ps := ["script"]) fun _ _ _ _ _ _ us hl => match us, hl with | [_], _ => rfl),
    (PySem.W.mg_of X G a31),
    (F32),
    (F32.binds (ps := ["pen", "many"]) fun _ _ _ _ _ _ us hl => match us, hl with | [_, _], _ => rfl),
    (PySem.W.mg_of X G a32),
    (F33),
    (F33.binds (ps := ["pen", "some"]) fun _ _ _ _ _ _ us hl => match us, hl with | [_, _], _ => rfl),
    (PySem.W.mg_of X G a33),
    (F34),
    (F34.binds (ps := ["pen"]) fun _ _ _ _ _ _ us hl => match us, hl with | [_], _ => rfl),
    (PySem.W.mg_of X G a34),
    (F35),
    (F35.binds (ps := ["word", "k"]) fun _ _ _ _ _ _ us hl => match us, hl with | [_, _], _ => rfl),
    (PySem.W.mg_of X G a35),
    (F36),
    (F36.binds (ps := ["pen"]) fun _ _ _ _ _ _ us hl => match us, hl with | [_], _ => rfl),
    (PySem.W.mg_of X G a36),
    (F37),
    (F37.binds (ps := ["pen", "has_turn"]) fun _ _ _ _ _ _ us hl => match us, hl with | [_, _], _ => rfl),
    (PySem.W.mg_of X G a37),
    (F38),
    (F38.binds (ps := ["pen"]) fun _ _ _ _ _ _ us hl => match us, hl with | [_], _ => rfl),
    (PySem.W.mg_of X G a38),
    (F39),
    (F39.binds (ps := ["moves"]) fun _ _ _ _ _ _ us hl => match us, hl with | [_], _ => rfl),
    (PySem.W.mg_of X G a39),
    (F40),
    (F40.binds (ps := ["row", "move"]) fun _ _ _ _ _ _ us hl => match us, hl with | [_, _], _ => rfl),
    (PySem.W.mg_of X G a40),
    (F41),
    (F41.binds (ps := ["row", "moves"]) fun _ _ _ _ _ _ us hl => match us, hl with | [_, _], _ => rfl),
    (PySem.W.mg_of X G a41),
    (F42),
    (F42.binds (ps := ["pen", "size"]) fun _ _ _ _ _ _ us hl => match us, hl with | [_, _], _ => rfl),
    (PySem.W.mg_of X G a42),
    (F43),
    (F43.binds (ps := ["level"]) fun _ _ _ _ _ _ us hl => match us, hl with | [_], _ => rfl),
    (PySem.W.mg_of X G a43),
    (F44),
    (F44.binds (ps := ["level", "k", "i"]) fun _ _ _ _ _ _ us hl => match us, hl with | [_, _, _], _ => rfl),
    (PySem.W.mg_of X G a44),
    (F45),
    (F45.binds (ps := ["level", "k", "i"]) fun _ _ _ _ _ _ us hl => match us, hl with | [_, _, _], _ => rfl),
    (PySem.W.mg_of X G a45),
    (F46),
    (F46.binds (ps := ["call"]) fun _ _ _ _ _ _ us hl => match us, hl with | [_], _ => rfl),
    (PySem.W.mg_of X G a46),
    (F47),
    (F47.binds (ps := ["made", "level"]) fun _ _ _ _ _ _ us hl => match us, hl with | [_, _], _ => rfl),
    (PySem.W.mg_of X G a47),
    (F48),
    (⟨_, _, _, _, _, _, _, _, rfl, l48, e48⟩),
    (F48.binds (ps := ["pen", "made", "level", "size"]) fun _ _ _ _ _ _ us hl => match us, hl with | [_, _, _, _], _ => rfl),
    (PySem.W.mg_of X G a48),
    (F49),
    (F49.binds (ps := ["made", "level", "own"]) fun _ _ _ _ _ _ us hl => match us, hl with | [_, _, _], _ => rfl),
    (PySem.W.mg_of X G a49),
    (F50),
    (⟨_, _, _, _, _, _, _, _, rfl, l50, e50⟩),
    (F50.binds (ps := ["script"]) fun _ _ _ _ _ _ us hl => match us, hl with | [_], _ => rfl),
    (PySem.W.mg_of X G a50),
    (PySem.W.mg_of X G c_EveryError),
    (PySem.W.mg_of X G c_BadWord),
    (PySem.W.mg_of X G c_BadSize),
    (PySem.W.mg_of X G c_BadCall),
    (PySem.W.mg_of X G c_Word),
    (PySem.W.mg_of X G c_Level),
    (⟨pg_Word, hd_Word, po_Word, sa_Word⟩),
    (⟨mk_Word, a18, i_Word_init, kc_Word⟩),
    (n_Word_text),
    (n_Word_moves),
    (n_Word_has_turn),
    (⟨a20, i_Word_at, k20⟩),
    (⟨a19, i_Word_eq, og_Word, on_Word, ot_Word, om_Word, of_Word, ok_Word⟩),
    (⟨pg_Level, hd_Level, po_Level, sa_Level⟩),
    (⟨mk_Level, a25, i_Level_init, kc_Level⟩),
    (n_Level_text),
    (n_Level_kind),
    (n_Level_to_end),
    (n_Level_word),
    (n_Level_factor),
    (n_Level_place),
    (n_Level_entries),
    (⟨a27, i_Level_many_steps, k27⟩),
    (⟨a28, i_Level_partner, k28⟩),
    (⟨a29, i_Level_partners, k29⟩),
    (⟨a30, i_Level_step, k30⟩),
    (⟨a26, i_Level_eq, og_Level, on_Level, ot_Level, om_Level, of_Level, ok_Level⟩),
    (⟨o2a_Level, o2b_Level, o2c_Level, ok_int_Level, ok_tup_Level⟩),
    (⟨⟨⟨en_BadWord, eq_BadWord, eN_BadWord, eb_BadWord, em_BadWord, es_BadWord, eu_BadWord, ea_BadWord, eo_BadWord, ed_BadWord, e0_BadWord, e1_BadWord, e2_BadWord, e3_BadWord, e5_BadWord, xl_BadWord, xr_BadWord⟩, xsa_BadWord, xex_BadWord, xty_BadWord, xkc_BadWord⟩, a4, xti_BadWord, xno_BadWord, ⟨xga_BadWord, xgg_BadWord, xex_BadWord, xhd_BadWord⟩, ⟨xga_BadWord, xgg_BadWord, xex_BadWord, xhd_BadWord, xha_BadWord, xhn_BadWord, xht_BadWord, xhm_BadWord⟩⟩),
    (exm_ofHd xex_BadCall xhd_BadCall xty_BadCall xs_BadWord_BadCall),
    (exm_ofHd xex_BadSize xhd_BadSize xty_BadSize xs_BadWord_BadSize),
    (ok_BadWord_EveryError),
    (⟨⟨⟨en_BadSize, eq_BadSize, eN_BadSize, eb_BadSize, em_BadSize, es_BadSize, eu_BadSize, ea_BadSize, eo_BadSize, ed_BadSize, e0_BadSize, e1_BadSize, e2_BadSize, e3_BadSize, e5_BadSize, xl_BadSize, xr_BadSize⟩, xsa_BadSize, xex_BadSize, xty_BadSize, xkc_BadSize⟩, a5, xti_BadSize, xno_BadSize, ⟨xga_BadSize, xgg_BadSize, xex_BadSize, xhd_BadSize⟩, ⟨xga_BadSize, xgg_BadSize, xex_BadSize, xhd_BadSize, xha_BadSize, xhn_BadSize, xht_BadSize, xhm_BadSize⟩⟩),
    (exm_ofHd xex_BadCall xhd_BadCall xty_BadCall xs_BadSize_BadCall),
    (exm_ofHd xex_BadSize xhd_BadSize xty_BadSize xs_BadSize_BadSize),
    (ok_BadSize_EveryError),
    (⟨⟨⟨en_BadCall, eq_BadCall, eN_BadCall, eb_BadCall, em_BadCall, es_BadCall, eu_BadCall, ea_BadCall, eo_BadCall, ed_BadCall, e0_BadCall, e1_BadCall, e2_BadCall, e3_BadCall, e5_BadCall, xl_BadCall, xr_BadCall⟩, xsa_BadCall, xex_BadCall, xty_BadCall, xkc_BadCall⟩, a6, xti_BadCall, xno_BadCall, ⟨xga_BadCall, xgg_BadCall, xex_BadCall, xhd_BadCall⟩, ⟨xga_BadCall, xgg_BadCall, xex_BadCall, xhd_BadCall, xha_BadCall, xhn_BadCall, xht_BadCall, xhm_BadCall⟩⟩),
    (exm_ofHd xex_BadCall xhd_BadCall xty_BadCall xs_BadCall_BadCall),
    (exm_ofHd xex_BadSize xhd_BadSize xty_BadSize xs_BadCall_BadSize),
    (ok_BadCall_EveryError),
    (PySem.W.mg_none_of X G z_bool),
    (PySem.W.mg_none_of X G z_enumerate),
    (PySem.W.mg_none_of X G z_int),
    (PySem.W.mg_none_of X G z_isinstance),
    (PySem.W.mg_none_of X G z_len),
    (PySem.W.mg_none_of X G z_list),
    (PySem.W.mg_none_of X G z_min),
    (PySem.W.mg_none_of X G z_range),
    (PySem.W.mg_none_of X G z_str),
    (PySem.W.mg_none_of X G z_tuple),
    (⟨_, PySem.W.mg_of X G m_MOST_PLACES⟩),
    (⟨_, PySem.W.mg_of X G m_MOST_MOVES⟩),
    (PySem.W.mg_of X G m_FIGURES),
    (fun H => tupB_ok l_FIGURES h_FIGURES),
    (PySem.W.mg_of X G m_PLACE_FRONTS),
    (fun H => tupB_ok l_PLACE_FRONTS h_PLACE_FRONTS),
    (PySem.W.mg_of X G m_AMOUNT_FRONTS),
    (fun H => tupB_ok l_AMOUNT_FRONTS h_AMOUNT_FRONTS),
    (PySem.W.mg_of X G m_SHAPES),
    (⟨_, _, l_SHAPES, y_SHAPES, h_SHAPES⟩),
    (e_SHAPES),
    (⟨_, _, ⟨l_SHAPES, y_SHAPES, h_SHAPES⟩, h_k_SHAPES⟩),
    (⟨_, v_SHAPES_0, fun H => tupB_ok l_SHAPES_0 h_SHAPES_0⟩),
    (⟨_, v_SHAPES_1, fun H => tupB_ok l_SHAPES_1 h_SHAPES_1⟩),
    (⟨_, v_SHAPES_2, fun H => tupB_ok l_SHAPES_2 h_SHAPES_2⟩),
    (⟨_, PySem.W.mg_of X G m_NO_PART⟩),
    (⟨_, PySem.W.mg_of X G m_LEAST_SINGLE⟩),
    (⟨_, PySem.W.mg_of X G m_MOST_SINGLE⟩),
    (PySem.W.mg_of X G m_ENDING),
    (fun H => tupB_ok l_ENDING h_ENDING)⟩
  refine ⟨a.d_law, [(cA48, tabAddr K cA48), (cA50, tabAddr K cA50)], spLaw K (tabsOf a), (List.forall_mem_cons.mpr ⟨tabs_at hts kr_v48, (List.forall_mem_cons.mpr ⟨tabs_at hts kr_v50, (fun _ h => nomatch h)⟩)⟩), (List.forall_mem_cons.mpr ⟨Option.isNone_iff_eq_none.mp kr_u48, (List.forall_mem_cons.mpr ⟨Option.isNone_iff_eq_none.mp kr_u50, (fun _ h => nomatch h)⟩)⟩), (List.forall_mem_cons.mpr ⟨PySem.W.codeHd_of_K X kr_t48, (List.forall_mem_cons.mpr ⟨PySem.W.codeHd_of_K X kr_t50, (fun _ h => nomatch h)⟩)⟩), fun s v => .of_eq rfl, fun H p ns hl hb hT hS => ?_, fun base KB GB hB => ?_⟩
  · exact ⟨p, ns, rfl, hS, hl, tabs_nil (T := tabsOf a) (cs := [(cA48, tabAddr K cA48), (cA50, tabAddr K cA50)]) rfl hT, fun _ => rfl⟩
  · have B : Tb base mg a := ⟨hB _ (.head _), (List.forall_mem_cons.mpr ⟨fun _ => rfl, (List.forall_mem_cons.mpr ⟨fun z => absurd z (beq_eq_false_iff_ne.mp kr_d50_48), (fun _ h => nomatch h)⟩)⟩), hB _ (.tail _ (.head _)), (List.forall_mem_cons.mpr ⟨fun z => absurd z.symm (beq_eq_false_iff_ne.mp kr_d50_48), (List.forall_mem_cons.mpr ⟨fun _ => rfl, (fun _ h => nomatch h)⟩)⟩)⟩
    exact ok_law T B
end Pf09
open PySem PySem.W PyProof.Rows
set_option maxRecDepth 100000 in
set_option maxHeartbeats 0 in
theorem PySem.Challenge.cw_everyorder_k09_whole_levels_and_their_st_holds : PySem.Challenge.rw_everyorder_k09_whole_levels_and_their_st.Holds := by
  w_on; o_law; k_head; (case hw => w_witness2)
  k_fill
  refine LamX.walk_ofTs (l := PySem.Challenge.rw_everyorder_k09_whole_levels_and_their_st) (n := 63) (k := 11) (x := "script") (CX := fun _ => L2.CX0) rfl (by decide) rfl ⟨rfl, by decide, by decide⟩ (fun w h Y => PySem.W.km_in_of Y) ?F (fun _ _ _ _ _ h => h)
  case F =>
    intro w mg fa h Y KX G hmg
    refine' Pf09.all_mk KX G hmg (PySem.W.km_tabs_of Y) ?c_EveryError ?c_BadWord ?c_BadSize ?c_BadCall ?c_Word ?c_Level ?a0 ?l0 ?e0 ?k0 ?a1 ?l1 ?e1 ?k1 ?a2 ?l2 ?e2 ?k2 ?a3 ?l3 ?e3 ?k3 ?a4 ?l4 ?e4 ?k4 ?a5 ?l5 ?e5 ?k5 ?a6 ?l6 ?e6 ?k6 ?a7 ?l7 ?e7 ?k7 ?a8 ?l8 ?e8 ?k8 ?a9 ?l9 ?e9 ?k9 ?a10 ?l10 ?e10 ?k10 ?a11 ?l11 ?e11 ?k11 ?a12 ?l12 ?e12 ?k12 ?a13 ?l13 ?e13 ?k13 ?a14 ?l14 ?e14 ?k14 ?a15 ?l15 ?e15 ?k15 ?a16 ?l16 ?e16 ?k16 ?a17 ?l17 ?e17 ?k17 ?a18 ?l18 ?e18 ?k18 ?a19 ?l19 ?e19 ?k19 ?a20 ?l20 ?e20 ?k20 ?a21 ?l21 ?e21 ?k21 ?a22 ?l22 ?e22 ?k22 ?a23 ?l23 ?e23 ?k23 ?a24 ?l24 ?e24 ?k24 ?a25 ?l25 ?w25 ?h_w25 ?e25 ?k25 ?a26 ?l26 ?e26 ?k26 ?a27 ?l27 ?e27 ?k27 ?a28 ?l28 ?e28 ?k28 ?a29 ?l29 ?e29 ?k29 ?a30 ?l30 ?e30 ?k30 ?a31 ?l31 ?e31 ?k31 ?a32 ?l32 ?e32 ?k32 ?a33 ?l33 ?e33 ?k33 ?a34 ?l34 ?e34 ?k34 ?a35 ?l35 ?e35 ?k35 ?a36 ?l36 ?e36 ?k36 ?a37 ?l37 ?e37 ?k37 ?a38 ?l38 ?e38 ?k38 ?a39 ?l39 ?e39 ?k39 ?a40 ?l40 ?e40 ?k40 ?a41 ?l41 ?e41 ?k41 ?a42 ?l42 ?e42 ?k42 ?a43 ?l43 ?e43 ?k43 ?a44 ?l44 ?e44 ?k44 ?a45 ?l45 ?e45 ?k45 ?a46 ?l46 ?e46 ?k46 ?a47 ?l47 ?e47 ?k47 ?a48 ?l48 ?e48 ?k48 ?a49 ?l49 ?e49 ?k49 ?a50 ?l50 ?e50 ?k50 ?pg_Word ?hd_Word ?po_Word ?sa_Word ?mk_Word ?kc_Word ?n_Word_text ?n_Word_moves ?n_Word_has_turn ?i_Word_init ?i_Word_eq ?i_Word_at ?og_Word ?on_Word ?ot_Word ?om_Word ?of_Word ?ok_Word ?pg_Level ?hd_Level ?po_Level ?sa_Level ?mk_Level ?kc_Level ?n_Level_text ?n_Level_kind ?n_Level_to_end ?n_Level_word ?n_Level_factor ?n_Level_place ?n_Level_entries ?i_Level_init ?i_Level_eq ?i_Level_many_steps ?i_Level_partner ?i_Level_partners ?i_Level_step ?og_Level ?on_Level ?ot_Level ?om_Level ?of_Level ?ok_Level ?o2a_Level ?o2b_Level ?o2c_Level ?ok_int_Level ?ok_tup_Level ?xl_BadWord ?xr_BadWord ?xsa_BadWord ?xex_BadWord ?xty_BadWord ?xkc_BadWord ?xga_BadWord ?xgg_BadWord ?xhd_BadWord ?xha_BadWord ?xhm_BadWord ?xno_BadWord ?xhn_BadWord ?xht_BadWord ?xti_BadWord ?xs_BadWord_BadCall ?xs_BadWord_BadSize ?ok_BadWord_EveryError ?xl_BadSize ?xr_BadSize ?xsa_BadSize ?xex_BadSize ?xty_BadSize ?xkc_BadSize ?xga_BadSize ?xgg_BadSize ?xhd_BadSize ?xha_BadSize ?xhm_BadSize ?xno_BadSize ?xhn_BadSize ?xht_BadSize ?xti_BadSize ?xs_BadSize_BadCall ?xs_BadSize_BadSize ?ok_BadSize_EveryError ?xl_BadCall ?xr_BadCall ?xsa_BadCall ?xex_BadCall ?xty_BadCall ?xkc_BadCall ?xga_BadCall ?xgg_BadCall ?xhd_BadCall ?xha_BadCall ?xhm_BadCall ?xno_BadCall ?xhn_BadCall ?xht_BadCall ?xti_BadCall ?xs_BadCall_BadCall ?xs_BadCall_BadSize ?ok_BadCall_EveryError ?z_bool ?z_enumerate ?z_int ?z_isinstance ?z_len ?z_list ?z_min ?z_range ?z_str ?z_tuple ?m_MOST_PLACES ?m_MOST_MOVES ?m_FIGURES ?l_FIGURES ?h_FIGURES ?m_PLACE_FRONTS ?l_PLACE_FRONTS ?h_PLACE_FRONTS ?m_AMOUNT_FRONTS ?l_AMOUNT_FRONTS ?h_AMOUNT_FRONTS ?m_SHAPES ?l_SHAPES ?y_SHAPES ?h_SHAPES ?e_SHAPES ?h_k_SHAPES ?v_SHAPES_0 ?l_SHAPES_0 ?h_SHAPES_0 ?v_SHAPES_1 ?l_SHAPES_1 ?h_SHAPES_1 ?v_SHAPES_2 ?l_SHAPES_2 ?h_SHAPES_2 ?m_NO_PART ?m_LEAST_SINGLE ?m_MOST_SINGLE ?m_ENDING ?l_ENDING ?h_ENDING ?kr_t48 ?kr_u48 ?kr_v48 ?kr_t50 ?kr_u50 ?kr_v50 ?kr_d50_48
    (case c_EveryError => k_is)
    (case c_BadWord => k_is)
    (case c_BadSize => k_is)
    (case c_BadCall => k_is)
    (case c_Word => k_is)
    (case c_Level => k_is)
    (case a0 => k_is)
    (case l0 => k_is)
    (case e0 => k_is)
    (case k0 => k_is)
    (case a1 => k_is)
    (case l1 => k_is)
    (case e1 => k_is)
    (case k1 => k_is)
    (case a2 => k_is)
    (case l2 => k_is)
    (case e2 => k_is)
    (case k2 => k_is)
    (case a3 => k_is)
    (case l3 => k_is)
    (case e3 => k_is)
    (case k3 => k_is)
    (case a4 => k_is)
    (case l4 => k_is)
    (case e4 => k_is)
    (case k4 => k_is)
    (case a5 => k_is)
    (case l5 => k_is)
    (case e5 => k_is)
    (case k5 => k_is)
    (case a6 => k_is)
    (case l6 => k_is)
    (case e6 => k_is)
    (case k6 => k_is)
    (case a7 => k_is)
    (case l7 => k_is)
    (case e7 => k_is)
    (case k7 => k_is)
    (case a8 => k_is)
    (case l8 => k_is)
    (case e8 => k_is)
    (case k8 => k_is)
    (case a9 => k_is)
    (case l9 => k_is)
    (case e9 => k_is)
    (case k9 => k_is)
    (case a10 => k_is)
    (case l10 => k_is)
    (case e10 => k_is)
    (case k10 => k_is)
    (case a11 => k_is)
    (case l11 => k_is)
    (case e11 => k_is)
    (case k11 => k_is)
    (case a12 => k_is)
    (case l12 => k_is)
    (case e12 => k_is)
    (case k12 => k_is)
    (case a13 => k_is)
    (case l13 => k_is)
    (case e13 => k_is)
    (case k13 => k_is)
    (case a14 => k_is)
    (case l14 => k_is)
    (case e14 => k_is)
    (case k14 => k_is)
    (case a15 => k_is)
    (case l15 => k_is)
    (case e15 => k_is)
    (case k15 => k_is)
    (case a16 => k_is)
    (case l16 => k_is)
    (case e16 => k_is)
    (case k16 => k_is)
    (case a17 => k_is)
    (case l17 => k_is)
    (case e17 => k_is)
    (case k17 => k_is)
    (case a18 => k_is)
    (case l18 => k_is)
    (case e18 => k_is)
    (case k18 => k_is)
    (case a19 => k_is)
    (case l19 => k_is)
    (case e19 => k_is)
    (case k19 => k_is)
    (case a20 => k_is)
    (case l20 => k_is)
    (case e20 => k_is)
    (case k20 => k_is)
    (case a21 => k_is)
    (case l21 => k_is)
    (case e21 => k_is)
    (case k21 => k_is)
    (case a22 => k_is)
    (case l22 => k_is)
    (case e22 => k_is)
    (case k22 => k_is)
    (case a23 => k_is)
    (case l23 => k_is)
    (case e23 => k_is)
    (case k23 => k_is)
    (case a24 => k_is)
    (case l24 => k_is)
    (case e24 => k_is)
    (case k24 => k_is)
    (case a25 => k_is)
    (case l25 => k_is)
    (case w25 => k_is)
    (case h_w25 => first | rfl | decide +kernel)
    (case e25 => k_is)
    (case k25 => k_is)
    (case a26 => k_is)
    (case l26 => k_is)
    (case e26 => k_is)
    (case k26 => k_is)
    (case a27 => k_is)
    (case l27 => k_is)
    (case e27 => k_is)
    (case k27 => k_is)
    (case a28 => k_is)
    (case l28 => k_is)
    (case e28 => k_is)
    (case k28 => k_is)
    (case a29 => k_is)
    (case l29 => k_is)
    (case e29 => k_is)
    (case k29 => k_is)
    (case a30 => k_is)
    (case l30 => k_is)
    (case e30 => k_is)
    (case k30 => k_is)
    (case a31 => k_is)
    (case l31 => k_is)
    (case e31 => k_is)
    (case k31 => k_is)
    (case a32 => k_is)
    (case l32 => k_is)
    (case e32 => k_is)
    (case k32 => k_is)
    (case a33 => k_is)
    (case l33 => k_is)
    (case e33 => k_is)
    (case k33 => k_is)
    (case a34 => k_is)
    (case l34 => k_is)
    (case e34 => k_is)
    (case k34 => k_is)
    (case a35 => k_is)
    (case l35 => k_is)
    (case e35 => k_is)
    (case k35 => k_is)
    (case a36 => k_is)
    (case l36 => k_is)
    (case e36 => k_is)
    (case k36 => k_is)
    (case a37 => k_is)
    (case l37 => k_is)
    (case e37 => k_is)
    (case k37 => k_is)
    (case a38 => k_is)
    (case l38 => k_is)
    (case e38 => k_is)
    (case k38 => k_is)
    (case a39 => k_is)
    (case l39 => k_is)
    (case e39 => k_is)
    (case k39 => k_is)
    (case a40 => k_is)
    (case l40 => k_is)
    (case e40 => k_is)
    (case k40 => k_is)
    (case a41 => k_is)
    (case l41 => k_is)
    (case e41 => k_is)
    (case k41 => k_is)
    (case a42 => k_is)
    (case l42 => k_is)
    (case e42 => k_is)
    (case k42 => k_is)
    (case a43 => k_is)
    (case l43 => k_is)
    (case e43 => k_is)
    (case k43 => k_is)
    (case a44 => k_is)
    (case l44 => k_is)
    (case e44 => k_is)
    (case k44 => k_is)
    (case a45 => k_is)
    (case l45 => k_is)
    (case e45 => k_is)
    (case k45 => k_is)
    (case a46 => k_is)
    (case l46 => k_is)
    (case e46 => k_is)
    (case k46 => k_is)
    (case a47 => k_is)
    (case l47 => k_is)
    (case e47 => k_is)
    (case k47 => k_is)
    (case a48 => k_is)
    (case l48 => k_is)
    (case e48 => k_is)
    (case k48 => k_is)
    (case a49 => k_is)
    (case l49 => k_is)
    (case e49 => k_is)
    (case k49 => k_is)
    (case a50 => k_is)
    (case l50 => k_is)
    (case e50 => k_is)
    (case k50 => k_is)
    (case pg_Word => k_is)
    (case hd_Word => k_is)
    (case po_Word => k_is)
    (case sa_Word => k_is)
    (case mk_Word => k_is)
    (case kc_Word => k_is)
    (case n_Word_text => k_is)
    (case n_Word_moves => k_is)
    (case n_Word_has_turn => k_is)
    (case i_Word_init => k_is)
    (case i_Word_eq => k_is)
    (case i_Word_at => k_is)
    (case og_Word => k_is)
    (case on_Word => k_is)
    (case ot_Word => k_is)
    (case om_Word => k_is)
    (case of_Word => k_is)
    (case ok_Word => kit_is)
    (case pg_Level => k_is)
    (case hd_Level => k_is)
    (case po_Level => k_is)
    (case sa_Level => k_is)
    (case mk_Level => k_is)
    (case kc_Level => k_is)
    (case n_Level_text => k_is)
    (case n_Level_kind => k_is)
    (case n_Level_to_end => k_is)
    (case n_Level_word => k_is)
    (case n_Level_factor => k_is)
    (case n_Level_place => k_is)
    (case n_Level_entries => k_is)
    (case i_Level_init => k_is)
    (case i_Level_eq => k_is)
    (case i_Level_many_steps => k_is)
    (case i_Level_partner => k_is)
    (case i_Level_partners => k_is)
    (case i_Level_step => k_is)
    (case og_Level => k_is)
    (case on_Level => k_is)
    (case ot_Level => k_is)
    (case om_Level => k_is)
    (case of_Level => k_is)
    (case ok_Level => kit_is)
    (case o2a_Level => k_is)
    (case o2b_Level => k_is)
    (case o2c_Level => k_is)
    (case ok_int_Level => kit_is)
    (case ok_tup_Level => kit_is)
    (case xl_BadWord => k_is)
    (case xr_BadWord => first | rfl | decide +kernel)
    (case xsa_BadWord => k_is)
    (case xex_BadWord => k_is)
    (case xty_BadWord => k_is)
    (case xkc_BadWord => k_is)
    (case xga_BadWord => k_is)
    (case xgg_BadWord => k_is)
    (case xhd_BadWord => k_is)
    (case xha_BadWord => k_is)
    (case xhm_BadWord => k_is)
    (case xno_BadWord => k_is)
    (case xhn_BadWord => k_is)
    (case xht_BadWord => k_is)
    (case xti_BadWord => k_is)
    (case xs_BadWord_BadCall => k_is)
    (case xs_BadWord_BadSize => k_is)
    (case ok_BadWord_EveryError => kit_is)
    (case xl_BadSize => k_is)
    (case xr_BadSize => first | rfl | decide +kernel)
    (case xsa_BadSize => k_is)
    (case xex_BadSize => k_is)
    (case xty_BadSize => k_is)
    (case xkc_BadSize => k_is)
    (case xga_BadSize => k_is)
    (case xgg_BadSize => k_is)
    (case xhd_BadSize => k_is)
    (case xha_BadSize => k_is)
    (case xhm_BadSize => k_is)
    (case xno_BadSize => k_is)
    (case xhn_BadSize => k_is)
    (case xht_BadSize => k_is)
    (case xti_BadSize => k_is)
    (case xs_BadSize_BadCall => k_is)
    (case xs_BadSize_BadSize => k_is)
    (case ok_BadSize_EveryError => kit_is)
    (case xl_BadCall => k_is)
    (case xr_BadCall => first | rfl | decide +kernel)
    (case xsa_BadCall => k_is)
    (case xex_BadCall => k_is)
    (case xty_BadCall => k_is)
    (case xkc_BadCall => k_is)
    (case xga_BadCall => k_is)
    (case xgg_BadCall => k_is)
    (case xhd_BadCall => k_is)
    (case xha_BadCall => k_is)
    (case xhm_BadCall => k_is)
    (case xno_BadCall => k_is)
    (case xhn_BadCall => k_is)
    (case xht_BadCall => k_is)
    (case xti_BadCall => k_is)
    (case xs_BadCall_BadCall => k_is)
    (case xs_BadCall_BadSize => k_is)
    (case ok_BadCall_EveryError => kit_is)
    (case z_bool => k_is)
    (case z_enumerate => k_is)
    (case z_int => k_is)
    (case z_isinstance => k_is)
    (case z_len => k_is)
    (case z_list => k_is)
    (case z_min => k_is)
    (case z_range => k_is)
    (case z_str => k_is)
    (case z_tuple => k_is)
    (case m_MOST_PLACES => k_is)
    (case m_MOST_MOVES => k_is)
    (case m_FIGURES => k_is)
    (case l_FIGURES => k_is)
    (case h_FIGURES => first | rfl | decide +kernel)
    (case m_PLACE_FRONTS => k_is)
    (case l_PLACE_FRONTS => k_is)
    (case h_PLACE_FRONTS => first | rfl | decide +kernel)
    (case m_AMOUNT_FRONTS => k_is)
    (case l_AMOUNT_FRONTS => k_is)
    (case h_AMOUNT_FRONTS => first | rfl | decide +kernel)
    (case m_SHAPES => k_is)
    (case l_SHAPES => k_is)
    (case y_SHAPES => exact ⟨⟨_, _, rfl, rfl⟩, ⟨_, _, rfl, rfl⟩, ⟨_, _, rfl, rfl⟩, trivial⟩)
    (case h_SHAPES => first | rfl | decide +kernel)
    (case e_SHAPES => k_is)
    (case h_k_SHAPES => first | rfl | decide +kernel)
    (case v_SHAPES_0 => k_is)
    (case l_SHAPES_0 => k_is)
    (case h_SHAPES_0 => first | rfl | decide +kernel)
    (case v_SHAPES_1 => k_is)
    (case l_SHAPES_1 => k_is)
    (case h_SHAPES_1 => first | rfl | decide +kernel)
    (case v_SHAPES_2 => k_is)
    (case l_SHAPES_2 => k_is)
    (case h_SHAPES_2 => first | rfl | decide +kernel)
    (case m_NO_PART => k_is)
    (case m_LEAST_SINGLE => k_is)
    (case m_MOST_SINGLE => k_is)
    (case m_ENDING => k_is)
    (case l_ENDING => k_is)
    (case h_ENDING => first | rfl | decide +kernel)
    (case kr_t48 => kernel_rfl)
    (case kr_u48 => kernel_rfl)
    (case kr_v48 => kernel_rfl)
    (case kr_t50 => kernel_rfl)
    (case kr_u50 => kernel_rfl)
    (case kr_v50 => kernel_rfl)
    (case kr_d50_48 => kernel_rfl)
