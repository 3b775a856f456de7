import PyProof.Rows.All
import Wide.All
import OpenK.AllK
import Wide.FinOn
import HandS.ForMost
import KE.RegKIsAll
import HandS.Codes
import HandS.Conv
import HandS.IsInst
import HandS.Style
import HandS.Walk
import HandS.Wide
import KE.GoesEnum
import KE.GoesMore
import HandS.More
import HandS.StrMore
import KE.GoesEnumKw
import PyProof.Rows.CallKwBuiltin
import HandS.Deep
import HandS.Star
import HandS.Text
import HandS.SortInts
import KE.KSortedM
import PySem.Challenge.RW_everyorder_k03_whole_rules_of_rearrangem
set_option Elab.async false
set_option linter.all false
set_option maxRecDepth 100000
set_option maxHeartbeats 4000000
namespace Pf03
open PySem PySem.Spec PyProof.Rows L2
/-! ### the text by places -/
def topS (i : Nat) : Stmt := PySem.Challenge.pw_everyorder_k03_whole_rules_of_rearrangem.main.body.getD i (.Pass ⟨0, 0, 0, 0⟩)
abbrev s_is_integer : Stmt := topS 1
abbrev s_is_between : Stmt := topS 2
abbrev s_first_wrong : Stmt := topS 3
abbrev s_BadSize_init : Stmt := inClass (topS 6) 0
abbrev s_BadNumber_init : Stmt := inClass (topS 7) 0
abbrev s_BadRow_init : Stmt := inClass (topS 8) 0
abbrev s_check_row : Stmt := topS 11
abbrev s_nothing : Stmt := topS 12
abbrev s_joined : Stmt := topS 13
abbrev s_in_turn : Stmt := topS 14
abbrev s_undone : Stmt := topS 15
abbrev s_back_from : Stmt := topS 16
abbrev s_done : Stmt := topS 17
abbrev s_repeated : Stmt := topS 18
abbrev s_seats_of : Stmt := topS 19
abbrev s_led : Stmt := topS 20
abbrev s_rings : Stmt := topS 21
abbrev s_rings_in : Stmt := topS 22
abbrev s_ring_from : Stmt := topS 23
abbrev s_is_even : Stmt := topS 24
abbrev s__law_pen : Stmt := topS 26
abbrev s__law_draw : Stmt := topS 27
abbrev s__law_pick : Stmt := topS 28
abbrev s__law_shuffled : Stmt := topS 29
abbrev s__law_row : Stmt := topS 30
abbrev s__law_least_first : Stmt := topS 31
abbrev s__law_sorted_rings : Stmt := topS 32
abbrev s_law : Stmt := topS 33
theorem sc_is_integer : FnScope ["value"] ["value"] (defScope s_is_integer) := ⟨rfl, rfl, rfl, by decide +kernel, rfl, by decide +kernel, by decide +kernel⟩
theorem sc_is_between : FnScope ["value", "low", "high"] ["value", "low", "high"] (defScope s_is_between) := ⟨rfl, rfl, rfl, by decide +kernel, rfl, by decide +kernel, by decide +kernel⟩
theorem sc_first_wrong : FnScope ["row", "size", "has_come", "index", "member"] ["row", "size"] (defScope s_first_wrong) := ⟨rfl, rfl, rfl, by decide +kernel, rfl, by decide +kernel, by decide +kernel⟩
theorem sc_BadSize_init : FnScope ["self", "size"] ["self", "size"] (defScope s_BadSize_init) := ⟨rfl, rfl, rfl, by decide +kernel, rfl, by decide +kernel, by decide +kernel⟩
theorem sc_BadNumber_init : FnScope ["self", "number"] ["self", "number"] (defScope s_BadNumber_init) := ⟨rfl, rfl, rfl, by decide +kernel, rfl, by decide +kernel, by decide +kernel⟩
theorem sc_BadRow_init : FnScope ["self", "index"] ["self", "index"] (defScope s_BadRow_init) := ⟨rfl, rfl, rfl, by decide +kernel, rfl, by decide +kernel, by decide +kernel⟩
theorem sc_check_row : FnScope ["row", "wrong"] ["row"] (defScope s_check_row) := ⟨rfl, rfl, rfl, by decide +kernel, rfl, by decide +kernel, by decide +kernel⟩
theorem sc_nothing : FnScope ["size"] ["size"] (defScope s_nothing) := ⟨rfl, rfl, rfl, by decide +kernel, rfl, by decide +kernel, by decide +kernel⟩
theorem sc_joined : FnScope ["first", "second"] ["first", "second"] (defScope s_joined) := ⟨rfl, rfl, rfl, by decide +kernel, rfl, by decide +kernel, by decide +kernel⟩
theorem sc_in_turn : FnScope ["first", "second", "place"] ["first", "second"] (defScope s_in_turn) := ⟨rfl, rfl, rfl, by decide +kernel, rfl, by decide +kernel, by decide +kernel⟩
theorem sc_undone : FnScope ["row"] ["row"] (defScope s_undone) := ⟨rfl, rfl, rfl, by decide +kernel, rfl, by decide +kernel, by decide +kernel⟩
theorem sc_back_from : FnScope ["row", "back", "index", "place"] ["row"] (defScope s_back_from) := ⟨rfl, rfl, rfl, by decide +kernel, rfl, by decide +kernel, by decide +kernel⟩
theorem sc_done : FnScope ["row", "things", "place"] ["row", "things"] (defScope s_done) := ⟨rfl, rfl, rfl, by decide +kernel, rfl, by decide +kernel, by decide +kernel⟩
theorem sc_repeated : FnScope ["row", "many", "seats", "place"] ["row", "many"] (defScope s_repeated) := ⟨rfl, rfl, rfl, by decide +kernel, rfl, by decide +kernel, by decide +kernel⟩
theorem sc_seats_of : FnScope ["row", "seats", "ring", "index", "place"] ["row"] (defScope s_seats_of) := ⟨rfl, rfl, rfl, by decide +kernel, rfl, by decide +kernel, by decide +kernel⟩
theorem sc_led : FnScope ["seats", "place", "many", "ring", "index"] ["seats", "place", "many"] (defScope s_led) := ⟨rfl, rfl, rfl, by decide +kernel, rfl, by decide +kernel, by decide +kernel⟩
theorem sc_rings : FnScope ["row"] ["row"] (defScope s_rings) := ⟨rfl, rfl, rfl, by decide +kernel, rfl, by decide +kernel, by decide +kernel⟩
theorem sc_rings_in : FnScope ["row", "found", "is_told", "start", "ring", "place"] ["row"] (defScope s_rings_in) := ⟨rfl, rfl, rfl, by decide +kernel, rfl, by decide +kernel, by decide +kernel⟩
theorem sc_ring_from : FnScope ["row", "start", "places", "place"] ["row", "start"] (defScope s_ring_from) := ⟨rfl, rfl, rfl, by decide +kernel, rfl, by decide +kernel, by decide +kernel⟩
theorem sc_is_even : FnScope ["row"] ["row"] (defScope s_is_even) := ⟨rfl, rfl, rfl, by decide +kernel, rfl, by decide +kernel, by decide +kernel⟩
theorem sc__law_pen : FnScope ["script"] ["script"] (defScope s__law_pen) := ⟨rfl, rfl, rfl, by decide +kernel, rfl, by decide +kernel, by decide +kernel⟩
theorem sc__law_draw : FnScope ["pen", "many", "digit", "at", "cell", "mixed"] ["pen", "many"] (defScope s__law_draw) := ⟨rfl, rfl, rfl, by decide +kernel, rfl, by decide +kernel, by decide +kernel⟩
theorem sc__law_pick : FnScope ["pen", "some"] ["pen", "some"] (defScope s__law_pick) := ⟨rfl, rfl, rfl, by decide +kernel, rfl, by decide +kernel, by decide +kernel⟩
theorem sc__law_shuffled : FnScope ["pen", "some", "left", "found", "k"] ["pen", "some"] (defScope s__law_shuffled) := ⟨rfl, rfl, rfl, by decide +kernel, rfl, by decide +kernel, by decide +kernel⟩
theorem sc__law_row : FnScope ["pen", "size"] ["pen", "size"] (defScope s__law_row) := ⟨rfl, rfl, rfl, by decide +kernel, rfl, by decide +kernel, by decide +kernel⟩
theorem sc__law_least_first : FnScope ["ring", "at", "place"] ["ring"] (defScope s__law_least_first) := ⟨rfl, rfl, rfl, by decide +kernel, rfl, by decide +kernel, by decide +kernel⟩
theorem sc__law_sorted_rings : FnScope ["some", "rows", "found", "place", "ring", "row"] ["some"] (defScope s__law_sorted_rings) := ⟨rfl, rfl, rfl, by decide +kernel, rfl, by decide +kernel, by decide +kernel⟩
theorem sc_law : FnScope ["script", "pen", "lap", "size", "a", "b", "c", "still", "many", "more", "carried", "back", "moved", "ring", "place"] ["script"] (defScope s_law) := ⟨rfl, rfl, rfl, by decide +kernel, rfl, by decide +kernel, by decide +kernel⟩
/-- where the defs and classes stand -/
structure Ad where
  f_is_integer : Addr
  d_is_integer : FuncData
  f_is_between : Addr
  d_is_between : FuncData
  f_first_wrong : Addr
  d_first_wrong : FuncData
  f_BadSize_init : Addr
  d_BadSize_init : FuncData
  f_BadNumber_init : Addr
  d_BadNumber_init : FuncData
  f_BadRow_init : Addr
  d_BadRow_init : FuncData
  f_check_row : Addr
  d_check_row : FuncData
  f_nothing : Addr
  d_nothing : FuncData
  f_joined : Addr
  d_joined : FuncData
  f_in_turn : Addr
  d_in_turn : FuncData
  f_undone : Addr
  d_undone : FuncData
  f_back_from : Addr
  d_back_from : FuncData
  f_done : Addr
  d_done : FuncData
  f_repeated : Addr
  d_repeated : FuncData
  f_seats_of : Addr
  d_seats_of : FuncData
  f_led : Addr
  d_led : FuncData
  f_rings : Addr
  d_rings : FuncData
  f_rings_in : Addr
  d_rings_in : FuncData
  f_ring_from : Addr
  d_ring_from : FuncData
  f_is_even : Addr
  d_is_even : FuncData
  f__law_pen : Addr
  d__law_pen : FuncData
  f__law_draw : Addr
  d__law_draw : FuncData
  f__law_pick : Addr
  d__law_pick : FuncData
  f__law_shuffled : Addr
  d__law_shuffled : FuncData
  f__law_row : Addr
  d__law_row : FuncData
  f__law_least_first : Addr
  d__law_least_first : FuncData
  f__law_sorted_rings : Addr
  d__law_sorted_rings : FuncData
  f_law : Addr
  d_law : FuncData
  C_EveryError : Addr
  C_BadSize : Addr
  C_BadNumber : Addr
  C_BadRow : Addr
/-- what the top has written -/
structure Tx (w : World) (K : PySem.W.Frag) (mg : Str → Option Value) (a : Ad) : Prop where
  F_is_integer : Fun K "is_integer" "is_integer" s_is_integer a.f_is_integer a.d_is_integer
  b_is_integer : Binds K a.d_is_integer ["value"] []
  m_is_integer : mg "is_integer" = some (.ref a.f_is_integer)
  F_is_between : Fun K "is_between" "is_between" s_is_between a.f_is_between a.d_is_between
  b_is_between : Binds K a.d_is_between ["value", "low", "high"] []
  m_is_between : mg "is_between" = some (.ref a.f_is_between)
  F_first_wrong : Fun K "first_wrong" "first_wrong" s_first_wrong a.f_first_wrong a.d_first_wrong
  b_first_wrong : Binds K a.d_first_wrong ["row", "size"] []
  m_first_wrong : mg "first_wrong" = some (.ref a.f_first_wrong)
  F_BadSize_init : Fun K "__init__" "BadSize.__init__" s_BadSize_init a.f_BadSize_init a.d_BadSize_init
  b_BadSize_init : Binds K a.d_BadSize_init ["self", "size"] []
  F_BadNumber_init : Fun K "__init__" "BadNumber.__init__" s_BadNumber_init a.f_BadNumber_init a.d_BadNumber_init
  b_BadNumber_init : Binds K a.d_BadNumber_init ["self", "number"] []
  F_BadRow_init : Fun K "__init__" "BadRow.__init__" s_BadRow_init a.f_BadRow_init a.d_BadRow_init
  b_BadRow_init : Binds K a.d_BadRow_init ["self", "index"] []
  F_check_row : Fun K "check_row" "check_row" s_check_row a.f_check_row a.d_check_row
  b_check_row : Binds K a.d_check_row ["row"] []
  m_check_row : mg "check_row" = some (.ref a.f_check_row)
  F_nothing : Fun K "nothing" "nothing" s_nothing a.f_nothing a.d_nothing
  b_nothing : Binds K a.d_nothing ["size"] []
  m_nothing : mg "nothing" = some (.ref a.f_nothing)
  F_joined : Fun K "joined" "joined" s_joined a.f_joined a.d_joined
  b_joined : Binds K a.d_joined ["first", "second"] []
  m_joined : mg "joined" = some (.ref a.f_joined)
  F_in_turn : Fun K "in_turn" "in_turn" s_in_turn a.f_in_turn a.d_in_turn
  b_in_turn : Binds K a.d_in_turn ["first", "second"] []
  m_in_turn : mg "in_turn" = some (.ref a.f_in_turn)
  F_undone : Fun K "undone" "undone" s_undone a.f_undone a.d_undone
  b_undone : Binds K a.d_undone ["row"] []
  m_undone : mg "undone" = some (.ref a.f_undone)
  F_back_from : Fun K "back_from" "back_from" s_back_from a.f_back_from a.d_back_from
  b_back_from : Binds K a.d_back_from ["row"] []
  m_back_from : mg "back_from" = some (.ref a.f_back_from)
  F_done : Fun K "done" "done" s_done a.f_done a.d_done
  b_done : Binds K a.d_done ["row", "things"] []
  m_done : mg "done" = some (.ref a.f_done)
  F_repeated : Fun K "repeated" "repeated" s_repeated a.f_repeated a.d_repeated
  b_repeated : Binds K a.d_repeated ["row", "many"] []
  m_repeated : mg "repeated" = some (.ref a.f_repeated)
  F_seats_of : Fun K "seats_of" "seats_of" s_seats_of a.f_seats_of a.d_seats_of
  b_seats_of : Binds K a.d_seats_of ["row"] []
  m_seats_of : mg "seats_of" = some (.ref a.f_seats_of)
  F_led : Fun K "led" "led" s_led a.f_led a.d_led
  b_led : Binds K a.d_led ["seats", "place", "many"] []
  m_led : mg "led" = some (.ref a.f_led)
  F_rings : Fun K "rings" "rings" s_rings a.f_rings a.d_rings
  b_rings : Binds K a.d_rings ["row"] []
  m_rings : mg "rings" = some (.ref a.f_rings)
  F_rings_in : Fun K "rings_in" "rings_in" s_rings_in a.f_rings_in a.d_rings_in
  b_rings_in : Binds K a.d_rings_in ["row"] []
  m_rings_in : mg "rings_in" = some (.ref a.f_rings_in)
  F_ring_from : Fun K "ring_from" "ring_from" s_ring_from a.f_ring_from a.d_ring_from
  b_ring_from : Binds K a.d_ring_from ["row", "start"] []
  m_ring_from : mg "ring_from" = some (.ref a.f_ring_from)
  F_is_even : Fun K "is_even" "is_even" s_is_even a.f_is_even a.d_is_even
  b_is_even : Binds K a.d_is_even ["row"] []
  m_is_even : mg "is_even" = some (.ref a.f_is_even)
  F__law_pen : Fun K "_law_pen" "_law_pen" s__law_pen a.f__law_pen a.d__law_pen
  b__law_pen : Binds K a.d__law_pen ["script"] []
  m__law_pen : mg "_law_pen" = some (.ref a.f__law_pen)
  F__law_draw : Fun K "_law_draw" "_law_draw" s__law_draw a.f__law_draw a.d__law_draw
  b__law_draw : Binds K a.d__law_draw ["pen", "many"] []
  m__law_draw : mg "_law_draw" = some (.ref a.f__law_draw)
  F__law_pick : Fun K "_law_pick" "_law_pick" s__law_pick a.f__law_pick a.d__law_pick
  b__law_pick : Binds K a.d__law_pick ["pen", "some"] []
  m__law_pick : mg "_law_pick" = some (.ref a.f__law_pick)
  F__law_shuffled : Fun K "_law_shuffled" "_law_shuffled" s__law_shuffled a.f__law_shuffled a.d__law_shuffled
  b__law_shuffled : Binds K a.d__law_shuffled ["pen", "some"] []
  m__law_shuffled : mg "_law_shuffled" = some (.ref a.f__law_shuffled)
  F__law_row : Fun K "_law_row" "_law_row" s__law_row a.f__law_row a.d__law_row
  b__law_row : Binds K a.d__law_row ["pen", "size"] []
  m__law_row : mg "_law_row" = some (.ref a.f__law_row)
  F__law_least_first : Fun K "_law_least_first" "_law_least_first" s__law_least_first a.f__law_least_first a.d__law_least_first
  b__law_least_first : Binds K a.d__law_least_first ["ring"] []
  m__law_least_first : mg "_law_least_first" = some (.ref a.f__law_least_first)
  F__law_sorted_rings : Fun K "_law_sorted_rings" "_law_sorted_rings" s__law_sorted_rings a.f__law_sorted_rings a.d__law_sorted_rings
  b__law_sorted_rings : Binds K a.d__law_sorted_rings ["some"] []
  m__law_sorted_rings : mg "_law_sorted_rings" = some (.ref a.f__law_sorted_rings)
  F_law : Fun K "law" "law" s_law a.f_law a.d_law
  b_law : Binds K a.d_law ["script"] []
  m_law : mg "law" = some (.ref a.f_law)
  c_EveryError : mg "EveryError" = some (.ref a.C_EveryError)
  c_BadSize : mg "BadSize" = some (.ref a.C_BadSize)
  c_BadNumber : mg "BadNumber" = some (.ref a.C_BadNumber)
  c_BadRow : mg "BadRow" = some (.ref a.C_BadRow)
  z_bool : mg "bool" = none
  z_enumerate : mg "enumerate" = none
  z_int : mg "int" = none
  z_isinstance : mg "isinstance" = none
  z_len : mg "len" = none
  z_list : mg "list" = none
  z_min : mg "min" = none
  z_range : mg "range" = none
  z_sorted : mg "sorted" = none
  z_tuple : mg "tuple" = none
  m_MOST_PLACES : ∃ t, mg "MOST_PLACES" = some (.int 1000 t)


/-! ### heaps -/
/-- all but what stands at d is as it was -/
def But (d : Addr) (H H' : Hp) : Prop := ∀ b o, H b = some o → b ≠ d → H' b = some o
theorem But.refl {d : Addr} {H : Hp} : But d H H := fun _ _ h _ => h
theorem But.trans {d : Addr} {H H1 H2 : Hp} (x : But d H H1) (y : But d H1 H2) : But d H H2 := fun b o h n => y b o (x b o h n) n
theorem but_same {d : Addr} {H H' : Hp} (h : Same H H') : But d H H' := fun b o e _ => h b o e
theorem same_upd {H : Hp} {p : Addr} {o : HO} (h : H p = none) : Same H (upd H p o) := fun b x e => by
  rw [upd_ne (ne_of_none e h)]
  exact e
theorem but_upd {d : Addr} {H : Hp} {o : HO} : But d H (upd H d o) := fun b x e n => by
  rw [upd_ne n]
  exact e
theorem But.list {d : Addr} {H H' : Hp} {kvs : List (Key × V)} {l : Addr} {xs : List V} (x : But d H H') (hd : H d = some (.dK kvs)) (h : H l = some (.lst xs)) : H' l = some (.lst xs) :=
  x l _ h (ne_of h hd (by intro z; cases z))
theorem But.tup {d : Addr} {H H' : Hp} {kvs : List (Key × V)} {l : Addr} {xs : List V} (x : But d H H') (hd : H d = some (.dK kvs)) (h : H l = some (.tup xs)) : H' l = some (.tup xs) :=
  x l _ h (ne_of h hd (by intro z; cases z))
theorem But.seq {K : PySem.W.Frag} {d : Addr} {H H' : Hp} {kvs : List (Key × V)} {l : Addr} {xs : List V} (x : But d H H') (hd : H d = some (.dK kvs)) (h : SqL K H l xs) : SqL K H' l xs := by
  rcases h with (h | ⟨o, h⟩) | h
  · exact .inl (.inl (x l _ h (ne_of h hd (by intro z; cases z))))
  · exact .inl (.inr ⟨o, x l _ h (ne_of h hd (by intro z; cases z))⟩)
  · exact .inr h
/-- a list changes where none of what is known stood -/
theorem keep_upd {H H' : Hp} {l : Addr} {o : HO} (h : Same H H') (n : H l = none) : Same H (upd H' l o) := fun b u e => by
  rw [upd_ne (ne_of_none e n)]
  exact h b u e
theorem free_of {H H' : Hp} {p : Addr} (e : Same H H') (h : H' p = none) : H p = none := e.free h
theorem SqL.at {K : PySem.W.Frag} {H : Hp} {a : Addr} {xs : List V} (h : H a = some (.lst xs)) : SqL K H a xs := .inl (.inl h)
theorem SqT.at {K : PySem.W.Frag} {H : Hp} {a : Addr} {xs : List V} (h : H a = some (.tup xs)) : SqT K H a xs := .inl (.inl h)
theorem sz {n : Nat} (h : n ≤ 100000) : n ≤ sizeLine := Nat.le_trans h (by decide)
theorem szlt {n : Nat} (h : n ≤ 100000) : n < sizeLine := Nat.lt_of_le_of_lt h (by decide)
/-! ### data: lists of ints -/
def iD (ns : List Int) : PyData := .list (ns.map PyData.int)
theorem dp_all {K : PySem.W.Frag} {H : Hp} : ∀ ns : List Int, DpAll K H (ns.map V.int) (ns.map PyData.int)
  | [] => .nil
  | _ :: r => .cons (.int _) (dp_all r)
theorem dp_ints {K : PySem.W.Frag} {H : Hp} {p : Addr} {ns : List Int} (h : SqL K H p (ns.map V.int)) : Dp K H (.ref p) (iD ns) := .lst h (dp_all ns)
theorem dp_tints {K : PySem.W.Frag} {H : Hp} {p : Addr} {ns : List Int} (h : SqT K H p (ns.map V.int)) : Dp K H (.ref p) (.tuple (ns.map PyData.int)) := .tup h (dp_all ns)
theorem lay_ints : ∀ ns : List Int, PyData.canLayAll0 (ns.map PyData.int) = true
  | [] => by simp [PyData.canLayAll0]
  | _ :: r => by simp [PyData.canLayAll0, PyData.canLay0, lay_ints r]
theorem eqv_all_ints : ∀ ns ms : List Int, PyData.eqvAll (ns.map PyData.int) (ms.map PyData.int) = decide (ns = ms)
  | [], [] => by simp [PyData.eqvAll]
  | [], _ :: _ => by simp [PyData.eqvAll]
  | _ :: _, [] => by simp [PyData.eqvAll]
  | x :: r, y :: u => by
    simp only [List.map_cons, PyData.eqvAll, PyData.eqv, eqv_all_ints r u, List.cons.injEq]
    by_cases h1 : x = y <;> by_cases h2 : r = u <;> simp [h1, h2]
theorem eqv_ints (ns ms : List Int) : PyData.eqv (iD ns) (iD ms) = decide (ns = ms) := by
  unfold iD
  rw [PyData.eqv]
  exact eqv_all_ints ns ms
theorem deep_ints : ∀ ns : List Int, PyData.depthAll (ns.map PyData.int) ≤ 1
  | [] => by simp [PyData.depthAll]
  | _ :: r => by
    have := deep_ints r
    simp only [List.map_cons, PyData.depthAll, PyData.depth]
    omega
theorem shaped_ints {ns : List Int} : SeqAt.shaped (iD ns) = true := by
  unfold SeqAt.shaped iD
  rw [Bool.and_eq_true, decide_eq_true_eq]
  refine ⟨by rw [PyData.canLay0]; exact lay_ints ns, ?_⟩
  have := deep_ints ns
  rw [PyData.depth]
  omega
theorem atI_ints {ns : List Int} {i : Int} (h0 : 0 ≤ i) (h1 : i.toNat < ns.length) : atI (ns.map V.int) i = some (.int (ns[i.toNat]'h1)) := by
  have e : (i.toNat : Int) = i := by omega
  have z : atI (ns.map V.int) (i.toNat : Int) = some (.int (ns[i.toNat]'h1)) := by
    refine atI_nat ?_
    rw [List.getElem?_map, List.getElem?_eq_getElem h1]
    rfl
  rw [e] at z
  exact z
theorem ixN_nat {n : Nat} {i : Int} (h0 : 0 ≤ i) (h1 : i < (n : Int)) : ixN n i = some i.toNat := by
  unfold ixN
  rw [if_pos h0, if_pos h1]
theorem getD_get {ts : List Int} {i : Nat} (h : i < ts.length) : ts.getD i 0 = ts[i] := by
  rw [List.getD_eq_getElem?_getD, List.getElem?_eq_getElem h]
  rfl
theorem inV_ints {x : Int} : ∀ {xs : List Int}, inV (.int x) (xs.map V.int) = decide (x ∈ xs)
  | [] => rfl
  | y :: r => by
    have ih := inV_ints (x := x) (xs := r)
    unfold inV at ih ⊢
    rw [List.map_cons, List.any_cons, ih]
    have e : eqV (.int y) (.int x) = decide (y = x) := rfl
    rw [e]
    by_cases h : y = x
    · subst h
      simp
    · have h2 : ¬ x = y := fun z => h z.symm
      simp [h, h2]
theorem flat_ints (xs : List Int) : (xs.map V.int).all flatV = true := by
  rw [List.all_eq_true]
  intro x hx
  obtain ⟨i, _, rfl⟩ := List.mem_map.mp hx
  rfl

/-! ### the pen: a dict of the script's cells and two ints -/
def penD (c : Addr) (t l : Int) : HO := .dK [((.inr "cells" : Key), V.ref c), ((.inr "at" : Key), V.int t), ((.inr "left" : Key), V.int l)]
structure PenAt (H : Hp) (d c : Addr) (ns : List Int) (t l : Int) : Prop where
  dc : H d = some (penD c t l)
  cs : H c = some (.lst (ns.map V.int))
  len : ns.length ≤ 63
  t0 : 0 ≤ t
/-- a pen with which at most n draws were made -/
def Pen (H : Hp) (d c : Addr) (n : Nat) : Prop := ∃ ns t l, PenAt H d c ns t l ∧ t ≤ n
theorem k1 : ¬ (("cells" : Str) = "at") := by decide +kernel
theorem k2 : ¬ (("cells" : Str) = "left") := by decide +kernel
theorem k3 : ¬ (("at" : Str) = "left") := by decide +kernel
theorem kk {x y : Str} (h : ¬ x = y) : ¬ ((Sum.inr x : Key) = Sum.inr y) := fun z => h (Sum.inr.inj z)
theorem pen_valC {c : Addr} {t l : Int} : valV [((.inr "cells" : Key), V.ref c), ((.inr "at" : Key), V.int t), ((.inr "left" : Key), V.int l)] (.inr "cells") = some (.ref c) := by
  simp [valV, List.find?]
theorem pen_valA {c : Addr} {t l : Int} : valV [((.inr "cells" : Key), V.ref c), ((.inr "at" : Key), V.int t), ((.inr "left" : Key), V.int l)] (.inr "at") = some (.int t) := by
  simp [valV, List.find?, k1]
theorem pen_valL {c : Addr} {t l : Int} : valV [((.inr "cells" : Key), V.ref c), ((.inr "at" : Key), V.int t), ((.inr "left" : Key), V.int l)] (.inr "left") = some (.int l) := by
  simp [valV, List.find?, k2, k3]
theorem pen_C {H : Hp} {d c : Addr} {t l : Int} (h : H d = some (penD c t l)) : DGet H d (.str "cells") (some (.ref c)) := by
  have e := DGet.k (k := Sum.inr "cells") h
  rw [pen_valC] at e
  exact e
theorem pen_A {H : Hp} {d c : Addr} {t l : Int} (h : H d = some (penD c t l)) : DGet H d (.str "at") (some (.int t)) := by
  have e := DGet.k (k := Sum.inr "at") h
  rw [pen_valA] at e
  exact e
theorem pen_L {H : Hp} {d c : Addr} {t l : Int} (h : H d = some (penD c t l)) : DGet H d (.str "left") (some (.int l)) := by
  have e := DGet.k (k := Sum.inr "left") h
  rw [pen_valL] at e
  exact e
theorem pen_putA {c : Addr} {t l u : Int} : putK [((.inr "cells" : Key), V.ref c), ((.inr "at" : Key), V.int t), ((.inr "left" : Key), V.int l)] (.inr "at") (.int u) = [((.inr "cells" : Key), V.ref c), ((.inr "at" : Key), V.int u), ((.inr "left" : Key), V.int l)] := by
  simp [putK, k1, k3, show ¬ (("left" : Str) = "at") from fun h => k3 h.symm]
theorem pen_putL {c : Addr} {t l u : Int} : putK [((.inr "cells" : Key), V.ref c), ((.inr "at" : Key), V.int t), ((.inr "left" : Key), V.int l)] (.inr "left") (.int u) = [((.inr "cells" : Key), V.ref c), ((.inr "at" : Key), V.int t), ((.inr "left" : Key), V.int u)] := by
  simp [putK, k2, k3]
theorem pen_setA {H : Hp} {d c : Addr} {t l u : Int} (h : H d = some (penD c t l)) : DPut H d (.str "at") (.int u) (upd H d (penD c u l)) := by
  have e := DPut.k (k := Sum.inr "at") (v := .int u) h (by show 3 < sizeLine; exact szlt (by decide))
  rw [pen_putA] at e
  exact e
theorem pen_setL {H : Hp} {d c : Addr} {t l u : Int} (h : H d = some (penD c t l)) : DPut H d (.str "left") (.int u) (upd H d (penD c t u)) := by
  have e := DPut.k (k := Sum.inr "left") (v := .int u) h (by show 3 < sizeLine; exact szlt (by decide))
  rw [pen_putL] at e
  exact e
theorem pen_mk {l : Addr} : mergeK [] [((.inr "cells" : Key), V.ref l), ((.inr "at" : Key), V.int 0), ((.inr "left" : Key), V.int 0)] = [((.inr "cells" : Key), V.ref l), ((.inr "at" : Key), V.int 0), ((.inr "left" : Key), V.int 0)] := by
  simp [mergeK, putK, k1, k2, k3]
theorem Pen.same {H H' : Hp} {d c : Addr} {n : Nat} (p : Pen H d c n) (h : Same H H') : Pen H' d c n := by
  obtain ⟨ns, t, l, q, e⟩ := p
  exact ⟨ns, t, l, ⟨h _ _ q.dc, h _ _ q.cs, q.len, q.t0⟩, e⟩
theorem Pen.up {H : Hp} {d c : Addr} {n m : Nat} (p : Pen H d c n) (h : n ≤ m) : Pen H d c m := by
  obtain ⟨ns, t, l, q, e⟩ := p
  exact ⟨ns, t, l, q, by omega⟩
theorem Pen.dict {H : Hp} {d c : Addr} {n : Nat} (p : Pen H d c n) : ∃ kvs, H d = some (.dK kvs) := by
  obtain ⟨ns, t, l, q, e⟩ := p
  exact ⟨_, q.dc⟩
theorem Pen.cells {H : Hp} {d c : Addr} {n : Nat} (p : Pen H d c n) : ∃ o, H c = some o := by
  obtain ⟨ns, t, l, q, e⟩ := p
  exact ⟨_, q.cs⟩
/-- a list that is not the pen's changes -/
theorem Pen.mut {H : Hp} {d c l : Addr} {n : Nat} {o : HO} (p : Pen H d c n) (hd : d ≠ l) (hc : c ≠ l) : Pen (upd H l o) d c n := by
  obtain ⟨ns, t, u, q, e⟩ := p
  exact ⟨ns, t, u, ⟨by rw [upd_ne hd]; exact q.dc, by rw [upd_ne hc]; exact q.cs, q.len, q.t0⟩, e⟩
/-- what stands where nothing stood may change -/
theorem But.mut {d l : Addr} {H H' : Hp} {o : HO} (b : But d H H') (h : H l = none) : But d H (upd H' l o) := fun x u e n => by
  rw [upd_ne (ne_of_none e h)]
  exact b x u e n
theorem cut63 (ns : List Int) : cutV (ns.map V.int) none (some 63) = (ns.take 63).map V.int := by
  unfold cutV
  rw [show HT.sIx (ns.map V.int).length (ns.map V.int).length (some 63) = min 63 (ns.map V.int).length from HT.sIx_nat _ _ 63, HT.sIx_none, List.drop_zero, Nat.sub_zero, List.map_take, List.take_eq_take_iff]
  omega
section
variable {P : Program} {w : World} {K : PySem.W.Frag} {mg : Str → Option Value} {base : Heap} {a : Ad}
def spPen (K : PySem.W.Frag) : Sp := fun vs H Q _ => ∃ (s : Addr) (ns : List Int), vs = [.ref s] ∧ SqL K H s (ns.map V.int) ∧ ns.length ≤ 63 ∧
  ∀ d c H', H d = none → H c = none → Pen H' d c 0 → Same H H' → Q (.ref d) H'
theorem ok__law_pen (T : Tx w K mg a) : FnOk P w K mg base CX0 1 a.f__law_pen a.d__law_pen ["script"] (spPen K) := by
  refine T.F__law_pen.ok sc__law_pen (fun vs H Q E h => ?_) (fun cdv A outer s H vs Q E hr h => ?_)
  · obtain ⟨s, ns, rfl, _⟩ := h
    rfl
  · obtain ⟨x, ns, rfl, hS, hlen, q⟩ := h
    have hu := hu_of hr
    refine ⟨_, 
(pss_one (ps_ret (pe_disp (pps_cons pe_str (pe_callTy call_list_of (by rfl) T.z_list (by decide +kernel) (pa_cons (pe_slice sl_list (pv 0) po_none (po_some pe_int)) pa_nil)) (pps_cons pe_str pe_int (pps_cons pe_str pe_int pps_nil))) (by rfl) (by rfl) (fun z => by cases z) (by decide)))), ?_⟩
    intro d hd
    have s1 : Same H (upd H d (.dK [])) := same_upd hd
    refine ⟨.ref x, rfl, 63, rfl, x, ns.map V.int, rfl, s1.seq hS, fun p hp => ?_⟩
    have s2 : Same (upd H d (.dK [])) (upd (upd H d (.dK [])) p (.lst (cutV (ns.map V.int) none (some 63)))) := same_upd hp
    refine ⟨p, _, rfl, .inl (SqL.at upd_same), fun l hl => ?_⟩
    have s3 := same_upd (o := .lst (cutV (ns.map V.int) none (some 63))) hl
    have hd3 := s3 _ _ (s2 _ _ (upd_same (H := H) (a := d) (o := .dK [])))
    have hl3 : (upd (upd (upd H d (.dK [])) p (.lst (cutV (ns.map V.int) none (some 63)))) l (.lst (cutV (ns.map V.int) none (some 63)))) l = _ := upd_same
    have ndl : l ≠ d := ne_of hl3 hd3 (by intro z; cases z)
    refine ⟨hd3, [((.inr "cells" : Key), V.ref l), ((.inr "at" : Key), V.int 0), ((.inr "left" : Key), V.int 0)], rfl, (by show 3 ≤ 15; decide), ?_⟩
    rw [pen_mk]
    refine q d l _ hd (s1.free (s2.free hl)) ⟨ns.take 63, 0, 0, ⟨upd_same, ?_, ?_, by decide⟩, by decide⟩ ?_
    · rw [upd_ne ndl, hl3, cut63]
    · rw [List.length_take]
      omega
    · intro b o e
      rw [upd_ne (ne_of_none e hd)]
      exact s3 _ _ (s2 _ _ (s1 _ _ e))
/-- a draw: any int from 0 on that is less than the second argument; the pen alone changes -/
def spDraw : Sp := fun vs H Q _ => ∃ (d c : Addr) (n : Nat) (m : Int), vs = [.ref d, .int m] ∧ Pen H d c n ∧ n < 2 ^ 40 ∧ 0 < m ∧ m < 2 ^ 200 ∧
  ∀ v H', 0 ≤ v → v < m → Pen H' d c (n + 1) → But d H H' → Q (.int v) H'
theorem ok__law_draw (T : Tx w K mg a) : FnOk P w K mg base CX0 1 a.f__law_draw a.d__law_draw ["pen", "many"] spDraw := by
  refine T.F__law_draw.ok sc__law_draw (fun vs H Q E h => ?_) (fun cdv A outer s H vs Q E hr h => ?_)
  · obtain ⟨d, c, n, m, rfl, _⟩ := h
    rfl
  · obtain ⟨d, c, n, m, rfl, ⟨ns, t, l, ⟨hd, hc, hlen, t0⟩, htn⟩, hn, m0, mb, q⟩ := h
    have hu := hu_of hr
    have hmne : m ≠ 0 := by omega
    have hdiv : ∀ x : Int, CDivW x m := fun x => wide_div m0 (b := 200) (by omega) (by decide) (by decide)
    have f0 : ∀ x : Int, 0 ≤ Int.fmod x m := fun x => Int.fmod_nonneg_of_pos x m0
    have f1 : ∀ x : Int, Int.fmod x m < m := fun x => Int.fmod_lt_of_pos x m0
    refine ⟨_, 
(pss_cons (ps_if (pt_cmpR op_ge (pe_dget hu (pv 0) pe_str (fun _ _ => rfl)) (pv 1) (nomark _))
  (pss_cons (ps_set (i := 2) sc__law_draw.nd rfl (.inl rfl) (pe_op op_modN (pe_callTy call_int1 (by rfl) T.z_int (by decide +kernel) (pa_cons (pe_dget hu (pv 0) pe_str (fun _ _ => rfl)) pa_nil)) (pv 1)))
  (pss_cons (ps_dput hu (pv 0) pe_str (pe_op op_fdivW (pe_dget hu (pv 0) pe_str (fun _ _ => rfl)) (pv 1)) rfl)
  (pss_one (ps_ret (pv 2)))))
  pss_nil)
  (pss_cons (ps_set (i := 3) sc__law_draw.nd rfl (.inl rfl) (pe_dget hu (pv 0) pe_str (fun _ _ => rfl)))
  (pss_cons (ps_dput hu (pv 0) pe_str (pe_op op_add (pv 3) pe_int) rfl)
  (pss_cons (ps_set (i := 4) sc__law_draw.nd rfl (.inl rfl) (pe_op op_add (pe_op op_mul pe_int (pv 3)) pe_int))
  (C8.pss_cut (ps_if (pt_cmpR (op_neD hr.units) (pe_dget hu (pv 0) pe_str (fun _ _ => rfl)) (pe_lst pa_nil) (nomark _))
  (pss_one (ps_set (i := 4) sc__law_draw.nd rfl (.inl rfl) (pe_ix ix_list (pe_dget hu (pv 0) pe_str (fun _ _ => rfl)) (pe_op op_modN (pe_callTy call_int1 (by rfl) T.z_int (by decide +kernel) (pa_cons (pv 3) pa_nil)) (pe_callB call_len_seq (by rfl) T.z_len PySem.boot_len (pa_cons (pe_dget hu (pv 0) pe_str (fun _ _ => rfl)) pa_nil))) (fun _ _ => rfl))))
  pss_nil)
  (C8.pss_cut (ps_if (PW.pt (pw_and (pt_cmpR op_lt (pv 3) (pe_callB call_len_seq (by rfl) T.z_len PySem.boot_len (pa_cons (pe_dget hu (pv 0) pe_str (fun _ _ => rfl)) pa_nil)) (nomark _)) (pw_and1 (pt_cmpR op_ge (pv 4) (pe_op op_pow pe_int pe_int) (nomark _)))))
  (pss_cons (ps_dput hu (pv 0) pe_str (pe_op op_fdivW (pe_op op_sub (pv 4) (pe_op op_pow pe_int pe_int)) (pv 1)) rfl)
  (pss_one (ps_ret (pe_op op_modN (pe_callTy call_int1 (by rfl) T.z_int (by decide +kernel) (pa_cons (pe_op op_sub (pv 4) (pe_op op_pow pe_int pe_int)) pa_nil)) (pv 1)))))
  pss_nil)
  (pss_cons (ps_set (i := 5) sc__law_draw.nd rfl (.inl rfl) (pe_op op_add (pe_op op_add (pe_op op_add (pe_op op_mul (pe_op op_modN (pe_callTy call_int1 (by rfl) T.z_int (by decide +kernel) (pa_cons (pv 4) pa_nil)) pe_int) pe_int) (pe_op op_mul (pe_op op_mul pe_int (pv 3)) (pv 3))) (pe_op op_mul pe_int (pv 3))) pe_int))
  (pss_cons (ps_set (i := 5) sc__law_draw.nd rfl (.inl rfl) (pe_op op_modN (pe_callTy call_int1 (by rfl) T.z_int (by decide +kernel) (pa_cons (pv 5) pa_nil)) pe_int))
  (pss_cons (ps_set (i := 5) sc__law_draw.nd rfl (.inl rfl) (pe_op op_modN (pe_callTy call_int1 (by rfl) T.z_int (by decide +kernel) (pa_cons (pe_op op_mul (pv 5) (pe_op op_add (pv 5) pe_int)) pa_nil)) pe_int))
  (pss_one (ps_ret (pe_op op_modN (pe_callTy call_int1 (by rfl) T.z_int (by decide +kernel) (pa_cons (pe_op op_fdivN (pe_op op_modN (pe_callTy call_int1 (by rfl) T.z_int (by decide +kernel) (pa_cons (pe_op op_mul (pv 5) (pv 5)) pa_nil)) pe_int) pe_int) pa_nil)) (pv 1))))))))))))), ?_⟩
    -- if pen['left'] >= many
    refine ⟨.ref d, rfl, d, .int l, rfl, pen_L hd, .int m, rfl, l, m, rfl, rfl, _, rfl, ite2 (fun e => ?_) (fun e => ?_)⟩
    · -- digit = int(pen['left']) % many; pen['left'] = pen['left'] // many; return digit
      refine ⟨.ref d, rfl, d, .int l, rfl, pen_L hd, .inl ⟨l, rfl, .int m, rfl, l, m, rfl, rfl, hmne, ?_⟩⟩
      refine ⟨.ref d, rfl, d, .int l, rfl, pen_L hd, .int m, rfl, l, m, rfl, rfl, hdiv l, .ref d, rfl, d, _, rfl, pen_setL hd, ?_⟩
      exact ⟨_, rfl, q _ _ (f0 l) (f1 l) ⟨ns, t, _, ⟨upd_same, by rw [upd_ne (ne_of hc hd (by intro z; cases z))]; exact hc, hlen, t0⟩, by omega⟩ but_upd⟩
    · -- at = pen['at']; pen['at'] = at + 1; cell = 41 * at + 13
      refine ⟨.ref d, rfl, d, .int t, rfl, pen_A hd, ?_⟩
      refine ⟨.int t, rfl, t, 1, rfl, rfl, .ref d, rfl, d, _, rfl, pen_setA hd, ?_⟩
      refine ⟨.int t, rfl, 41, t, rfl, rfl, .inl ⟨by decide, by decide⟩, 41 * t, 13, rfl, rfl, ?_⟩
      have hd1 : (upd H d (penD c (t + 1) l)) d = some (penD c (t + 1) l) := upd_same
      have hc1 : (upd H d (penD c (t + 1) l)) c = some (.lst (ns.map V.int)) := by
        rw [upd_ne (ne_of hc hd (by intro z; cases z))]
        exact hc
      have b1 : But d H (upd H d (penD c (t + 1) l)) := but_upd
      generalize upd H d (penD c (t + 1) l) = H1 at hd1 hc1 b1 ⊢
      -- if pen['cells'] != []: cell = pen['cells'][int(at) % len(pen['cells'])]
      refine ⟨fun σ' H' => ∃ cell : Int, σ' = [some (.ref d), some (.int m), none, some (.int t), some (.int cell), none] ∧ H' d = some (penD c (t + 1) l) ∧ H' c = some (.lst (ns.map V.int)) ∧ But d H H', ?_, fun σ'' H'' hM => ?_⟩
      · refine ⟨.ref d, rfl, d, .ref c, rfl, pen_C hd1, Nat.zero_le _, fun p hp => ?_⟩
        have s2 : Same H1 (upd H1 p (.lst [])) := same_upd hp
        have hp2 : (upd H1 p (.lst [])) p = some (.lst []) := upd_same
        have hd2 := s2 _ _ hd1
        have hc2 := s2 _ _ hc1
        have b2 : But d H (upd H1 p (.lst [])) := b1.trans (but_same s2)
        generalize upd H1 p (.lst []) = H2 at hd2 hc2 hp2 b2 ⊢
        refine ⟨_, _, dp_ints (SqL.at hc2), dp_ints (ns := []) (SqL.at hp2), shaped_ints, shaped_ints, _, rfl, ?_⟩
        rw [eqv_ints]
        refine ite2 (fun e => ?_) (fun e => ?_)
        · have hns : ns ≠ [] := by
            intro z
            subst z
            simp at e
          have hpos : 0 < ns.length := List.length_pos_iff.mpr hns
          have g0 : (0 : Int) ≤ Int.fmod t (ns.length : Int) := Int.fmod_nonneg_of_pos _ (by omega)
          have g1 : Int.fmod t (ns.length : Int) < (ns.length : Int) := Int.fmod_lt_of_pos _ (by omega)
          refine ⟨.ref d, rfl, d, .ref c, rfl, pen_C hd2, .int t, rfl, .inl ⟨t, rfl, .ref d, rfl, d, .ref c, rfl, pen_C hd2, c, _, rfl, .inl (SqL.at hc2), t, _, rfl, rfl, ?_, c, _, _, .int (ns[(Int.fmod t (ns.length : Int)).toNat]'(by omega)), rfl, rfl, SqL.at hc2, ?_, ?_⟩⟩
          · rw [List.length_map]
            omega
          · rw [List.length_map]
            exact atI_ints g0 (by omega)
          · exact ⟨_, rfl, hd2, hc2, b2⟩
        · exact ⟨_, rfl, hd2, hc2, b2⟩
      · obtain ⟨cell, rfl, hd3, hc3, b3⟩ := hM
        have hlen' : (ns.map V.int).length ≤ 63 := by
          rw [List.length_map]
          exact hlen
        -- if at < len(pen['cells']) and cell >= 10 ** 18
        refine ⟨fun σ' H' => σ' = [some (.ref d), some (.int m), none, some (.int t), some (.int cell), none] ∧ H' = H'', ?_, fun σ' H' hM => ?_⟩
        · refine ⟨.int t, rfl, .ref d, rfl, d, .ref c, rfl, pen_C hd3, c, _, rfl, .inl (SqL.at hc3), t, _, rfl, rfl, _, rfl, ite2 (fun e1 => ?_) (fun e1 => iteF ⟨rfl, rfl⟩)⟩
          refine ⟨.int cell, rfl, 10, 18, rfl, rfl, ⟨by decide, by decide, by decide⟩, cell, _, rfl, rfl, _, rfl, ite2 (fun e2 => ?_) (fun e2 => ⟨rfl, rfl⟩)⟩
          refine ⟨.int cell, rfl, 10, 18, rfl, rfl, ⟨by decide, by decide, by decide⟩, cell, _, rfl, rfl, .int m, rfl, _, m, rfl, rfl, hdiv _, .ref d, rfl, d, _, rfl, pen_setL hd3, ?_⟩
          refine ⟨.int cell, rfl, 10, 18, rfl, rfl, ⟨by decide, by decide, by decide⟩, cell, _, rfl, rfl, .inl ⟨_, rfl, .int m, rfl, _, m, rfl, rfl, hmne, ?_⟩⟩
          exact q _ _ (f0 _) (f1 _) ⟨ns, t + 1, _, ⟨upd_same, by rw [upd_ne (ne_of hc3 hd3 (by intro z; cases z))]; exact hc3, hlen, by omega⟩, by omega⟩ (b3.trans but_upd)
        · obtain ⟨rfl, rfl⟩ := hM
          have g : ∀ x y : Int, 0 < y → 0 ≤ Int.fmod x y ∧ Int.fmod x y < y := fun x y hy => ⟨Int.fmod_nonneg_of_pos x hy, Int.fmod_lt_of_pos x hy⟩
          have g1 := g cell 2147483629 (by decide)
          have z1 : (2147483629 : Int) ≠ 0 := by decide
          have z2 : (2147483647 : Int) ≠ 0 := by decide
          have z3 : (2147483587 : Int) ≠ 0 := by decide
          have z4 : (2147483563 : Int) ≠ 0 := by decide
          have y1 : -(2 ^ 64) < Int.fmod cell 2147483629 ∧ Int.fmod cell 2147483629 < 2 ^ 64 := by omega
          have y2 : -(2 ^ 64) < t ∧ t < 2 ^ 64 := by omega
          refine ⟨.int cell, rfl, .inl ⟨cell, rfl, cell, 2147483629, rfl, rfl, z1, _, 48271, rfl, rfl, .inl y1, .int t, rfl, 69621, t, rfl, rfl, .inr y2, .int t, rfl, _, t, rfl, rfl, .inr y2, _, _, rfl, rfl, .int t, rfl, 59, t, rfl, rfl, .inr y2, _, _, rfl, rfl, _, 11, rfl, rfl, ?_⟩⟩
          have g2 := g (Int.fmod cell 2147483629 * 48271 + 69621 * t * t + 59 * t + 11) 2147483647 (by decide)
          refine ⟨_, rfl, .inl ⟨_, rfl, _, 2147483647, rfl, rfl, z2, ?_⟩⟩
          have y3 : -(2 ^ 64) < Int.fmod (Int.fmod cell 2147483629 * 48271 + 69621 * t * t + 59 * t + 11) 2147483647 ∧ Int.fmod (Int.fmod cell 2147483629 * 48271 + 69621 * t * t + 59 * t + 11) 2147483647 < 2 ^ 64 := by omega
          refine ⟨_, rfl, _, rfl, _, 40014, rfl, rfl, _, _, rfl, rfl, .inl y3, .inl ⟨_, rfl, _, 2147483587, rfl, rfl, z3, ?_⟩⟩
          have g3 := fun x => g x 2147483587 (by decide)
          have y4 : ∀ x, -(2 ^ 64) < Int.fmod x 2147483587 ∧ Int.fmod x 2147483587 < 2 ^ 64 := fun x => by
            have := g3 x
            omega
          refine ⟨_, rfl, _, rfl, _, _, rfl, rfl, .inl (y4 _), .inl ⟨_, rfl, _, 2147483563, rfl, rfl, z4, _, 64, rfl, rfl, ⟨by decide, by decide⟩, .inl ⟨_, rfl, .int m, rfl, _, m, rfl, rfl, hmne, ?_⟩⟩⟩
          exact q _ _ (f0 _) (f1 _) ⟨ns, t + 1, l, ⟨hd3, hc3, hlen, by omega⟩, by omega⟩ b3
end

section
variable {P : Program} {w : World} {K : PySem.W.Frag} {mg : Str → Option Value} {base : Heap} {a : Ad}
/-- a pick: some item of the list -/
def spPick (K : PySem.W.Frag) : Sp := fun vs H Q _ => ∃ (d c s : Addr) (n : Nat) (xs : List V), vs = [.ref d, .ref s] ∧ Pen H d c n ∧ n < 2 ^ 40 ∧ SqL K H s xs ∧ 0 < xs.length ∧ xs.length ≤ 100000 ∧
  ∀ v H', v ∈ xs → Pen H' d c (n + 1) → But d H H' → Q v H'
theorem ok__law_pick (T : Tx w K mg a) : FnOk P w K mg base CX0 2 a.f__law_pick a.d__law_pick ["pen", "some"] (spPick K) := by
  refine T.F__law_pick.ok sc__law_pick (fun vs H Q E h => ?_) (fun cdv A outer s H vs Q E hr h => ?_)
  · obtain ⟨d, c, s, n, xs, rfl, _⟩ := h
    rfl
  · obtain ⟨d, c, s, n, xs, rfl, hp, hn, hs, h0, h1, q⟩ := h
    obtain ⟨kvs, hd⟩ := hp.dict
    refine ⟨_, 
(pss_one (ps_ret (pe_ix ix_list (pv 1) (pe_call (ok__law_draw T) hr (by rfl) T.m__law_draw T.F__law_draw.kp T.b__law_draw .nil pass0 (pa_cons (pv 0) (pa_cons (pe_callB call_len_seq (by rfl) T.z_len PySem.boot_len (pa_cons (pv 1) pa_nil)) pa_nil))) (fun _ _ => rfl)))), ?_⟩
    refine ⟨.ref s, rfl, .ref d, rfl, .ref s, rfl, s, _, rfl, .inl hs, d, c, n, _, rfl, hp, hn, by omega, ?_, fun v H' v0 v1 hp' hb => ?_⟩
    · have : ((100000 : Nat) : Int) < 2 ^ 200 := by decide
      omega
    · refine ⟨s, xs, v, xs[v.toNat]'(by omega), rfl, rfl, hb.seq hd hs, ?_, q _ _ (List.getElem_mem _) hp' hb⟩
      have e : (v.toNat : Int) = v := by omega
      have z : atI xs (v.toNat : Int) = some (xs[v.toNat]'(by omega)) := atI_nat (List.getElem?_eq_getElem (by omega))
      rw [e] at z
      exact z
/-- the same items in another order, as a new list -/
def spShuf (K : PySem.W.Frag) : Sp := fun vs H Q _ => ∃ (d c s : Addr) (n : Nat) (xs : List V), vs = [.ref d, .ref s] ∧ Pen H d c n ∧ n + xs.length < 2 ^ 40 ∧ SqL K H s xs ∧ xs.length ≤ 100000 ∧
  ∀ p ys H', ys.Perm xs → H p = none → H' p = some (.lst ys) → Pen H' d c (n + xs.length) → But d H H' → Q (.ref p) H'
theorem perm_erase : ∀ (xs : List V) (k : Nat) (h : k < xs.length), (xs[k] :: xs.eraseIdx k).Perm xs
  | x :: r, 0, _ => List.Perm.refl _
  | x :: r, k + 1, h => by
    have h' : k < r.length := by
      simp only [List.length_cons] at h
      omega
    refine (List.Perm.swap x r[k] (r.eraseIdx k)).trans ?_
    exact (perm_erase r k h').cons x
theorem seqIx {v : Int} {n : Nat} (h0 : 0 ≤ v) (h1 : v < n) : seqIndex? v n = some v.toNat := by
  unfold seqIndex?
  have e : ¬ v < 0 := by omega
  simp only [e, if_false]
  simp [h0, h1]
theorem ok__law_shuffled (T : Tx w K mg a) : FnOk P w K mg base CX0 2 a.f__law_shuffled a.d__law_shuffled ["pen", "some"] (spShuf K) := by
  refine T.F__law_shuffled.ok sc__law_shuffled (fun vs H Q E h => ?_) (fun cdv A outer s H vs Q E hr h => ?_)
  · obtain ⟨d, c, s, n, xs, rfl, _⟩ := h
    rfl
  · obtain ⟨d, c, s, n, xs, rfl, hp, hn, hs, h1, q⟩ := h
    obtain ⟨kvs, hd⟩ := hp.dict
    refine ⟨_, 
(pss_cons (ps_par (i := 2) (j := 3) (by rfl) sc__law_shuffled.nd rfl rfl (by decide) rfl rfl (pa_cons (pe_callTy call_list_of (by rfl) T.z_list (by decide +kernel) (pa_cons (pv 1) pa_nil)) (pa_cons (pe_lst pa_nil) pa_nil)) (by rfl))
  (pss_cons (ps_for PassesOwn.never rfl (pi_range1 (by rfl) T.z_range (pa_cons (pe_callB call_len_seq (by rfl) T.z_len PySem.boot_len (pa_cons (pv 2) pa_nil)) pa_nil)) (pg_name (i := 4) sc__law_shuffled.nd rfl (.inl rfl))
  (pss_one (ps_expr (pe_bm PySem.F.plainAttrs_list PySem.F.slot_list_append PySem.F.type_list_append mt_append (pv 3) (pa_cons (pe_bm PySem.F.plainAttrs_list PySem.F.slot_list_pop PySem.F.type_list_pop mt_popAt (pv 2) (pa_cons (pe_call (ok__law_draw T) hr (by rfl) T.m__law_draw T.F__law_draw.kp T.b__law_draw .nil pass0 (pa_cons (pv 0) (pa_cons (pe_callB call_len_seq (by rfl) T.z_len PySem.boot_len (pa_cons (pv 2) pa_nil)) pa_nil))) pa_nil)) pa_nil)))))
  (pss_one (ps_ret (pv 3))))), ?_⟩
    -- left, found = list(some), []
    refine ⟨.ref s, rfl, s, xs, rfl, .inl hs, fun l hl => ⟨Nat.zero_le _, fun f hf => ⟨.ref l, .ref f, rfl, ?_⟩⟩⟩
    have s1 : Same H (upd H l (.lst xs)) := same_upd hl
    have s2 : Same (upd H l (.lst xs)) (upd (upd H l (.lst xs)) f (.lst [])) := same_upd hf
    have nfl : l ≠ f := ne_of_none upd_same hf
    have hl2 : (upd (upd H l (.lst xs)) f (.lst [])) l = some (.lst xs) := s2 _ _ upd_same
    have hf2 : (upd (upd H l (.lst xs)) f (.lst [])) f = some (.lst []) := upd_same
    have fnew : H f = none := s1.free hf
    have lnew : H l = none := hl
    obtain ⟨oc, hcc⟩ := hp.cells
    have hp2 := hp.same (s1.trans s2)
    have b2 : But d H (upd (upd H l (.lst xs)) f (.lst [])) := but_same (s1.trans s2)
    -- for k in range(len(left))
    refine ⟨.ref l, rfl, l, xs, rfl, .inl (SqL.at hl2), _, rfl, by omega, by omega, ?_⟩
    refine for_range (lo := 0) (n := xs.length) (fun i σ H3 => ∃ y4 ls fs, σ = [some (.ref d), some (.ref s), some (.ref l), some (.ref f), y4] ∧ H3 l = some (.lst ls) ∧ H3 f = some (.lst fs) ∧ (fs ++ ls).Perm xs ∧ fs.length = i ∧ Pen H3 d c (n + i) ∧ But d H H3) ?_ ?_ ?_
    · exact ⟨none, xs, [], rfl, hl2, hf2, List.Perm.refl _, rfl, hp2, b2⟩
    · rintro i σ H3 hi ⟨y4, ls, fs, rfl, hl3, hf3, pm, fl, hp3, b3⟩
      obtain ⟨kvs3, hd3⟩ := hp3.dict
      have hlen : fs.length + ls.length = xs.length := by
        have := pm.length_eq
        rw [List.length_append] at this
        exact this
      refine ⟨.ref f, rfl, .inl ⟨rfl, _, SqL.at hf3⟩, .ref l, rfl, .inl ⟨rfl, _, SqL.at hl3⟩, .ref d, rfl, .ref l, rfl, l, ls, rfl, .inl (SqL.at hl3), d, c, n + i, _, rfl, hp3, by omega, by omega, ?_, fun v H4 v0 v1 hp4 hb => ?_⟩
      · have : ((100000 : Nat) : Int) < 2 ^ 200 := by decide
        omega
      · have hl4 := hb.list hd3 hl3
        have hf4 := hb.list hd3 hf3
        have hv : v.toNat < ls.length := by omega
        refine ⟨l, ls, v, v.toNat, ls[v.toNat], rfl, rfl, hl4, by omega, by omega, seqIx v0 v1, List.getElem?_eq_getElem hv, f, fs, _, rfl, rfl, by rw [upd_ne nfl.symm]; exact hf4, szlt (by omega), ?_⟩
        refine ⟨_, ls.eraseIdx v.toNat, fs ++ [ls[v.toNat]], rfl, by rw [upd_ne nfl]; exact upd_same, upd_same, ?_, by rw [List.length_append, fl]; rfl, ?_, ?_⟩
        · refine List.Perm.trans ?_ pm
          rw [List.append_assoc]
          exact (perm_erase ls v.toNat hv).append_left fs
        · have hp5 := (hp4.mut (l := l) (o := .lst (ls.eraseIdx v.toNat)) (ne_of_none hd lnew) (ne_of_none hcc lnew)).mut (l := f) (o := .lst (fs ++ [ls[v.toNat]])) (ne_of_none hd fnew) (ne_of_none hcc fnew)
          exact hp5
        · exact ((b3.trans hb).mut lnew).mut fnew
    · rintro σ H3 ⟨y4, ls, fs, rfl, hl3, hf3, pm, fl, hp3, b3⟩
      have hlen := pm.length_eq
      rw [List.length_append] at hlen
      have e : ls = [] := List.eq_nil_of_length_eq_zero (by omega)
      subst e
      rw [List.append_nil] at pm
      exact ⟨_, rfl, q f fs H3 pm fnew hf3 hp3 b3⟩
end

/-! ### a list or a tuple: walked, enumerated -/
def SqA (K : PySem.W.Frag) (H : Hp) (p : Addr) (xs : List V) : Prop := SqL K H p xs ∨ SqT K H p xs
theorem SqA.len {K : PySem.W.Frag} {H : Hp} {p : Addr} {xs : List V} (h : SqA K H p xs) : SqL K H p xs ∨ SqT K H p xs := h
theorem Same.seqT {K : PySem.W.Frag} {H H' : Hp} {p : Addr} {xs : List V} (e : Same H H') (h : SqT K H p xs) : SqT K H' p xs := by
  rcases h with (h | ⟨o, h⟩) | h
  · exact .inl (.inl (e _ _ h))
  · exact .inl (.inr ⟨o, e _ _ h⟩)
  · exact .inr h
theorem SqA.same {K : PySem.W.Frag} {H H' : Hp} {p : Addr} {xs : List V} (h : SqA K H p xs) (e : Same H H') : SqA K H' p xs := h.elim (fun q => .inl (e.seq q)) fun q => .inr (Same.seqT e q)
def iSeq (K : PySem.W.Frag) (tl : TE) : TI := fun σ H R => tl σ H fun x H1 => ∃ p xs, x = .ref p ∧ ((SqL K H1 p xs ∧ R (Itl K p) H1) ∨ (SqT K H1 p xs ∧ R (Itt K p) H1))
theorem pi_seq {X : Cx} {tg l : Expr} {tl : TE} (hl : PE X l tl) : PI X tg l (iSeq X.K tl) := by
  constructor
  intro pins s σ H R I h
  apply thn (hl.run pins s σ H _ I h)
  rintro v s1 ⟨x, H1, I1, r1, p, xs, rfl, hq⟩
  cases r1
  rcases hq with ⟨hq, q⟩ | ⟨hq, q⟩
  · obtain ⟨its, _, z, _⟩ := I1.list hq
    exact wpAny_pyIter_list z.isList (pi_one (tk := s1.toks) I1 _ (turn_list p _) ⟨_, Heap.get?_push_size _ rfl, rfl, rfl⟩ q)
  · obtain ⟨its, _, z, _⟩ := I1.tuple hq
    exact wpAny_pyIter_tuple (show s1.heap.IsTuple p its.toArray from z) (pi_one (tk := s1.toks) I1 _ (turn_tuple p _) ⟨_, Heap.get?_push_size _ rfl, rfl, rfl⟩ q)
/-- enumerate over a tuple -/
def IteT (K : PySem.W.Frag) (p : Addr) : It where
  go := fun i H => ∃ (xs : List V) (x : V), SqT K H p xs ∧ xs[i]? = some x
  yld := fun i H v H' => ∃ q x, v = .ref q ∧ H q = none ∧ H' = upd H q (.tup [.int (i : Nat), x]) ∧ ∀ xs, SqT K H p xs → xs[i]? = some x
  stop := fun i H => ∃ xs : List V, SqT K H p xs ∧ xs.length = i
theorem turn_enumT {P : Program} {w : World} {K : PySem.W.Frag} {elts : List Expr} {kk : Nat} {tpos : Pos} (p e it : Addr) :
    Turn P w K (.Tuple elts kk tpos) (IteT K p) [e, it] e (fun i h => (∃ old, IsEnum h e it ((i : Nat) : Int) old) ∧ h.IsTupleIter it p i ∧ e ≠ it) where
  mem := List.mem_cons_self ..
  obj := by
    rintro i h ⟨⟨old, he⟩, ⟨o, ho, hc, hd⟩, _⟩ b hb
    simp only [List.mem_cons, List.not_mem_nil, or_false] at hb
    rcases hb with rfl | rfl
    · exact ⟨_, he, fun v q => nomatch q⟩
    · exact ⟨o, ho, fun v q => by rw [hd] at q; cases q⟩
  keep := by
    rintro i h h' ⟨⟨old, he⟩, hi, hne⟩ k
    exact ⟨⟨old, k e (by simp) _ he⟩, hi.at fun o q => k it (by simp) o q, hne⟩
  item := by
    rintro X rfl rfl rfl hc i pins s σ H E I hf ⟨⟨old, he⟩, hit, hne⟩ ⟨xs, x, hq, hx⟩
    obtain ⟨its, rv, z, hz⟩ := I.tuple hq
    obtain ⟨u, hu, ru⟩ := rv.get hx
    have hel : e < s.heap.objs.size := Heap.lt_size he
    have hil : it < s.heap.objs.size := by
      obtain ⟨_, q, _⟩ := hit
      exact Heap.lt_size q
    have hpe : e ≠ p := fun q => by
      obtain ⟨o, ho, hc1, _⟩ := (show s.heap.IsTuple p its.toArray from z)
      rw [← q] at ho
      rw [Option.some.inj (ho.symm.trans he)] at hc1
      injection hc1 with hc1
      exact absurd hc1 (by decide)
    have hpi : p ≠ it := fun q => by
      obtain ⟨o, ho, hc1, _⟩ := (show s.heap.IsTuple p its.toArray from z)
      obtain ⟨o2, ho2, hc2, _⟩ := hit
      rw [q] at ho
      rw [Option.some.inj (ho.symm.trans ho2), hc2] at hc1
      injection hc1 with hc1
      exact absurd hc1 (by decide)
    have D := Draws.tuple (prog := X.prog) (w := X.w) (A := X.A.in1) (I.ok.hd hc) it p hpi its.toArray
    have hlt : i < its.toArray.size := by
      have := (List.getElem?_eq_some_iff.mp hu).1
      simpa using this
    refine wpAny_pyNext_enum_itemD (i := i) D he ⟨hit, z⟩ hlt hne (by simp [hne, hpe]) ?_
    intro v h' tk hv ho hst' hT hsz hk
    have ev : v = u := by
      have h1 : its[i]? = some v := by simpa using hv
      exact Option.some.inj (h1.symm.trans hu)
    subst ev
    refine ⟨_, rfl, wpAny_letOwnedTupleGo_enum (s := { s with heap := h', toks := tk + 1 }) ho ?_⟩
    intro h'' he' sb
    have hT2 : h''.get? s.heap.objs.size = some { cls := .type "tuple", data := .seq #[.int i tk, v] } := (sb.2 _ (Nat.ne_of_gt hel)).trans hT
    have new : ObjOk X.prog X.w (upd H s.heap.objs.size (.tup [.int (i : Nat), x])) h'' s.heap.objs.size (.tup [.int (i : Nat), x]) :=
      ⟨(by decide : 2 ≤ sizeLine), [.int i tk, v], .cons ⟨_, rfl⟩ (.cons ru .nil), _, hT2, rfl, _, rfl⟩
    have I1 : Inv X pins σ (upd H s.heap.objs.size (.tup [.int (i : Nat), x])) { s with heap := h'', toks := tk + 1 } := by
      refine I.turnedNew (ch := [e, it]) (fun b ob hb q => ?_) hf (Nat.le_refl _) new
      have n1 : b ≠ e := fun y => hb (by simp [y])
      have n2 : b ≠ it := fun y => hb (by simp [y])
      exact (sb.2 b n1).trans (hk b ob n1 n2 q)
    refine ⟨.ref s.heap.objs.size, _, I1, rfl, ⟨_, x, rfl, I.hok.fresh (Nat.le_refl _), rfl, fun ys hy => ?_⟩, ⟨⟨v, ?_⟩, hst'.1.at fun o q => (sb.2 it hne.symm).trans q, hne⟩, fun b hb => ?_⟩
    · rw [I.tuple_inj hy hq]
      exact hx
    · rw [show ((i + 1 : Nat) : Int) = (i : Int) + 1 by omega]
      exact he'
    · have hb' : b < s.heap.objs.size := by
        simp only [List.mem_cons, List.not_mem_nil, or_false] at hb
        rcases hb with rfl | rfl
        · exact hel
        · exact hil
      rw [upd_ne (Nat.ne_of_lt hb')]
      exact (hf b hb).1
  done := by
    rintro X rfl rfl rfl hc i pins s σ H E I hf ⟨⟨old, he⟩, hit, hne⟩ ⟨xs, hq, hx⟩
    obtain ⟨its, rv, z, hz⟩ := I.tuple hq
    obtain ⟨f0, f1, f2, f3, f4, f5⟩ := hf it (by simp)
    have hl := rv.length
    have hpi : p ≠ it := fun q => by
      obtain ⟨o, ho, hc1, _⟩ := (show s.heap.IsTuple p its.toArray from z)
      obtain ⟨o2, ho2, hc2, _⟩ := hit
      rw [q] at ho
      rw [Option.some.inj (ho.symm.trans ho2), hc2] at hc1
      injection hc1 with hc1
      exact absurd hc1 (by decide)
    have D := Draws.tuple (prog := X.prog) (w := X.w) (A := X.A.in1) (I.ok.hd hc) it p hpi its.toArray
    have ei : i = its.toArray.size := by
      simp only [List.size_toArray]
      omega
    subst ei
    exact wpAny_pyNext_enum_endD D he ⟨hit, z⟩ fun h' eb => ⟨rfl, I.turned (t' := s.toks) (fun b o hb e => eb b o hb e) f0 f1 f3 f4 f5⟩
  self := by
    rintro A i s Q E ⟨⟨_, he⟩, _⟩ h
    exact wpAny_pyIter_enum he h
theorem meets_enum0 {v : Value} {o : Obj} {Hh : Heap → Prop} (B : Begins v o Hh) :
    Meets (Builtin.«enumerate.__new__» ⟨[.type "enumerate", v], []⟩) (fun _ R s => Hh s.heap ∧
      R (.ok (.ret (.ref (s.heap.push o).objs.size))) { s with heap := (s.heap.push o).push { cls := .type "enumerate", data := .fields #[.none, .bool false, .ref s.heap.objs.size, rawInt 0, .none, .none] } }) := by
  refine .of_wp ?_
  rintro prog w A R ⟨hp, g, d, tk, os⟩ ⟨h1, h⟩
  have hsb := sub_enumerate
  have q1 : ∀ {A' : Around} {E : Value → Shared → Prop} {Q : Value → Shared → Prop}, Q (.ref hp.objs.size) ⟨hp.push o, g, d, tk, os⟩ → wpAny (model prog w) A' (pyIter v) Q E ⟨hp, g, d, tk, os⟩ := by
    intro A' E Q q
    exact B.iter prog w _ _ ⟨hp, g, d, tk, os⟩ _ h1 q
  wp_walk using q1
  refine wpAny_stack_any fun st => wpAny_pure ?_
  split
  · rename_i c _ _ _ _ _
    cases (c == Value.type "enumerate") <;> (wp_walk using q1; exact ⟨_, rfl, h⟩)
  · wp_walk using q1
    exact ⟨_, rfl, h⟩
theorem call_enum0 {prog : Program} {w : World} {A : Around} {E : Value → Shared → Prop} {s : Shared} {v : Value} {o : Obj} {Hh : Heap → Prop} {Q : Value → Shared → Prop} (B : Begins v o Hh) (h1 : Hh s.heap)
    (h : ∀ h', IsEnum h' (s.heap.objs.size + 1) s.heap.objs.size 0 .none → h'.get? s.heap.objs.size = some o → h'.objs.size = s.heap.objs.size + 2 → (∀ b u, s.heap.get? b = some u → h'.get? b = some u) → Q (.ref (s.heap.objs.size + 1)) { s with heap := h' }) :
    wpAny (model prog w) A (call (.type "enumerate") [v]) Q E s := by
  have hz : (s.heap.push o).objs.size = s.heap.objs.size + 1 := by rw [Heap.size_push]
  refine callType_new F.called_enumerate (by decide) (F.typeCall_enumerate_1 _) (F.newCall_enumerate_1 _) (fun obj => F.args_object_init_2 obj _) F.entry_enumerate_new (meets_enum0 B) ⟨h1, ?_⟩
  have key : IsEnum ((s.heap.push o).push { cls := .type "enumerate", data := .fields #[.none, .bool false, .ref s.heap.objs.size, rawInt 0, .none, .none] }) (s.heap.push o).objs.size s.heap.objs.size 0 .none := Heap.get?_push_size _ rfl
  show _ ∧ _
  rw [hz] at key ⊢
  exact ⟨⟨_, key, rfl⟩, h _ key (Heap.get?_push_of_some _ (Heap.get?_push_size _ B.free)) (by rw [Heap.size_push, hz]) fun b u x => Heap.get?_push_of_some _ (Heap.get?_push_of_some _ x)⟩
def iEnS (K : PySem.W.Frag) (ta : TA) : TI := fun σ H R => ta σ H fun vs H1 => ∃ p xs, vs = [.ref p] ∧ ((SqL K H1 p xs ∧ R (Ite K p) H1) ∨ (SqT K H1 p xs ∧ R (IteT K p) H1))
theorem pi_enumS {X : Cx} {e : Expr} {ta : TA} {p pos tpos : Pos} {elts : List Expr} {kk : Nat} (hg : Gl X "enumerate") (hm : X.mg "enumerate" = none) (ha : PA X [e] ta) (hs : starEach [e] X.env = [(false, eval e X.env)] := by rfl) :
    PI X (.Tuple elts kk tpos) (.Call (.Name "enumerate" p) [e] [] pos) (iEnS X.K ta) := by
  constructor
  intro pins s σ H R I h
  refine Call_ (ld_blt I hg hm boot_enumerate (PyProof.Rows.callWith_type1 (thn (ha.run pos pins s σ H _ I h) ?_) hs rfl))
  rintro us s1 ⟨vs, H1, I1, r1, q0, xs, rfl, hq⟩
  cases r1 with
  | cons r rr =>
    cases rr
    cases r
    have fp : ∀ b ∈ [s1.heap.objs.size + 1, s1.heap.objs.size], FpOk X pins H1 b := by
      intro b hb
      simp only [List.mem_cons, List.not_mem_nil, or_false] at hb
      have hle : s1.heap.objs.size ≤ b := by
        rcases hb with rfl | rfl
        · exact Nat.le_add_right _ _
        · exact Nat.le_refl _
      exact I1.fpOk hle (I1.hok.fresh hle)
    rcases hq with ⟨hq, q⟩ | ⟨hq, q⟩
    · obtain ⟨its, _, z, _⟩ := I1.list hq
      refine call_enumerate_list z.isList ?_
      intro h' he hit hsz hk
      exact wpAny_pyIter_enum he ⟨s1.heap.objs.size + 1, [s1.heap.objs.size + 1, s1.heap.objs.size], _, _, H1, rfl, I1.kept (t' := s1.toks) hk, turn_enum q0 (s1.heap.objs.size + 1) s1.heap.objs.size, ⟨⟨.none, he⟩, hit, Nat.succ_ne_self _⟩, fp, q⟩
    · obtain ⟨its, _, z, _⟩ := I1.tuple hq
      refine call_enum0 (begins_tuple q0 its.toArray) z ?_
      intro h' he hit hsz hk
      exact wpAny_pyIter_enum he ⟨s1.heap.objs.size + 1, [s1.heap.objs.size + 1, s1.heap.objs.size], _, _, H1, rfl, I1.kept (t' := s1.toks) hk, turn_enumT q0 (s1.heap.objs.size + 1) s1.heap.objs.size, ⟨⟨.none, he⟩, ⟨_, hit, rfl, rfl⟩, Nat.succ_ne_self _⟩, fp, q⟩
theorem walk_enumT {K : PySem.W.Frag} {p : Addr} {xs : List V} : Walk (IteT K p) xs.length (fun H => SqT K H p xs) (YPair (fun i => some (.int (i : Nat))) (fun i => xs[i]?)) where
  goes := fun i H hi h => ⟨xs, xs[i], h, List.getElem?_eq_getElem hi⟩
  stops := fun H h => ⟨xs, h, rfl⟩
  yields := by
    rintro i H v H' hi h ⟨q, x, rfl, hn, rfl, hx⟩
    exact ⟨q, _, x, rfl, hn, rfl, rfl, hx xs h⟩

/-- tuple(x), its reading with K by name -/
def rTupOf (K : PySem.W.Frag) : List V → Hp → VK → Prop := fun xs H Q => ∃ p ys, xs = [V.ref p] ∧ ((SqL K H p ys ∧ ∀ (l : Addr), H l = none → Q (V.ref l) (upd H l (HO.tup ys))) ∨ SqT K H p ys ∧ Q (V.ref p) H)
theorem call_tuple_ofK {X : Cx} {K : PySem.W.Frag} (hK : X.K = K) : CallR X (.type "tuple") (rTupOf K) := by
  subst hK
  exact call_tuple_of
/-- list(x), its reading with K by name -/
def rListOf (K : PySem.W.Frag) : List V → Hp → VK → Prop := fun xs H Q => ∃ p ys, xs = [V.ref p] ∧ (SqL K H p ys ∨ SqT K H p ys) ∧ ∀ (l : Addr), H l = none → Q (V.ref l) (upd H l (HO.lst ys))
theorem call_list_ofK {X : Cx} {K : PySem.W.Frag} (hK : X.K = K) : CallR X (.type "list") (rListOf K) := by
  subst hK
  exact call_list_of
/-- len(x), its reading with K by name -/
def rLenS (K : PySem.W.Frag) : List V → Hp → VK → Prop := fun xs H Q => ∃ p ys, xs = [V.ref p] ∧ (SqL K H p ys ∨ SqT K H p ys) ∧ Q (.int ys.length) H
theorem call_len_seqK {X : Cx} {K : PySem.W.Frag} (hK : X.K = K) : CallR X (.builtin "len") (rLenS K) := by
  subst hK
  exact call_len_seq

/-! ### questions about values -/
/-- whether a value is an int that is no bool, as isinstance tells it -/
inductive IsI (H : Hp) : V → Bool → Prop where
  | int (i : Int) : IsI H (.int i) true
  | non : IsI H .non false
  | bl (b : Bool) : IsI H (.bl b) false
  | str (z : Str) : IsI H (.str z) false
  | tup {p : Addr} {xs : List V} (e : H p = some (.tup xs)) : IsI H (.ref p) false
  | lst {p : Addr} {xs : List V} (e : H p = some (.lst xs)) : IsI H (.ref p) false
theorem IsI.same {H H' : Hp} {x : V} {b : Bool} (h : IsI H x b) (e : Same H H') : IsI H' x b := by
  cases h with
  | int i => exact .int i
  | non => exact .non
  | bl b => exact .bl b
  | str z => exact .str z
  | tup q => exact .tup (e _ _ q)
  | lst q => exact .lst (e _ _ q)
section
variable {P : Program} {w : World} {K : PySem.W.Frag} {mg : Str → Option Value} {base : Heap} {a : Ad}
def spIsInteger : Sp := fun vs H Q _ => ∃ x b, vs = [x] ∧ IsI H x b ∧ Q (.bl b) H
theorem ok_is_integer (T : Tx w K mg a) : FnOk P w K mg base CX0 1 a.f_is_integer a.d_is_integer ["value"] spIsInteger := by
  refine T.F_is_integer.ok sc_is_integer (fun vs H Q E h => ?_) (fun cdv A outer s H vs Q E hr h => ?_)
  · obtain ⟨x, b, rfl, _⟩ := h
    rfl
  · obtain ⟨x, b, rfl, hb, q⟩ := h
    refine ⟨_, 
(pss_one (ps_ret (pe_and (pe_callB call_isi (by rfl) T.z_isinstance (by decide +kernel) (pa_cons (pv 0) (pa_cons (pe_bltn (v := .ty "int") (by rfl) T.z_int (by decide +kernel) rfl) pa_nil))) (pe_one (pe_not (pe_callB call_isi (by rfl) T.z_isinstance (by decide +kernel) (pa_cons (pv 0) (pa_cons (pe_bltn (v := .ty "bool") (by rfl) T.z_bool (by decide +kernel) rfl) pa_nil)))))))), ?_⟩
    refine ⟨x, rfl, ?_⟩
    cases hb with
    | int i => exact ⟨_, _, _, _, true, rfl, .ty "int", .base (.int i), kit_ty (by decide +kernel), true, rfl, iteT ⟨_, rfl, _, _, _, _, false, rfl, .ty "bool", .base (.int i), kit_ty (by decide +kernel), _, rfl, q⟩⟩
    | non => exact ⟨_, _, _, _, false, rfl, .ty "int", .base .non, kit_ty (by decide +kernel), false, rfl, iteF q⟩
    | str z => exact ⟨_, _, _, _, false, rfl, .ty "int", .base (.str z), kit_ty (by decide +kernel), false, rfl, iteF q⟩
    | tup e => exact ⟨_, _, _, _, false, rfl, .ty "int", .base (.tup e), kit_ty (by decide +kernel), false, rfl, iteF q⟩
    | lst e => exact ⟨_, _, _, _, false, rfl, .ty "int", .base (.lst e), kit_ty (by decide +kernel), false, rfl, iteF q⟩
    | bl b => exact ⟨_, _, _, _, true, rfl, .ty "int", .base (.bl b), kit_ty (by decide +kernel), true, rfl, iteT ⟨_, rfl, _, _, _, _, true, rfl, .ty "bool", .base (.bl b), kit_ty (by decide +kernel), _, rfl, q⟩⟩
def btM (lo hi : Int) : V → Bool
  | .int i => decide (lo ≤ i) && decide (i ≤ hi)
  | _ => false
def spIsBetween : Sp := fun vs H Q _ => ∃ x b lo hi, vs = [x, .int lo, .int hi] ∧ IsI H x b ∧ Q (.bl (btM lo hi x)) H
theorem ok_is_between (T : Tx w K mg a) : FnOk P w K mg base CX0 2 a.f_is_between a.d_is_between ["value", "low", "high"] spIsBetween := by
  refine T.F_is_between.ok sc_is_between (fun vs H Q E h => ?_) (fun cdv A outer s H vs Q E hr h => ?_)
  · obtain ⟨x, b, lo, hi, rfl, _⟩ := h
    rfl
  · obtain ⟨x, b, lo, hi, rfl, hb, q⟩ := h
    refine ⟨_, 
(pss_one (ps_ret (pe_and (pe_call (ok_is_integer T) hr (by rfl) T.m_is_integer T.F_is_integer.kp T.b_is_integer .nil pass0 (pa_cons (pv 0) pa_nil)) (pe_one (pe_chain op_le op_le (pv 1) (pv 0) (pv 2)))))), ?_⟩
    refine ⟨x, rfl, x, b, rfl, hb, b, rfl, ?_⟩
    cases hb with
    | int i =>
      refine iteT ⟨_, rfl, _, rfl, lo, i, rfl, rfl, _, rfl, ?_⟩
      by_cases h1 : lo ≤ i
      · rw [decide_eq_true h1]
        refine iteT ⟨_, rfl, i, hi, rfl, rfl, ?_⟩
        have e : btM lo hi (.int i) = decide (i ≤ hi) := by simp [btM, h1]
        rw [e] at q
        exact q
      · rw [decide_eq_false h1]
        have e : btM lo hi (.int i) = false := by simp [btM, h1]
        rw [e] at q
        exact iteF q
    | non => exact iteF q
    | str z => exact iteF q
    | tup e => exact iteF q
    | lst e => exact iteF q
    | bl b => exact iteF q
/-- the first member that is no place of n or has come before -/
def fwI (n : Nat) : List Int → Nat → List V → Option Nat
  | _, _, [] => none
  | seen, k, .int i :: r => if 0 ≤ i ∧ i < (n : Int) ∧ i ∉ seen then fwI n (i :: seen) (k + 1) r else some k
  | _, k, _ :: _ => some k
def oN : Option Nat → V
  | none => .non
  | some k => .int k
def flags (n : Nat) (seen : List Int) : List V := (List.range n).map fun j : Nat => V.bl (decide ((j : Int) ∈ seen))
theorem flags_len (n : Nat) (seen : List Int) : (flags n seen).length = n := by
  unfold flags
  rw [List.length_map, List.length_range]
theorem flags_nil (n : Nat) : List.replicate n (V.bl false) = flags n [] := by
  refine List.ext_getElem (by rw [flags_len, List.length_replicate]) fun i h1 h2 => ?_
  simp [flags]
theorem flags_get {n : Nat} {seen : List Int} {i : Int} (h0 : 0 ≤ i) (h1 : i < (n : Int)) : atI (flags n seen) i = some (.bl (decide (i ∈ seen))) := by
  have e : (i.toNat : Int) = i := by omega
  have z : atI (flags n seen) (i.toNat : Int) = some (.bl (decide (i ∈ seen))) := by
    refine atI_nat ?_
    unfold flags
    rw [List.getElem?_map, List.getElem?_range (by omega)]
    show some (V.bl (decide ((i.toNat : Int) ∈ seen))) = _
    rw [e]
  rw [e] at z
  exact z
theorem flags_set {n : Nat} {seen : List Int} {i : Int} (h0 : 0 ≤ i) : (flags n seen).set i.toNat (.bl true) = flags n (i :: seen) := by
  refine List.ext_getElem (by rw [List.length_set, flags_len, flags_len]) fun j h1 h2 => ?_
  rw [List.getElem_set]
  by_cases h : i.toNat = j
  · rw [if_pos h]
    have : (j : Int) = i := by omega
    simp [flags, this]
  · rw [if_neg h]
    have : ¬ (j : Int) = i := by omega
    simp [flags, this]
def spFirstWrong (K : PySem.W.Frag) : Sp := fun vs H Q _ => ∃ r xs, vs = [.ref r, .int (xs.length : Int)] ∧ SqA K H r xs ∧ xs.length ≤ 100000 ∧ (∀ x ∈ xs, ∃ b, IsI H x b) ∧ ∀ H', Same H H' → Q (oN (fwI xs.length [] 0 xs)) H'
theorem ok_first_wrong (T : Tx w K mg a) : FnOk P w K mg base CX0 3 a.f_first_wrong a.d_first_wrong ["row", "size"] (spFirstWrong K) := by
  refine T.F_first_wrong.ok sc_first_wrong (fun vs H Q E h => ?_) (fun cdv A outer s H vs Q E hr h => ?_)
  · obtain ⟨r, xs, rfl, _⟩ := h
    rfl
  · obtain ⟨r, xs, rfl, hx, hl, hk, q⟩ := h
    refine ⟨_, 
(pss_cons (ps_set (i := 2) sc_first_wrong.nd rfl (.inl rfl) (pe_op op_rep (pe_lst (pa_cons pe_bl pa_nil)) (pv 1)))
  (pss_cons (ps_for PassesOwn.never rfl (pi_enumS (by rfl) T.z_enumerate (pa_cons (pv 0) pa_nil)) (pg_tup rfl (pgs_cons (pg_name (i := 3) sc_first_wrong.nd rfl (.inl rfl)) (pgs_cons (pg_name (i := 4) sc_first_wrong.nd rfl (.inl rfl)) pgs_nil)))
  (pss_cons (ps_if (PW.pt (pw_or (pt_not (pt_val (pe_call (ok_is_between T) hr (by rfl) T.m_is_between T.F_is_between.kp T.b_is_between .nil pass0 (pa_cons (pv 4) (pa_cons pe_int (pa_cons (pe_op op_sub (pv 1) pe_int) pa_nil)))))) (pw_or1 (pt_val (pe_ix ix_list (pv 2) (pv 4) (fun _ _ => rfl))))))
  (pss_one (ps_ret (pv 3)))
  pss_nil)
  (pss_one (ps_asg pe_bl (pg_sub (pv 2) (pv 4) set_list)))))
  (pss_one (ps_ret pe_non)))), ?_⟩
    -- has_come = [False] * size
    refine ⟨sz (by decide), fun p0 hp0 => ⟨_, rfl, p0, _, _, rfl, rfl, upd_same, by omega, by omega, sz (by simp; omega), fun p hp => ?_⟩⟩
    have s1 : Same H (upd (upd H p0 (.lst [.bl false])) p (.lst (List.replicate (xs.length : Int).toNat [V.bl false]).flatten)) := (same_upd hp0).trans (same_upd hp)
    have e0 : (List.replicate (xs.length : Int).toNat [V.bl false]).flatten = flags xs.length [] := by
      rw [List.flatten_replicate_singleton, Int.toNat_natCast, flags_nil]
    have pn : H p = none := (same_upd hp0).free hp
    have hp1 : (upd (upd H p0 (.lst [.bl false])) p (.lst (List.replicate (xs.length : Int).toNat [V.bl false]).flatten)) p = some (.lst (flags xs.length [])) := by
      rw [e0]
      exact upd_same
    generalize upd (upd H p0 (.lst [.bl false])) p (.lst (List.replicate (xs.length : Int).toNat [V.bl false]).flatten) = H1 at s1 hp1 ⊢
    -- for index, member in enumerate(row)
    refine ⟨.ref r, rfl, r, xs, rfl, ?_⟩
    refine hx.elim (fun hS => .inl ⟨s1.seq hS, ?_⟩) (fun hS => .inr ⟨Same.seqT s1 hS, ?_⟩)
    all_goals
      refine for_it (by first | exact walk_enum (xs := xs) | exact walk_enumT (xs := xs)) (fun i σ H3 => ∃ y3 y4 seen, σ = [some (.ref r), some (.int (xs.length : Int)), some (.ref p), y3, y4] ∧ Same H H3 ∧ H3 p = some (.lst (flags xs.length seen)) ∧ fwI xs.length [] 0 xs = fwI xs.length seen i (xs.drop i)) ?h0 ?hG ?hs ?hd
      case h0 => exact ⟨none, none, [], rfl, s1, hp1, rfl⟩
      case hG =>
        rintro i σ H3 hi ⟨y3, y4, seen, rfl, s3, hp3, ef⟩
        first | exact s3.seq hS | exact Same.seqT s3 hS
      case hd =>
        rintro σ H3 ⟨y3, y4, seen, rfl, s3, hp3, ef⟩
        rw [List.drop_length] at ef
        have q2 := q H3 s3
        rw [ef] at q2
        exact q2
      case hs =>
        rintro i v σ H3 H4 hi ⟨y3, y4, seen, rfl, s3, hp3, ef⟩ ⟨t, x1, x, rfl, nt, rfl, e1, e2⟩
        cases e1
        have s4 : Same H3 (upd H3 t (.tup [.int (i : Nat), x])) := same_upd nt
        have hp4 := s4 _ _ hp3
        have ed : xs.drop i = x :: xs.drop (i + 1) := by
          rw [List.drop_eq_getElem_cons hi]
          have := List.getElem?_eq_some_iff.mp e2
          rw [this.2]
        rw [ed] at ef
        refine ⟨t, [.int (i : Nat), x], rfl, SqT.at upd_same, rfl, _, [x], rfl, x, [], rfl, rfl, ?_⟩
        obtain ⟨b, hb⟩ := hk x (List.mem_of_getElem? e2)
        refine ⟨x, rfl, _, rfl, (xs.length : Int), 1, rfl, rfl, x, b, 0, _, rfl, (hb.same s3).same s4, _, rfl, ?_⟩
        by_cases hbt : btM 0 ((xs.length : Int) - 1) x = true
        · obtain ⟨m, rfl, h0, h1⟩ : ∃ m : Int, x = .int m ∧ 0 ≤ m ∧ m < (xs.length : Int) := by
            cases x with
            | int m =>
              simp only [btM, Bool.and_eq_true, decide_eq_true_eq] at hbt
              exact ⟨m, rfl, hbt.1, by omega⟩
            | _ => exact absurd hbt (by simp [btM])
          rw [hbt]
          refine iteF ⟨_, rfl, _, rfl, p, _, m, _, rfl, rfl, SqL.at hp4, flags_get h0 h1, _, rfl, ?_⟩
          by_cases hm : m ∈ seen
          · rw [decide_eq_true hm]
            have ef2 : fwI xs.length [] 0 xs = some i := by
              rw [ef]
              simp [fwI, hm]
            have q2 := q _ (s3.trans s4)
            rw [ef2] at q2
            exact iteT ⟨_, rfl, q2⟩
          · rw [decide_eq_false hm]
            have ef2 : fwI xs.length [] 0 xs = fwI xs.length (m :: seen) (i + 1) (xs.drop (i + 1)) := by
              rw [ef]
              simp [fwI, hm, h0, h1]
            refine iteF ⟨_, rfl, _, rfl, p, _, m, m.toNat, rfl, rfl, hp4, by rw [flags_len]; exact ixN_nat h0 h1, ?_⟩
            refine ⟨_, _, m :: seen, rfl, ?_, by rw [flags_set h0]; exact upd_same, ef2⟩
            intro c o e
            rw [upd_ne (ne_of_none e pn)]
            exact s4 _ _ (s3 _ _ e)
        · rw [Bool.not_eq_true] at hbt
          rw [hbt]
          have ef2 : fwI xs.length [] 0 xs = some i := by
            rw [ef]
            cases x with
            | int m =>
              simp only [btM, Bool.and_eq_false_iff, decide_eq_false_iff_not] at hbt
              have : ¬ (0 ≤ m ∧ m < (xs.length : Int) ∧ m ∉ seen) := by omega
              simp only [fwI, if_neg this]
            | _ => rfl
          have q2 := q _ (s3.trans s4)
          rw [ef2] at q2
          exact iteT ⟨_, rfl, q2⟩
end

/-! ### rearrangements as lists of ints -/
def ri (n : Nat) : List Int := (List.range n).map fun i : Nat => (i : Int)
theorem ri_len (n : Nat) : (ri n).length = n := by
  unfold ri
  rw [List.length_map, List.length_range]
theorem ri_mem {n : Nat} {x : Int} : x ∈ ri n ↔ 0 ≤ x ∧ x < (n : Int) := by
  unfold ri
  simp only [List.mem_map, List.mem_range]
  constructor
  · rintro ⟨k, hk, rfl⟩
    omega
  · rintro ⟨h0, h1⟩
    exact ⟨x.toNat, by omega, by omega⟩
theorem ri_get {n i : Nat} (h : i < n) : (ri n)[i]? = some (i : Int) := by
  unfold ri
  rw [List.getElem?_map, List.getElem?_range h]
  rfl
theorem ri_nodup (n : Nat) : (ri n).Nodup := by
  unfold ri
  refine List.Pairwise.map _ (fun i j (h : i ≠ j) => ?_) List.nodup_range
  omega
theorem rgV_ri (n : Nat) : rgV 0 (n : Int) = (ri n).map V.int := by
  unfold rgV ri
  rw [List.map_map]
  have e : ((n : Int) - 0).toNat = n := by omega
  rw [e]
  refine List.map_congr_left fun i _ => ?_
  show V.int (0 + (i : Nat)) = V.int (i : Int)
  rw [Int.zero_add]
/-- a rearrangement: the ints from 0 on, each once -/
def IsRow (xs : List Int) : Prop := xs.Perm (ri xs.length)
theorem IsRow.mem {xs : List Int} (h : IsRow xs) {x : Int} : x ∈ xs ↔ 0 ≤ x ∧ x < (xs.length : Int) := by
  rw [h.mem_iff, ri_mem]
theorem IsRow.nodup {xs : List Int} (h : IsRow xs) : xs.Nodup := h.nodup_iff.mpr (ri_nodup _)
theorem IsRow.at {xs : List Int} (h : IsRow xs) {i : Nat} (hi : i < xs.length) : 0 ≤ xs[i] ∧ xs[i].toNat < xs.length := by
  have := h.mem.mp (List.getElem_mem hi)
  omega
theorem isRow_ri (n : Nat) : IsRow (ri n) := by
  unfold IsRow
  rw [ri_len]
theorem isRow_of {xs : List Int} (n : Nat) (h : xs.Perm (ri n)) : IsRow xs := by
  unfold IsRow
  have := h.length_eq
  rw [ri_len] at this
  rw [this]
  exact h
/-- without doubles and within bounds: a rearrangement -/
theorem nodup_sub_len : ∀ {xs ys : List Int}, xs.Nodup → (∀ x ∈ xs, x ∈ ys) → xs.length ≤ ys.length
  | [], _, _, _ => Nat.zero_le _
  | x :: r, ys, hn, hs => by
    have hx := hs x (List.mem_cons_self ..)
    have hn' := List.nodup_cons.mp hn
    have h2 := nodup_sub_len (xs := r) (ys := ys.erase x) hn'.2 fun y hy => by
      have hne : y ≠ x := fun e => hn'.1 (e ▸ hy)
      exact (List.mem_erase_of_ne hne).mpr (hs y (List.mem_cons_of_mem _ hy))
    rw [List.length_erase_of_mem hx] at h2
    have : 0 < ys.length := List.length_pos_of_mem hx
    simp only [List.length_cons]
    omega
theorem perm_of_nodup : ∀ {xs ys : List Int}, xs.Nodup → ys.Nodup → (∀ x ∈ xs, x ∈ ys) → xs.length = ys.length → xs.Perm ys
  | [], ys, _, _, _, e => by
    have : ys = [] := List.eq_nil_of_length_eq_zero e.symm
    subst this
    exact List.Perm.refl _
  | x :: r, ys, hn, hy, hs, e => by
    have hx := hs x (List.mem_cons_self ..)
    have hn' := List.nodup_cons.mp hn
    have hl : r.length = (ys.erase x).length := by
      rw [List.length_erase_of_mem hx]
      simp only [List.length_cons] at e
      omega
    have p := perm_of_nodup (xs := r) (ys := ys.erase x) hn'.2 (hy.erase x) (fun y h => by
      have hne : y ≠ x := fun e => hn'.1 (e ▸ h)
      exact (List.mem_erase_of_ne hne).mpr (hs y (List.mem_cons_of_mem _ h))) hl
    exact (p.cons x).trans (List.perm_cons_erase hx).symm
theorem isRow_mk {xs : List Int} (hn : xs.Nodup) (hb : ∀ x ∈ xs, 0 ≤ x ∧ x < (xs.length : Int)) : IsRow xs :=
  perm_of_nodup hn (ri_nodup _) (fun x hx => ri_mem.mpr (hb x hx)) (ri_len _).symm
/-- all places are there -/
theorem IsRow.all {xs : List Int} (h : IsRow xs) {v : Nat} (hv : v < xs.length) : (v : Int) ∈ xs := h.mem.mpr (by omega)
/-! ### picking members -/
def pickI (ts rs : List Int) : List Int := rs.map fun r => ts.getD r.toNat 0
theorem pick_len (ts rs : List Int) : (pickI ts rs).length = rs.length := by
  unfold pickI
  rw [List.length_map]
theorem pick_get {ts rs : List Int} {i : Nat} (h : i < rs.length) : (pickI ts rs)[i]'(by rw [pick_len]; exact h) = ts.getD rs[i].toNat 0 := by
  simp [pickI]
/-- done one behind the other -/
theorem pick_pick {ts xs ys : List Int} (hx : ∀ y ∈ ys, 0 ≤ y ∧ y.toNat < xs.length) : pickI (pickI ts xs) ys = pickI ts (pickI xs ys) := by
  unfold pickI
  rw [List.map_map]
  refine List.map_congr_left fun y hy => ?_
  have h := (hx y hy).2
  show (List.map (fun r : Int => ts.getD r.toNat 0) xs).getD y.toNat 0 = ts.getD (xs.getD y.toNat 0).toNat 0
  rw [List.getD_eq_getElem?_getD, List.getElem?_map, List.getElem?_eq_getElem h, List.getD_eq_getElem?_getD (l := xs), List.getElem?_eq_getElem h]
  rfl
theorem pick_ri (xs : List Int) : pickI xs (ri xs.length) = xs := by
  refine List.ext_getElem (by rw [pick_len, ri_len]) fun i h1 h2 => ?_
  rw [pick_get (by rw [ri_len]; exact h2)]
  have e : (ri xs.length)[i]'(by rw [ri_len]; exact h2) = (i : Int) := by
    have := ri_get h2
    rw [List.getElem?_eq_getElem (by rw [ri_len]; exact h2)] at this
    exact Option.some.inj this
  rw [e, Int.toNat_natCast, getD_get h2]
theorem ri_pick {xs : List Int} {n : Nat} (h : ∀ x ∈ xs, 0 ≤ x ∧ x < (n : Int)) : pickI (ri n) xs = xs := by
  unfold pickI
  conv => rhs; rw [← List.map_id xs]
  refine List.map_congr_left fun x hx => ?_
  have := h x hx
  show (ri n).getD x.toNat 0 = x
  rw [List.getD_eq_getElem?_getD, ri_get (by omega)]
  show ((x.toNat : Nat) : Int) = x
  omega
/-- a rearrangement of a rearrangement's members -/
theorem pick_perm {ts rs : List Int} (hr : IsRow rs) (hl : rs.length = ts.length) : (pickI ts rs).Perm ts := by
  have p : (pickI ts rs).Perm (pickI ts (ri rs.length)) := List.Perm.map _ hr
  rw [hl, pick_ri] at p
  exact p
theorem isRow_pick {xs ys : List Int} (hx : IsRow xs) (hy : IsRow ys) (hl : ys.length = xs.length) : IsRow (pickI xs ys) := by
  refine isRow_of xs.length ((pick_perm hy hl).trans hx)
/-! ### taking back -/
/-- bs takes xs back -/
def InvOf (xs bs : List Int) : Prop := bs.length = xs.length ∧ ∀ (j : Nat) (h : j < xs.length), bs[xs[j].toNat]? = some (j : Int)
theorem InvOf.pick {xs bs : List Int} (h : InvOf xs bs) (hx : IsRow xs) : pickI bs xs = ri xs.length := by
  refine List.ext_getElem (by rw [pick_len, ri_len]) fun i h1 h2 => ?_
  rw [pick_len] at h1
  rw [pick_get h1, List.getD_eq_getElem?_getD, h.2 i h1]
  have := ri_get h1
  rw [List.getElem?_eq_getElem h2] at this
  exact (Option.some.inj this).symm
theorem InvOf.mem {xs bs : List Int} (h : InvOf xs bs) (hx : IsRow xs) {v : Nat} (hv : v < xs.length) : ∃ (j : Nat) (hj : j < xs.length), xs[j] = (v : Int) ∧ bs[v]? = some (j : Int) := by
  obtain ⟨j, hj, e⟩ := List.getElem_of_mem (hx.all hv)
  have := h.2 j hj
  rw [e, Int.toNat_natCast] at this
  exact ⟨j, hj, e, this⟩
theorem InvOf.pick2 {xs bs : List Int} (h : InvOf xs bs) (hx : IsRow xs) : pickI xs bs = ri xs.length := by
  refine List.ext_getElem (by rw [pick_len, ri_len, h.1]) fun i h1 h2 => ?_
  rw [pick_len, h.1] at h1
  obtain ⟨j, hj, e, eb⟩ := h.mem hx h1
  have hb : i < bs.length := by rw [h.1]; exact h1
  rw [pick_get hb]
  have e2 : bs[i] = (j : Int) := by
    rw [List.getElem?_eq_getElem hb] at eb
    exact Option.some.inj eb
  rw [e2, Int.toNat_natCast, getD_get hj, e]
  have := ri_get h1
  rw [List.getElem?_eq_getElem h2] at this
  exact (Option.some.inj this).symm
theorem InvOf.bound {xs bs : List Int} (h : InvOf xs bs) (hx : IsRow xs) : ∀ y ∈ bs, 0 ≤ y ∧ y.toNat < xs.length := by
  intro y hy
  obtain ⟨i, hi, e⟩ := List.getElem_of_mem hy
  obtain ⟨j, hj, _, eb⟩ := h.mem hx (v := i) (by rw [← h.1]; exact hi)
  rw [List.getElem?_eq_getElem hi] at eb
  have := Option.some.inj eb
  omega
theorem InvOf.row {xs bs : List Int} (h : InvOf xs bs) (hx : IsRow xs) : IsRow bs := by
  refine isRow_mk ?_ fun y hy => ?_
  · rw [List.nodup_iff_pairwise_ne, List.pairwise_iff_getElem]
    intro i j hi hj hij e
    obtain ⟨u, hu, e1, b1⟩ := h.mem hx (v := i) (by rw [← h.1]; exact hi)
    obtain ⟨v, hv, e2, b2⟩ := h.mem hx (v := j) (by rw [← h.1]; exact hj)
    rw [List.getElem?_eq_getElem hi] at b1
    rw [List.getElem?_eq_getElem hj] at b2
    have q1 := Option.some.inj b1
    have q2 := Option.some.inj b2
    have : u = v := by omega
    subst this
    rw [e1] at e2
    omega
  · have := h.bound hx y hy
    rw [h.1]
    omega
theorem InvOf.uniq {xs b1 b2 : List Int} (h1 : InvOf xs b1) (h2 : InvOf xs b2) (hx : IsRow xs) : b1 = b2 := by
  refine List.ext_getElem (by rw [h1.1, h2.1]) fun i q1 q2 => ?_
  obtain ⟨u, hu, e1, y1⟩ := h1.mem hx (v := i) (by rw [← h1.1]; exact q1)
  have y2 := h2.2 u hu
  rw [e1, Int.toNat_natCast] at y2
  rw [List.getElem?_eq_getElem q1] at y1
  rw [List.getElem?_eq_getElem q2] at y2
  exact (Option.some.inj y1).trans (Option.some.inj y2).symm
theorem fwI_none : ∀ (n : Nat) (xs : List Int) (seen : List Int) (k : Nat), xs.Nodup → (∀ x ∈ xs, 0 ≤ x ∧ x < (n : Int) ∧ x ∉ seen) → fwI n seen k (xs.map V.int) = none
  | _, [], _, _, _, _ => rfl
  | n, x :: r, seen, k, hn, hb => by
    have hn' := List.nodup_cons.mp hn
    have hx := hb x (List.mem_cons_self ..)
    simp only [List.map_cons, fwI, if_pos hx]
    refine fwI_none n r (x :: seen) (k + 1) hn'.2 fun y hy => ?_
    have := hb y (List.mem_cons_of_mem _ hy)
    refine ⟨this.1, this.2.1, ?_⟩
    intro q
    rcases List.mem_cons.mp q with e | q
    · exact hn'.1 (e ▸ hy)
    · exact this.2.2 q
theorem fwI_row {xs : List Int} (h : IsRow xs) : fwI xs.length [] 0 (xs.map V.int) = none :=
  fwI_none _ _ _ _ h.nodup fun x hx => ⟨(h.mem.mp hx).1, (h.mem.mp hx).2, List.not_mem_nil⟩

section
variable {P : Program} {w : World} {K : PySem.W.Frag} {mg : Str → Option Value} {base : Heap} {a : Ad}
theorem isI_ints {H : Hp} {ns : List Int} : ∀ x ∈ ns.map V.int, ∃ b, IsI H x b := by
  intro x hx
  obtain ⟨i, _, rfl⟩ := List.mem_map.mp hx
  exact ⟨true, .int i⟩
/-- the row at p, as a list or a tuple -/
def RowAt (K : PySem.W.Frag) (H : Hp) (p : Addr) (xs : List Int) : Prop := SqA K H p (xs.map V.int) ∧ IsRow xs ∧ xs.length ≤ 100000
theorem RowAt.same {H H' : Hp} {p : Addr} {xs : List Int} (h : RowAt K H p xs) (e : Same H H') : RowAt K H' p xs := ⟨h.1.same e, h.2⟩
theorem SqA.at_get {K : PySem.W.Frag} {H : Hp} {p : Addr} {ts : List Int} {i : Int} {Q : VK} (h : SqA K H p (ts.map V.int)) (h0 : 0 ≤ i) (h1 : i.toNat < ts.length) (q : Q (.int (ts.getD i.toNat 0)) H) : rIx K (.ref p) (.int i) H Q := by
  rw [getD_get h1] at q
  have hi := atI_ints h0 h1
  rcases h with h | h
  · exact .inl ⟨p, _, i, _, rfl, rfl, h, hi, q⟩
  · exact .inr (.inl ⟨p, _, i, _, rfl, rfl, h, hi, q⟩)
def spCheckRow (K : PySem.W.Frag) : Sp := fun vs H Q _ => ∃ p xs, vs = [.ref p] ∧ RowAt K H p xs ∧ ∀ H', Same H H' → Q .non H'
theorem ok_check_row (T : Tx w K mg a) : FnOk P w K mg base CX0 4 a.f_check_row a.d_check_row ["row"] (spCheckRow K) := by
  refine T.F_check_row.ok sc_check_row (fun vs H Q E h => ?_) (fun cdv A outer s H vs Q E hr h => ?_)
  · obtain ⟨p, xs, rfl, _⟩ := h
    rfl
  · obtain ⟨p, xs, rfl, ⟨hS, hR, hL⟩, q⟩ := h
    refine ⟨_, 
(pss_cons (ps_set (i := 1) sc_check_row.nd rfl (.inl rfl) (pe_call (ok_first_wrong T) hr (by rfl) T.m_first_wrong T.F_first_wrong.kp T.b_first_wrong .nil pass0 (pa_cons (pv 0) (pa_cons (pe_callB call_len_seq (by rfl) T.z_len PySem.boot_len (pa_cons (pv 0) pa_nil)) pa_nil))))
  (pss_one (ps_if (pt_cmpR op_notN (pv 1) pe_non (nomark _))
  (pss_one ps_never)
  pss_nil))), ?_⟩
    refine ⟨.ref p, rfl, .ref p, rfl, p, _, rfl, hS, p, xs.map V.int, rfl, hS, by rw [List.length_map]; exact hL, isI_ints, fun H' s' => ?_⟩
    rw [List.length_map, fwI_row hR]
    exact ⟨_, rfl, rfl, _, rfl, iteF (q H' s')⟩
def spNothing : Sp := fun vs H Q _ => ∃ n : Nat, vs = [.int (n : Int)] ∧ n ≤ 1000 ∧ ∀ p H', H p = none → H' p = some (.lst ((ri n).map V.int)) → Same H H' → Q (.ref p) H'
theorem ok_nothing (T : Tx w K mg a) : FnOk P w K mg base CX0 3 a.f_nothing a.d_nothing ["size"] spNothing := by
  refine T.F_nothing.ok sc_nothing (fun vs H Q E h => ?_) (fun cdv A outer s H vs Q E hr h => ?_)
  · obtain ⟨n, rfl, _⟩ := h
    rfl
  · obtain ⟨n, rfl, hn, q⟩ := h
    refine ⟨_, 
(pss_cons (ps_if (pt_not (pt_val (pe_call (ok_is_between T) hr (by rfl) T.m_is_between T.F_is_between.kp T.b_is_between .nil pass0 (pa_cons (pv 0) (pa_cons pe_int (pa_cons (pe_glob (v := .int 1000) (by rfl) T.m_MOST_PLACES.choose_spec ⟨_, rfl⟩) pa_nil))))))
  (pss_one ps_never)
  pss_nil)
  (pss_one (ps_ret (pe_listRg rfl (by rfl) T.z_list (prg_1 (by rfl) T.z_range (pv 0)))))), ?_⟩
    refine ⟨_, rfl, .int n, true, 0, 1000, rfl, .int _, _, rfl, ?_⟩
    have e : btM 0 1000 (.int (n : Int)) = true := by
      simp only [btM, Bool.and_eq_true, decide_eq_true_eq]
      omega
    rw [e]
    refine iteF ⟨_, rfl, _, rfl, RgOk.of_le (by decide) (by omega) (by decide) (by omega), fun p hp => ?_⟩
    rw [rgV_ri]
    exact q p _ hp upd_same (same_upd hp)
def spInTurn (K : PySem.W.Frag) : Sp := fun vs H Q _ => ∃ p r xs ys, vs = [.ref p, .ref r] ∧ SqA K H p (xs.map V.int) ∧ SqA K H r (ys.map V.int) ∧ (∀ y ∈ ys, 0 ≤ y ∧ y.toNat < xs.length) ∧ ys.length ≤ 100000 ∧ ∀ o H', H o = none → H' o = some (.lst ((pickI xs ys).map V.int)) → Same H H' → Q (.ref o) H'
theorem ok_in_turn (T : Tx w K mg a) : FnOk P w K mg base CX0 1 a.f_in_turn a.d_in_turn ["first", "second"] (spInTurn K) := by
  refine T.F_in_turn.ok sc_in_turn (fun vs H Q E h => ?_) (fun cdv A outer s H vs Q E hr h => ?_)
  · obtain ⟨p, r, xs, ys, rfl, _⟩ := h
    rfl
  · obtain ⟨p, r, xs, ys, rfl, hX, hY, hb, hl, q⟩ := h
    refine ⟨_, 
(pss_one (ps_ret (pe_lc (own := [("place", 2)]) (g := gName 2) rfl sc_in_turn.nd (pi_seq (pv 1)) (blkOk_by (own := [("place", 2)]) (N := ["first", "second", "place"]) (sc := defScope s_in_turn) (by decide +kernel)) (fun _ _ _ _ _ => pg_name (i := 2) sc_in_turn.nd rfl (Or.inl rfl)) (fun _ _ _ _ _ => pts_nil) (fun _ _ _ _ _ => (pe_ix (show IxR _ (rIx K) from ix_seq) (pv 0) (pv 2) (fun _ _ => rfl)))))), ?_⟩
    refine ⟨.ref r, rfl, r, ys.map V.int, rfl, ?_⟩
    refine hY.elim (fun hS => .inl ⟨hS, fun o ho => ?_⟩) (fun hS => .inr ⟨hS, fun o ho => ?_⟩)
    all_goals
      refine lc_it (by first | exact walk_list (xs := ys.map V.int) | exact walk_tup (xs := ys.map V.int)) (fun i H' => Same H H' ∧ H' o = some (.lst (((pickI xs ys).take i).map V.int))) ?h0 ?hG ?hs ?hd
      case h0 => exact ⟨same_upd ho, upd_same⟩
      case hG =>
        rintro i H' _ ⟨sm, _⟩
        first | exact sm.seq hS | exact Same.seqT sm hS
      case hd =>
        rintro H' ⟨sm, e⟩
        rw [List.length_map, List.take_of_length_le (by rw [pick_len]; exact Nat.le_refl _)] at e
        exact q o H' ho e sm
      case hs =>
        rintro i x H3 H4 hi ⟨sm, e⟩ ⟨rfl, ex⟩
        rw [List.length_map] at hi
        rw [List.getElem?_map, List.getElem?_eq_getElem hi] at ex
        cases ex
        have hb := hb _ (List.getElem_mem hi)
        refine ⟨rfl, _, rfl, _, rfl, SqA.at_get (hX.same sm) hb.1 hb.2 ?_⟩
        refine ⟨_, e, ?_, ?_, ?_⟩
        · rw [List.length_map, List.length_take]
          exact szlt (Nat.le_trans (Nat.min_le_right _ _) (by rw [pick_len]; exact hl))
        · intro b u hb'
          rw [upd_ne (ne_of_none hb' ho)]
          exact sm b u hb'
        · rw [upd_same, List.take_add_one, List.getElem?_eq_getElem (by rw [pick_len]; exact hi), pick_get hi, List.map_append]
          rfl
def spJoined (K : PySem.W.Frag) : Sp := fun vs H Q _ => ∃ p r xs ys, vs = [.ref p, .ref r] ∧ RowAt K H p xs ∧ RowAt K H r ys ∧ ys.length = xs.length ∧ ∀ o H', H o = none → H' o = some (.lst ((pickI xs ys).map V.int)) → Same H H' → Q (.ref o) H'
theorem ok_joined (T : Tx w K mg a) : FnOk P w K mg base CX0 5 a.f_joined a.d_joined ["first", "second"] (spJoined K) := by
  refine T.F_joined.ok sc_joined (fun vs H Q E h => ?_) (fun cdv A outer s H vs Q E hr h => ?_)
  · obtain ⟨p, r, xs, ys, rfl, _⟩ := h
    rfl
  · obtain ⟨p, r, xs, ys, rfl, hX, hY, hl, q⟩ := h
    refine ⟨_, 
(pss_cons (ps_expr (pe_call (ok_check_row T) hr (by rfl) T.m_check_row T.F_check_row.kp T.b_check_row .nil pass0 (pa_cons (pv 0) pa_nil)))
  (pss_cons (ps_expr (pe_call (ok_check_row T) hr (by rfl) T.m_check_row T.F_check_row.kp T.b_check_row .nil pass0 (pa_cons (pv 1) pa_nil)))
  (pss_cons (ps_if (pt_cmpR op_ne (pe_callB call_len_seq (by rfl) T.z_len PySem.boot_len (pa_cons (pv 0) pa_nil)) (pe_callB call_len_seq (by rfl) T.z_len PySem.boot_len (pa_cons (pv 1) pa_nil)) (nomark _))
  (pss_one ps_never)
  pss_nil)
  (pss_one (ps_ret (pe_call (ok_in_turn T) (hr.mono (by decide)) (by rfl) T.m_in_turn T.F_in_turn.kp T.b_in_turn .nil pass0 (pa_cons (pv 0) (pa_cons (pv 1) pa_nil)))))))), ?_⟩
    refine ⟨.ref p, rfl, p, xs, rfl, hX, fun H1 s1 => ⟨.ref r, rfl, r, ys, rfl, hY.same s1, fun H2 s2 => ?_⟩⟩
    have s12 := s1.trans s2
    have hX2 := hX.same s12
    have hY2 := hY.same s12
    refine ⟨.ref p, rfl, p, _, rfl, hX2.1, .ref r, rfl, r, _, rfl, hY2.1, rfl, _, rfl, ?_⟩
    rw [List.length_map, List.length_map, hl]
    refine iteNS rfl ?_
    refine ⟨.ref p, rfl, .ref r, rfl, p, r, xs, ys, rfl, hX2.1, hY2.1, fun y hy => ?_, hY.2.2, fun o H' no eo s3 => q o H' (s12.free no) eo (s12.trans s3)⟩
    have := hY.2.1.mem.mp hy
    omega
def spDone (K : PySem.W.Frag) : Sp := fun vs H Q _ => ∃ p r xs ts, vs = [.ref p, .ref r] ∧ RowAt K H p xs ∧ SqA K H r (ts.map V.int) ∧ ts.length = xs.length ∧ ∀ o H', H o = none → H' o = some (.lst ((pickI ts xs).map V.int)) → Same H H' → Q (.ref o) H'
theorem ok_done (T : Tx w K mg a) : FnOk P w K mg base CX0 5 a.f_done a.d_done ["row", "things"] (spDone K) := by
  refine T.F_done.ok sc_done (fun vs H Q E h => ?_) (fun cdv A outer s H vs Q E hr h => ?_)
  · obtain ⟨p, r, xs, ts, rfl, _⟩ := h
    rfl
  · obtain ⟨p, r, xs, ts, rfl, hX, hT, hl, q⟩ := h
    refine ⟨_, 
(pss_cons (ps_expr (pe_call (ok_check_row T) hr (by rfl) T.m_check_row T.F_check_row.kp T.b_check_row .nil pass0 (pa_cons (pv 0) pa_nil)))
  (pss_cons (ps_if (pt_cmpR op_ne (pe_callB call_len_seq (by rfl) T.z_len PySem.boot_len (pa_cons (pv 1) pa_nil)) (pe_callB call_len_seq (by rfl) T.z_len PySem.boot_len (pa_cons (pv 0) pa_nil)) (nomark _))
  (pss_one ps_never)
  pss_nil)
  (pss_one (ps_ret (pe_lc (own := [("place", 2)]) (g := gName 2) rfl sc_done.nd (pi_seq (pv 0)) (blkOk_by (own := [("place", 2)]) (N := ["row", "things", "place"]) (sc := defScope s_done) (by decide +kernel)) (fun _ _ _ _ _ => pg_name (i := 2) sc_done.nd rfl (Or.inl rfl)) (fun _ _ _ _ _ => pts_nil) (fun _ _ _ _ _ => (pe_ix (show IxR _ (rIx K) from ix_seq) (pv 1) (pv 2) (fun _ _ => rfl)))))))), ?_⟩
    refine ⟨.ref p, rfl, p, xs, rfl, hX, fun H1 s1 => ?_⟩
    have hX1 := hX.same s1
    have hT1 := hT.same s1
    refine ⟨.ref r, rfl, r, _, rfl, hT1, .ref p, rfl, p, _, rfl, hX1.1, rfl, _, rfl, ?_⟩
    rw [List.length_map, List.length_map, hl]
    refine iteNS rfl ?_
    refine ⟨.ref p, rfl, p, xs.map V.int, rfl, ?_⟩
    refine hX1.1.elim (fun hS => .inl ⟨hS, fun o ho => ?_⟩) (fun hS => .inr ⟨hS, fun o ho => ?_⟩)
    all_goals
      refine lc_it (by first | exact walk_list (xs := xs.map V.int) | exact walk_tup (xs := xs.map V.int)) (fun i H' => Same H1 H' ∧ H' o = some (.lst (((pickI ts xs).take i).map V.int))) ?h0 ?hG ?hs ?hd
      case h0 => exact ⟨same_upd ho, upd_same⟩
      case hG =>
        rintro i H' _ ⟨sm, _⟩
        first | exact sm.seq hS | exact Same.seqT sm hS
      case hd =>
        rintro H' ⟨sm, e⟩
        rw [List.length_map, List.take_of_length_le (by rw [pick_len]; exact Nat.le_refl _)] at e
        exact q o H' (s1.free ho) e (s1.trans sm)
      case hs =>
        rintro i x H3 H4 hi ⟨sm, e⟩ ⟨rfl, ex⟩
        rw [List.length_map] at hi
        rw [List.getElem?_map, List.getElem?_eq_getElem hi] at ex
        cases ex
        have hb := hX.2.1.at hi
        refine ⟨rfl, _, rfl, _, rfl, SqA.at_get (hT1.same sm) hb.1 (show xs[i].toNat < ts.length by have := hb.2; omega) ?_⟩
        refine ⟨_, e, ?_, ?_, ?_⟩
        · rw [List.length_map, List.length_take]
          exact szlt (Nat.le_trans (Nat.min_le_right _ _) (by rw [pick_len]; exact hX.2.2))
        · intro b u hb'
          rw [upd_ne (ne_of_none hb' ho)]
          exact sm b u hb'
        · rw [upd_same, List.take_add_one, List.getElem?_eq_getElem (by rw [pick_len]; exact hi), pick_get hi, List.map_append]
          rfl
def spBackFrom (K : PySem.W.Frag) : Sp := fun vs H Q _ => ∃ p xs, vs = [.ref p] ∧ RowAt K H p xs ∧ ∀ o bs H', H o = none → InvOf xs bs → H' o = some (.lst (bs.map V.int)) → Same H H' → Q (.ref o) H'
theorem ok_back_from (T : Tx w K mg a) : FnOk P w K mg base CX0 1 a.f_back_from a.d_back_from ["row"] (spBackFrom K) := by
  refine T.F_back_from.ok sc_back_from (fun vs H Q E h => ?_) (fun cdv A outer s H vs Q E hr h => ?_)
  · obtain ⟨p, xs, rfl, _⟩ := h
    rfl
  · obtain ⟨p, xs, rfl, hX, q⟩ := h
    refine ⟨_, 
(pss_cons (ps_set (i := 1) sc_back_from.nd rfl (.inl rfl) (pe_callTy call_list_of (by rfl) T.z_list (by decide +kernel) (pa_cons (pv 0) pa_nil)))
  (pss_cons (ps_for PassesOwn.never rfl (pi_enumS (by rfl) T.z_enumerate (pa_cons (pv 0) pa_nil)) (pg_tup rfl (pgs_cons (pg_name (i := 2) sc_back_from.nd rfl (.inl rfl)) (pgs_cons (pg_name (i := 3) sc_back_from.nd rfl (.inl rfl)) pgs_nil)))
  (pss_one (ps_asg (pv 2) (pg_sub (pv 1) (pv 3) set_list))))
  (pss_one (ps_ret (pv 1))))), ?_⟩
    refine ⟨.ref p, rfl, p, _, rfl, hX.1, fun o ho => ?_⟩
    have s2 : Same H (upd H o (.lst (xs.map V.int))) := same_upd ho
    have ho2 : (upd H o (.lst (xs.map V.int))) o = some (.lst (xs.map V.int)) := upd_same
    generalize upd H o (.lst (xs.map V.int)) = H2 at s2 ho2 ⊢
    have hn := hX.2.1.nodup
    refine ⟨.ref p, rfl, p, xs.map V.int, rfl, ?_⟩
    refine hX.1.elim (fun hS => .inl ⟨s2.seq hS, ?_⟩) (fun hS => .inr ⟨Same.seqT s2 hS, ?_⟩)
    all_goals
      refine for_it (by first | exact walk_enum (xs := xs.map V.int) | exact walk_enumT (xs := xs.map V.int)) (fun i σ H3 => ∃ (y2 y3 : Option V) (bs : List Int), σ = [some (.ref p), some (.ref o), y2, y3] ∧ Same H H3 ∧ H3 o = some (.lst (bs.map V.int)) ∧ bs.length = xs.length ∧ (∀ (j : Nat) (h : j < xs.length), j < i → bs[xs[j].toNat]? = some (j : Int))) ?h0 ?hG ?hs ?hd
      case h0 => exact ⟨none, none, xs, rfl, s2, ho2, rfl, fun j _ h => absurd h (Nat.not_lt_zero _)⟩
      case hG =>
        rintro i σ H3 hi ⟨y2, y3, bs, rfl, s3, _, _, _⟩
        first | exact s3.seq hS | exact Same.seqT s3 hS
      case hd =>
        rintro σ H3 ⟨y2, y3, bs, rfl, s3, ho3, hl, hb⟩
        rw [List.length_map] at hb
        exact ⟨_, rfl, q o bs H3 ho ⟨hl, fun j h => hb j h h⟩ ho3 s3⟩
      case hs =>
        rintro i v σ H3 H4 hi ⟨y2, y3, bs, rfl, s3, ho3, hl, hb⟩ ⟨t, x1, x, rfl, nt, rfl, e1, e2⟩
        cases e1
        rw [List.length_map] at hi
        have e2 : (xs.map V.int)[i]? = some x := e2
        rw [List.getElem?_map, List.getElem?_eq_getElem hi] at e2
        cases e2
        have s4 : Same H3 (upd H3 t (.tup [.int (i : Nat), .int xs[i]])) := same_upd nt
        have ho4 := s4 _ _ ho3
        have hat := hX.2.1.at hi
        refine ⟨t, [.int (i : Nat), .int xs[i]], rfl, SqT.at upd_same, rfl, _, [.int xs[i]], rfl, .int xs[i], [], rfl, rfl, ?_⟩
        refine ⟨_, rfl, _, rfl, _, rfl, o, _, _, xs[i].toNat, rfl, rfl, ho4, ixN_nat hat.1 (by rw [List.length_map]; omega), ?_⟩
        refine ⟨_, _, bs.set xs[i].toNat (i : Int), rfl, ?_, by rw [upd_same, List.map_set], by rw [List.length_set]; exact hl, fun j hj hji => ?_⟩
        · intro b u hb'
          rw [upd_ne (ne_of_none hb' ho)]
          exact s4 _ _ (s3 b u hb')
        · by_cases hjc : j = i
          · subst hjc
            rw [List.getElem?_set_self (by omega)]
          · have hne : xs[j] ≠ xs[i] := fun e => hjc ((List.getElem_inj hn).mp e)
            have hatj := hX.2.1.at hj
            rw [List.getElem?_set_ne (by omega)]
            exact hb j hj (by omega)
def spUndone (K : PySem.W.Frag) : Sp := fun vs H Q _ => ∃ p xs, vs = [.ref p] ∧ RowAt K H p xs ∧ ∀ o bs H', H o = none → InvOf xs bs → H' o = some (.lst (bs.map V.int)) → Same H H' → Q (.ref o) H'
theorem ok_undone (T : Tx w K mg a) : FnOk P w K mg base CX0 5 a.f_undone a.d_undone ["row"] (spUndone K) := by
  refine T.F_undone.ok sc_undone (fun vs H Q E h => ?_) (fun cdv A outer s H vs Q E hr h => ?_)
  · obtain ⟨p, xs, rfl, _⟩ := h
    rfl
  · obtain ⟨p, xs, rfl, hX, q⟩ := h
    refine ⟨_, 
(pss_cons (ps_expr (pe_call (ok_check_row T) hr (by rfl) T.m_check_row T.F_check_row.kp T.b_check_row .nil pass0 (pa_cons (pv 0) pa_nil)))
  (pss_one (ps_ret (pe_call (ok_back_from T) (hr.mono (by decide)) (by rfl) T.m_back_from T.F_back_from.kp T.b_back_from .nil pass0 (pa_cons (pv 0) pa_nil))))), ?_⟩
    refine ⟨.ref p, rfl, p, xs, rfl, hX, fun H1 s1 => ⟨.ref p, rfl, p, xs, rfl, hX.same s1, fun o bs H' no iv eo s2 => q o bs H' (s1.free no) iv eo (s1.trans s2)⟩⟩
end

/-! ### the ring of a place -/
def nxP (xs : List Int) (p : Nat) : Nat := (xs.getD p 0).toNat
def itP (xs : List Int) : Nat → Nat → Nat
  | 0, p => p
  | k + 1, p => nxP xs (itP xs k p)
theorem nxP_get {xs : List Int} {p : Nat} (hp : p < xs.length) : nxP xs p = xs[p].toNat := by
  unfold nxP
  rw [getD_get hp]
theorem nxP_lt {xs : List Int} (h : IsRow xs) {p : Nat} (hp : p < xs.length) : nxP xs p < xs.length := by
  rw [nxP_get hp]
  exact (h.at hp).2
theorem nxP_inj {xs : List Int} (h : IsRow xs) {p q : Nat} (hp : p < xs.length) (hq : q < xs.length) (e : nxP xs p = nxP xs q) : p = q := by
  rw [nxP_get hp, nxP_get hq] at e
  have e2 : xs[p] = xs[q] := by
    have := (h.at hp).1
    have := (h.at hq).1
    omega
  have nd := List.pairwise_iff_getElem.mp h.nodup
  rcases Nat.lt_trichotomy p q with l | l | l
  · exact absurd e2 (nd p q hp hq l)
  · exact l
  · exact absurd e2.symm (nd q p hq hp l)
theorem itP_lt {xs : List Int} (h : IsRow xs) {p : Nat} (hp : p < xs.length) : ∀ k, itP xs k p < xs.length
  | 0 => hp
  | k + 1 => nxP_lt h (itP_lt h hp k)
theorem itP_add (xs : List Int) (p : Nat) (b : Nat) : ∀ a, itP xs (a + b) p = itP xs a (itP xs b p)
  | 0 => by rw [Nat.zero_add]; rfl
  | a + 1 => by
    rw [show a + 1 + b = (a + b) + 1 by omega]
    show nxP xs (itP xs (a + b) p) = nxP xs (itP xs a (itP xs b p))
    rw [itP_add xs p b a]
theorem itP_cancel {xs : List Int} (h : IsRow xs) {p q : Nat} (hp : p < xs.length) (hq : q < xs.length) : ∀ k, itP xs k p = itP xs k q → p = q
  | 0, e => e
  | k + 1, e => itP_cancel h hp hq k (nxP_inj h (itP_lt h hp k) (itP_lt h hq k) e)
theorem itP_back {xs : List Int} (h : IsRow xs) {p : Nat} (hp : p < xs.length) {i j : Nat} (hij : i ≤ j) (e : itP xs i p = itP xs j p) : itP xs (j - i) p = p := by
  have e1 : itP xs j p = itP xs i (itP xs (j - i) p) := by
    rw [← itP_add]
    congr 1
    omega
  rw [e1] at e
  exact (itP_cancel h hp (itP_lt h hp _) i e).symm
theorem itP_ret {xs : List Int} (h : IsRow xs) {p : Nat} (hp : p < xs.length) : ∃ m, 1 ≤ m ∧ m ≤ xs.length ∧ itP xs m p = p := by
  refine Classical.byContradiction fun no => ?_
  have nd : ((List.range (xs.length + 1)).map fun j => ((itP xs j p : Nat) : Int)).Nodup := by
    refine List.pairwise_iff_getElem.mpr fun i j hi hj hij e => ?_
    rw [List.getElem_map, List.getElem_map, List.getElem_range, List.getElem_range] at e
    rw [List.length_map, List.length_range] at hj
    exact no ⟨j - i, by omega, by omega, itP_back h hp (Nat.le_of_lt hij) (by omega)⟩
  have := nodup_sub_len nd (ys := ri xs.length) fun x hx => by
    obtain ⟨j, _, rfl⟩ := List.mem_map.mp hx
    exact ri_mem.mpr ⟨by omega, by have := itP_lt h hp j; omega⟩
  rw [List.length_map, List.length_range, ri_len] at this
  omega
/-- how many places the ring has: the first return from m on, within the fuel -/
def rlF (xs : List Int) (p : Nat) : Nat → Nat → Nat
  | 0, m => m
  | f + 1, m => if itP xs m p = p then m else rlF xs p f (m + 1)
def rlen (xs : List Int) (p : Nat) : Nat := rlF xs p xs.length 1
theorem rlF_spec {xs : List Int} {p : Nat} : ∀ (f m : Nat), (∃ k, m ≤ k ∧ k < m + f ∧ itP xs k p = p) → m ≤ rlF xs p f m ∧ rlF xs p f m < m + f ∧ itP xs (rlF xs p f m) p = p ∧ ∀ k, m ≤ k → k < rlF xs p f m → itP xs k p ≠ p
  | 0, m, ⟨k, h1, h2, _⟩ => by omega
  | f + 1, m, ⟨k, h1, h2, h3⟩ => by
    unfold rlF
    by_cases e : itP xs m p = p
    · rw [if_pos e]
      exact ⟨Nat.le_refl _, by omega, e, fun k h4 h5 => by omega⟩
    · rw [if_neg e]
      have hk : m + 1 ≤ k := by
        rcases Nat.lt_or_ge m k with h | h
        · exact h
        · exact absurd (by rw [show m = k by omega]; exact h3) e
      obtain ⟨q1, q2, q3, q4⟩ := rlF_spec f (m + 1) ⟨k, hk, by omega, h3⟩
      refine ⟨by omega, by omega, q3, fun j h4 h5 => ?_⟩
      rcases Nat.lt_or_ge m j with h | h
      · exact q4 j h h5
      · rw [show j = m by omega]
        exact e
theorem rlen_spec {xs : List Int} (h : IsRow xs) {p : Nat} (hp : p < xs.length) : 1 ≤ rlen xs p ∧ rlen xs p ≤ xs.length ∧ itP xs (rlen xs p) p = p ∧ ∀ k, 1 ≤ k → k < rlen xs p → itP xs k p ≠ p := by
  obtain ⟨m, h1, h2, h3⟩ := itP_ret h hp
  obtain ⟨q1, q2, q3, q4⟩ := rlF_spec xs.length 1 ⟨m, h1, by omega, h3⟩
  exact ⟨q1, by unfold rlen; omega, q3, q4⟩
/-- the ring of a place, beginning with it -/
def ringP (xs : List Int) (p : Nat) : List Int := (List.range (rlen xs p)).map fun j => ((itP xs j p : Nat) : Int)
theorem ringP_len (xs : List Int) (p : Nat) : (ringP xs p).length = rlen xs p := by
  unfold ringP
  rw [List.length_map, List.length_range]
/-! ### rings are classes -/
theorem itP_mul {xs : List Int} {p m : Nat} (h : itP xs m p = p) : ∀ k, itP xs (m * k) p = p
  | 0 => rfl
  | k + 1 => by rw [Nat.mul_succ, itP_add, h, itP_mul h k]
theorem itP_mod {xs : List Int} {p m : Nat} (h : itP xs m p = p) (k : Nat) : itP xs k p = itP xs (k % m) p := by
  conv => lhs; rw [← Nat.mod_add_div k m]
  rw [itP_add, itP_mul h]
/-- one place comes to the other -/
def Meets (xs : List Int) (p q : Nat) : Prop := ∃ j, itP xs j p = q
theorem Meets.refl {xs : List Int} (p : Nat) : Meets xs p p := ⟨0, rfl⟩
theorem Meets.trans {xs : List Int} {p q r : Nat} (h : Meets xs p q) (h' : Meets xs q r) : Meets xs p r := by
  obtain ⟨i, rfl⟩ := h
  obtain ⟨j, rfl⟩ := h'
  exact ⟨j + i, itP_add xs p i j⟩
theorem Meets.symm {xs : List Int} (h : IsRow xs) {p q : Nat} (hp : p < xs.length) (m : Meets xs p q) : Meets xs q p := by
  obtain ⟨j, rfl⟩ := m
  obtain ⟨m1, _, m3, _⟩ := rlen_spec h hp
  refine ⟨rlen xs p * j - j, ?_⟩
  rw [← itP_add, Nat.sub_add_cancel (Nat.le_mul_of_pos_left j m1)]
  exact itP_mul m3 j
theorem ringP_mem {xs : List Int} (h : IsRow xs) {p : Nat} (hp : p < xs.length) {v : Int} : v ∈ ringP xs p ↔ ∃ q : Nat, v = (q : Int) ∧ Meets xs p q := by
  unfold ringP
  rw [List.mem_map]
  constructor
  · rintro ⟨j, _, rfl⟩
    exact ⟨_, rfl, j, rfl⟩
  · rintro ⟨q, rfl, j, e⟩
    obtain ⟨m1, _, m3, _⟩ := rlen_spec h hp
    exact ⟨j % rlen xs p, List.mem_range.mpr (Nat.mod_lt _ m1), by rw [← itP_mod m3, e]⟩
/-- the least place of its ring -/
def Leads (xs : List Int) (p : Nat) : Prop := ∀ j, p ≤ itP xs j p
/-- told when the places below i have been gone through -/
def Told (xs : List Int) (i q : Nat) : Prop := ∃ r, r < i ∧ Meets xs q r
theorem told_not_leads {xs : List Int} {i : Nat} : Told xs i i ↔ ¬ Leads xs i := by
  constructor
  · rintro ⟨r, hr, j, e⟩ hl
    have := hl j
    omega
  · intro h
    refine Classical.byContradiction fun n => h fun j => ?_
    rcases Nat.lt_or_ge (itP xs j i) i with l | l
    · exact absurd ⟨_, l, j, rfl⟩ n
    · exact l
theorem told_step {xs : List Int} (h : IsRow xs) {i q : Nat} (hi : i < xs.length) (hq : q < xs.length) : Told xs (i + 1) q ↔ (Told xs i q ∨ (Leads xs i ∧ Meets xs i q)) := by
  constructor
  · rintro ⟨r, hr, m⟩
    rcases Nat.lt_or_ge r i with l | l
    · exact .inl ⟨r, l, m⟩
    · obtain rfl : r = i := by omega
      by_cases hl : Leads xs r
      · exact .inr ⟨hl, m.symm h hq⟩
      · obtain ⟨t, ht, m2⟩ := told_not_leads.mpr hl
        exact .inl ⟨t, ht, m.trans m2⟩
  · rintro (⟨r, hr, m⟩ | ⟨_, m⟩)
    · exact ⟨r, by omega, m⟩
    · exact ⟨i, by omega, m.symm h hi⟩
open Classical in
/-- the least places, below i -/
noncomputable def leads (xs : List Int) (i : Nat) : List Nat := (List.range i).filter fun p => decide (Leads xs p)
theorem itP_comm (xs : List Int) (p a b : Nat) : itP xs a (itP xs b p) = itP xs b (itP xs a p) := by
  rw [← itP_add, ← itP_add, Nat.add_comm]
theorem rlen_meets {xs : List Int} (h : IsRow xs) {p q : Nat} (hp : p < xs.length) (m : Meets xs p q) : rlen xs q = rlen xs p := by
  obtain ⟨j, rfl⟩ := m
  have hq := itP_lt h hp j
  obtain ⟨p1, p2, p3, p4⟩ := rlen_spec h hp
  obtain ⟨q1, q2, q3, q4⟩ := rlen_spec h hq
  have e1 : itP xs (rlen xs p) (itP xs j p) = itP xs j p := by rw [itP_comm, p3]
  have e2 : itP xs (rlen xs (itP xs j p)) p = p := by
    rw [itP_comm] at q3
    exact itP_cancel h (itP_lt h hp _) hp j q3
  rcases Nat.lt_trichotomy (rlen xs (itP xs j p)) (rlen xs p) with l | l | l
  · exact absurd e2 (p4 _ q1 l)
  · exact l
  · exact absurd e1 (q4 _ p1 l)
theorem leads_mem {xs : List Int} {i p : Nat} : p ∈ leads xs i ↔ p < i ∧ Leads xs p := by
  unfold leads
  simp [List.mem_filter]
theorem has_lead {xs : List Int} (h : IsRow xs) : ∀ (k q : Nat), q ≤ k → q < xs.length → ∃ p, p ∈ leads xs xs.length ∧ Meets xs p q := by
  intro k
  induction k with
  | zero =>
    intro q hk hq
    exact ⟨q, leads_mem.mpr ⟨hq, fun j => by omega⟩, Meets.refl q⟩
  | succ k ih =>
    intro q hk hq
    by_cases hl : Leads xs q
    · exact ⟨q, leads_mem.mpr ⟨hq, hl⟩, Meets.refl q⟩
    · obtain ⟨r, hr, m⟩ := told_not_leads.mpr hl
      obtain ⟨p, hp, m2⟩ := ih r (by omega) (by omega)
      exact ⟨p, hp, m2.trans (m.symm h hq)⟩

section
variable {P : Program} {w : World} {K : PySem.W.Frag} {mg : Str → Option Value} {base : Heap} {a : Ad}
def spRingFrom (K : PySem.W.Frag) : Sp := fun vs H Q _ => ∃ (p : Addr) (xs : List Int) (s : Nat), vs = [.ref p, .int ((s : Nat) : Int)] ∧ RowAt K H p xs ∧ s < xs.length ∧ ∀ o H', H o = none → H' o = some (.tup ((ringP xs s).map V.int)) → Same H H' → Q (.ref o) H'
theorem ok_ring_from (T : Tx w K mg a) : FnOk P w K mg base CX0 1 a.f_ring_from a.d_ring_from ["row", "start"] (spRingFrom K) := by
  refine T.F_ring_from.ok sc_ring_from (fun vs H Q E h => ?_) (fun cdv A outer s H vs Q E hr h => ?_)
  · obtain ⟨p, xs, s, rfl, _⟩ := h
    rfl
  · obtain ⟨p, xs, s, rfl, hX, hs, q⟩ := h
    refine ⟨_, 
(pss_cons (ps_set (i := 2) sc_ring_from.nd rfl (.inl rfl) (pe_lst (pa_cons (pv 1) pa_nil)))
  (pss_cons (ps_set (i := 3) sc_ring_from.nd rfl (.inl rfl) (pe_ix ix_seq (pv 0) (pv 1) (fun _ _ => rfl)))
  (pss_cons (ps_while PassesOwn.never (pt_cmpR op_ne (pv 3) (pv 1) (nomark _))
  (pss_cons (ps_expr (pe_bm PySem.F.plainAttrs_list PySem.F.slot_list_append PySem.F.type_list_append mt_append (pv 2) (pa_cons (pv 3) pa_nil)))
  (pss_one (ps_set (i := 3) sc_ring_from.nd rfl (.inl rfl) (pe_ix ix_seq (pv 0) (pv 3) (fun _ _ => rfl))))))
  (pss_one (ps_ret (pe_callTy call_tuple_of (by rfl) T.z_tuple (by decide +kernel) (pa_cons (pv 2) pa_nil))))))), ?_⟩
    refine ⟨_, rfl, sz (show 1 ≤ 100000 by decide), fun o no => ?_⟩
    have s1 := same_upd (o := .lst [V.int ((s : Nat) : Int)]) no
    have eo : (upd H o (.lst [V.int ((s : Nat) : Int)])) o = some (.lst (((List.range 1).map fun j => ((itP xs j s : Nat) : Int)).map V.int)) := upd_same
    generalize upd H o (.lst [V.int ((s : Nat) : Int)]) = H1 at s1 eo ⊢
    obtain ⟨m1, m2, m3, m4⟩ := rlen_spec hX.2.1 hs
    have get : ∀ (j : Nat), xs.getD ((itP xs j s : Nat) : Int).toNat 0 = ((itP xs (j + 1) s : Nat) : Int) := fun j => by
      have hj := itP_lt hX.2.1 hs j
      rw [Int.toNat_natCast, getD_get hj]
      show xs[itP xs j s] = ((nxP xs (itP xs j s) : Nat) : Int)
      rw [nxP_get hj]
      have := (hX.2.1.at hj).1
      omega
    have lt : ∀ j, ((itP xs j s : Nat) : Int).toNat < xs.length := fun j => by
      rw [Int.toNat_natCast]
      exact itP_lt hX.2.1 hs j
    -- place = row[start]
    refine ⟨.ref p, rfl, _, rfl, SqA.at_get (hX.1.same s1) (show 0 ≤ ((itP xs 0 s : Nat) : Int) by omega) (lt 0) ?_⟩
    have get0 : xs.getD ((s : Nat) : Int).toNat 0 = ((itP xs 1 s : Nat) : Int) := get 0
    rw [get0]
    -- while place != start
    refine ⟨fun m σ H3 => ∃ j, 1 ≤ j ∧ j ≤ rlen xs s ∧ m = rlen xs s - j ∧ σ = [some (.ref p), some (.int ((s : Nat) : Int)), some (.ref o), some (.int ((itP xs j s : Nat) : Int))] ∧ H3 o = some (.lst (((List.range j).map fun j => ((itP xs j s : Nat) : Int)).map V.int)) ∧ Same H H3, ⟨_, 1, Nat.le_refl _, m1, rfl, rfl, eo, s1⟩, ?_⟩
    rintro m σ H3 ⟨j, j1, j2, rfl, rfl, e3, s3⟩
    refine ⟨_, rfl, _, rfl, rfl, _, rfl, ite2 (fun hne => ?_) (fun heq => ?_)⟩
    · have jl : j < rlen xs s := by
        rcases Nat.lt_or_ge j (rlen xs s) with h | h
        · exact h
        · rw [show j = rlen xs s by omega, m3] at hne
          simp at hne
      refine ⟨fun σ' H' => σ' = [some (.ref p), some (.int ((s : Nat) : Int)), some (.ref o), some (.int ((itP xs (j + 1) s : Nat) : Int))] ∧ H' o = some (.lst (((List.range (j + 1)).map fun j => ((itP xs j s : Nat) : Int)).map V.int)) ∧ Same H H', ?_, ?_⟩
      · rintro σ' H' ⟨rfl, e', s'⟩
        exact ⟨rlen xs s - (j + 1), by omega, j + 1, by omega, by omega, rfl, rfl, e', s'⟩
      · have hl := hX.2.2
        refine ⟨.ref o, rfl, .inl ⟨rfl, _, SqL.at e3⟩, _, rfl, o, _, _, rfl, rfl, e3, szlt (by rw [List.length_map, List.length_map, List.length_range]; omega), ?_⟩
        have k3 := keep_upd (o := .lst (((List.range j).map fun j => ((itP xs j s : Nat) : Int)).map V.int ++ [.int ((itP xs j s : Nat) : Int)])) s3 no
        refine ⟨.ref p, rfl, _, rfl, SqA.at_get (hX.1.same k3) (by omega) (lt j) ?_⟩
        rw [get j]
        refine ⟨rfl, ?_, k3⟩
        rw [upd_same, List.range_succ, List.map_append, List.map_append]
        rfl
    · have js : j = rlen xs s := by
        rcases Nat.lt_or_ge j (rlen xs s) with h | h
        · refine absurd ?_ (m4 j j1 h)
          have e := Classical.byContradiction fun z => heq (by simpa using z)
          omega
        · omega
      subst js
      exact ⟨.ref o, rfl, o, _, rfl, .inl ⟨SqL.at e3, fun l nl => q l _ (s3.free nl) upd_same (s3.trans (same_upd nl))⟩⟩
/-- tuples of rings, at their addresses -/
def HeldR (H : Hp) (xs : List Int) : List Addr → List Nat → Prop
  | [], [] => True
  | t :: ts, p :: ps => H t = some (.tup ((ringP xs p).map V.int)) ∧ HeldR H xs ts ps
  | _, _ => False
theorem HeldR.len {H : Hp} {xs : List Int} : ∀ {ts : List Addr} {ps : List Nat}, HeldR H xs ts ps → ts.length = ps.length
  | [], [], _ => rfl
  | _ :: _, _ :: _, h => congrArg (· + 1) h.2.len
theorem HeldR.mono {H H' : Hp} {xs : List Int} (e : ∀ t ys, H t = some (.tup ys) → H' t = some (.tup ys)) : ∀ {ts : List Addr} {ps : List Nat}, HeldR H xs ts ps → HeldR H' xs ts ps
  | [], [], _ => trivial
  | _ :: _, _ :: _, h => ⟨e _ _ h.1, HeldR.mono e h.2⟩
theorem HeldR.snoc {H : Hp} {xs : List Int} {t : Addr} {p : Nat} (e : H t = some (.tup ((ringP xs p).map V.int))) : ∀ {ts : List Addr} {ps : List Nat}, HeldR H xs ts ps → HeldR H xs (ts ++ [t]) (ps ++ [p])
  | [], [], _ => ⟨e, trivial⟩
  | _ :: _, _ :: _, h => ⟨h.1, HeldR.snoc e h.2⟩
theorem HeldR.offL {H : Hp} {xs : List Int} {o : Addr} {ys : List V} {u : HO} (ho : H o = some (.lst ys)) {ts : List Addr} {ps : List Nat} (h : HeldR H xs ts ps) : HeldR (upd H o u) xs ts ps :=
  h.mono fun t zs e => by
    rw [upd_ne (ne_of e ho (by intro z; cases z))]
    exact e
open Classical in
theorem leads_succ (xs : List Int) (i : Nat) : leads xs (i + 1) = if Leads xs i then leads xs i ++ [i] else leads xs i := by
  unfold leads
  rw [List.range_succ, List.filter_append]
  by_cases h : Leads xs i
  · rw [if_pos h]
    simp [h]
  · rw [if_neg h]
    simp [h]
def spRingsIn (K : PySem.W.Frag) : Sp := fun vs H Q _ => ∃ (p : Addr) (xs : List Int), vs = [.ref p] ∧ RowAt K H p xs ∧ ∀ o ts H', H o = none → H' o = some (.lst (ts.map V.ref)) → HeldR H' xs ts (leads xs xs.length) → Same H H' → Q (.ref o) H'
theorem ok_rings_in (T : Tx w K mg a) : FnOk P w K mg base CX0 2 a.f_rings_in a.d_rings_in ["row"] (spRingsIn K) := by
  refine T.F_rings_in.ok sc_rings_in (fun vs H Q E h => ?_) (fun cdv A outer s H vs Q E hr h => ?_)
  · obtain ⟨p, xs, rfl, _⟩ := h
    rfl
  · obtain ⟨p, xs, rfl, hX, q⟩ := h
    refine ⟨_, 
(pss_cons (ps_set (i := 1) sc_rings_in.nd rfl (.inl rfl) (pe_lst pa_nil))
  (pss_cons (ps_set (i := 2) sc_rings_in.nd rfl (.inl rfl) (pe_op op_rep (pe_lst (pa_cons pe_bl pa_nil)) (pe_callB call_len_seq (by rfl) T.z_len PySem.boot_len (pa_cons (pv 0) pa_nil))))
  (pss_cons (ps_for PassesOwn.never rfl (pi_range1 (by rfl) T.z_range (pa_cons (pe_callB call_len_seq (by rfl) T.z_len PySem.boot_len (pa_cons (pv 0) pa_nil)) pa_nil)) (pg_name (i := 3) sc_rings_in.nd rfl (.inl rfl))
  (pss_one (ps_if (pt_not (pt_val (pe_ix ix_list (pv 2) (pv 3) (fun _ _ => rfl))))
  (pss_cons (ps_set (i := 4) sc_rings_in.nd rfl (.inl rfl) (pe_call (ok_ring_from T) hr (by rfl) T.m_ring_from T.F_ring_from.kp T.b_ring_from .nil pass0 (pa_cons (pv 0) (pa_cons (pv 3) pa_nil))))
  (pss_cons (ps_for PassesOwn.never rfl (pi_tup (pv 4)) (pg_name (i := 5) sc_rings_in.nd rfl (.inl rfl))
  (pss_one (ps_asg pe_bl (pg_sub (pv 2) (pv 5) set_list))))
  (pss_one (ps_expr (pe_bm PySem.F.plainAttrs_list PySem.F.slot_list_append PySem.F.type_list_append mt_append (pv 1) (pa_cons (pv 4) pa_nil))))))
  pss_nil)))
  (pss_one (ps_ret (pv 1)))))), ?_⟩
    have s1 : Same H H := fun _ _ e => e
    refine ⟨sz (show 0 ≤ 100000 by decide), fun o no => ?_⟩
    have s2 := same_upd (o := .lst []) no
    have eo : (upd H o (.lst [])) o = some (.lst (([] : List Addr).map V.ref)) := upd_same
    generalize upd H o (.lst []) = H2 at s2 eo ⊢
    have s02 := s1.trans s2
    have hl : xs.length ≤ 100000 := hX.2.2
    have hL : (xs.map V.int).length = xs.length := List.length_map ..
    -- is_told = [False] * len(row)
    refine ⟨sz (show 1 ≤ 100000 by decide), fun p0 hp0 => ⟨.ref p, rfl, p, _, rfl, (hX.1.same (s02.trans (same_upd hp0))), p0, _, _, rfl, rfl, upd_same, by omega, by rw [hL]; omega, ?_, fun o2 no2 => ?_⟩⟩
    · rw [hL]
      exact sz (by simp; omega)
    rw [hL]
    have e0 : (List.replicate (xs.length : Int).toNat [V.bl false]).flatten = flags xs.length [] := by
      rw [List.flatten_replicate_singleton, Int.toNat_natCast, flags_nil]
    rw [e0]
    have s3 := (same_upd (o := .lst [V.bl false]) hp0).trans (same_upd (o := .lst (flags xs.length [])) no2)
    have eo3 := s3 _ _ eo
    have e23 : (upd (upd H2 p0 (.lst [V.bl false])) o2 (.lst (flags xs.length []))) o2 = some (.lst (flags xs.length [])) := upd_same
    have n2 : H2 o2 = none := (same_upd hp0).free no2
    generalize upd (upd H2 p0 (.lst [V.bl false])) o2 (.lst (flags xs.length [])) = H3 at s3 eo3 e23 ⊢
    have oo : o ≠ o2 := ne_of_none eo n2
    have nH : H o = none := s1.free no
    have nH2 : H o2 = none := s02.free n2
    -- for start in range(len(row))
    refine ⟨.ref p, rfl, p, _, rfl, (hX.1.same (s02.trans s3)), _, rfl, ?_⟩
    rw [hL]
    refine ⟨by omega, by omega, ?_⟩
    refine for_range (lo := 0) (n := ((xs.length : Nat) : Int).toNat) (fun i σ H4 => ∃ (y3 y4 y5 : Option V) (ts : List Addr) (seen : List Int), σ = [some (.ref p), some (.ref o), some (.ref o2), y3, y4, y5] ∧ H4 o = some (.lst (ts.map V.ref)) ∧ H4 o2 = some (.lst (flags xs.length seen)) ∧ (∀ r, r < xs.length → (((r : Nat) : Int) ∈ seen ↔ Told xs i r)) ∧ HeldR H4 xs ts (leads xs i) ∧ ts.length ≤ i ∧ Same H H4) ?_ ?_ ?_
    · exact ⟨none, none, none, [], [], rfl, eo3, e23, fun r _ => ⟨fun h => (by cases h), fun ⟨t, ht, _⟩ => absurd ht (Nat.not_lt_zero _)⟩, trivial, Nat.le_refl _, s02.trans s3⟩
    rotate_left
    · rintro σ H4 ⟨y3, y4, y5, ts, seen, rfl, f1, f2, fs, fh, fl, f4⟩
      rw [Int.toNat_natCast] at fh
      exact ⟨.ref o, rfl, q o ts H4 nH f1 fh f4⟩
    rintro i σ H4 hi ⟨y3, y4, y5, ts, seen, rfl, f1, f2, fs, fh, fl, f4⟩
    rw [Int.toNat_natCast] at hi
    rw [show (0 : Int) + (i : Int) = (i : Int) from Int.zero_add _]
    -- if not is_told[start]
    refine ⟨_, rfl, _, rfl, o2, _, (i : Int), _, rfl, rfl, SqL.at f2, flags_get (by omega) (by omega), _, rfl, ?_⟩
    by_cases hm : (i : Int) ∈ seen
    · rw [decide_eq_true hm]
      have nl : ¬ Leads xs i := told_not_leads.mp ((fs i hi).mp hm)
      refine ⟨_, _, _, ts, seen, rfl, f1, f2, fun r hr => ?_, ?_, by omega, f4⟩
      · rw [fs r hr, told_step hX.2.1 hi hr]
        exact ⟨.inl, fun h => h.elim id fun h => absurd h.1 nl⟩
      · rw [leads_succ, if_neg nl]
        exact fh
    · rw [decide_eq_false hm]
      have yl : Leads xs i := Classical.byContradiction fun z => hm ((fs i hi).mpr (told_not_leads.mpr z))
      -- ring = ring_from(row, start)
      refine ⟨.ref p, rfl, _, rfl, p, xs, i, rfl, ⟨hX.1.same f4, hX.2⟩, hi, fun t H5 nt et s5 => ?_⟩
      have g1 := s5 _ _ f1
      have g2 := s5 _ _ f2
      have gh : HeldR H5 xs ts (leads xs i) := fh.mono fun t ys e => s5 _ _ e
      -- for place in ring: is_told[place] = True
      refine ⟨.ref t, rfl, t, rfl, ⟨_, SqT.at et⟩, ?_⟩
      refine for_it (walk_tup (xs := (ringP xs i).map V.int)) (fun j σ H6 => ∃ (y5 : Option V) (seen2 : List Int), σ = [some (.ref p), some (.ref o), some (.ref o2), some (.int (i : Int)), some (.ref t), y5] ∧ H6 o = some (.lst (ts.map V.ref)) ∧ H6 o2 = some (.lst (flags xs.length seen2)) ∧ (∀ v, v ∈ seen2 ↔ (v ∈ seen ∨ v ∈ (ringP xs i).take j)) ∧ HeldR H6 xs ts (leads xs i) ∧ H6 t = some (.tup ((ringP xs i).map V.int)) ∧ Same H H6) ?h0 ?hG ?hs ?hd
      case h0 => exact ⟨_, seen, rfl, g1, g2, fun v => by simp, gh, et, f4.trans s5⟩
      case hG =>
        rintro j σ H6 hj ⟨_, _, rfl, _, _, _, _, e6, _⟩
        exact SqT.at e6
      case hs =>
        rintro j v σ H6 H7 hj ⟨y5', seen2, rfl, h1, h2, h3, h4, h5, h6⟩ ⟨rfl, ev⟩
        rw [List.length_map] at hj
        rw [List.getElem?_map, List.getElem?_eq_getElem hj] at ev
        cases ev
        obtain ⟨r, er, mr⟩ := (ringP_mem hX.2.1 hi).mp (List.getElem_mem hj)
        have hr : r < xs.length := by
          obtain ⟨k, ek⟩ := mr
          rw [← ek]
          exact itP_lt hX.2.1 hi k
        have v0 : 0 ≤ (ringP xs i)[j] := by omega
        have v1 : (ringP xs i)[j] < (xs.length : Int) := by omega
        refine ⟨_, rfl, _, rfl, o2, _, _, (ringP xs i)[j].toNat, rfl, rfl, h2, by rw [flags_len]; exact ixN_nat v0 v1, ?_⟩
        refine ⟨_, (ringP xs i)[j] :: seen2, rfl, ?_, ?_, fun v => ?_, h4.offL h2, ?_, keep_upd h6 nH2⟩
        · rw [upd_ne oo]
          exact h1
        · rw [flags_set v0]
          exact upd_same
        · rw [List.mem_cons, h3, List.take_add_one, List.getElem?_eq_getElem hj, List.mem_append]
          simp only [Option.toList_some, List.mem_singleton]
          constructor
          · rintro (h | h | h)
            · exact .inr (.inr h)
            · exact .inl h
            · exact .inr (.inl h)
          · rintro (h | h | h)
            · exact .inr (.inl h)
            · exact .inr (.inr h)
            · exact .inl h
        · rw [upd_ne (ne_of h5 h2 (by intro z; cases z))]
          exact h5
      case hd =>
        rintro σ H6 ⟨y5', seen2, rfl, h1, h2, h3, h4, h5, h6⟩
        rw [List.length_map, List.take_length] at h3
        -- found.append(ring)
        refine ⟨.ref o, rfl, .inl ⟨rfl, _, SqL.at h1⟩, .ref t, rfl, o, _, _, rfl, rfl, h1, szlt (by rw [List.length_map]; omega), ?_⟩
        refine ⟨_, _, _, ts ++ [t], seen2, rfl, ?_, ?_, fun r hr => ?_, ?_, ?_, keep_upd h6 nH⟩
        · rw [upd_same, List.map_append]
          rfl
        · rw [upd_ne oo.symm]
          exact h2
        · rw [h3, fs r hr, told_step hX.2.1 hi hr, ringP_mem hX.2.1 hi]
          constructor
          · rintro (h | ⟨r2, e2, m2⟩)
            · exact .inl h
            · have : r = r2 := by omega
              subst this
              exact .inr ⟨yl, m2⟩
          · rintro (h | ⟨_, m2⟩)
            · exact .inl h
            · exact .inr ⟨r, rfl, m2⟩
        · rw [leads_succ, if_pos yl]
          refine HeldR.snoc ?_ (h4.offL h1)
          rw [upd_ne (ne_of h5 h1 (by intro z; cases z))]
          exact h5
        · rw [List.length_append]
          show ts.length + 1 ≤ i + 1
          omega
def spRings (K : PySem.W.Frag) : Sp := fun vs H Q _ => ∃ (p : Addr) (xs : List Int), vs = [.ref p] ∧ RowAt K H p xs ∧ ∀ o ts H', H o = none → H' o = some (.lst (ts.map V.ref)) → HeldR H' xs ts (leads xs xs.length) → Same H H' → Q (.ref o) H'
theorem ok_rings (T : Tx w K mg a) : FnOk P w K mg base CX0 5 a.f_rings a.d_rings ["row"] (spRings K) := by
  refine T.F_rings.ok sc_rings (fun vs H Q E h => ?_) (fun cdv A outer s H vs Q E hr h => ?_)
  · obtain ⟨p, xs, rfl, _⟩ := h
    rfl
  · obtain ⟨p, xs, rfl, hX, q⟩ := h
    refine ⟨_, 
(pss_cons (ps_expr (pe_call (ok_check_row T) hr (by rfl) T.m_check_row T.F_check_row.kp T.b_check_row .nil pass0 (pa_cons (pv 0) pa_nil)))
  (pss_one (ps_ret (pe_call (ok_rings_in T) (hr.mono (by decide)) (by rfl) T.m_rings_in T.F_rings_in.kp T.b_rings_in .nil pass0 (pa_cons (pv 0) pa_nil))))), ?_⟩
    exact ⟨.ref p, rfl, p, xs, rfl, hX, fun H1 s1 => ⟨.ref p, rfl, p, xs, rfl, hX.same s1, fun o ts H' no eo hh s => q o ts H' (s1.free no) eo hh (s1.trans s)⟩⟩
def spIsEven (K : PySem.W.Frag) : Sp := fun vs H Q _ => ∃ (p : Addr) (xs : List Int), vs = [.ref p] ∧ RowAt K H p xs ∧ ∀ H', Same H H' → Q (.bl (decide (Int.fmod ((xs.length : Int) - ((leads xs xs.length).length : Int)) 2 = 0))) H'
theorem ok_is_even (T : Tx w K mg a) : FnOk P w K mg base CX0 6 a.f_is_even a.d_is_even ["row"] (spIsEven K) := by
  refine T.F_is_even.ok sc_is_even (fun vs H Q E h => ?_) (fun cdv A outer s H vs Q E hr h => ?_)
  · obtain ⟨p, xs, rfl, _⟩ := h
    rfl
  · obtain ⟨p, xs, rfl, hX, q⟩ := h
    refine ⟨_, 
(pss_one (ps_ret (pe_cmpR op_eq (pe_op op_modN (pe_op op_sub (pe_callB call_len_seq (by rfl) T.z_len PySem.boot_len (pa_cons (pv 0) pa_nil)) (pe_callB call_len_seq (by rfl) T.z_len PySem.boot_len (pa_cons (pe_call (ok_rings T) hr (by rfl) T.m_rings T.F_rings.kp T.b_rings .nil pass0 (pa_cons (pv 0) pa_nil)) pa_nil))) pe_int) pe_int (nomark _)))), ?_⟩
    refine ⟨.ref p, rfl, p, _, rfl, hX.1, .ref p, rfl, p, xs, rfl, hX, fun o ts H1 no eo hh s1 => ?_⟩
    have el : ts.length = (leads xs xs.length).length := hh.len
    have z2 : (2 : Int) ≠ 0 := by decide
    refine ⟨o, _, rfl, .inl (SqL.at eo), _, _, rfl, rfl, _, 2, rfl, rfl, z2, rfl, ?_⟩
    have k := q _ s1
    rw [List.length_map, List.length_map, el]
    have e : ∀ z : Int, decide (V.int z = V.int 0) = decide (z = 0) := fun z => decide_eq_decide.mpr ⟨fun h => V.int.inj h, fun h => congrArg _ h⟩
    show Q (.bl (decide (V.int (Int.fmod ((xs.length : Int) - ((leads xs xs.length).length : Int)) 2) = V.int 0))) H1
    rw [e]
    exact k
/-- done many times: each place gets what its ring's walk brings -/
def repI (xs : List Int) (m : Int) : List Int := (List.range xs.length).map fun q => ((itP xs (Int.fmod m ((rlen xs q : Nat) : Int)).toNat q : Nat) : Int)
def repV (xs : List Int) (m : Int) (q : Nat) : Int := ((itP xs (Int.fmod m ((rlen xs q : Nat) : Int)).toNat q : Nat) : Int)
theorem repI_of {xs bs : List Int} {m : Int} (hl : bs.length = xs.length) (h : ∀ q, q < xs.length → bs[q]? = some (repV xs m q)) : bs = repI xs m := by
  refine List.ext_getElem? fun q => ?_
  unfold repI
  rw [List.getElem?_map]
  rcases Nat.lt_or_ge q xs.length with l | l
  · rw [h q l, List.getElem?_range l]
    rfl
  · rw [List.getElem?_eq_none (by omega), List.getElem?_eq_none (by rw [List.length_range]; omega)]
    rfl
theorem HeldR.get {H : Hp} {xs : List Int} : ∀ {ts : List Addr} {ps : List Nat}, HeldR H xs ts ps → ∀ {i : Nat} {p : Nat}, ps[i]? = some p → ∃ t, ts[i]? = some t ∧ H t = some (.tup ((ringP xs p).map V.int))
  | [], [], _, i, m, h => by simp at h
  | r :: rs, n :: ms, hh, 0, m, h => by
    cases h
    exact ⟨r, rfl, hh.1⟩
  | r :: rs, n :: ms, hh, i + 1, m, h => by
    obtain ⟨x, hx, hy⟩ := HeldR.get hh.2 (i := i) (p := m) (by simpa using h)
    exact ⟨x, by simpa using hx, hy⟩
theorem ring_at {xs : List Int} {p : Nat} {m : Int} (h : IsRow xs) (hp : p < xs.length) {j : Nat} (hj : j < rlen xs p) :
    ∃ k : Nat, Int.fmod (((j : Nat) : Int) + m) ((rlen xs p : Nat) : Int) = (k : Int) ∧ k < rlen xs p ∧ ((itP xs k p : Nat) : Int) = repV xs m (itP xs j p) := by
  obtain ⟨m1, _, m3, _⟩ := rlen_spec h hp
  have L0 : (0 : Int) < ((rlen xs p : Nat) : Int) := by omega
  have a0 := Int.fmod_nonneg_of_pos m L0
  refine ⟨(j + (Int.fmod m ((rlen xs p : Nat) : Int)).toNat) % rlen xs p, ?_, Nat.mod_lt _ m1, ?_⟩
  · rw [Int.fmod_eq_emod_of_nonneg _ (Int.le_of_lt L0), ← Int.add_emod_emod, ← Int.fmod_eq_emod_of_nonneg m (Int.le_of_lt L0)]
    have e : ((j : Nat) : Int) + Int.fmod m ((rlen xs p : Nat) : Int) = ((j + (Int.fmod m ((rlen xs p : Nat) : Int)).toNat : Nat) : Int) := by omega
    rw [e]
    rfl
  · unfold repV
    rw [rlen_meets h hp ⟨j, rfl⟩, ← itP_add, ← itP_mod m3, Nat.add_comm]
/-- the seat of a place: its ring, and its index in it -/
def SeatAt (H : Hp) (xs : List Int) (q : Nat) (v : V) : Prop := ∃ (t r : Addr) (l j : Nat), v = .ref t ∧ H t = some (.tup [.ref r, .int ((j : Nat) : Int)]) ∧ H r = some (.tup ((ringP xs l).map V.int)) ∧ l < xs.length ∧ j < rlen xs l ∧ itP xs j l = q
theorem SeatAt.mono {H H' : Hp} {xs : List Int} {q : Nat} {v : V} (e : ∀ t ys, H t = some (.tup ys) → H' t = some (.tup ys)) (h : SeatAt H xs q v) : SeatAt H' xs q v := by
  obtain ⟨t, r, l, j, h1, h2, h3, h4⟩ := h
  exact ⟨t, r, l, j, h1, e _ _ h2, e _ _ h3, h4⟩
/-- the seats of a row -/
def Seats (H : Hp) (p : Addr) (xs : List Int) : Prop := ∃ vs : List V, H p = some (.lst vs) ∧ vs.length = xs.length ∧ ∀ q, q < xs.length → ∃ v, vs[q]? = some v ∧ SeatAt H xs q v
theorem Seats.same {H H' : Hp} {p : Addr} {xs : List Int} (h : Seats H p xs) (e : Same H H') : Seats H' p xs := by
  obtain ⟨vs, h1, h2, h3⟩ := h
  refine ⟨vs, e _ _ h1, h2, fun q hq => ?_⟩
  obtain ⟨v, hv, hs⟩ := h3 q hq
  exact ⟨v, hv, hs.mono fun t ys z => e _ _ z⟩
def spSeatsOf (K : PySem.W.Frag) : Sp := fun vs H Q _ => ∃ (p : Addr) (xs : List Int), vs = [.ref p] ∧ RowAt K H p xs ∧ ∀ o H', H o = none → Seats H' o xs → Same H H' → Q (.ref o) H'
theorem ok_seats_of (T : Tx w K mg a) : FnOk P w K mg base CX0 3 a.f_seats_of a.d_seats_of ["row"] (spSeatsOf K) := by
  refine T.F_seats_of.ok sc_seats_of (fun vs H Q E h => ?_) (fun cdv A outer s H vs Q E hr h => ?_)
  · obtain ⟨p, xs, rfl, _⟩ := h
    rfl
  · obtain ⟨p, xs, rfl, hX, q⟩ := h
    refine ⟨_, 
(pss_cons (ps_set (i := 1) sc_seats_of.nd rfl (.inl rfl) (pe_op op_rep (pe_lst (pa_cons pe_non pa_nil)) (pe_callB call_len_seq (by rfl) T.z_len PySem.boot_len (pa_cons (pv 0) pa_nil))))
  (pss_cons (ps_for PassesOwn.never rfl (pi_list (pe_call (ok_rings_in T) hr (by rfl) T.m_rings_in T.F_rings_in.kp T.b_rings_in .nil pass0 (pa_cons (pv 0) pa_nil))) (pg_name (i := 2) sc_seats_of.nd rfl (.inl rfl))
  (pss_one (ps_for PassesOwn.never rfl (pi_enumS (by rfl) T.z_enumerate (pa_cons (pv 2) pa_nil)) (pg_tup rfl (pgs_cons (pg_name (i := 3) sc_seats_of.nd rfl (.inl rfl)) (pgs_cons (pg_name (i := 4) sc_seats_of.nd rfl (.inl rfl)) pgs_nil)))
  (pss_one (ps_asg (pe_tup (pa_cons (pv 2) (pa_cons (pv 3) pa_nil))) (pg_sub (pv 1) (pv 4) set_list))))))
  (pss_one (ps_ret (pv 1))))), ?_⟩
    have hl : xs.length ≤ 100000 := hX.2.2
    have hL : (xs.map V.int).length = xs.length := List.length_map ..
    -- seats = [None] * len(row)
    refine ⟨sz (show 1 ≤ 100000 by decide), fun p0 hp0 => ⟨.ref p, rfl, p, _, rfl, (hX.1.same (same_upd hp0)), p0, _, _, rfl, rfl, upd_same, by omega, by rw [hL]; omega, ?_, fun r nr => ?_⟩⟩
    · rw [hL]
      exact sz (by simp; omega)
    rw [hL]
    have e0 : (List.replicate (xs.length : Int).toNat [V.non]).flatten = List.replicate xs.length V.non := by
      rw [List.flatten_replicate_singleton, Int.toNat_natCast]
    rw [e0]
    have s1 := (same_upd (o := .lst [V.non]) hp0).trans (same_upd (o := .lst (List.replicate xs.length V.non)) nr)
    have er : (upd (upd H p0 (.lst [V.non])) r (.lst (List.replicate xs.length V.non))) r = some (.lst (List.replicate xs.length V.non)) := upd_same
    have nr0 : H r = none := (same_upd hp0).free nr
    generalize upd (upd H p0 (.lst [V.non])) r (.lst (List.replicate xs.length V.non)) = H1 at s1 er ⊢
    -- for ring in rings_in(row)
    refine ⟨.ref p, rfl, p, xs, rfl, hX.same s1, fun o ts H2 no eo hh s2 => ?_⟩
    have er2 := s2 _ _ er
    have hpl := hh.len
    have ro : r ≠ o := ne_of_none er no
    refine ⟨o, rfl, ⟨_, SqL.at eo⟩, ?_⟩
    have s02 := s1.trans s2
    refine for_it (walk_list (xs := ts.map V.ref)) (fun i σ H3 => ∃ (y2 y3 y4 : Option V) (bs : List V), σ = [some (.ref p), some (.ref r), y2, y3, y4] ∧ H3 r = some (.lst bs) ∧ bs.length = xs.length ∧ (∀ q, q < xs.length → (∃ k l, k < i ∧ (leads xs xs.length)[k]? = some l ∧ Meets xs l q) → ∃ v, bs[q]? = some v ∧ SeatAt H3 xs q v) ∧ (∀ t ys, H2 t = some (.tup ys) → H3 t = some (.tup ys)) ∧ H3 o = some (.lst (ts.map V.ref)) ∧ Same H H3) ?h0 ?hG ?hs ?hd
    case h0 => exact ⟨none, none, none, _, rfl, er2, List.length_replicate .., fun q _ ⟨k, l, hk, _⟩ => absurd hk (Nat.not_lt_zero _), fun _ _ e => e, eo, s02⟩
    case hG =>
      rintro i σ H3 hi ⟨_, _, _, _, rfl, _, _, _, _, f5, _⟩
      exact SqL.at f5
    case hd =>
      rintro σ H3 ⟨y2, y3, y4, bs, rfl, f1, f2, f3, f4, f5, f6⟩
      rw [List.length_map, hpl] at f3
      refine ⟨.ref r, rfl, q r H3 nr0 ⟨bs, f1, f2, fun z hz => f3 z hz ?_⟩ f6⟩
      obtain ⟨l, hl, ml⟩ := has_lead hX.2.1 z z (Nat.le_refl _) hz
      obtain ⟨k, hk, e⟩ := List.getElem_of_mem hl
      exact ⟨k, l, hk, by rw [List.getElem?_eq_getElem hk, e], ml⟩
    case hs =>
      rintro i v σ H3 H3' hi ⟨y2, y3, y4, bs, rfl, f1, f2, f3, f4, f5, f6⟩ ⟨rfl, ev⟩
      rw [List.length_map, hpl] at hi
      obtain ⟨t, et, ht⟩ := hh.get (List.getElem?_eq_getElem hi)
      rw [List.getElem?_map, et] at ev
      cases ev
      have hlm := leads_mem.mp (List.getElem_mem hi)
      have hgi : (leads xs xs.length)[i]? = some (leads xs xs.length)[i] := List.getElem?_eq_getElem hi
      generalize (leads xs xs.length)[i] = l at ht hlm hgi
      have hll := hlm.1
      obtain ⟨m1, m2, m3, m4⟩ := rlen_spec hX.2.1 hll
      have hrl : ((ringP xs l).map V.int).length = rlen xs l := by rw [List.length_map, ringP_len]
      -- for index, place in enumerate(ring)
      refine ⟨.ref t, rfl, t, _, rfl, .inr ⟨SqT.at (f4 _ _ ht), ?_⟩⟩
      refine for_it (walk_enumT (xs := (ringP xs l).map V.int)) (fun j σ H4 => ∃ (y3 y4 : Option V) (cs : List V), σ = [some (.ref p), some (.ref r), some (.ref t), y3, y4] ∧ H4 r = some (.lst cs) ∧ cs.length = xs.length ∧ (∀ q, q < xs.length → ((∃ k l, k < i ∧ (leads xs xs.length)[k]? = some l ∧ Meets xs l q) ∨ ∃ j', j' < j ∧ itP xs j' l = q) → ∃ v, cs[q]? = some v ∧ SeatAt H4 xs q v) ∧ (∀ t ys, H2 t = some (.tup ys) → H4 t = some (.tup ys)) ∧ H4 o = some (.lst (ts.map V.ref)) ∧ Same H H4) ?h1 ?hG1 ?hs1 ?hd1
      case h1 => exact ⟨_, _, bs, rfl, f1, f2, fun q hq h => f3 q hq (h.elim id fun ⟨_, h, _⟩ => absurd h (Nat.not_lt_zero _)), f4, f5, f6⟩
      case hG1 =>
        rintro j σ H4 hj ⟨_, _, _, rfl, _, _, _, g4, _⟩
        exact SqT.at (g4 _ _ ht)
      case hd1 =>
        rintro σ H4 ⟨y3', y4', cs, rfl, g1, g2, g3, g4, g5, g6⟩
        rw [hrl] at g3
        refine ⟨_, _, _, cs, rfl, g1, g2, fun q hq ⟨k, l2, hk, e, ml⟩ => g3 q hq ?_, g4, g5, g6⟩
        rcases Nat.lt_or_ge k i with h | h
        · exact .inl ⟨k, l2, h, e, ml⟩
        · have : k = i := by omega
          subst this
          rw [hgi] at e
          cases e
          obtain ⟨j, ej⟩ := ml
          exact .inr ⟨j % rlen xs l, Nat.mod_lt _ m1, by rw [← itP_mod m3, ej]⟩
      case hs1 =>
        rintro j v σ H4 H5 hj ⟨y3', y4', cs, rfl, g1, g2, g3, g4, g5, g6⟩ ⟨tt, x1, x, rfl, nt, rfl, e1, e2⟩
        cases e1
        rw [hrl] at hj
        have ex : x = .int ((itP xs j l : Nat) : Int) := by
          have e3 : ((ringP xs l).map V.int)[j]? = some (.int ((itP xs j l : Nat) : Int)) := by
            unfold ringP
            rw [List.getElem?_map, List.getElem?_map, List.getElem?_range hj]
            rfl
          have e4 := e2.symm.trans e3
          exact Option.some.inj e4
        subst ex
        have u1 := same_upd (o := .tup [.int (j : Nat), .int ((itP xs j l : Nat) : Int)]) nt
        refine ⟨tt, [.int (j : Nat), .int ((itP xs j l : Nat) : Int)], rfl, SqT.at upd_same, rfl, _, [.int ((itP xs j l : Nat) : Int)], rfl, _, [], rfl, rfl, ?_⟩
        generalize upd H4 tt (.tup [.int (j : Nat), .int ((itP xs j l : Nat) : Int)]) = H6 at u1 ⊢
        -- seats[place] = (ring, index)
        refine ⟨_, rfl, _, rfl, sz (show 2 ≤ 100000 by decide), fun u nu => ?_⟩
        have u2 := same_upd (o := .tup [V.ref t, .int ((j : Nat) : Int)]) nu
        have eu : (upd H6 u (.tup [V.ref t, .int ((j : Nat) : Int)])) u = some (.tup [.ref t, .int ((j : Nat) : Int)]) := upd_same
        generalize upd H6 u (.tup [V.ref t, .int ((j : Nat) : Int)]) = H7 at u2 eu ⊢
        have u12 := u1.trans u2
        have g17 := u12 _ _ g1
        have g57 := u12 _ _ g5
        have ht7 := u12 _ _ (g4 _ _ ht)
        have hq := itP_lt hX.2.1 hll j
        refine ⟨.ref r, rfl, _, rfl, r, _, _, itP xs j l, rfl, rfl, g17, ixN_nat (by omega) (by omega), ?_⟩
        have off : ∀ w ys, H7 w = some (.tup ys) → (upd H7 r (.lst (cs.set (itP xs j l) (.ref u)))) w = some (.tup ys) := fun w ys e => by
          rw [upd_ne (ne_of e g17 (by intro z; cases z))]
          exact e
        refine ⟨_, _, cs.set (itP xs j l) (.ref u), rfl, upd_same, by rw [List.length_set]; exact g2, fun q2 hq2 h => ?_, fun w ys e => off _ _ (u12 _ _ (g4 _ _ e)), ?_, keep_upd (g6.trans u12) nr0⟩
        · by_cases hqe : q2 = itP xs j l
          · rw [hqe, List.getElem?_set_self (by omega)]
            exact ⟨_, rfl, u, t, l, j, rfl, off _ _ eu, off _ _ ht7, hll, hj, rfl⟩
          · rw [List.getElem?_set_ne (fun z => hqe z.symm)]
            obtain ⟨v, hv, hs⟩ := g3 q2 hq2 (by
              rcases h with h | ⟨j', hj', e'⟩
              · exact .inl h
              · refine .inr ⟨j', ?_, e'⟩
                rcases Nat.lt_or_ge j' j with z | z
                · exact z
                · exact absurd (by rw [← e', show j' = j by omega]) hqe)
            exact ⟨v, hv, hs.mono fun w ys e => off _ _ (u12 _ _ e)⟩
        · rw [upd_ne (fun z => ro z.symm)]
          exact g57
def spLed : Sp := fun vs H Q _ => ∃ (p : Addr) (xs : List Int) (z : Nat) (m : Int), vs = [.ref p, .int ((z : Nat) : Int), .int m] ∧ Seats H p xs ∧ IsRow xs ∧ z < xs.length ∧ Q (.int (repV xs m z)) H
theorem ok_led (T : Tx w K mg a) : FnOk P w K mg base CX0 1 a.f_led a.d_led ["seats", "place", "many"] spLed := by
  refine T.F_led.ok sc_led (fun vs H Q E h => ?_) (fun cdv A outer s H vs Q E hr h => ?_)
  · obtain ⟨p, xs, z, m, rfl, _⟩ := h
    rfl
  · obtain ⟨p, xs, z, m, rfl, ⟨bs, e1, e2, e3⟩, hR, hz, q⟩ := h
    refine ⟨_, 
(pss_cons (ps_asg (pe_ix ix_list (pv 0) (pv 1) (fun _ _ => rfl)) (pg_tup rfl (pgs_cons (pg_name (i := 3) sc_led.nd rfl (.inl rfl)) (pgs_cons (pg_name (i := 4) sc_led.nd rfl (.inl rfl)) pgs_nil))))
  (pss_one (ps_ret (pe_ix ix_tup (pv 3) (pe_op op_modN (pe_op op_add (pv 4) (pv 2)) (pe_callB call_len_seq (by rfl) T.z_len PySem.boot_len (pa_cons (pv 3) pa_nil))) (fun _ _ => rfl))))), ?_⟩
    obtain ⟨v, hv, t, r, l, j, rfl, ht, hr', hl, hj, hq⟩ := e3 z hz
    obtain ⟨m1, m2, m3, m4⟩ := rlen_spec hR hl
    have L0 : ((rlen xs l : Nat) : Int) ≠ 0 := by omega
    have hrl : ((ringP xs l).map V.int).length = rlen xs l := by rw [List.length_map, ringP_len]
    obtain ⟨k, ek, kl, ev⟩ := ring_at (m := m) hR hl hj
    have hv2 : ((ringP xs l).map V.int)[k]? = some (.int (repV xs m z)) := by
      rw [hq] at ev
      unfold ringP
      rw [List.getElem?_map, List.getElem?_map, List.getElem?_range kl, ← ev]
      rfl
    -- ring, index = seats[place]
    refine ⟨.ref p, rfl, _, rfl, p, _, _, .ref t, rfl, rfl, SqL.at e1, atI_nat hv, t, [.ref r, .int ((j : Nat) : Int)], rfl, SqT.at ht, rfl, _, [.int ((j : Nat) : Int)], rfl, _, [], rfl, rfl, ?_⟩
    -- return ring[(index + many) % len(ring)]
    refine ⟨.ref r, rfl, _, rfl, .int m, rfl, _, _, rfl, rfl, .ref r, rfl, r, _, rfl, .inr (SqT.at hr'), _, _, rfl, rfl, (by rw [hrl]; exact L0), ?_⟩
    rw [hrl]
    exact ⟨r, _, (k : Int), _, rfl, by rw [← ek], SqT.at hr', atI_nat hv2, q⟩
def spRepeated (K : PySem.W.Frag) : Sp := fun vs H Q _ => ∃ (p : Addr) (xs : List Int) (m : Int), vs = [.ref p, .int m] ∧ RowAt K H p xs ∧ ∀ o H', H o = none → H' o = some (.lst ((repI xs m).map V.int)) → Same H H' → Q (.ref o) H'
theorem ok_repeated (T : Tx w K mg a) : FnOk P w K mg base CX0 5 a.f_repeated a.d_repeated ["row", "many"] (spRepeated K) := by
  refine T.F_repeated.ok sc_repeated (fun vs H Q E h => ?_) (fun cdv A outer s H vs Q E hr h => ?_)
  · obtain ⟨p, xs, m, rfl, _⟩ := h
    rfl
  · obtain ⟨p, xs, m, rfl, hX, q⟩ := h
    refine ⟨_, 
(pss_cons (ps_expr (pe_call (ok_check_row T) hr (by rfl) T.m_check_row T.F_check_row.kp T.b_check_row .nil pass0 (pa_cons (pv 0) pa_nil)))
  (pss_cons (ps_if (pt_not (pt_val (pe_call (ok_is_integer T) (hr.mono (by decide)) (by rfl) T.m_is_integer T.F_is_integer.kp T.b_is_integer .nil pass0 (pa_cons (pv 1) pa_nil))))
  (pss_one ps_never)
  pss_nil)
  (pss_cons (ps_set (i := 2) sc_repeated.nd rfl (.inr rfl) (pe_call (ok_seats_of T) (hr.mono (by decide)) (by rfl) T.m_seats_of T.F_seats_of.kp T.b_seats_of .nil pass0 (pa_cons (pv 0) pa_nil)))
  (pss_one (ps_ret (pe_lc (own := [("place", 3)]) (g := gName 3) rfl sc_repeated.nd (pi_range1 (by rfl) T.z_range (pa_cons (pe_callB call_len_seq (by rfl) T.z_len PySem.boot_len (pa_cons (pv 0) pa_nil)) pa_nil)) (blkOk_by (own := [("place", 3)]) (N := ["row", "many", "seats", "place"]) (sc := defScope s_repeated) (by decide +kernel)) (fun _ _ _ _ _ => pg_name (i := 3) sc_repeated.nd rfl (Or.inl rfl)) (fun _ _ _ _ _ => pts_nil) (fun _ _ _ _ _ => (pe_call (ok_led T) (hr.mono (by decide)) (by rfl) T.m_led T.F_led.kp T.b_led .nil pass0 (pa_cons (pv 2) (pa_cons (pv 3) (pa_cons (pv 1) pa_nil))))))))))), ?_⟩
    refine ⟨.ref p, rfl, p, xs, rfl, hX, fun H1 s1 => ?_⟩
    -- if not is_integer(many)
    refine ⟨_, rfl, .int m, true, rfl, .int m, _, rfl, ?_⟩
    -- seats = seats_of(row)
    refine ⟨.ref p, rfl, p, xs, rfl, hX.same s1, fun r H2 nr hs s2 => ?_⟩
    have s12 := s1.trans s2
    -- [led(seats, place, many) for place in range(len(row))]
    refine ⟨.ref p, rfl, p, _, rfl, hX.1.same s12, _, rfl, ?_⟩
    rw [List.length_map]
    have hl := hX.2.2
    refine ⟨by omega, by omega, fun o no => ?_⟩
    refine lc_range (lo := 0) (n := ((xs.length : Nat) : Int).toNat) (fun i H' => Same H2 H' ∧ H' o = some (.lst (((repI xs m).take i).map V.int))) ?h0 ?hs ?hd
    case h0 => exact ⟨same_upd no, upd_same⟩
    case hd =>
      rintro H' ⟨sm, e⟩
      rw [List.take_of_length_le (by unfold repI; rw [List.length_map, List.length_range]; omega)] at e
      exact q o H' (s12.free no) e (s12.trans sm)
    case hs =>
      rintro i H' hi ⟨sm, e⟩
      rw [Int.toNat_natCast] at hi
      rw [show (0 : Int) + (i : Int) = (i : Int) from Int.zero_add _]
      refine ⟨rfl, .ref r, rfl, _, rfl, .int m, rfl, r, xs, i, m, rfl, hs.same sm, hX.2.1, hi, _, e, ?_, keep_upd sm no, ?_⟩
      · rw [List.length_map, List.length_take]
        exact szlt (Nat.le_trans (Nat.min_le_right _ _) (by unfold repI; rw [List.length_map, List.length_range]; exact hl))
      · rw [upd_same, List.take_add_one]
        unfold repI
        rw [List.getElem?_map, List.getElem?_range hi, List.map_append]
        rfl
end

/-! ### pairs that are turned round, and rings -/
/-- the pairs that are turned round -/
def inv : List Int → Nat
  | [] => 0
  | x :: r => (r.filter fun y => decide (y < x)).length + inv r
theorem inv_snoc (y : Int) : ∀ xs : List Int, inv (xs ++ [y]) = inv xs + (xs.filter fun x => decide (y < x)).length
  | [] => rfl
  | x :: r => by
    show (List.filter (fun y => decide (y < x)) (r ++ [y])).length + inv (r ++ [y]) = (List.filter (fun y => decide (y < x)) r).length + inv r + ((x :: r).filter fun x => decide (y < x)).length
    rw [inv_snoc y r, List.filter_append, List.length_append, List.filter_cons, List.filter_cons]
    by_cases h : y < x
    · simp [h]; omega
    · simp [h]; omega
theorem inv_ri : ∀ n, inv (ri n) = 0
  | 0 => rfl
  | n + 1 => by
    have e : ri (n + 1) = ri n ++ [(n : Int)] := by
      unfold ri
      rw [List.range_succ, List.map_append]
      rfl
    rw [e, inv_snoc, inv_ri n]
    have : (ri n).filter (fun x => decide ((n : Int) < x)) = [] := by
      rw [List.filter_eq_nil_iff]
      intro x hx
      have := ri_mem.mp hx
      simp
      omega
    rw [this]
    rfl
theorem inv_adj {x z : Int} (h : x ≠ z) (l : List Int) : ∀ l1 : List Int, (inv (l1 ++ x :: z :: l) + inv (l1 ++ z :: x :: l)) % 2 = 1
  | [] => by
    show ((List.filter (fun y => decide (y < x)) (z :: l)).length + ((List.filter (fun y => decide (y < z)) l).length + inv l) + ((List.filter (fun y => decide (y < z)) (x :: l)).length + ((List.filter (fun y => decide (y < x)) l).length + inv l))) % 2 = 1
    rw [List.filter_cons, List.filter_cons]
    rcases Int.lt_or_gt_of_ne h with l | l
    · have : ¬ z < x := by omega
      simp [l, this]; omega
    · have : ¬ x < z := by omega
      simp [l, this]; omega
  | a :: r => by
    have p : (r ++ x :: z :: l).Perm (r ++ z :: x :: l) := (List.Perm.swap z x l).append_left r
    have e := (p.filter fun y => decide (y < a)).length_eq
    have ih := inv_adj h l r
    show ((List.filter (fun y => decide (y < a)) (r ++ x :: z :: l)).length + inv (r ++ x :: z :: l) + ((List.filter (fun y => decide (y < a)) (r ++ z :: x :: l)).length + inv (r ++ z :: x :: l))) % 2 = 1
    omega
theorem inv_mv {x : Int} (l3 : List Int) : ∀ (l2 l1 : List Int), x ∉ l2 → (inv (l1 ++ x :: (l2 ++ l3)) + inv (l1 ++ (l2 ++ x :: l3)) + l2.length) % 2 = 0
  | [], l1, _ => by
    show (inv (l1 ++ x :: l3) + inv (l1 ++ x :: l3) + 0) % 2 = 0
    omega
  | z :: r, l1, h => by
    have hz : x ≠ z := fun e => h (e ▸ List.mem_cons_self ..)
    have ih := inv_mv l3 r (l1 ++ [z]) (fun m => h (List.mem_cons_of_mem _ m))
    have a := inv_adj hz (r ++ l3) l1
    simp only [List.append_assoc, List.cons_append, List.nil_append, List.length_cons] at ih a ⊢
    omega
theorem inv_swap {x y : Int} {l1 l2 l3 : List Int} (hn : (l1 ++ x :: (l2 ++ y :: l3)).Nodup) : (inv (l1 ++ x :: (l2 ++ y :: l3)) + inv (l1 ++ y :: (l2 ++ x :: l3))) % 2 = 1 := by
  have h1 := (List.nodup_append.mp hn).2.1
  have h2 := List.nodup_cons.mp h1
  have h3 := List.nodup_append.mp h2.2
  have x2 : x ∉ l2 := fun m => h2.1 (List.mem_append_left _ m)
  have y2 : y ∉ l2 := fun m => h3.2.2 y m y (List.mem_cons_self ..) rfl
  have xy : x ≠ y := fun e => h2.1 (List.mem_append_right _ (e ▸ List.mem_cons_self ..))
  have a := inv_mv (x := x) (y :: l3) l2 l1 x2
  have b := inv_mv (x := y) (x :: l3) l2 l1 y2
  have c := inv_adj xy l3 (l1 ++ l2)
  simp only [List.append_assoc] at c
  omega
/-- two members exchanged -/
def swp (xs : List Int) (i m : Nat) : List Int := (xs.set i (xs.getD m 0)).set m (xs.getD i 0)
theorem swp_len (xs : List Int) (i m : Nat) : (swp xs i m).length = xs.length := by
  unfold swp
  rw [List.length_set, List.length_set]
theorem swp_split {xs : List Int} {i m : Nat} (h : i < m) (hm : m < xs.length) : ∃ (l1 l2 l3 : List Int) (x y : Int), xs = l1 ++ x :: (l2 ++ y :: l3) ∧ swp xs i m = l1 ++ y :: (l2 ++ x :: l3) ∧ l1.length = i ∧ l1.length + 1 + l2.length = m := by
  have hi : i < xs.length := by omega
  have e1 : xs = xs.take i ++ xs[i] :: xs.drop (i + 1) := by
    rw [← List.drop_eq_getElem_cons hi, List.take_append_drop]
  have hd : m - (i + 1) < (xs.drop (i + 1)).length := by
    rw [List.length_drop]
    omega
  have e2 : xs.drop (i + 1) = (xs.drop (i + 1)).take (m - (i + 1)) ++ xs[m] :: xs.drop (m + 1) := by
    have g : (xs.drop (i + 1))[m - (i + 1)] = xs[m] := by
      rw [List.getElem_drop]
      congr 1
      omega
    have d : xs.drop (m + 1) = (xs.drop (i + 1)).drop (m - (i + 1) + 1) := by
      rw [List.drop_drop]
      congr 1
      omega
    rw [d, ← g, ← List.drop_eq_getElem_cons hd, List.take_append_drop]
  have l1 : (xs.take i).length = i := by rw [List.length_take]; omega
  have l2 : ((xs.drop (i + 1)).take (m - (i + 1))).length = m - (i + 1) := by rw [List.length_take]; omega
  refine ⟨xs.take i, (xs.drop (i + 1)).take (m - (i + 1)), xs.drop (m + 1), xs[i], xs[m], by rw [← e2, ← e1], ?_, l1, by rw [l1, l2]; omega⟩
  unfold swp
  rw [getD_get hi, getD_get hm]
  generalize xs[i] = x at e1
  generalize xs[m] = y at e2
  generalize hA : xs.take i = A at e1 l1
  generalize hB : (xs.drop (i + 1)).take (m - (i + 1)) = B at e2 l2
  generalize xs.drop (m + 1) = C at e2
  rw [e2] at e1
  clear e2 hd hA hB
  subst e1
  rw [List.set_append_right _ _ (by omega), show i - A.length = 0 by omega, List.set_cons_zero, List.set_append_right _ _ (by omega), show m - A.length = (m - A.length - 1) + 1 by omega, List.set_cons_succ, List.set_append_right _ _ (by omega), show m - A.length - 1 - B.length = 0 by omega, List.set_cons_zero]
theorem swp_perm {xs : List Int} {i m : Nat} (h : i < m) (hm : m < xs.length) : (swp xs i m).Perm xs := by
  obtain ⟨l1, l2, l3, x, y, e1, e2, _, _⟩ := swp_split h hm
  rw [e1] at *
  rw [e2]
  refine List.Perm.append_left _ ?_
  have p1 : (y :: (l2 ++ x :: l3)).Perm (y :: x :: (l2 ++ l3)) := (List.perm_middle).cons y
  have p2 : (x :: (l2 ++ y :: l3)).Perm (x :: y :: (l2 ++ l3)) := (List.perm_middle).cons x
  exact p1.trans ((List.Perm.swap x y _).trans p2.symm)
theorem swp_row {xs : List Int} {i m : Nat} (hr : IsRow xs) (h : i < m) (hm : m < xs.length) : IsRow (swp xs i m) := isRow_of xs.length ((swp_perm h hm).trans hr)
theorem swp_inv {xs : List Int} {i m : Nat} (hn : xs.Nodup) (h : i < m) (hm : m < xs.length) : (inv xs + inv (swp xs i m)) % 2 = 1 := by
  obtain ⟨l1, l2, l3, x, y, e1, e2, _, _⟩ := swp_split h hm
  rw [e2]
  rw [e1] at hn ⊢
  exact inv_swap hn
theorem swp_get {xs : List Int} {i m : Nat} (h : i < m) (hm : m < xs.length) (p : Nat) : (swp xs i m).getD p 0 = if p = m then xs.getD i 0 else if p = i then xs.getD m 0 else xs.getD p 0 := by
  unfold swp
  rw [List.getD_eq_getElem?_getD, List.getElem?_set, List.getElem?_set, List.length_set]
  by_cases h1 : p = m
  · subst h1
    rw [if_pos rfl, if_pos hm, if_pos rfl]
    rfl
  · rw [if_neg (fun z => h1 z.symm), if_neg h1]
    by_cases h2 : p = i
    · subst h2
      rw [if_pos rfl, if_pos (by omega), if_pos rfl]
      rfl
    · rw [if_neg (fun z => h2 z.symm), if_neg h2, List.getD_eq_getElem?_getD]
/-- each row can be put in order by exchanges, from the end on -/
theorem row_ind (C : List Int → Prop) (h0 : ∀ n, C (ri n)) (hs : ∀ (xs : List Int) (i m : Nat), IsRow xs → i < m → m < xs.length → xs.getD i 0 = (m : Int) → (∀ k, m < k → k < xs.length → xs.getD k 0 = (k : Int)) → C (swp xs i m) → C xs) : ∀ xs, IsRow xs → C xs := by
  have key : ∀ (m : Nat) (xs : List Int), IsRow xs → m ≤ xs.length → (∀ k, m ≤ k → k < xs.length → xs.getD k 0 = (k : Int)) → C xs := by
    intro m
    induction m with
    | zero =>
      intro xs hr _ hk
      have e : xs = ri xs.length := by
        refine List.ext_getElem (by rw [ri_len]) fun k h1 h2 => ?_
        have := hk k (Nat.zero_le _) h1
        rw [getD_get h1] at this
        have g := ri_get h1
        rw [List.getElem?_eq_getElem h2] at g
        rw [this]
        exact (Option.some.inj g).symm
      rw [e]
      exact h0 _
    | succ m ih =>
      intro xs hr hm hk
      by_cases hf : xs.getD m 0 = (m : Int)
      · refine ih xs hr (by omega) fun k h1 h2 => ?_
        by_cases e : k = m
        · subst e
          exact hf
        · exact hk k (by omega) h2
      · obtain ⟨i, hi, ei⟩ := List.getElem_of_mem (hr.all (v := m) (by omega))
        have him : i < m := by
          refine Classical.byContradiction fun z => ?_
          by_cases e : i = m
          · subst e
            rw [getD_get hi] at hf
            exact hf ei
          · have := hk i (by omega) hi
            rw [getD_get hi] at this
            omega
        have hml : m < xs.length := by omega
        refine hs xs i m hr him hml (by rw [getD_get hi]; exact ei) (fun k h1 h2 => hk k (by omega) h2) ?_
        refine ih _ (swp_row hr him hml) (by rw [swp_len]; omega) fun k h1 h2 => ?_
        rw [swp_len] at h2
        rw [swp_get him hml]
        by_cases e : k = m
        · subst e
          rw [if_pos rfl, getD_get hi]
          exact ei
        · rw [if_neg e, if_neg (by omega)]
          exact hk k (by omega) h2
  intro xs hr
  exact key xs.length xs hr (Nat.le_refl _) fun k h1 h2 => by omega
/-! ### the rings of a row two members of which are exchanged -/
section
variable {xs : List Int} {i m : Nat} (hr : IsRow xs) (him : i < m) (hm : m < xs.length) (ei : xs.getD i 0 = (m : Int))
include hr him hm ei
theorem nxP_swp {p : Nat} : nxP (swp xs i m) p = if p = m then m else if p = i then nxP xs m else nxP xs p := by
  unfold nxP
  rw [swp_get him hm]
  by_cases h1 : p = m
  · rw [if_pos h1, if_pos h1, ei, Int.toNat_natCast]
  · rw [if_neg h1, if_neg h1]
    by_cases h2 : p = i
    · rw [if_pos h2, if_pos h2]
    · rw [if_neg h2, if_neg h2]
theorem nxP_i : nxP xs i = m := by
  unfold nxP
  rw [ei, Int.toNat_natCast]
theorem swp_fix : ∀ k, itP (swp xs i m) k m = m
  | 0 => rfl
  | k + 1 => by
    show nxP (swp xs i m) (itP (swp xs i m) k m) = m
    rw [swp_fix k, nxP_swp hr him hm ei, if_pos rfl]
theorem swp_meets {p : Nat} : ∀ k, Meets xs p (itP (swp xs i m) k p)
  | 0 => ⟨0, rfl⟩
  | k + 1 => by
    obtain ⟨j, e⟩ := swp_meets (p := p) k
    show Meets xs p (nxP (swp xs i m) (itP (swp xs i m) k p))
    rw [← e, nxP_swp hr him hm ei]
    by_cases h1 : itP xs j p = m
    · rw [if_pos h1]
      exact ⟨j, h1⟩
    · rw [if_neg h1]
      by_cases h2 : itP xs j p = i
      · rw [if_pos h2]
        refine ⟨j + 2, ?_⟩
        show nxP xs (nxP xs (itP xs j p)) = _
        rw [h2, nxP_i hr him hm ei]
      · rw [if_neg h2]
        exact ⟨j + 1, rfl⟩
theorem swp_back {p : Nat} (hp : p < xs.length) (hpm : p ≠ m) : ∀ k, (itP xs k p = m ∧ ∃ j, itP (swp xs i m) j p = i) ∨ ∃ j, itP (swp xs i m) j p = itP xs k p
  | 0 => .inr ⟨0, rfl⟩
  | k + 1 => by
    rcases swp_back hp hpm k with ⟨h1, j, h2⟩ | ⟨j, h⟩
    · refine .inr ⟨j + 1, ?_⟩
      show nxP (swp xs i m) (itP (swp xs i m) j p) = nxP xs (itP xs k p)
      rw [h1, h2, nxP_swp hr him hm ei, if_neg (by omega), if_pos rfl]
    · by_cases h2 : itP xs k p = i
      · refine .inl ⟨?_, j, by rw [h, h2]⟩
        show nxP xs (itP xs k p) = m
        rw [h2, nxP_i hr him hm ei]
      · refine .inr ⟨j + 1, ?_⟩
        have hne : itP xs k p ≠ m := by
          intro e
          rw [e] at h
          refine hpm (itP_cancel (swp_row hr him hm) (by rw [swp_len]; exact hp) (by rw [swp_len]; exact hm) j ?_)
          rw [h, swp_fix hr him hm ei]
        show nxP (swp xs i m) (itP (swp xs i m) j p) = nxP xs (itP xs k p)
        rw [h, nxP_swp hr him hm ei, if_neg hne, if_neg h2]
theorem swp_leads {p : Nat} (hk : ∀ k, m < k → k < xs.length → xs.getD k 0 = (k : Int)) (hp : p < xs.length) (hpm : p ≠ m) : Leads (swp xs i m) p ↔ Leads xs p := by
  constructor
  · intro h k
    rcases swp_back hr him hm ei hp hpm k with ⟨h1, _⟩ | ⟨j, e⟩
    · rw [h1]
      refine Classical.byContradiction fun z => ?_
      have fx : ∀ k, itP xs k p = p := by
        intro k
        induction k with
        | zero => rfl
        | succ k ih =>
          show nxP xs (itP xs k p) = p
          rw [ih]
          unfold nxP
          rw [hk p (by omega) hp, Int.toNat_natCast]
      have := fx k
      omega
    · rw [← e]
      exact h j
  · intro h k
    obtain ⟨j, e⟩ := swp_meets hr him hm ei (p := p) k
    rw [← e]
    exact h j
theorem swp_count (hk : ∀ k, m < k → k < xs.length → xs.getD k 0 = (k : Int)) : (leads (swp xs i m) xs.length).length = (leads xs xs.length).length + 1 := by
  have lm : Leads (swp xs i m) m := fun k => by
    rw [swp_fix hr him hm ei]
    exact Nat.le_refl _
  have nm : ¬ Leads xs m := fun h => by
    have a := h 1
    have e : itP xs 1 m = nxP xs m := rfl
    have lt := nxP_lt hr hm
    have n1 : nxP xs m ≠ m := fun z => by
      have := nxP_inj hr hm (show i < xs.length by omega) (by rw [z, nxP_i hr him hm ei])
      omega
    have : m < nxP xs m := by omega
    have b := hk _ this lt
    have c : nxP xs (nxP xs m) = nxP xs m := by
      have : nxP xs (nxP xs m) = (xs.getD (nxP xs m) 0).toNat := rfl
      rw [this, b, Int.toNat_natCast]
    have := nxP_inj hr lt hm c
    omega
  have key : ∀ k, k ≤ xs.length → (leads (swp xs i m) k).length = (leads xs k).length + if m < k then 1 else 0 := by
    intro k
    induction k with
    | zero => intro _; rfl
    | succ k ih =>
      intro h
      have ih := ih (by omega)
      rw [leads_succ, leads_succ]
      by_cases e : k = m
      · subst e
        rw [if_pos lm, if_neg nm, List.length_append, ih, if_neg (by omega), if_pos (by omega)]
        rfl
      · have q := swp_leads hr him hm ei hk (p := k) (by omega) e
        have z : (if m < k + 1 then 1 else 0) = (if m < k then 1 else 0) := by
          by_cases l : m < k
          · rw [if_pos l, if_pos (by omega)]
          · rw [if_neg l, if_neg (by omega)]
        rw [z]
        by_cases l : Leads xs k
        · rw [if_pos l, if_pos (q.mpr l), List.length_append, List.length_append, ih]
          simp only [List.length_cons, List.length_nil]
          omega
        · rw [if_neg l, if_neg (fun w => l (q.mp w)), ih]
  rw [key _ (Nat.le_refl _), if_pos hm]
end
theorem leads_ri (n : Nat) : (leads (ri n) n).length = n := by
  have fx : ∀ p, p < n → ∀ k, itP (ri n) k p = p := by
    intro p hp k
    induction k with
    | zero => rfl
    | succ k ih =>
      show nxP (ri n) (itP (ri n) k p) = p
      rw [ih]
      unfold nxP
      rw [List.getD_eq_getElem?_getD, ri_get hp]
      exact Int.toNat_natCast p
  have key : ∀ k, k ≤ n → (leads (ri n) k).length = k := by
    intro k
    induction k with
    | zero => intro _; rfl
    | succ k ih =>
      intro h
      have l : Leads (ri n) k := fun j => by
        rw [fx k (by omega)]
        exact Nat.le_refl _
      rw [leads_succ, if_pos l, List.length_append, ih (by omega)]
      rfl
  exact key n (Nat.le_refl _)
/-- the size less the number of rings is even just if the pairs turned round are -/
theorem par_rings : ∀ xs : List Int, IsRow xs → (inv xs + xs.length + (leads xs xs.length).length) % 2 = 0 := by
  refine row_ind _ (fun n => ?_) (fun xs i m hr him hm ei hk ih => ?_)
  · rw [inv_ri, ri_len, leads_ri]
    omega
  · rw [swp_len, swp_count hr him hm ei hk] at ih
    have := swp_inv hr.nodup him hm
    omega
theorem pick_swp {as bs : List Int} {i m : Nat} (him : i < m) (hm : m < bs.length) : pickI as (swp bs i m) = swp (pickI as bs) i m := by
  have hi : i < bs.length := by omega
  have g : ∀ {k : Nat}, k < bs.length → (pickI as bs).getD k 0 = as.getD (bs.getD k 0).toNat 0 := fun {k} h => by
    rw [getD_get (by rw [pick_len]; exact h), pick_get h, getD_get h]
  unfold swp
  rw [g hm, g hi]
  unfold pickI
  rw [List.map_set, List.map_set]
theorem par_joined {as : List Int} (ha : IsRow as) : ∀ bs : List Int, IsRow bs → bs.length = as.length → (inv (pickI as bs) + inv as + inv bs) % 2 = 0 := by
  refine row_ind _ (fun n => ?_) (fun xs i m hr him hm ei hk ih => ?_)
  · intro h
    rw [ri_len] at h
    subst h
    rw [pick_ri, inv_ri]
    omega
  · intro h
    have ih := ih (by rw [swp_len]; exact h)
    rw [pick_swp him hm] at ih
    have a := swp_inv hr.nodup him hm
    have b := swp_inv (isRow_pick ha hr h).nodup him (by rw [pick_len]; exact hm)
    omega

theorem ne_false {xs ys : List Int} {A B : Prop} (h : xs = ys) (q : B) : if (!PyData.eqv (iD xs) (iD ys)) = true then A else B := by
  subst h
  rw [eqv_ints, decide_eq_true rfl]
  exact q
theorem perm_ints {vs : List V} {xs : List Int} (h : vs.Perm (xs.map V.int)) : ∃ ys : List Int, vs = ys.map V.int ∧ ys.Perm xs := by
  let un : V → Int := fun v => match v with
    | .int i => i
    | _ => 0
  have e : vs = (vs.map un).map V.int := by
    rw [List.map_map]
    conv => lhs; rw [← List.map_id vs]
    refine List.map_congr_left fun v hv => ?_
    obtain ⟨i, _, rfl⟩ := List.mem_map.mp (h.mem_iff.mp hv)
    rfl
  refine ⟨vs.map un, e, ?_⟩
  have p := h.map un
  rw [List.map_map] at p
  have e2 : xs.map (un ∘ V.int) = xs := by
    conv => rhs; rw [← List.map_id xs]
    exact List.map_congr_left fun _ _ => rfl
  rw [e2] at p
  exact p
/-- the comprehension [xs[y] for y in ys]: names at i (ys), j (xs), k (y) -/
theorem lc_pick {K : PySem.W.Frag} {σ : L2.St} {H : Hp} {Q : VK} {p r : Addr} {xs ys : List Int} {i j k : Nat} (hi : σ[i]? = some (some (.ref r))) (hj : σ[j]? = some (some (.ref p))) (hjk : k ≠ j) (hk : k < σ.length)
    (hy : SqL K H r (ys.map V.int)) (hx : SqL K H p (xs.map V.int)) (hb : ∀ y ∈ ys, 0 ≤ y ∧ y.toNat < xs.length) (hl : ys.length ≤ 100000)
    (q : ∀ o H', H o = none → H' o = some (.lst ((pickI xs ys).map V.int)) → Same H H' → Q (.ref o) H') :
    tLc (iList K (tVar i)) (gName k) tYes (tOp (rIxL K) (tVar j) (tVar k)) [k] σ H Q := by
  refine ⟨_, hi, r, rfl, ⟨_, hy⟩, fun o ho => ?_⟩
  refine lc_it (walk_list (xs := ys.map V.int)) (fun i H' => Same H H' ∧ H' o = some (.lst (((pickI xs ys).take i).map V.int))) ?h0 ?hG ?hs ?hd
  case h0 => exact ⟨same_upd ho, upd_same⟩
  case hG =>
    rintro i H' _ ⟨sm, _⟩
    exact sm.seq hy
  case hd =>
    rintro H' ⟨sm, e⟩
    rw [List.length_map, List.take_of_length_le (by rw [pick_len]; exact Nat.le_refl _)] at e
    exact q o H' ho e sm
  case hs =>
    rintro i x H3 H4 hi' ⟨sm, e⟩ ⟨rfl, ex⟩
    rw [List.length_map] at hi'
    rw [List.getElem?_map, List.getElem?_eq_getElem hi'] at ex
    cases ex
    have hbi := hb _ (List.getElem_mem hi')
    refine ⟨?_, .ref p, ?_, .int ys[i], ?_, p, _, ys[i], _, rfl, rfl, sm.seq hx, atI_ints hbi.1 hbi.2, ?_⟩
    · show ((σ.set k none).set k _).set k none = σ.set k none
      simp
    · show ((σ.set k none).set k _)[j]? = _
      rw [List.getElem?_set_ne hjk, List.getElem?_set_ne hjk]
      exact hj
    · show ((σ.set k none).set k _)[k]? = _
      rw [List.getElem?_set_self (by simp; exact hk)]
    · refine ⟨_, e, ?_, ?_, ?_⟩
      · rw [List.length_map, List.length_take]
        exact szlt (Nat.le_trans (Nat.min_le_right _ _) (by rw [pick_len]; exact hl))
      · intro b u hb'
        rw [upd_ne (ne_of_none hb' ho)]
        exact sm b u hb'
      · rw [upd_same, List.take_add_one, List.getElem?_eq_getElem (by rw [pick_len]; exact hi'), pick_get hi', List.map_append, getD_get hbi.2]
        rfl
section
variable {P : Program} {w : World} {K : PySem.W.Frag} {mg : Str → Option Value} {base : Heap} {a : Ad}
def spLawRow : Sp := fun vs H Q _ => ∃ (d c : Addr) (n m : Nat), vs = [.ref d, .int (m : Int)] ∧ Pen H d c n ∧ n + m < 2 ^ 40 ∧ m ≤ 100000 ∧
  ∀ p ys H', IsRow ys → ys.length = m → H p = none → H' p = some (.lst (ys.map V.int)) → Pen H' d c (n + m) → But d H H' → Q (.ref p) H'
theorem ok__law_row (T : Tx w K mg a) : FnOk P w K mg base CX0 3 a.f__law_row a.d__law_row ["pen", "size"] spLawRow := by
  refine T.F__law_row.ok sc__law_row (fun vs H Q E h => ?_) (fun cdv A outer s H vs Q E hr h => ?_)
  · obtain ⟨d, c, n, m, rfl, _⟩ := h
    rfl
  · obtain ⟨d, c, n, m, rfl, hp, hn, hm, q⟩ := h
    refine ⟨_, 
(pss_one (ps_ret (pe_call (ok__law_shuffled T) hr (by rfl) T.m__law_shuffled T.F__law_shuffled.kp T.b__law_shuffled .nil pass0 (pa_cons (pv 0) (pa_cons (pe_listRg rfl (by rfl) T.z_list (prg_1 (by rfl) T.z_range (pv 1))) pa_nil))))), ?_⟩
    refine ⟨.ref d, rfl, _, rfl, _, rfl, RgOk.of_le (by decide) (by omega) (by decide) (by omega), fun l hl => ?_⟩
    rw [rgV_ri]
    have s1 : Same H (upd H l (.lst ((ri m).map V.int))) := same_upd hl
    have hlen : ((ri m).map V.int).length = m := by rw [List.length_map, ri_len]
    refine ⟨d, c, l, n, _, rfl, hp.same s1, by rw [hlen]; exact hn, SqL.at upd_same, by rw [hlen]; exact hm, fun p ys H' pm hp0 hpl hpen hb => ?_⟩
    obtain ⟨zs, rfl, pz⟩ := perm_ints pm
    have zl : zs.length = m := by
      have := pz.length_eq
      rw [ri_len] at this
      exact this
    rw [hlen] at hpen
    exact q p zs H' (isRow_of m pz) zl (s1.free hp0) hpl hpen fun b o e n => hb b o (s1 b o e) n
end


theorem repV_shift {xs : List Int} (h : IsRow xs) {p : Nat} (hp : p < xs.length) (m : Int) (j : Nat) : repV xs m (itP xs j p) = repV xs (m + (j : Int)) p := by
  obtain ⟨m1, _, m3, _⟩ := rlen_spec h hp
  have L0 : (0 : Int) < ((rlen xs p : Nat) : Int) := by omega
  have a0 := Int.fmod_nonneg_of_pos m L0
  unfold repV
  rw [rlen_meets h hp ⟨j, rfl⟩, ← itP_add]
  have e1 : Int.fmod (m + (j : Int)) ((rlen xs p : Nat) : Int) = ((((Int.fmod m ((rlen xs p : Nat) : Int)).toNat + j) % rlen xs p : Nat) : Int) := by
    rw [Int.fmod_eq_emod_of_nonneg _ (Int.le_of_lt L0), ← Int.emod_add_emod, ← Int.fmod_eq_emod_of_nonneg m (Int.le_of_lt L0)]
    have e : Int.fmod m ((rlen xs p : Nat) : Int) + (j : Int) = (((Int.fmod m ((rlen xs p : Nat) : Int)).toNat + j : Nat) : Int) := by omega
    rw [e]
    rfl
  rw [e1, Int.toNat_natCast, ← itP_mod m3]
theorem repI_len (xs : List Int) (m : Int) : (repI xs m).length = xs.length := by
  unfold repI
  rw [List.length_map, List.length_range]
theorem repI_get {xs : List Int} {m : Int} {q : Nat} (h : q < xs.length) : (repI xs m)[q]? = some (repV xs m q) := by
  unfold repI
  rw [List.getElem?_map, List.getElem?_range h]
  rfl
theorem repI_getD {xs : List Int} {m : Int} {q : Nat} (h : q < xs.length) : (repI xs m).getD q 0 = repV xs m q := by
  rw [List.getD_eq_getElem?_getD, repI_get h]
  rfl
theorem repV_zero (xs : List Int) (q : Nat) : repV xs 0 q = (q : Int) := by
  unfold repV
  rw [Int.zero_fmod]
  rfl
theorem repI_zero (xs : List Int) : repI xs 0 = ri xs.length := by
  refine List.ext_getElem? fun q => ?_
  rcases Nat.lt_or_ge q xs.length with l | l
  · rw [repI_get l, ri_get l, repV_zero]
  · rw [List.getElem?_eq_none (by rw [repI_len]; exact l), List.getElem?_eq_none (by rw [ri_len]; exact l)]
theorem repI_step {xs : List Int} (h : IsRow xs) (m : Int) : pickI (repI xs m) xs = repI xs (m + 1) := by
  refine repI_of (by rw [pick_len]) fun q hq => ?_
  rw [List.getElem?_eq_getElem (by rw [pick_len]; exact hq), pick_get hq, ← nxP_get hq, repI_getD (nxP_lt h hq)]
  exact congrArg some (repV_shift h hq m 1)
theorem repI_back {xs bs : List Int} (h : IsRow xs) (hb : InvOf xs bs) (m : Int) : pickI (repI xs m) bs = repI xs (m - 1) := by
  refine repI_of (by rw [pick_len, hb.1]) fun q hq => ?_
  obtain ⟨j, hj, e1, e2⟩ := hb.mem h hq
  have hq2 : q < bs.length := by rw [hb.1]; exact hq
  rw [List.getElem?_eq_getElem hq2] at e2
  have e3 := Option.some.inj e2
  rw [List.getElem?_eq_getElem (by rw [pick_len]; exact hq2), pick_get hq2, e3, Int.toNat_natCast, repI_getD hj]
  have e4 : itP xs 1 j = q := by
    show nxP xs j = q
    rw [nxP_get hj, e1, Int.toNat_natCast]
  have := repV_shift h hj (m - 1) 1
  rw [e4] at this
  rw [this]
  congr 2
  omega
theorem repI_one {xs : List Int} (h : IsRow xs) : repI xs 1 = xs := by
  have := repI_step h 0
  rw [repI_zero] at this
  rw [← show (0 : Int) + 1 = 1 from rfl, ← this, ri_pick]
  intro x hx
  exact h.mem.mp hx
/-! ### data: lists of tuples of ints -/
def tiD (l : List Int) : PyData := .tuple (l.map PyData.int)
theorem lay_tis : ∀ ls : List (List Int), PyData.canLayAll0 (ls.map tiD) = true
  | [] => by simp [PyData.canLayAll0]
  | l :: r => by
    simp only [List.map_cons, PyData.canLayAll0, Bool.and_eq_true]
    exact ⟨by unfold tiD; rw [PyData.canLay0]; exact lay_ints l, lay_tis r⟩
theorem deep_tis : ∀ ls : List (List Int), PyData.depthAll (ls.map tiD) ≤ 2
  | [] => by simp [PyData.depthAll]
  | l :: r => by
    have h1 := deep_ints l
    have h2 := deep_tis r
    have h3 : PyData.depth (tiD l) = PyData.depthAll (l.map PyData.int) + 1 := by unfold tiD; rw [PyData.depth]
    simp only [List.map_cons, PyData.depthAll]
    omega
theorem shaped_tis {ls : List (List Int)} : SeqAt.shaped (.list (ls.map tiD)) = true := by
  unfold SeqAt.shaped
  rw [Bool.and_eq_true, decide_eq_true_eq]
  refine ⟨by rw [PyData.canLay0]; exact lay_tis ls, ?_⟩
  have := deep_tis ls
  rw [PyData.depth]
  omega
theorem HeldR.dp {K : PySem.W.Frag} {H : Hp} {xs : List Int} : ∀ {ts : List Addr} {ps : List Nat}, HeldR H xs ts ps → DpAll K H (ts.map V.ref) ((ps.map (ringP xs)).map tiD)
  | [], [], _ => .nil
  | _ :: _, _ :: _, h => .cons (.tup (SqT.at h.1) (dp_all _)) (HeldR.dp h.2)
theorem HeldR.same {H H' : Hp} {xs : List Int} {ts : List Addr} {ps : List Nat} (h : HeldR H xs ts ps) (e : Same H H') : HeldR H' xs ts ps := h.mono fun _ _ q => e _ _ q
theorem HeldR.but {d : Addr} {H H' : Hp} {kvs : List (Key × V)} {xs : List Int} {ts : List Addr} {ps : List Nat} (h : HeldR H xs ts ps) (b : But d H H') (hd : H d = some (.dK kvs)) : HeldR H' xs ts ps := h.mono fun _ _ q => b.tup hd q
theorem ne_same {d : PyData} (h : PyData.canLay0 d = true) {A B : Prop} (q : B) : if (!PyData.eqv d d) = true then A else B := by
  rw [SeqAt.eqv_refl _ h]
  exact q
theorem ne_tis {ls : List (List Int)} {A B : Prop} (q : B) : if (!PyData.eqv (.list (ls.map tiD)) (.list (ls.map tiD))) = true then A else B := by
  exact ne_same (by rw [PyData.canLay0]; exact lay_tis ls) q
/-- [xs[y] for y in ys] behind the iterable -/
theorem lc_pickE {K : PySem.W.Frag} {σ : L2.St} {H : Hp} {D : Addr} {Qd : Hp → Prop} {p r : Addr} {xs ys : List Int} {j k : Nat} (hy : SqL K H r (ys.map V.int)) (hx : SqL K H p (xs.map V.int)) (hb : ∀ y ∈ ys, 0 ≤ y ∧ y.toNat < xs.length) (hl : ys.length ≤ 100000) (hjk : k ≠ j) (ho : H D = none)
    (hj : σ[j]? = some (some (.ref p))) (hk : k < σ.length)
    (q : ∀ H', H' D = some (.lst ((pickI xs ys).map V.int)) → Same H H' → Qd H') :
    ∃ W : Nat → Nat → Hp → Prop, (∃ m, W 0 m (upd H D (.lst []))) ∧ ∀ i m H', W i m H' →
      ((Itl K r).stop i H' ∧ Qd H') ∨ ((Itl K r).go i H' ∧ ∃ Nx : Hp → Prop, (∀ H', Nx H' → ∃ m', m' < m ∧ W (i + 1) m' H') ∧ ∀ x H'', (Itl K r).yld i H' x H'' → gName k x (wipe σ [k]) H'' fun σ2 H2 => wipe σ2 [k] = wipe σ [k] ∧ tYes σ2 H2 fun b H3 =>
        if b = true then tOp (rIxL K) (tVar j) (tVar k) σ2 H3 fun y H4 => ∃ acc, H4 D = some (.lst acc) ∧ acc.length < sizeLine ∧ Nx (upd H4 D (.lst (acc ++ [y]))) else Nx H3) := by
  refine lc_it (walk_list (xs := ys.map V.int)) (fun i H' => Same H H' ∧ H' D = some (.lst (((pickI xs ys).take i).map V.int))) ?h0 ?hG ?hs ?hd
  case h0 => exact ⟨same_upd ho, upd_same⟩
  case hG =>
    rintro i H' _ ⟨sm, _⟩
    exact sm.seq hy
  case hd =>
    rintro H' ⟨sm, e⟩
    rw [List.length_map, List.take_of_length_le (by rw [pick_len]; exact Nat.le_refl _)] at e
    exact q H' e sm
  case hs =>
    rintro i x H3 H4 hi' ⟨sm, e⟩ ⟨rfl, ex⟩
    rw [List.length_map] at hi'
    rw [List.getElem?_map, List.getElem?_eq_getElem hi'] at ex
    cases ex
    have hbi := hb _ (List.getElem_mem hi')
    refine ⟨?_, .ref p, ?_, .int ys[i], ?_, p, _, ys[i], _, rfl, rfl, sm.seq hx, atI_ints hbi.1 hbi.2, ?_⟩
    · show ((σ.set k none).set k _).set k none = σ.set k none
      simp
    · show ((σ.set k none).set k _)[j]? = _
      rw [List.getElem?_set_ne hjk, List.getElem?_set_ne hjk]
      exact hj
    · show ((σ.set k none).set k _)[k]? = _
      rw [List.getElem?_set_self (by simp; exact hk)]
    · refine ⟨_, e, ?_, ?_, ?_⟩
      · rw [List.length_map, List.length_take]
        exact szlt (Nat.le_trans (Nat.min_le_right _ _) (by rw [pick_len]; exact hl))
      · intro b u hb'
        rw [upd_ne (ne_of_none hb' ho)]
        exact sm b u hb'
      · rw [upd_same, List.take_add_one, List.getElem?_eq_getElem (by rw [pick_len]; exact hi'), pick_get hi', List.map_append, getD_get hbi.2]
        rfl
theorem zeros (m : Nat) : (List.replicate (m : Int).toNat [V.int 0]).flatten = (List.replicate m (0 : Int)).map V.int := by
  rw [List.flatten_replicate_singleton, Int.toNat_natCast, List.map_replicate]
theorem ri_split (a b : Nat) : ri (a + b) = ri a ++ (ri b).map fun k => (a : Int) + k := by
  unfold ri
  rw [List.range_add, List.map_append, List.map_map, List.map_map]
  rfl
theorem rgV_from (a n : Nat) (h : a ≤ n) : rgV (a : Int) (n : Int) = ((ri (n - a)).map fun k => (a : Int) + k).map V.int := by
  unfold rgV ri
  rw [List.map_map, List.map_map]
  have e : ((n : Int) - (a : Int)).toNat = n - a := by omega
  rw [e]
  rfl
theorem rowA {fs : List Int} {b : Nat} (h : IsRow fs) : IsRow (fs ++ (ri b).map fun k => (fs.length : Int) + k) := by
  refine isRow_of (fs.length + b) ?_
  rw [ri_split]
  exact List.Perm.append_right _ h
theorem rowB {fs : List Int} {b : Nat} (h : IsRow fs) : IsRow (ri b ++ fs.map fun k => (b : Int) + k) := by
  refine isRow_of (b + fs.length) ?_
  rw [ri_split]
  exact List.Perm.append_left _ (h.map _)

theorem repV_lt {xs : List Int} (h : IsRow xs) {q : Nat} (hq : q < xs.length) (m : Int) : 0 ≤ repV xs m q ∧ (repV xs m q).toNat < xs.length := by
  unfold repV
  have := itP_lt h hq (Int.fmod m ((rlen xs q : Nat) : Int)).toNat
  omega
theorem repV_comp {xs : List Int} (h : IsRow xs) {q : Nat} (hq : q < xs.length) (m k : Int) : repV xs m (repV xs k q).toNat = repV xs (m + k) q := by
  have e : (repV xs k q).toNat = itP xs (Int.fmod k ((rlen xs q : Nat) : Int)).toNat q := by
    unfold repV
    exact Int.toNat_natCast _
  obtain ⟨m1, _, m3, _⟩ := rlen_spec h hq
  have L0 : (0 : Int) < ((rlen xs q : Nat) : Int) := by omega
  have a0 := Int.fmod_nonneg_of_pos k L0
  rw [e, repV_shift h hq]
  unfold repV
  congr 3
  rw [Int.toNat_of_nonneg a0, Int.fmod_eq_emod_of_nonneg _ (Int.le_of_lt L0), Int.fmod_eq_emod_of_nonneg _ (Int.le_of_lt L0), Int.fmod_eq_emod_of_nonneg _ (Int.le_of_lt L0), Int.add_emod_emod]
theorem isRow_rep {xs : List Int} (h : IsRow xs) (m : Int) : IsRow (repI xs m) := by
  have hl := repI_len xs m
  have get : ∀ (i : Nat) (hi : i < (repI xs m).length), (repI xs m)[i] = repV xs m i := fun i hi => by
    have := repI_get (xs := xs) (m := m) (q := i) (by omega)
    rw [List.getElem?_eq_getElem hi] at this
    exact Option.some.inj this
  refine isRow_mk ?_ fun y hy => ?_
  · rw [List.nodup_iff_pairwise_ne, List.pairwise_iff_getElem]
    intro i j hi hj hij e
    rw [get i hi, get j hj] at e
    have a := repV_comp h (q := i) (by omega) (-m) m
    have b := repV_comp h (q := j) (by omega) (-m) m
    rw [show -m + m = 0 by omega, repV_zero] at a b
    rw [e, b] at a
    omega
  · obtain ⟨i, hi, rfl⟩ := List.getElem_of_mem hy
    rw [get i hi]
    have := repV_lt h (q := i) (by omega) m
    omega
theorem repI_add {xs : List Int} (h : IsRow xs) (m k : Int) : pickI (repI xs m) (repI xs k) = repI xs (m + k) := by
  refine repI_of (by rw [pick_len, repI_len]) fun q hq => ?_
  have hl := repI_len xs k
  have hq2 : q < (repI xs k).length := by omega
  have e : (repI xs k)[q] = repV xs k q := by
    have := repI_get (m := k) hq
    rw [List.getElem?_eq_getElem hq2] at this
    exact Option.some.inj this
  rw [List.getElem?_eq_getElem (by rw [pick_len]; exact hq2), pick_get hq2, e, repI_getD (repV_lt h hq k).2, repV_comp h hq]
theorem nxP_rep {xs : List Int} {m : Int} {q : Nat} (hq : q < xs.length) : nxP (repI xs m) q = (repV xs m q).toNat := by
  unfold nxP
  rw [repI_getD hq]
theorem itP_rep {xs : List Int} (h : IsRow xs) (m : Int) {q : Nat} (hq : q < xs.length) : ∀ j : Nat, itP (repI xs m) j q = (repV xs (m * (j : Int)) q).toNat
  | 0 => by
    rw [show m * ((0 : Nat) : Int) = 0 by simp, repV_zero]
    exact (Int.toNat_natCast q).symm
  | j + 1 => by
    show nxP (repI xs m) (itP (repI xs m) j q) = _
    have b := repV_lt h hq (m * (j : Int))
    rw [itP_rep h m hq j, nxP_rep b.2, repV_comp h hq]
    congr 2
    rw [Int.natCast_add, Int.mul_add]
    simp
    omega
theorem repV_per {xs : List Int} (h : IsRow xs) {q : Nat} (hq : q < xs.length) {y : Int} (hy : repV xs y q = (q : Int)) : ∀ c : Nat, repV xs (y * (c : Int)) q = (q : Int)
  | 0 => by
    rw [show y * ((0 : Nat) : Int) = 0 by simp, repV_zero]
  | c + 1 => by
    have ih := repV_per h hq hy c
    have := repV_comp h hq (y * (c : Int)) y
    rw [hy, Int.toNat_natCast, ih] at this
    rw [this]
    congr 1
    rw [Int.natCast_add, Int.mul_add]
    simp
theorem repV_perZ {xs : List Int} (h : IsRow xs) {q : Nat} (hq : q < xs.length) {y : Int} (hy : repV xs y q = (q : Int)) (c : Int) : repV xs (y * c) q = (q : Int) := by
  rcases Int.le_total 0 c with l | l
  · have := repV_per h hq hy c.toNat
    rw [Int.toNat_of_nonneg l] at this
    exact this
  · have a := repV_per h hq hy (-c).toNat
    rw [Int.toNat_of_nonneg (by omega)] at a
    have b := repV_comp h hq (y * c) (y * (-c))
    rw [a, Int.toNat_natCast] at b
    rw [b, ← Int.mul_add, show c + -c = 0 by omega, Int.mul_zero, repV_zero]
theorem repI_mul {xs : List Int} (h : IsRow xs) (m k : Int) : repI (repI xs m) k = repI xs (m * k) := by
  refine repI_of (by rw [repI_len, repI_len]) fun q hq => ?_
  have hy := isRow_rep h m
  have hq2 : q < (repI xs m).length := by rw [repI_len]; exact hq
  rw [repI_get hq2]
  congr 1
  obtain ⟨m1, _, m3, _⟩ := rlen_spec hy hq2
  generalize hL : rlen (repI xs m) q = L at m1 m3
  have L0 : (0 : Int) < ((L : Nat) : Int) := by omega
  have a0 := Int.fmod_nonneg_of_pos k L0
  have per : repV xs (m * (L : Int)) q = (q : Int) := by
    have := itP_rep h m hq L
    rw [m3] at this
    have b := repV_lt h hq (m * (L : Int))
    omega
  have e1 : repV (repI xs m) k q = repV xs (m * Int.fmod k (L : Int)) q := by
    have b := repV_lt h hq (m * Int.fmod k (L : Int))
    show ((itP (repI xs m) (Int.fmod k ((rlen (repI xs m) q : Nat) : Int)).toNat q : Nat) : Int) = _
    rw [hL, itP_rep h m hq, Int.toNat_of_nonneg a0]
    omega
  rw [e1]
  have e2 := repV_perZ h hq per (Int.fdiv k (L : Int))
  have e3 := repV_comp h hq (m * Int.fmod k (L : Int)) (m * (L : Int) * Int.fdiv k (L : Int))
  rw [e2, Int.toNat_natCast] at e3
  rw [e3]
  congr 1
  have := Int.fmod_add_mul_fdiv k (L : Int)
  rw [Int.mul_assoc, ← Int.mul_add, this]
theorem repI_neg {xs bs : List Int} (h : IsRow xs) (hb : InvOf xs bs) (m : Int) : repI bs m = repI xs (-m) := by
  have e : bs = repI xs (-1) := by
    have := repI_back h hb 0
    rw [repI_zero, ri_pick] at this
    · rw [this]
      rfl
    · intro x hx
      have := hb.bound h x hx
      omega
  rw [e, repI_mul h]
  congr 1
  omega
theorem InvOf.joined {xs ys bx «by» : List Int} (hx : IsRow xs) (hy : IsRow ys) (hl : ys.length = xs.length) (ix : InvOf xs bx) (iy : InvOf ys «by») : InvOf (pickI xs ys) (pickI «by» bx) := by
  refine ⟨by rw [pick_len, pick_len, ix.1, hl], fun j hj => ?_⟩
  rw [pick_len] at hj
  have h1 := hy.at hj
  have h2 : ys[j].toNat < xs.length := by omega
  have h3 := hx.at h2
  rw [pick_get hj, getD_get h2]
  have e1 := ix.2 _ h2
  have h4 : xs[ys[j].toNat].toNat < bx.length := by rw [ix.1]; exact h3.2
  rw [List.getElem?_eq_getElem h4] at e1
  have e2 := Option.some.inj e1
  rw [List.getElem?_eq_getElem (by rw [pick_len]; exact h4), pick_get h4, e2, Int.toNat_natCast, List.getD_eq_getElem?_getD, iy.2 j hj]
  rfl
/-! ### rings told in another way -/
theorem nodup_ringP {xs : List Int} (h : IsRow xs) {p : Nat} (hp : p < xs.length) : (ringP xs p).Nodup := by
  obtain ⟨m1, m2, m3, m4⟩ := rlen_spec h hp
  unfold ringP
  rw [List.nodup_iff_pairwise_ne, List.pairwise_iff_getElem]
  intro i j hi hj hij e
  rw [List.getElem_map, List.getElem_map, List.getElem_range, List.getElem_range] at e
  rw [List.length_map, List.length_range] at hj
  exact m4 (j - i) (by omega) (by omega) (itP_back h hp (Nat.le_of_lt hij) (by omega))
/-- rotated: the ring from another of its places on -/
theorem ringP_rot {xs : List Int} (h : IsRow xs) {p : Nat} (hp : p < xs.length) {t : Nat} (ht : t < rlen xs p) : (ringP xs p).drop t ++ (ringP xs p).take t = ringP xs (itP xs t p) := by
  obtain ⟨m1, m2, m3, m4⟩ := rlen_spec h hp
  have hr : rlen xs (itP xs t p) = rlen xs p := rlen_meets h hp ⟨t, rfl⟩
  have hl : ((ringP xs p).drop t ++ (ringP xs p).take t).length = rlen xs p := by
    rw [List.length_append, List.length_drop, List.length_take, ringP_len]
    omega
  refine List.ext_getElem (by rw [hl, ringP_len, hr]) fun i h1 h2 => ?_
  rw [hl] at h1
  have g : ∀ {p : Nat} {k : Nat} (hk : k < (ringP xs p).length), (ringP xs p)[k] = ((itP xs k p : Nat) : Int) := fun {p k} hk => by
    simp [ringP]
  rw [g, ← itP_add]
  by_cases hi : i < rlen xs p - t
  · rw [List.getElem_append_left (by rw [List.length_drop, ringP_len]; exact hi), List.getElem_drop, g]
    congr 2
    omega
  · rw [List.getElem_append_right (by rw [List.length_drop, ringP_len]; omega), List.getElem_take, g]
    have e : i + t = (i - ((ringP xs p).drop t).length) + rlen xs p := by
      rw [List.length_drop, ringP_len]
      omega
    rw [e, itP_add, m3]
/-- each ring has one that leads -/
theorem lead_of {xs : List Int} (h : IsRow xs) {p : Nat} (hp : p < xs.length) : ∃ t, t < rlen xs p ∧ Leads xs (itP xs t p) ∧ ∀ v ∈ ringP xs p, ((itP xs t p : Nat) : Int) ≤ v := by
  obtain ⟨l, hl, m⟩ := has_lead h p p (Nat.le_refl _) hp
  have hl' := leads_mem.mp hl
  obtain ⟨j, e⟩ := m.symm h hl'.1
  obtain ⟨m1, m2, m3, m4⟩ := rlen_spec h hp
  refine ⟨j % rlen xs p, Nat.mod_lt _ m1, ?_, fun v hv => ?_⟩
  · rw [← itP_mod m3, e]
    exact hl'.2
  · rw [← itP_mod m3, e]
    obtain ⟨q, rfl, m2⟩ := (ringP_mem h hp).mp hv
    obtain ⟨j2, rfl⟩ := m.trans m2
    have := hl'.2 j2
    omega
theorem leads_uniq {xs : List Int} (h : IsRow xs) {p q : Nat} (hp : p < xs.length) (hq : q < xs.length) (lp : Leads xs p) (lq : Leads xs q) (m : Meets xs p q) : p = q := by
  obtain ⟨j, e⟩ := m
  obtain ⟨k, f⟩ := Meets.symm h hp ⟨j, e⟩
  have a := lp j
  have b := lq k
  omega
theorem leads_sorted (xs : List Int) (i : Nat) : (leads xs i).Pairwise (· < ·) := by
  unfold leads
  exact List.Pairwise.filter _ List.pairwise_lt_range
theorem sorted_eq : ∀ {xs ys : List Int}, xs.Pairwise (· ≤ ·) → ys.Pairwise (· < ·) → xs.Perm ys → xs = ys
  | [], ys, _, _, p => by
    rw [List.nil_perm.mp p]
  | x :: r, [], _, _, p => by
    have := p.length_eq
    cases this
  | x :: r, y :: u, h1, h2, p => by
    have a := List.pairwise_cons.mp h1
    have b := List.pairwise_cons.mp h2
    have e : x = y := by
      have hx : x ∈ y :: u := p.mem_iff.mp (List.mem_cons_self ..)
      have hy : y ∈ x :: r := p.mem_iff.mpr (List.mem_cons_self ..)
      rcases List.mem_cons.mp hx with h | h
      · exact h
      · rcases List.mem_cons.mp hy with h' | h'
        · exact h'.symm
        · have := a.1 y h'
          have := b.1 x h
          omega
    subst e
    rw [sorted_eq a.2 b.2 (List.Perm.cons_inv p)]
/-- the rings of what is taken back: the same places turned round -/
theorem itP_inv {xs bs : List Int} (h : IsRow xs) (hb : InvOf xs bs) {p : Nat} (hp : p < xs.length) : ∀ j, j ≤ rlen xs p → itP bs j p = itP xs (rlen xs p - j) p
  | 0, _ => by
    obtain ⟨m1, m2, m3, m4⟩ := rlen_spec h hp
    exact m3.symm
  | j + 1, hj => by
    show nxP bs (itP bs j p) = _
    rw [itP_inv h hb hp j (by omega)]
    have e : itP xs (rlen xs p - j) p = nxP xs (itP xs (rlen xs p - (j + 1)) p) := by
      rw [show rlen xs p - j = (rlen xs p - (j + 1)) + 1 by omega]
      rfl
    have hq := itP_lt h hp (rlen xs p - (j + 1))
    rw [e, nxP_get hq]
    unfold nxP
    rw [List.getD_eq_getElem?_getD, hb.2 _ hq]
    exact Int.toNat_natCast _
theorem rlen_inv {xs bs : List Int} (h : IsRow xs) (hb : InvOf xs bs) {p : Nat} (hp : p < xs.length) : rlen bs p = rlen xs p := by
  have hrb := hb.row h
  have hpb : p < bs.length := by rw [hb.1]; exact hp
  obtain ⟨m1, m2, m3, m4⟩ := rlen_spec h hp
  obtain ⟨n1, n2, n3, n4⟩ := rlen_spec hrb hpb
  have e1 := itP_inv h hb hp (rlen xs p) (Nat.le_refl _)
  rw [Nat.sub_self] at e1
  rcases Nat.lt_trichotomy (rlen bs p) (rlen xs p) with l | l | l
  · have e2 := itP_inv h hb hp (rlen bs p) (by omega)
    rw [n3] at e2
    exact absurd e2.symm (m4 _ (by omega) (by omega))
  · exact l
  · exact absurd e1 (n4 _ m1 l)
/-- the ring read from its end on is a ring of what is taken back -/
theorem ringP_rev {xs bs : List Int} (h : IsRow xs) (hb : InvOf xs bs) {p : Nat} (hp : p < xs.length) : (ringP xs p).reverse = ringP bs (itP bs 1 p) := by
  have hrb := hb.row h
  have hpb : p < bs.length := by rw [hb.1]; exact hp
  obtain ⟨m1, m2, m3, m4⟩ := rlen_spec h hp
  have hr : rlen bs (itP bs 1 p) = rlen xs p := by rw [rlen_meets hrb hpb ⟨1, rfl⟩, rlen_inv h hb hp]
  refine List.ext_getElem (by rw [List.length_reverse, ringP_len, ringP_len, hr]) fun i h1 h2 => ?_
  rw [List.length_reverse, ringP_len] at h1
  rw [List.getElem_reverse]
  have g : ∀ {zs : List Int} {p : Nat} {k : Nat} (hk : k < (ringP zs p).length), (ringP zs p)[k] = ((itP zs k p : Nat) : Int) := fun {zs p k} hk => by
    simp [ringP]
  rw [g, g, ← itP_add, itP_inv h hb hp (i + 1) (by omega), ringP_len]
  congr 2
  omega
/-- rows that list each ring of a row once, from any of its places on -/
def Lists (ys : List Int) (ss : List Nat) : Prop := (∀ s ∈ ss, s < ys.length) ∧ ss.Pairwise (fun s t => ¬ Meets ys s t) ∧ ∀ q, q < ys.length → ∃ s ∈ ss, Meets ys s q
theorem lists_leads {ys : List Int} (h : IsRow ys) : Lists ys (leads ys ys.length) := by
  refine ⟨fun s hs => (leads_mem.mp hs).1, ?_, fun q hq => has_lead h q q (Nat.le_refl _) hq⟩
  refine List.Pairwise.imp_of_mem (fun {a b} ha hb hlt m => ?_) (leads_sorted ys ys.length)
  have ha := leads_mem.mp ha
  have hb := leads_mem.mp hb
  have := leads_uniq h ha.1 hb.1 ha.2 hb.2 m
  omega
theorem lists_inv {xs bs : List Int} (h : IsRow xs) (hb : InvOf xs bs) : Lists bs ((leads xs xs.length).map (itP bs 1)) := by
  have hrb := hb.row h
  have mt : ∀ {p q : Nat}, p < xs.length → Meets bs p q → Meets xs p q := fun {p q} hp ⟨j, e⟩ => by
    obtain ⟨m1, m2, m3, m4⟩ := rlen_spec h hp
    have hpb : p < bs.length := by rw [hb.1]; exact hp
    obtain ⟨n1, n2, n3, n4⟩ := rlen_spec hrb hpb
    rw [itP_mod n3] at e
    have := Nat.mod_lt j n1
    rw [itP_inv h hb hp _ (by rw [← rlen_inv h hb hp]; omega)] at e
    exact ⟨_, e⟩
  have mt2 : ∀ {p q : Nat}, p < xs.length → Meets xs p q → Meets bs p q := fun {p q} hp ⟨j, e⟩ => by
    obtain ⟨m1, m2, m3, m4⟩ := rlen_spec h hp
    rw [itP_mod m3] at e
    have := Nat.mod_lt j m1
    refine ⟨rlen xs p - j % rlen xs p, ?_⟩
    rw [itP_inv h hb hp _ (by omega), show rlen xs p - (rlen xs p - j % rlen xs p) = j % rlen xs p by omega, e]
  obtain ⟨a1, a2, a3⟩ := lists_leads h
  refine ⟨fun s hs => ?_, ?_, fun q hq => ?_⟩
  · obtain ⟨l, hl, rfl⟩ := List.mem_map.mp hs
    exact itP_lt hrb (by rw [hb.1]; exact a1 l hl) 1
  · rw [List.pairwise_map]
    refine a2.imp_of_mem fun {s t} hs ht n m => n ?_
    have hs := a1 s hs
    have ht := a1 t ht
    have hsb : s < bs.length := by rw [hb.1]; exact hs
    have htb : t < bs.length := by rw [hb.1]; exact ht
    exact mt hs ((show Meets bs s (itP bs 1 s) from ⟨1, rfl⟩).trans (m.trans (Meets.symm hrb htb ⟨1, rfl⟩)))
  · rw [hb.1] at hq
    obtain ⟨s, hs, m⟩ := a3 q hq
    have hs' := a1 s hs
    refine ⟨_, List.mem_map.mpr ⟨s, hs, rfl⟩, ?_⟩
    exact (Meets.symm hrb (by rw [hb.1]; exact hs') ⟨1, rfl⟩).trans (mt2 hs' m)
/-- carried over by another row -/
theorem itP_carry {as bs ib cs : List Int} (ha : IsRow as) (hb : IsRow bs) (hl : bs.length = as.length) (hi : InvOf bs ib) (hc : cs = pickI (pickI ib as) bs) {p : Nat} (hp : p < as.length) : ∀ j, itP cs j (nxP ib p) = nxP ib (itP as j p)
  | 0 => rfl
  | j + 1 => by
    show nxP cs (itP cs j (nxP ib p)) = nxP ib (nxP as (itP as j p))
    rw [itP_carry ha hb hl hi hc hp j]
    have hq := itP_lt ha hp j
    generalize itP as j p = q at hq
    have hib := hi.row hb
    have hq2 : q < ib.length := by rw [hi.1, hl]; exact hq
    have h1 := nxP_lt hib hq2
    obtain ⟨u, hu, e1, e2⟩ := hi.mem hb (v := q) (by omega)
    rw [List.getElem?_eq_getElem hq2] at e2
    have e3 : nxP ib q = u := by
      rw [nxP_get hq2, Option.some.inj e2, Int.toNat_natCast]
    rw [e3]
    subst hc
    have hlib : ib.length = as.length := by rw [hi.1, hl]
    have huc : u < (pickI (pickI ib as) bs).length := by rw [pick_len]; exact hu
    rw [nxP_get huc, pick_get hu, e1, Int.toNat_natCast, getD_get (by rw [pick_len]; exact hq), pick_get hq]
    unfold nxP
    rw [getD_get hq]
theorem lists_carry {as bs ib cs : List Int} (ha : IsRow as) (hb : IsRow bs) (hl : bs.length = as.length) (hi : InvOf bs ib) (hc : cs = pickI (pickI ib as) bs) : IsRow cs ∧ cs.length = as.length ∧ Lists cs ((leads as as.length).map (nxP ib)) ∧ ∀ p, p < as.length → (ringP as p).map (fun v => ib.getD v.toNat 0) = ringP cs (nxP ib p) := by
  have hib := hi.row hb
  have hlib : ib.length = as.length := by rw [hi.1, hl]
  have hcs : IsRow cs := by
    rw [hc]
    exact isRow_pick (isRow_pick hib ha hlib.symm) hb (by rw [pick_len]; exact hl)
  have hlc : cs.length = as.length := by rw [hc, pick_len, hl]
  have car := fun {p : Nat} (hp : p < as.length) j => itP_carry ha hb hl hi hc hp j
  have inj : ∀ {p q : Nat}, p < as.length → q < as.length → nxP ib p = nxP ib q → p = q := fun hp hq e => nxP_inj hib (by omega) (by omega) e
  obtain ⟨a1, a2, a3⟩ := lists_leads ha
  refine ⟨hcs, hlc, ⟨fun s hs => ?_, ?_, fun q hq => ?_⟩, fun p hp => ?_⟩
  · obtain ⟨l, hl', rfl⟩ := List.mem_map.mp hs
    have := nxP_lt hib (p := l) (by rw [hlib]; exact a1 l hl')
    omega
  · rw [List.pairwise_map]
    refine a2.imp_of_mem fun {s t} hs ht n m => n ?_
    have hs := a1 s hs
    have ht := a1 t ht
    obtain ⟨j, e⟩ := m
    rw [car hs] at e
    exact ⟨j, inj (itP_lt ha hs j) ht e⟩
  · obtain ⟨u, hu, e1, e2⟩ := hi.mem hb (v := (bs[q]'(by omega)).toNat) (hb.at (by omega)).2
    have h1 := hb.at (i := q) (by omega)
    have hp : bs[q].toNat < as.length := by omega
    obtain ⟨s, hs, j, e⟩ := a3 _ hp
    refine ⟨_, List.mem_map.mpr ⟨s, hs, rfl⟩, j, ?_⟩
    rw [car (a1 s hs), e]
    have := hi.2 q (by omega)
    unfold nxP
    rw [List.getD_eq_getElem?_getD, this]
    exact Int.toNat_natCast q
  · have hr : rlen cs (nxP ib p) = rlen as p := by
      have hpc : nxP ib p < cs.length := by
        have := nxP_lt hib (p := p) (by omega)
        omega
      obtain ⟨m1, m2, m3, m4⟩ := rlen_spec ha hp
      obtain ⟨n1, n2, n3, n4⟩ := rlen_spec hcs hpc
      rcases Nat.lt_trichotomy (rlen cs (nxP ib p)) (rlen as p) with l | l | l
      · rw [car hp] at n3
        exact absurd (inj (itP_lt ha hp _) hp n3) (m4 _ n1 l)
      · exact l
      · refine absurd ?_ (n4 _ m1 l)
        rw [car hp, m3]
    unfold ringP
    rw [List.map_map, hr]
    refine List.map_congr_left fun j _ => ?_
    show ib.getD ((itP as j p : Nat) : Int).toNat 0 = _
    rw [Int.toNat_natCast, car hp]
    have := itP_lt ha hp j
    have hlt : itP as j p < ib.length := by omega
    unfold nxP
    rw [getD_get hlt]
    have := (hib.at hlt).1
    omega


theorem cut_drop (ns : List Int) {k : Nat} (h : k ≤ ns.length) : cutV (ns.map V.int) (some (k : Int)) none = (ns.drop k).map V.int := by
  unfold cutV
  have e : HT.sIx (ns.map V.int).length 0 (some (k : Int)) = k := by
    rw [HT.sIx_nat, List.length_map]
    omega
  rw [e, HT.sIx_none, List.length_map, ← List.map_drop, List.take_of_length_le (by rw [List.length_map, List.length_drop]; exact Nat.le_refl _)]
theorem cut_take2 (ns : List Int) (k : Nat) : cutV (ns.map V.int) none (some (k : Int)) = (ns.take k).map V.int := by
  unfold cutV
  rw [show HT.sIx (ns.map V.int).length (ns.map V.int).length (some (k : Int)) = min k (ns.map V.int).length from HT.sIx_nat _ _ k, HT.sIx_none, List.drop_zero, Nat.sub_zero, List.map_take, List.take_eq_take_iff]
  omega
section
variable {P : Program} {w : World} {K : PySem.W.Frag} {mg : Str → Option Value} {base : Heap} {a : Ad}
def spLeastFirst (K : PySem.W.Frag) : Sp := fun vs H Q _ => ∃ (p : Addr) (xs : List Int) (s : Nat), vs = [.ref p] ∧ SqL K H p ((ringP xs s).map V.int) ∧ IsRow xs ∧ s < xs.length ∧ xs.length ≤ 1000 ∧
  ∀ o l H', H o = none → l < xs.length → Leads xs l → Meets xs s l → H' o = some (.tup ((ringP xs l).map V.int)) → Same H H' → Q (.ref o) H'
theorem ok__law_least_first (T : Tx w K mg a) : FnOk P w K mg base CX0 1 a.f__law_least_first a.d__law_least_first ["ring"] (spLeastFirst K) := by
  refine T.F__law_least_first.ok sc__law_least_first (fun vs H Q E h => ?_) (fun cdv A outer s H vs Q E hr h => ?_)
  · obtain ⟨p, xs, s, rfl, _⟩ := h
    rfl
  · obtain ⟨p, xs, s, rfl, hX, hR, hs, hl, q⟩ := h
    refine ⟨_, 
(pss_cons (ps_set (i := 1) sc__law_least_first.nd rfl (.inl rfl) (pe_bm PySem.F.plainAttrs_list PySem.F.slot_list_index PySem.F.type_list_index mt_index (pv 0) (pa_cons (pe_callB (cr_min rfl) (by rfl) T.z_min (by decide +kernel) (pa_cons (pe_lc (own := [("place", 2)]) (g := gName 2) rfl sc__law_least_first.nd (pi_list (pv 0)) (blkOk_by (own := [("place", 2)]) (N := ["ring", "at", "place"]) (sc := defScope s__law_least_first) (by decide +kernel)) (fun _ _ _ _ _ => pg_name (i := 2) sc__law_least_first.nd rfl (Or.inl rfl)) (fun _ _ _ _ _ => pts_nil) (fun _ _ _ _ _ => (pe_callTy call_int1 (by rfl) T.z_int (by decide +kernel) (pa_cons (pv 2) pa_nil)))) pa_nil)) pa_nil)))
  (pss_one (ps_ret (pe_callTy call_tuple_of (by rfl) T.z_tuple (by decide +kernel) (pa_cons (pe_op op_cat (pe_slice sl_list (pv 0) (po_some (pv 1)) po_none) (pe_slice sl_list (pv 0) po_none (po_some (pv 1)))) pa_nil))))), ?_⟩
    obtain ⟨m1, m2, m3, m4⟩ := rlen_spec hR hs
    obtain ⟨t, ht, lt, ls⟩ := lead_of hR hs
    have hrl := ringP_len xs s
    have hmem : ((itP xs t s : Nat) : Int) ∈ ringP xs s := (ringP_mem hR hs).mpr ⟨_, rfl, t, rfl⟩
    -- at = ring.index(min([int(place) for place in ring]))
    refine ⟨_, rfl, .inl ⟨rfl, _, hX⟩, _, rfl, p, rfl, ⟨_, hX⟩, fun D hD => ?_⟩
    refine lc_it (walk_list (xs := (ringP xs s).map V.int)) (fun j H' => Same H H' ∧ H' D = some (.lst (((ringP xs s).take j).map V.int))) ?h0 ?hG ?hs ?hd
    case h0 => exact ⟨same_upd hD, upd_same⟩
    case hG =>
      rintro j H' _ ⟨sm, _⟩
      exact sm.seq hX
    case hs =>
      rintro j x H5 H6 hj ⟨sm, e⟩ ⟨rfl, ex⟩
      rw [List.length_map] at hj
      rw [List.getElem?_map, List.getElem?_eq_getElem hj] at ex
      cases ex
      refine ⟨rfl, _, rfl, .inl ⟨_, rfl, _, e, ?_, keep_upd sm hD, ?_⟩⟩
      · rw [List.length_map, List.length_take]
        exact szlt (by omega)
      · rw [upd_same, List.take_add_one, List.getElem?_eq_getElem hj, List.map_append]
        rfl
    case hd =>
      rintro H1 ⟨s1, e1⟩
      rw [List.length_map, List.take_length] at e1
      refine ⟨D, _, rfl, SqL.at e1, by omega, fun m hm hle => ?_⟩
      have em : m = ((itP xs t s : Nat) : Int) := by
        have a := hle _ hmem
        have b := ls m hm
        omega
      subst em
      have hX1 := s1.seq hX
      have htl : t < (ringP xs s).length := by omega
      have g : ∀ {k : Nat} (hk : k < (ringP xs s).length), (ringP xs s)[k] = ((itP xs k s : Nat) : Int) := fun {k} hk => by
        simp [ringP]
      refine ⟨p, _, _, t, .int ((itP xs t s : Nat) : Int), rfl, rfl, hX1, rfl, flat_ints _, ?_, ?_, fun k z' hk hz => ?_, ?_⟩
      · rw [List.getElem?_map, List.getElem?_eq_getElem htl, g htl]
        rfl
      · exact decide_eq_true rfl
      · rw [List.getElem?_map, List.getElem?_eq_getElem (by omega), g (by omega)] at hz
        cases hz
        refine decide_eq_false fun e => ?_
        have e2 : ((itP xs k s : Nat) : Int) = ((itP xs t s : Nat) : Int) := e
        exact m4 (t - k) (by omega) (by omega) (itP_back hR hs (by omega) (by omega))
      -- return tuple(ring[at:] + ring[:at])
      refine ⟨_, rfl, _, rfl, (t : Int), rfl, p, _, rfl, hX1, fun c nc => ?_⟩
      rw [cut_drop _ (by omega)]
      have s2 := same_upd (o := .lst (((ringP xs s).drop t).map V.int)) nc
      have ec : (upd H1 c (.lst (((ringP xs s).drop t).map V.int))) c = some (.lst (((ringP xs s).drop t).map V.int)) := upd_same
      generalize upd H1 c (.lst (((ringP xs s).drop t).map V.int)) = H2 at s2 ec ⊢
      refine ⟨_, rfl, _, rfl, (t : Int), rfl, p, _, rfl, s2.seq hX1, fun c2 nc2 => ?_⟩
      rw [cut_take2]
      have s3 := same_upd (o := .lst (((ringP xs s).take t).map V.int)) nc2
      have ec2 : (upd H2 c2 (.lst (((ringP xs s).take t).map V.int))) c2 = some (.lst (((ringP xs s).take t).map V.int)) := upd_same
      generalize upd H2 c2 (.lst (((ringP xs s).take t).map V.int)) = H3 at s3 ec2 ⊢
      refine ⟨c, c2, _, _, rfl, rfl, s3 _ _ ec, ec2, sz (by simp; omega), fun c3 nc3 => ?_⟩
      rw [← List.map_append, ringP_rot hR hs ht]
      have s4 := same_upd (o := .lst ((ringP xs (itP xs t s)).map V.int)) nc3
      have ec3 : (upd H3 c3 (.lst ((ringP xs (itP xs t s)).map V.int))) c3 = some (.lst ((ringP xs (itP xs t s)).map V.int)) := upd_same
      generalize upd H3 c3 (.lst ((ringP xs (itP xs t s)).map V.int)) = H4 at s4 ec3 ⊢
      have s14 := s1.trans (s2.trans (s3.trans s4))
      exact ⟨c3, _, rfl, .inl ⟨SqL.at ec3, fun l nl => q l _ _ (s14.free nl) (itP_lt hR hs t) lt ⟨t, rfl⟩ upd_same (s14.trans (same_upd nl))⟩⟩
end
theorem lists_lead {ys : List Int} (h : IsRow ys) {ss ls : List Nat} (hs : Lists ys ss) (hl : ls.length = ss.length) (hm : ∀ (i s l : Nat), ss[i]? = some s → ls[i]? = some l → l < ys.length ∧ Leads ys l ∧ Meets ys s l) : ls.Perm (leads ys ys.length) := by
  obtain ⟨a1, a2, a3⟩ := hs
  refine (List.perm_ext_iff_of_nodup ?_ ?_).mpr fun l => ?_
  · rw [List.nodup_iff_pairwise_ne, List.pairwise_iff_getElem]
    intro i j hi hj hij e
    obtain ⟨b1, b2, b3⟩ := hm i (ss[i]'(by omega)) ls[i] (List.getElem?_eq_getElem (by omega)) (List.getElem?_eq_getElem hi)
    obtain ⟨c1, c2, c3⟩ := hm j (ss[j]'(by omega)) ls[j] (List.getElem?_eq_getElem (by omega)) (List.getElem?_eq_getElem hj)
    have n := List.pairwise_iff_getElem.mp a2 i j (by omega) (by omega) hij
    rw [← e] at c3
    exact n (b3.trans (Meets.symm h (a1 _ (List.getElem_mem ..)) c3))
  · exact (leads_sorted ys ys.length).imp fun h e => by omega
  · constructor
    · intro hm'
      obtain ⟨i, hi, rfl⟩ := List.getElem_of_mem hm'
      obtain ⟨b1, b2, b3⟩ := hm i (ss[i]'(by omega)) ls[i] (List.getElem?_eq_getElem (by omega)) (List.getElem?_eq_getElem hi)
      exact leads_mem.mpr ⟨b1, b2⟩
    · intro hm'
      obtain ⟨b1, b2⟩ := leads_mem.mp hm'
      obtain ⟨s, hs, m⟩ := a3 l b1
      obtain ⟨i, hi, rfl⟩ := List.getElem_of_mem hs
      obtain ⟨c1, c2, c3⟩ := hm i ss[i] (ls[i]'(by omega)) (List.getElem?_eq_getElem hi) (List.getElem?_eq_getElem (by omega))
      have := leads_uniq h b1 c1 b2 c2 ((Meets.symm h (a1 _ (List.getElem_mem ..)) m).trans c3)
      rw [this]
      exact List.getElem_mem ..
/-- lists of rings, at their addresses -/
def HeldRL (H : Hp) (xs : List Int) : List Addr → List Nat → Prop
  | [], [] => True
  | t :: ts, p :: ps => H t = some (.lst ((ringP xs p).map V.int)) ∧ HeldRL H xs ts ps
  | _, _ => False
theorem HeldRL.len {H : Hp} {xs : List Int} : ∀ {ts : List Addr} {ps : List Nat}, HeldRL H xs ts ps → ts.length = ps.length
  | [], [], _ => rfl
  | _ :: _, _ :: _, h => congrArg (· + 1) h.2.len
theorem HeldRL.same {H H' : Hp} {xs : List Int} (e : Same H H') : ∀ {ts : List Addr} {ps : List Nat}, HeldRL H xs ts ps → HeldRL H' xs ts ps
  | [], [], _ => trivial
  | _ :: _, _ :: _, h => ⟨e _ _ h.1, HeldRL.same e h.2⟩
theorem HeldRL.snoc {H : Hp} {xs : List Int} {t : Addr} {p : Nat} (e : H t = some (.lst ((ringP xs p).map V.int))) : ∀ {ts : List Addr} {ps : List Nat}, HeldRL H xs ts ps → HeldRL H xs (ts ++ [t]) (ps ++ [p])
  | [], [], _ => ⟨e, trivial⟩
  | _ :: _, _ :: _, h => ⟨h.1, HeldRL.snoc e h.2⟩
theorem HeldRL.get {H : Hp} {xs : List Int} : ∀ {ts : List Addr} {ps : List Nat}, HeldRL H xs ts ps → ∀ {i : Nat} {p : Nat}, ps[i]? = some p → ∃ t, ts[i]? = some t ∧ H t = some (.lst ((ringP xs p).map V.int))
  | [], [], _, i, m, h => by simp at h
  | r :: rs, n :: ms, hh, 0, m, h => by
    cases h
    exact ⟨r, rfl, hh.1⟩
  | r :: rs, n :: ms, hh, i + 1, m, h => by
    obtain ⟨x, hx, hy⟩ := HeldRL.get hh.2 (i := i) (p := m) (by simpa using h)
    exact ⟨x, by simpa using hx, hy⟩
theorem HeldRL.offR {H : Hp} {xs : List Int} {D : Addr} {rs : List Addr} {u : HO} (hR : IsRow xs) (hD : H D = some (.lst (rs.map V.ref))) : ∀ {ts : List Addr} {ps : List Nat}, (∀ p ∈ ps, p < xs.length) → HeldRL H xs ts ps → HeldRL (upd H D u) xs ts ps
  | [], [], _, _ => trivial
  | t :: _, p :: _, hp, h => by
    refine ⟨?_, HeldRL.offR hR hD (fun q hq => hp q (List.mem_cons_of_mem _ hq)) h.2⟩
    have ne : t ≠ D := by
      intro e
      have h1 := h.1
      rw [e, hD] at h1
      have h2 := HO.lst.inj (Option.some.inj h1)
      obtain ⟨m1, _⟩ := rlen_spec hR (hp p (List.mem_cons_self ..))
      have h3 : (rs.map V.ref)[0]? = ((ringP xs p).map V.int)[0]? := by rw [h2]
      have h4 : ((ringP xs p).map V.int)[0]? = some (.int ((itP xs 0 p : Nat) : Int)) := by
        unfold ringP
        rw [List.getElem?_map, List.getElem?_map, List.getElem?_range (by omega)]
        rfl
      rw [h4, List.getElem?_map] at h3
      cases hr : rs[0]? with
      | none => rw [hr] at h3; cases h3
      | some z => rw [hr] at h3; cases h3
    rw [upd_ne ne]
    exact h.1
theorem HeldR.append {H : Hp} {xs : List Int} : ∀ {ts us : List Addr} {ps qs : List Nat}, HeldR H xs ts ps → HeldR H xs us qs → HeldR H xs (ts ++ us) (ps ++ qs)
  | [], _, [], _, _, h => h
  | _ :: _, _, _ :: _, _, h, h' => ⟨h.1, HeldR.append h.2 h'⟩
theorem lists_size {ys : List Int} {ss : List Nat} (hs : Lists ys ss) : ss.length ≤ ys.length := by
  have := nodup_sub_len (xs := ss.map fun s : Nat => (s : Int)) (ys := ri ys.length) ?_ ?_
  · rw [List.length_map, ri_len] at this
    exact this
  · rw [List.nodup_iff_pairwise_ne, List.pairwise_map]
    exact hs.2.1.imp fun {a b} h e => h (by rw [show a = b by omega]; exact Meets.refl b)
  · intro x hx
    obtain ⟨s, hm, rfl⟩ := List.mem_map.mp hx
    have := hs.1 s hm
    exact ri_mem.mpr (by omega)
theorem filter_one {l : Nat} : ∀ {ls : List Nat}, ls.Nodup → l ∈ ls → ls.filter (fun z => decide (z = l)) = [l]
  | [], _, h => by cases h
  | x :: r, hn, h => by
    have hn' := List.nodup_cons.mp hn
    by_cases e : x = l
    · subst e
      rw [List.filter_cons, if_pos (decide_eq_true rfl)]
      congr 1
      rw [List.filter_eq_nil_iff]
      intro y hy z
      have := of_decide_eq_true z
      exact hn'.1 (this ▸ hy)
    · rw [List.filter_cons, if_neg (fun z => e (of_decide_eq_true z))]
      rcases List.mem_cons.mp h with q | q
      · exact absurd q.symm e
      · exact filter_one hn'.2 q
theorem ringP_head {xs : List Int} (h : IsRow xs) {p : Nat} (hp : p < xs.length) : ((ringP xs p).map V.int)[0]? = some (.int ((p : Nat) : Int)) := by
  obtain ⟨m1, _⟩ := rlen_spec h hp
  unfold ringP
  rw [List.getElem?_map, List.getElem?_map, List.getElem?_range (by omega)]
  rfl
section
variable {P : Program} {w : World} {K : PySem.W.Frag} {mg : Str → Option Value} {base : Heap} {a : Ad}
def spSortedRings (K : PySem.W.Frag) : Sp := fun vs H Q _ => ∃ (p : Addr) (ys : List Int) (ts : List Addr) (ss : List Nat), vs = [.ref p] ∧ SqL K H p (ts.map V.ref) ∧ HeldRL H ys ts ss ∧ Lists ys ss ∧ IsRow ys ∧ ys.length ≤ 1000 ∧
  ∀ o us H', H o = none → H' o = some (.lst (us.map V.ref)) → HeldR H' ys us (leads ys ys.length) → Same H H' → Q (.ref o) H'
theorem ok__law_sorted_rings (T : Tx w K mg a) : FnOk P w K mg base CX0 2 a.f__law_sorted_rings a.d__law_sorted_rings ["some"] (spSortedRings K) := by
  refine T.F__law_sorted_rings.ok sc__law_sorted_rings (fun vs H Q E h => ?_) (fun cdv A outer s H vs Q E hr h => ?_)
  · obtain ⟨p, ys, ts, ss, rfl, _⟩ := h
    rfl
  · obtain ⟨p, ys, ts, ss, rfl, hP, hH, hLs, hR, hl, q⟩ := h
    refine ⟨_, 
(pss_cons (ps_par (i := 1) (j := 2) (by rfl) sc__law_sorted_rings.nd rfl rfl (by decide) rfl rfl (pa_cons (pe_lc (own := [("ring", 4)]) (g := gName 4) rfl sc__law_sorted_rings.nd (pi_list (pv 0)) (blkOk_by (own := [("ring", 4)]) (N := ["some", "rows", "found", "place", "ring", "row"]) (sc := defScope s__law_sorted_rings) (by decide +kernel)) (fun _ _ _ _ _ => pg_name (i := 4) sc__law_sorted_rings.nd rfl (Or.inl rfl)) (fun _ _ _ _ _ => pts_nil) (fun _ _ _ _ _ => (pe_call (ok__law_least_first T) hr (by rfl) T.m__law_least_first T.F__law_least_first.kp T.b__law_least_first .nil pass0 (pa_cons (pe_callTy (call_list_ofK (K := K) rfl) (by rfl) T.z_list (by decide +kernel) (pa_cons (pv 4) pa_nil)) pa_nil)))) (pa_cons (pe_lst pa_nil) pa_nil)) (by rfl))
  (pss_cons (ps_for PassesOwn.never rfl (pi_list (pe_callB cr_sortedI (by rfl) T.z_sorted (by decide +kernel) (pa_cons (pe_lc (own := [("row", 5)]) (g := gName 5) rfl sc__law_sorted_rings.nd (pi_list (pv 1)) (blkOk_by (own := [("row", 5)]) (N := ["some", "rows", "found", "place", "ring", "row"]) (sc := defScope s__law_sorted_rings) (by decide +kernel)) (fun _ _ _ _ _ => pg_name (i := 5) sc__law_sorted_rings.nd rfl (Or.inl rfl)) (fun _ _ _ _ _ => pts_nil) (fun _ _ _ _ _ => (pe_callTy call_int1 (by rfl) T.z_int (by decide +kernel) (pa_cons (pe_ix (show IxR _ (rIxT K) from ix_tup) (pv 5) pe_int (fun _ _ => rfl)) pa_nil)))) pa_nil))) (pg_name (i := 3) sc__law_sorted_rings.nd rfl (.inr rfl))
  (pss_one (ps_set (i := 2) sc__law_sorted_rings.nd rfl (.inl rfl) (pe_op op_cat (pv 2) (pe_lc (own := [("row", 5)]) (g := gName 5) rfl sc__law_sorted_rings.nd (pi_list (pv 1)) (blkOk_by (own := [("row", 5)]) (N := ["some", "rows", "found", "place", "ring", "row"]) (sc := defScope s__law_sorted_rings) (by decide +kernel)) (fun _ _ _ _ _ => pg_name (i := 5) sc__law_sorted_rings.nd rfl (Or.inl rfl)) (fun _ _ _ _ _ => (pts_one (pt_cmpR op_eq (pe_ix (show IxR _ (rIxT K) from ix_tup) (pv 5) pe_int (fun _ _ => rfl)) (pv 3) (nomark _)))) (fun _ _ _ _ _ => (pv 5)))))))
  (pss_one (ps_ret (pv 2))))), ?_⟩
    -- rows = [_law_least_first(list(ring)) for ring in some]
    have hlen := hH.len
    have hsz := lists_size hLs
    refine ⟨_, rfl, p, rfl, ⟨_, hP⟩, fun D hD => ?_⟩
    refine lc_it (walk_list (xs := ts.map V.ref)) (fun j H' => Same H H' ∧ ∃ (rs : List Addr) (ls : List Nat), H' D = some (.lst (rs.map V.ref)) ∧ HeldR H' ys rs ls ∧ ls.length = j ∧ ∀ (i s l : Nat), ss[i]? = some s → ls[i]? = some l → l < ys.length ∧ Leads ys l ∧ Meets ys s l) ?h0 ?hG ?hs ?hd
    case h0 => exact ⟨same_upd hD, [], [], upd_same, trivial, rfl, fun i s l _ h => by simp at h⟩
    case hG =>
      rintro j H' _ ⟨sm, _⟩
      exact sm.seq hP
    case hs =>
      rintro j x H5 H6 hj ⟨sm, rs, ls, e, hrs, lj, hm⟩ ⟨rfl, ex⟩
      rw [List.length_map] at hj
      obtain ⟨t, et, ht⟩ := (hH.same sm).get (List.getElem?_eq_getElem (show j < ss.length by omega))
      rw [List.getElem?_map, et] at ex
      cases ex
      refine ⟨rfl, _, rfl, t, _, rfl, .inl (SqL.at ht), fun c nc => ?_⟩
      have s6 := same_upd (o := .lst ((ringP ys ss[j]).map V.int)) nc
      refine ⟨c, ys, ss[j], rfl, SqL.at upd_same, hR, hLs.1 _ (List.getElem_mem ..), hl, fun o l H7 no hll ld mt eo s7 => ?_⟩
      have s67 := s6.trans s7
      refine ⟨_, s67 _ _ e, szlt (by have := hrs.len; rw [List.length_map]; omega), ?_⟩
      have e7 := s67 _ _ e
      refine ⟨keep_upd (sm.trans s67) hD, rs ++ [o], ls ++ [l], by rw [upd_same, List.map_append]; rfl, HeldR.snoc ?_ ((hrs.same s67).offL e7), by rw [List.length_append]; show ls.length + 1 = _; omega, fun i s l' hi hl' => ?_⟩
      · rw [upd_ne (ne_of eo e7 (by intro z; cases z))]
        exact eo
      · by_cases hij : i < ls.length
        · rw [List.getElem?_append_left hij] at hl'
          exact hm i s l' hi hl'
        · have hi' : i = j := by
            have := (List.getElem?_eq_some_iff.mp hl').1
            rw [List.length_append] at this
            have : i < ls.length + 1 := this
            omega
          subst hi'
          rw [List.getElem?_append_right (by omega), show i - ls.length = 0 by omega] at hl'
          cases hl'
          rw [List.getElem?_eq_getElem (by omega)] at hi
          cases hi
          exact ⟨hll, ld, mt⟩
    case hd =>
      rintro H1 ⟨s1, rs, ls, e1, hrs, lj, hm⟩
      rw [List.length_map, hlen] at lj
      have pm := lists_lead hR hLs lj hm
      -- found = []
      refine ⟨Nat.zero_le _, fun f nf => ⟨_, _, rfl, ?_⟩⟩
      have s2 := same_upd (o := .lst []) nf
      have ef : (upd H1 f (.lst [])) f = some (.lst (([] : List Addr).map V.ref)) := upd_same
      generalize upd H1 f (.lst []) = H2 at s2 ef ⊢
      have eD2 := s2 _ _ e1
      have hrs2 := hrs.same s2
      -- sorted([int(row[0]) for row in rows])
      refine ⟨_, rfl, D, rfl, ⟨_, SqL.at eD2⟩, fun D2 hD2 => ?_⟩
      have hrl := hrs.len
      have hll : ∀ l ∈ ls, l < ys.length := fun l hl' => (leads_mem.mp (pm.mem_iff.mp hl')).1
      refine lc_it (walk_list (xs := rs.map V.ref)) (fun j H' => Same H2 H' ∧ H' D2 = some (.lst (((ls.map fun l : Nat => (l : Int)).take j).map V.int))) ?h1 ?hG1 ?hs1 ?hd1
      case h1 => exact ⟨same_upd hD2, upd_same⟩
      case hG1 =>
        rintro j H' _ ⟨sm, _⟩
        exact sm.seq (SqL.at eD2)
      case hs1 =>
        rintro j x H5 H6 hj ⟨sm, e⟩ ⟨rfl, ex⟩
        rw [List.length_map] at hj
        have hjl : j < ls.length := by omega
        obtain ⟨t, et, ht⟩ := (hrs2.same sm).get (List.getElem?_eq_getElem hjl)
        rw [List.getElem?_map, et] at ex
        cases ex
        refine ⟨rfl, _, rfl, t, _, 0, _, rfl, rfl, SqT.at ht, atI_nat (ringP_head hR (hll _ (List.getElem_mem ..))), .inl ⟨_, rfl, _, e, ?_, keep_upd sm hD2, ?_⟩⟩
        · rw [List.length_map, List.length_take]
          exact szlt (by rw [List.length_map]; omega)
        · rw [upd_same, List.take_add_one, List.getElem?_map, List.getElem?_eq_getElem hjl, List.map_append]
          rfl
      case hd1 =>
        rintro H3 ⟨s3, e3⟩
        rw [List.length_map, List.take_of_length_le (by rw [List.length_map]; omega)] at e3
        refine ⟨D2, _, rfl, SqL.at e3, fun ns' o pn sn no => ?_⟩
        have en : ns' = (leads ys ys.length).map fun l : Nat => (l : Int) := by
          refine sorted_eq sn ?_ (pn.trans (pm.map _))
          rw [List.pairwise_map]
          exact (leads_sorted ys ys.length).imp fun h => by omega
        subst en
        have s4 := same_upd (o := .lst (((leads ys ys.length).map fun l : Nat => (l : Int)).map V.int)) no
        have eo : (upd H3 o (.lst (((leads ys ys.length).map fun l : Nat => (l : Int)).map V.int))) o = some (.lst (((leads ys ys.length).map fun l : Nat => (l : Int)).map V.int)) := upd_same
        generalize upd H3 o (.lst (((leads ys ys.length).map fun l : Nat => (l : Int)).map V.int)) = H4 at s4 eo ⊢
        have s24 := s3.trans s4
        have hll2 : (leads ys ys.length).length ≤ ys.length := by
          have := pm.length_eq
          omega
        refine ⟨o, rfl, ⟨_, SqL.at eo⟩, ?_⟩
        refine for_it (walk_list (xs := ((leads ys ys.length).map fun l : Nat => (l : Int)).map V.int)) (fun j σ H' => ∃ (y3 y4 y5 : Option V) (f : Addr) (us : List Addr), σ = [some (.ref p), some (.ref D), some (.ref f), y3, y4, y5] ∧ H' f = some (.lst (us.map V.ref)) ∧ HeldR H' ys us ((leads ys ys.length).take j) ∧ Same H4 H' ∧ H f = none) ?h2 ?hG2 ?hs2 ?hd2
        case h2 => exact ⟨none, none, none, f, [], rfl, s24 _ _ ef, trivial, fun _ _ e => e, s1.free nf⟩
        case hG2 =>
          rintro j σ H' _ ⟨_, _, _, _, _, _, _, _, sm, _⟩
          exact SqL.at (sm _ _ eo)
        case hd2 =>
          rintro σ H' ⟨y3, y4, y5, f, us, rfl, e1', h1, sm, nf'⟩
          rw [List.length_map, List.length_map, List.take_length] at h1
          exact ⟨_, rfl, q f us H' nf' e1' h1 (s1.trans (s2.trans (s24.trans sm)))⟩
        case hs2 =>
          rintro j v σ H5 H6 hj ⟨y3, y4, y5, f, us, rfl, e1', h1, sm, nf'⟩ ⟨rfl, ex⟩
          rw [List.length_map, List.length_map] at hj
          rw [List.getElem?_map, List.getElem?_map, List.getElem?_eq_getElem hj] at ex
          cases ex
          have hlm : (leads ys ys.length)[j] ∈ ls := pm.mem_iff.mpr (List.getElem_mem hj)
          have htk : (leads ys ys.length).take (j + 1) = (leads ys ys.length).take j ++ [(leads ys ys.length)[j]] := by
            rw [List.take_add_one, List.getElem?_eq_getElem hj]
            rfl
          rw [htk]
          have hul := h1.len
          rw [List.length_take] at hul
          generalize (leads ys ys.length)[j] = l at hlm ⊢
          have s26 := s24.trans sm
          have eD6 := s26 _ _ eD2
          have hrs6 := hrs2.same s26
          -- found + [row for row in rows if row[0] == place]
          refine ⟨_, rfl, _, rfl, D, rfl, ⟨_, SqL.at eD6⟩, fun D3 hD3 => ?_⟩
          refine lc_it (walk_list (xs := rs.map V.ref)) (fun j H' => Same H6 H' ∧ ∃ acc : List Addr, H' D3 = some (.lst (acc.map V.ref)) ∧ HeldR H' ys acc ((ls.take j).filter fun z => decide (z = l))) ?h3 ?hG3 ?hs3 ?hd3
          case h3 => exact ⟨same_upd hD3, [], upd_same, trivial⟩
          case hG3 =>
            rintro j H' _ ⟨sm, _⟩
            exact sm.seq (SqL.at eD6)
          case hs3 =>
            rintro k x H7 H8 hk ⟨sm3, acc, e, hacc⟩ ⟨rfl, ex⟩
            rw [List.length_map] at hk
            have hkl : k < ls.length := by omega
            obtain ⟨t, et, ht⟩ := (hrs6.same sm3).get (List.getElem?_eq_getElem hkl)
            rw [List.getElem?_map, et] at ex
            cases ex
            have etk : ls.take (k + 1) = ls.take k ++ [ls[k]] := by
              rw [List.take_add_one, List.getElem?_eq_getElem hkl]
              rfl
            have hal := hacc.len
            have hfl := List.length_filter_le (fun z => decide (z = l)) (ls.take k)
            rw [List.length_take] at hfl
            refine ⟨rfl, _, rfl, t, _, 0, _, rfl, rfl, SqT.at ht, atI_nat (ringP_head hR (hll _ (List.getElem_mem ..))), ?_⟩
            refine ⟨_, rfl, rfl, _, rfl, ite2 (fun heq => ?_) (fun hne => ?_)⟩
            · have he : ls[k] = l := by
                have e0 : ((ls[k] : Nat) : Int) = ((l : Nat) : Int) := V.int.inj (of_decide_eq_true heq)
                omega
              refine ⟨_, rfl, _, e, szlt (by rw [List.length_map]; omega), keep_upd sm3 hD3, acc ++ [t], ?_, ?_⟩
              · rw [upd_same, List.map_append]
                rfl
              · rw [etk, List.filter_append, List.filter_cons, if_pos (decide_eq_true he)]
                refine HeldR.snoc ?_ (hacc.offL e)
                rw [upd_ne (ne_of ht e (by intro z; cases z))]
                exact ht
            · have he : ¬ ls[k] = l := fun z => hne (decide_eq_true (by rw [z]))
              refine ⟨sm3, acc, e, ?_⟩
              rw [etk, List.filter_append, List.filter_cons, if_neg (fun z => he (of_decide_eq_true z))]
              simpa using hacc
          case hd3 =>
            rintro H7 ⟨sm3, acc, e, hacc⟩
            have hnd : ls.Nodup := pm.nodup_iff.mpr ((leads_sorted ys ys.length).imp fun h e => by omega)
            rw [List.length_map, List.take_of_length_le (by omega), filter_one hnd hlm] at hacc
            have hal := hacc.len
            refine ⟨f, D3, _, _, rfl, rfl, sm3 _ _ e1', e, sz (by rw [List.length_map, List.length_map, hal]; show us.length + 1 ≤ 100000; omega), fun f2 nf2 => ?_⟩
            have s8 := same_upd (o := .lst (us.map V.ref ++ acc.map V.ref)) nf2
            refine ⟨_, _, _, f2, us ++ acc, rfl, by rw [upd_same, List.map_append], ((h1.same sm3).append hacc).same s8, sm.trans (sm3.trans s8), (s1.trans (s2.trans (s26.trans sm3))).free nf2⟩
end
/-- [tuple(ring) for ring in rings]: the same tuples -/
theorem lc_tupE {K : PySem.W.Frag} {σ : L2.St} {H : Hp} {D : Addr} {Qd : Hp → Prop} {r : Addr} {ys : List Int} {ts : List Addr} {ps : List Nat} {k : Nat} (hy : SqL K H r (ts.map V.ref)) (hh : HeldR H ys ts ps) (hl : ts.length ≤ 100000) (ho : H D = none) (hk : k < σ.length)
    (q : ∀ H', H' D = some (.lst (ts.map V.ref)) → Same H H' → Qd H') :
    ∃ W : Nat → Nat → Hp → Prop, (∃ m, W 0 m (upd H D (.lst []))) ∧ ∀ i m H', W i m H' →
      ((Itl K r).stop i H' ∧ Qd H') ∨ ((Itl K r).go i H' ∧ ∃ Nx : Hp → Prop, (∀ H', Nx H' → ∃ m', m' < m ∧ W (i + 1) m' H') ∧ ∀ x H'', (Itl K r).yld i H' x H'' → gName k x (wipe σ [k]) H'' fun σ2 H2 => wipe σ2 [k] = wipe σ [k] ∧ tYes σ2 H2 fun b H3 =>
        if b = true then tCB (rTupOf K) (tCons (tVar k) tNil) σ2 H3 fun y H4 => ∃ acc, H4 D = some (.lst acc) ∧ acc.length < sizeLine ∧ Nx (upd H4 D (.lst (acc ++ [y]))) else Nx H3) := by
  have hlen := hh.len
  refine lc_it (walk_list (xs := ts.map V.ref)) (fun i H' => Same H H' ∧ H' D = some (.lst ((ts.take i).map V.ref))) ?h0 ?hG ?hs ?hd
  case h0 => exact ⟨same_upd ho, upd_same⟩
  case hG =>
    rintro i H' _ ⟨sm, _⟩
    exact sm.seq hy
  case hd =>
    rintro H' ⟨sm, e⟩
    rw [List.length_map, List.take_length] at e
    exact q H' e sm
  case hs =>
    rintro i x H3 H4 hi' ⟨sm, e⟩ ⟨rfl, ex⟩
    rw [List.length_map] at hi'
    have hh3 := hh.same sm
    obtain ⟨t, et, ht⟩ := hh3.get (List.getElem?_eq_getElem (show i < ps.length by omega))
    rw [List.getElem?_map, et] at ex
    cases ex
    refine ⟨?_, .ref t, ?_, t, _, rfl, .inr ⟨SqT.at ht, ?_⟩⟩
    · show ((σ.set k none).set k _).set k none = σ.set k none
      simp
    · show ((σ.set k none).set k _)[k]? = _
      rw [List.getElem?_set_self (by simp; exact hk)]
    · refine ⟨_, e, ?_, keep_upd sm ho, ?_⟩
      · rw [List.length_map, List.length_take]
        exact szlt (by omega)
      · rw [upd_same, List.take_add_one, et, List.map_append]
        rfl

/-- the four rows of a lap -/
structure Abc (H : Hp) (pa pb pc ps : Addr) (as bs cs : List Int) (m : Nat) : Prop where
  a : H pa = some (.lst (as.map V.int))
  b : H pb = some (.lst (bs.map V.int))
  c : H pc = some (.lst (cs.map V.int))
  s : H ps = some (.lst ((ri m).map V.int))
theorem Abc.same {H H' : Hp} {pa pb pc ps : Addr} {as bs cs : List Int} {m : Nat} (h : Abc H pa pb pc ps as bs cs m) (e : Same H H') : Abc H' pa pb pc ps as bs cs m :=
  ⟨e _ _ h.a, e _ _ h.b, e _ _ h.c, e _ _ h.s⟩
theorem Abc.but {d : Addr} {H H' : Hp} {kvs : List (Key × V)} {pa pb pc ps : Addr} {as bs cs : List Int} {m : Nat} (h : Abc H pa pb pc ps as bs cs m) (e : But d H H') (hd : H d = some (.dK kvs)) : Abc H' pa pb pc ps as bs cs m :=
  ⟨e.list hd h.a, e.list hd h.b, e.list hd h.c, e.list hd h.s⟩
/-- what is_even tells -/
noncomputable def evB (xs : List Int) : Bool := decide (Int.fmod ((xs.length : Int) - ((leads xs xs.length).length : Int)) 2 = 0)
theorem evB_inv {xs : List Int} (h : IsRow xs) : evB xs = decide (inv xs % 2 = 0) := by
  have p := par_rings xs h
  unfold evB
  rw [decide_eq_decide, Int.fmod_eq_emod_of_nonneg _ (by decide)]
  omega
theorem evB_joined {as bs : List Int} (ha : IsRow as) (hb : IsRow bs) (hl : bs.length = as.length) : evB (pickI as bs) = decide (evB as = evB bs) := by
  rw [evB_inv (isRow_pick ha hb hl), evB_inv ha, evB_inv hb]
  have := par_joined ha bs hb hl
  rw [decide_eq_decide]
  by_cases h1 : inv as % 2 = 0 <;> by_cases h2 : inv bs % 2 = 0 <;> simp [h1, h2] <;> omega
theorem evB_inverse {as bs : List Int} (ha : IsRow as) (hi : InvOf as bs) : evB as = evB bs := by
  have hb := hi.row ha
  have := par_joined ha bs hb hi.1
  rw [hi.pick2 ha, inv_ri] at this
  rw [evB_inv ha, evB_inv hb, decide_eq_decide]
  omega
theorem evB_ri (m : Nat) : evB (ri m) = true := by
  rw [evB_inv (isRow_ri m), inv_ri]
  rfl
section
variable {P : Program} {w : World} {K : PySem.W.Frag} {mg : Str → Option Value} {base : Heap} {a : Ad}
def spLaw (K : PySem.W.Frag) : Sp := fun vs H Q _ => ∃ (s : Addr) (ns : List Int), vs = [.ref s] ∧ SqL K H s (ns.map V.int) ∧ ns.length ≤ 63 ∧ ∀ H', Q (.bl true) H'
theorem ok_law (T : Tx w K mg a) : FnOk P w K mg base CX0 7 a.f_law a.d_law ["script"] (spLaw K) := by
  refine T.F_law.ok sc_law (fun vs H Q E h => ?_) (fun cdv A outer s H vs Q E hr h => ?_)
  · obtain ⟨x, ns, rfl, _⟩ := h
    rfl
  · obtain ⟨x, ns, rfl, hS, hlen, q⟩ := h
    refine ⟨_, 
(pss_cons (ps_set (i := 1) sc_law.nd rfl (.inl rfl) (pe_call (ok__law_pen T) (hr.mono (by decide)) (by rfl) T.m__law_pen T.F__law_pen.kp T.b__law_pen .nil pass0 (pa_cons (pv 0) pa_nil)))
  (pss_cons (ps_for PassesOwn.never rfl (pi_range1 (by rfl) T.z_range (pa_cons pe_int pa_nil)) (pg_name (i := 2) sc_law.nd rfl (.inl rfl))
  (pss_cons (ps_set (i := 3) sc_law.nd rfl (.inl rfl) (pe_call (ok__law_pick T) (hr.mono (by decide)) (by rfl) T.m__law_pick T.F__law_pick.kp T.b__law_pick .nil pass0 (pa_cons (pv 1) (pa_cons (pe_lst (pa_cons (pe_call (ok__law_draw T) (hr.mono (by decide)) (by rfl) T.m__law_draw T.F__law_draw.kp T.b__law_draw .nil pass0 (pa_cons (pv 1) (pa_cons pe_int pa_nil))) (pa_cons (pe_call (ok__law_draw T) (hr.mono (by decide)) (by rfl) T.m__law_draw T.F__law_draw.kp T.b__law_draw .nil pass0 (pa_cons (pv 1) (pa_cons pe_int pa_nil))) (pa_cons (pe_call (ok__law_draw T) (hr.mono (by decide)) (by rfl) T.m__law_draw T.F__law_draw.kp T.b__law_draw .nil pass0 (pa_cons (pv 1) (pa_cons pe_int pa_nil))) pa_nil)))) pa_nil))))
  (pss_cons (ps_par3 (i := 4) (j := 5) (l := 6) (by rfl) sc_law.nd rfl rfl rfl (by decide) (by decide) (by decide) rfl rfl rfl (pa_cons (pe_call (ok__law_row T) (hr.mono (by decide)) (by rfl) T.m__law_row T.F__law_row.kp T.b__law_row .nil pass0 (pa_cons (pv 1) (pa_cons (pv 3) pa_nil))) (pa_cons (pe_call (ok__law_row T) (hr.mono (by decide)) (by rfl) T.m__law_row T.F__law_row.kp T.b__law_row .nil pass0 (pa_cons (pv 1) (pa_cons (pv 3) pa_nil))) (pa_cons (pe_call (ok__law_row T) (hr.mono (by decide)) (by rfl) T.m__law_row T.F__law_row.kp T.b__law_row .nil pass0 (pa_cons (pv 1) (pa_cons (pv 3) pa_nil))) pa_nil))) (by rfl))
  (pss_cons (ps_set (i := 7) sc_law.nd rfl (.inl rfl) (pe_call (ok_nothing T) (hr.mono (by decide)) (by rfl) T.m_nothing T.F_nothing.kp T.b_nothing .nil pass0 (pa_cons (pv 3) pa_nil)))
  (pss_cons (ps_if (PW.pt (pw_or (pt_cmpR (op_neD hr.units) (pe_call (ok_joined T) (hr.mono (by decide)) (by rfl) T.m_joined T.F_joined.kp T.b_joined .nil pass0 (pa_cons (pe_call (ok_joined T) (hr.mono (by decide)) (by rfl) T.m_joined T.F_joined.kp T.b_joined .nil pass0 (pa_cons (pv 4) (pa_cons (pv 5) pa_nil))) (pa_cons (pv 6) pa_nil))) (pe_call (ok_joined T) (hr.mono (by decide)) (by rfl) T.m_joined T.F_joined.kp T.b_joined .nil pass0 (pa_cons (pv 4) (pa_cons (pe_call (ok_joined T) (hr.mono (by decide)) (by rfl) T.m_joined T.F_joined.kp T.b_joined .nil pass0 (pa_cons (pv 5) (pa_cons (pv 6) pa_nil))) pa_nil))) (nomark _)) (pw_or (pt_cmpR (op_neD hr.units) (pe_call (ok_joined T) (hr.mono (by decide)) (by rfl) T.m_joined T.F_joined.kp T.b_joined .nil pass0 (pa_cons (pv 4) (pa_cons (pv 7) pa_nil))) (pv 4) (nomark _)) (pw_or1 (pt_cmpR (op_neD hr.units) (pe_call (ok_joined T) (hr.mono (by decide)) (by rfl) T.m_joined T.F_joined.kp T.b_joined .nil pass0 (pa_cons (pv 7) (pa_cons (pv 4) pa_nil))) (pv 4) (nomark _))))))
  (pss_one (ps_ret pe_bl))
  pss_nil)
  (pss_cons (ps_if (PW.pt (pw_or (pt_cmpR (op_neD hr.units) (pe_call (ok_joined T) (hr.mono (by decide)) (by rfl) T.m_joined T.F_joined.kp T.b_joined .nil pass0 (pa_cons (pv 4) (pa_cons (pe_call (ok_undone T) (hr.mono (by decide)) (by rfl) T.m_undone T.F_undone.kp T.b_undone .nil pass0 (pa_cons (pv 4) pa_nil)) pa_nil))) (pv 7) (nomark _)) (pw_or1 (pt_cmpR (op_neD hr.units) (pe_call (ok_undone T) (hr.mono (by decide)) (by rfl) T.m_undone T.F_undone.kp T.b_undone .nil pass0 (pa_cons (pe_call (ok_joined T) (hr.mono (by decide)) (by rfl) T.m_joined T.F_joined.kp T.b_joined .nil pass0 (pa_cons (pv 4) (pa_cons (pv 5) pa_nil))) pa_nil)) (pe_call (ok_joined T) (hr.mono (by decide)) (by rfl) T.m_joined T.F_joined.kp T.b_joined .nil pass0 (pa_cons (pe_call (ok_undone T) (hr.mono (by decide)) (by rfl) T.m_undone T.F_undone.kp T.b_undone .nil pass0 (pa_cons (pv 5) pa_nil)) (pa_cons (pe_call (ok_undone T) (hr.mono (by decide)) (by rfl) T.m_undone T.F_undone.kp T.b_undone .nil pass0 (pa_cons (pv 4) pa_nil)) pa_nil))) (nomark _)))))
  (pss_one (ps_ret pe_bl))
  pss_nil)
  (pss_cons (ps_par (i := 8) (j := 9) (by rfl) sc_law.nd rfl rfl (by decide) rfl rfl (pa_cons (pe_op op_sub (pe_call (ok__law_draw T) (hr.mono (by decide)) (by rfl) T.m__law_draw T.F__law_draw.kp T.b__law_draw .nil pass0 (pa_cons (pv 1) (pa_cons pe_int pa_nil))) pe_int) (pa_cons (pe_op op_add (pe_op op_mul (pe_op op_sub (pe_call (ok__law_draw T) (hr.mono (by decide)) (by rfl) T.m__law_draw T.F__law_draw.kp T.b__law_draw .nil pass0 (pa_cons (pv 1) (pa_cons pe_int pa_nil))) pe_int) (pe_op op_pow pe_int pe_int)) pe_int) pa_nil)) (by rfl))
  (pss_cons (ps_if (pt_cmpR (op_neD hr.units) (pe_call (ok_joined T) (hr.mono (by decide)) (by rfl) T.m_joined T.F_joined.kp T.b_joined .nil pass0 (pa_cons (pe_call (ok_repeated T) (hr.mono (by decide)) (by rfl) T.m_repeated T.F_repeated.kp T.b_repeated .nil pass0 (pa_cons (pv 4) (pa_cons (pv 8) pa_nil))) (pa_cons (pe_call (ok_repeated T) (hr.mono (by decide)) (by rfl) T.m_repeated T.F_repeated.kp T.b_repeated .nil pass0 (pa_cons (pv 4) (pa_cons (pv 9) pa_nil))) pa_nil))) (pe_call (ok_repeated T) (hr.mono (by decide)) (by rfl) T.m_repeated T.F_repeated.kp T.b_repeated .nil pass0 (pa_cons (pv 4) (pa_cons (pe_op op_add (pv 8) (pv 9)) pa_nil))) (nomark _))
  (pss_one (ps_ret pe_bl))
  pss_nil)
  (pss_cons (ps_if (pt_cmpR (op_neD hr.units) (pe_call (ok_repeated T) (hr.mono (by decide)) (by rfl) T.m_repeated T.F_repeated.kp T.b_repeated .nil pass0 (pa_cons (pe_call (ok_repeated T) (hr.mono (by decide)) (by rfl) T.m_repeated T.F_repeated.kp T.b_repeated .nil pass0 (pa_cons (pv 4) (pa_cons (pv 8) pa_nil))) (pa_cons (pv 9) pa_nil))) (pe_call (ok_repeated T) (hr.mono (by decide)) (by rfl) T.m_repeated T.F_repeated.kp T.b_repeated .nil pass0 (pa_cons (pv 4) (pa_cons (pe_op op_mul (pv 8) (pv 9)) pa_nil))) (nomark _))
  (pss_one (ps_ret pe_bl))
  pss_nil)
  (pss_cons (ps_if (PW.pt (pw_or (pt_cmpR (op_neD hr.units) (pe_call (ok_repeated T) (hr.mono (by decide)) (by rfl) T.m_repeated T.F_repeated.kp T.b_repeated .nil pass0 (pa_cons (pe_call (ok_undone T) (hr.mono (by decide)) (by rfl) T.m_undone T.F_undone.kp T.b_undone .nil pass0 (pa_cons (pv 4) pa_nil)) (pa_cons (pv 8) pa_nil))) (pe_call (ok_repeated T) (hr.mono (by decide)) (by rfl) T.m_repeated T.F_repeated.kp T.b_repeated .nil pass0 (pa_cons (pv 4) (pa_cons (pe_un un_neg (pv 8)) pa_nil))) (nomark _)) (pw_or1 (pt_not (pt_val (pe_call (ok_is_even T) hr (by rfl) T.m_is_even T.F_is_even.kp T.b_is_even .nil pass0 (pa_cons (pv 7) pa_nil)))))))
  (pss_one (ps_ret pe_bl))
  pss_nil)
  (pss_cons (ps_if (PW.pt (pw_or (pt_cmpR op_ne (pe_call (ok_is_even T) hr (by rfl) T.m_is_even T.F_is_even.kp T.b_is_even .nil pass0 (pa_cons (pe_call (ok_joined T) (hr.mono (by decide)) (by rfl) T.m_joined T.F_joined.kp T.b_joined .nil pass0 (pa_cons (pv 4) (pa_cons (pv 5) pa_nil))) pa_nil)) (pe_cmpR op_eq (pe_call (ok_is_even T) hr (by rfl) T.m_is_even T.F_is_even.kp T.b_is_even .nil pass0 (pa_cons (pv 4) pa_nil)) (pe_call (ok_is_even T) hr (by rfl) T.m_is_even T.F_is_even.kp T.b_is_even .nil pass0 (pa_cons (pv 5) pa_nil)) (nomark _)) (nomark _)) (pw_or1 (pt_cmpR op_ne (pe_call (ok_is_even T) hr (by rfl) T.m_is_even T.F_is_even.kp T.b_is_even .nil pass0 (pa_cons (pv 4) pa_nil)) (pe_call (ok_is_even T) hr (by rfl) T.m_is_even T.F_is_even.kp T.b_is_even .nil pass0 (pa_cons (pe_call (ok_undone T) (hr.mono (by decide)) (by rfl) T.m_undone T.F_undone.kp T.b_undone .nil pass0 (pa_cons (pv 4) pa_nil)) pa_nil)) (nomark _)))))
  (pss_one (ps_ret pe_bl))
  pss_nil)
  (pss_cons (ps_if (pt_cmpR (op_neD hr.units) (pe_call (ok__law_sorted_rings T) (hr.mono (by decide)) (by rfl) T.m__law_sorted_rings T.F__law_sorted_rings.kp T.b__law_sorted_rings .nil pass0 (pa_cons (pe_lc (own := [("ring", 13)]) (g := gName 13) rfl sc_law.nd (pi_list (pe_call (ok_rings T) (hr.mono (by decide)) (by rfl) T.m_rings T.F_rings.kp T.b_rings .nil pass0 (pa_cons (pv 4) pa_nil))) (blkOk_by (own := [("ring", 13)]) (N := ["script", "pen", "lap", "size", "a", "b", "c", "still", "many", "more", "carried", "back", "moved", "ring", "place"]) (sc := defScope s_law) (by decide +kernel)) (fun _ _ _ _ _ => pg_name (i := 13) sc_law.nd rfl (Or.inl rfl)) (fun _ _ _ _ _ => pts_nil) (fun _ _ _ _ _ => (show PE _ _ (tRevL K _) from pe_revL (pe_callTy (call_list_ofK (K := K) rfl) (by rfl) T.z_list (by decide +kernel) (pa_cons (pv 13) pa_nil))))) pa_nil)) (pe_lc (own := [("ring", 13)]) (g := gName 13) rfl sc_law.nd (pi_list (pe_call (ok_rings T) (hr.mono (by decide)) (by rfl) T.m_rings T.F_rings.kp T.b_rings .nil pass0 (pa_cons (pe_call (ok_undone T) (hr.mono (by decide)) (by rfl) T.m_undone T.F_undone.kp T.b_undone .nil pass0 (pa_cons (pv 4) pa_nil)) pa_nil))) (blkOk_by (own := [("ring", 13)]) (N := ["script", "pen", "lap", "size", "a", "b", "c", "still", "many", "more", "carried", "back", "moved", "ring", "place"]) (sc := defScope s_law) (by decide +kernel)) (fun _ _ _ _ _ => pg_name (i := 13) sc_law.nd rfl (Or.inl rfl)) (fun _ _ _ _ _ => pts_nil) (fun _ _ _ _ _ => (pe_callTy (call_tuple_ofK (K := K) rfl) (by rfl) T.z_tuple (by decide +kernel) (pa_cons (pv 13) pa_nil)))) (nomark _))
  (pss_one (ps_ret pe_bl))
  pss_nil)
  (pss_cons (ps_set (i := 10) sc_law.nd rfl (.inl rfl) (pe_call (ok_joined T) (hr.mono (by decide)) (by rfl) T.m_joined T.F_joined.kp T.b_joined .nil pass0 (pa_cons (pe_call (ok_joined T) (hr.mono (by decide)) (by rfl) T.m_joined T.F_joined.kp T.b_joined .nil pass0 (pa_cons (pe_call (ok_undone T) (hr.mono (by decide)) (by rfl) T.m_undone T.F_undone.kp T.b_undone .nil pass0 (pa_cons (pv 5) pa_nil)) (pa_cons (pv 4) pa_nil))) (pa_cons (pv 5) pa_nil))))
  (pss_cons (ps_set (i := 11) sc_law.nd rfl (.inr rfl) (pe_call (ok_undone T) (hr.mono (by decide)) (by rfl) T.m_undone T.F_undone.kp T.b_undone .nil pass0 (pa_cons (pv 5) pa_nil)))
  (pss_cons (ps_setLc (i := 12) (own := [("ring", 13)]) (g := gName 13) rfl sc_law.nd rfl rfl (sw_true rfl rfl rfl (by decide +kernel)) (pi_list (pe_call (ok_rings T) (hr.mono (by decide)) (by rfl) T.m_rings T.F_rings.kp T.b_rings .nil pass0 (pa_cons (pv 4) pa_nil))) (blkOk_by (own := [("ring", 13)]) (N := ["script", "pen", "lap", "size", "a", "b", "c", "still", "many", "more", "carried", "back", "moved", "ring", "place"]) (sc := defScope s_law) (by decide +kernel)) (fun _ _ _ _ _ => pg_name (i := 13) sc_law.nd rfl (Or.inl rfl)) (fun _ _ _ _ _ => pts_nil) (fun _ _ _ _ _ => (pe_lc (own := [("place", 14)]) (g := gName 14) rfl sc_law.nd (show PI _ _ _ (iTup K _) from pi_tup (pv 13)) (blkOk_by (own := [("place", 14)]) (N := ["script", "pen", "lap", "size", "a", "b", "c", "still", "many", "more", "carried", "back", "moved", "ring", "place"]) (by rfl)) (fun _ _ _ _ _ => pg_name (i := 14) sc_law.nd rfl (Or.inl rfl)) (fun _ _ _ _ _ => pts_nil) (fun _ _ _ _ _ => (pe_ix (show IxR _ (rIxL K) from ix_list) (pv 11) (pv 14) (fun _ _ => rfl))))))
  (pss_cons (ps_if (pt_cmpR (op_neD hr.units) (pe_call (ok__law_sorted_rings T) (hr.mono (by decide)) (by rfl) T.m__law_sorted_rings T.F__law_sorted_rings.kp T.b__law_sorted_rings .nil pass0 (pa_cons (pv 12) pa_nil)) (pe_lc (own := [("ring", 13)]) (g := gName 13) rfl sc_law.nd (pi_list (pe_call (ok_rings T) (hr.mono (by decide)) (by rfl) T.m_rings T.F_rings.kp T.b_rings .nil pass0 (pa_cons (pv 10) pa_nil))) (blkOk_by (own := [("ring", 13)]) (N := ["script", "pen", "lap", "size", "a", "b", "c", "still", "many", "more", "carried", "back", "moved", "ring", "place"]) (sc := defScope s_law) (by decide +kernel)) (fun _ _ _ _ _ => pg_name (i := 13) sc_law.nd rfl (Or.inl rfl)) (fun _ _ _ _ _ => pts_nil) (fun _ _ _ _ _ => (pe_callTy (call_tuple_ofK (K := K) rfl) (by rfl) T.z_tuple (by decide +kernel) (pa_cons (pv 13) pa_nil)))) (nomark _))
  (pss_one (ps_ret pe_bl))
  pss_nil)
  (pss_one (ps_if (pt_cmpR (op_neD hr.units) (pe_call (ok_done T) (hr.mono (by decide)) (by rfl) T.m_done T.F_done.kp T.b_done .nil pass0 (pa_cons (pv 10) (pa_cons (pe_call (ok_done T) (hr.mono (by decide)) (by rfl) T.m_done T.F_done.kp T.b_done .nil pass0 (pa_cons (pe_call (ok_undone T) (hr.mono (by decide)) (by rfl) T.m_undone T.F_undone.kp T.b_undone .nil pass0 (pa_cons (pv 5) pa_nil)) (pa_cons (pv 6) pa_nil))) pa_nil))) (pe_call (ok_done T) (hr.mono (by decide)) (by rfl) T.m_done T.F_done.kp T.b_done .nil pass0 (pa_cons (pv 5) (pa_cons (pe_call (ok_done T) (hr.mono (by decide)) (by rfl) T.m_done T.F_done.kp T.b_done .nil pass0 (pa_cons (pv 4) (pa_cons (pe_call (ok_done T) (hr.mono (by decide)) (by rfl) T.m_done T.F_done.kp T.b_done .nil pass0 (pa_cons (pe_call (ok_undone T) (hr.mono (by decide)) (by rfl) T.m_undone T.F_undone.kp T.b_undone .nil pass0 (pa_cons (pv 5) pa_nil)) (pa_cons (pe_call (ok_done T) (hr.mono (by decide)) (by rfl) T.m_done T.F_done.kp T.b_done .nil pass0 (pa_cons (pe_call (ok_undone T) (hr.mono (by decide)) (by rfl) T.m_undone T.F_undone.kp T.b_undone .nil pass0 (pa_cons (pv 5) pa_nil)) (pa_cons (pv 6) pa_nil))) pa_nil))) pa_nil))) pa_nil))) (nomark _))
  (pss_one (ps_ret pe_bl))
  pss_nil))))))))))))))))))
  (pss_one (ps_ret pe_bl)))), ?_⟩
    refine ⟨.ref x, rfl, x, ns, rfl, hS, hlen, fun d c H1 hd hc hp s1 => ?_⟩
    refine ⟨3, rfl, by decide, by decide, ?_⟩
    refine for_range (lo := 0) (n := 3) (fun i σ H2 => (∃ y2 y3 y4 y5 y6 y7 y8 y9 y10 y11 y12 y13 y14 : Option V, σ = [some (.ref x), some (.ref d), y2, y3, y4, y5, y6, y7, y8, y9, y10, y11, y12, y13, y14]) ∧ Pen H2 d c (i * 10000)) ?_ ?_ ?_
    · exact ⟨⟨none, none, none, none, none, none, none, none, none, none, none, none, none, rfl⟩, hp⟩
    rotate_left
    · rintro σ H2 _
      exact q _
    rintro i σ H2 hi ⟨⟨y2, y3, y4, y5, y6, y7, y8, y9, y10, y11, y12, y13, y14, rfl⟩, hp2⟩
    -- size = _law_pick(pen, [..])
    refine ⟨.ref d, rfl, .ref d, rfl, d, c, i * 10000, 6, rfl, hp2, by omega, by decide, by decide, fun v1 H3 v10 v11 hp3 b3 => ⟨.ref d, rfl, d, c, _, 20, rfl, hp3, by omega, by decide, by decide, fun v2 H4 v20 v21 hp4 b4 => ⟨.ref d, rfl, d, c, _, 61, rfl, hp4, by omega, by decide, by decide, fun v3 H5 v30 v31 hp5 b5 => ⟨sz (show 3 ≤ 100000 by decide), fun p0 hp0 => ?_⟩⟩⟩⟩
    refine ⟨d, c, p0, _, [.int v1, .int v2, .int v3], rfl, hp5.same (same_upd hp0), by omega, SqL.at upd_same, (show 0 < 3 by decide), (show 3 ≤ 100000 by decide), fun v H6 hv hp6 b6 => ?_⟩
    obtain ⟨m, rfl, hm⟩ : ∃ m : Nat, v = .int (m : Int) ∧ m ≤ 60 := by
      simp only [List.mem_cons, List.not_mem_nil, or_false] at hv
      rcases hv with rfl | rfl | rfl
      · exact ⟨v1.toNat, by congr 1; omega, by omega⟩
      · exact ⟨v2.toNat, by congr 1; omega, by omega⟩
      · exact ⟨v3.toNat, by congr 1; omega, by omega⟩
    clear hp3 hp4 hp5 b3 b4 b5 b6
    -- a, b, c = ..
    refine ⟨_, rfl, _, rfl, d, c, _, m, rfl, hp6, by omega, by omega, fun pa As H7 hA lA nA eA hp7 b7 => ⟨_, rfl, _, rfl, d, c, _, m, rfl, hp7, by omega, by omega, fun pb Bs H8 hB lB nB eB hp8 b8 => ⟨_, rfl, _, rfl, d, c, _, m, rfl, hp8, by omega, by omega, fun pc Cs H9 hC lC nC eC hp9 b9 => ?_⟩⟩⟩
    obtain ⟨_, hd7⟩ := hp7.dict
    obtain ⟨_, hd8⟩ := hp8.dict
    have eA9 := b9.list hd8 (b8.list hd7 eA)
    have eB9 := b9.list hd8 eB
    clear hp6 hp7 hp8 b7 b8 b9 eA eB nA nB nC hd7 hd8
    refine ⟨_, _, _, rfl, ?_⟩
    -- still = nothing(size)
    refine ⟨_, rfl, m, rfl, by omega, fun ps H10 ns1 es s10 => ?_⟩
    have ab : Abc H10 pa pb pc ps As Bs Cs m := ⟨s10 _ _ eA9, s10 _ _ eB9, s10 _ _ eC, es⟩
    have hp10 := hp9.same s10
    clear eA9 eB9 eC es s10 hp9 ns1
    have R : ∀ {H' : Hp} {p : Addr} {xs : List Int}, H' p = some (.lst (xs.map V.int)) → IsRow xs → xs.length = m → RowAt K H' p xs := fun h r l => ⟨.inl (SqL.at h), r, by omega⟩
    have bnd : ∀ {xs ts : List Int}, IsRow xs → xs.length = m → ts.length = m → ∀ y ∈ xs, 0 ≤ y ∧ y.toNat < ts.length := fun hr' hl ht y hy => by
      have := hr'.mem.mp hy
      omega
    have J : ∀ {xs ys : List Int}, IsRow xs → IsRow ys → xs.length = m → ys.length = m → IsRow (pickI xs ys) ∧ (pickI xs ys).length = m := fun h1 h2 l1 l2 => ⟨isRow_pick h1 h2 (by omega), by rw [pick_len]; exact l2⟩
    have hab := J hA hB lA lB
    have hbc := J hB hC lB lC
    have hS0 := isRow_ri m
    have lS0 := ri_len m
    -- joined(joined(a, b), c) != joined(a, joined(b, c))
    refine ⟨_, rfl, _, rfl, pa, pb, As, Bs, rfl, R ab.a hA lA, R ab.b hB lB, by omega, fun o1 H11 _ e1 t1 => ⟨_, rfl, o1, pc, _, Cs, rfl, R e1 hab.1 hab.2, R (ab.same t1).c hC lC, by omega, fun o2 H12 _ e2 t2 => ?_⟩⟩
    have ab12 := (ab.same t1).same t2
    refine ⟨_, rfl, _, rfl, _, rfl, pb, pc, Bs, Cs, rfl, R ab12.b hB lB, R ab12.c hC lC, by omega, fun o3 H13 _ e3 t3 => ⟨pa, o3, As, _, rfl, R (ab12.same t3).a hA lA, R e3 hbc.1 hbc.2, by omega, fun o4 H14 _ e4 t4 => ?_⟩⟩
    refine ⟨_, _, dp_ints (SqL.at ((t3.trans t4) _ _ e2)), dp_ints (SqL.at e4), shaped_ints, shaped_ints, _, rfl, ?_⟩
    refine ne_false (pick_pick (bnd hC lC lB)) ?_
    have S14 := t1.trans (t2.trans (t3.trans t4))
    clear t1 t2 t3 t4 e1 e2 e3 e4 ab12
    have ab14 := ab.same S14
    -- joined(a, still) != a
    refine ⟨_, rfl, _, rfl, pa, ps, As, ri m, rfl, R ab14.a hA lA, R ab14.s hS0 lS0, by omega, fun o1 H15 _ e1 t1 => ?_⟩
    have ab15 := ab14.same t1
    refine ⟨_, rfl, _, _, dp_ints (SqL.at e1), dp_ints (SqL.at ab15.a), shaped_ints, shaped_ints, _, rfl, ?_⟩
    refine ne_false (by rw [← lA, pick_ri]) ?_
    refine ⟨_, rfl, _, rfl, ps, pa, ri m, As, rfl, R ab15.s hS0 lS0, R ab15.a hA lA, by omega, fun o2 H16 _ e2 t2 => ?_⟩
    have ab16 := ab15.same t2
    refine ⟨_, rfl, _, _, dp_ints (SqL.at e2), dp_ints (SqL.at ab16.a), shaped_ints, shaped_ints, _, rfl, ?_⟩
    refine ne_false (ri_pick fun z hz => by have := hA.mem.mp hz; omega) ?_
    have S16 := S14.trans (t1.trans t2)
    clear t1 t2 e1 e2 S14 ab14 ab15
    -- joined(a, undone(a)) != still
    refine ⟨_, rfl, _, rfl, pa, As, rfl, R ab16.a hA lA, fun o1 Ia H17 _ hIa e1 t1 => ?_⟩
    have hRa := hIa.row hA
    have lRa : Ia.length = m := by rw [hIa.1]; exact lA
    have ab17 := ab16.same t1
    refine ⟨pa, o1, As, Ia, rfl, R ab17.a hA lA, R e1 hRa lRa, by omega, fun o2 H18 _ e2 t2 => ?_⟩
    have ab18 := ab17.same t2
    refine ⟨_, rfl, _, _, dp_ints (SqL.at e2), dp_ints (SqL.at ab18.s), shaped_ints, shaped_ints, _, rfl, ?_⟩
    refine ne_false (by rw [hIa.pick2 hA, lA]) ?_
    -- undone(joined(a, b)) != joined(undone(b), undone(a))
    refine ⟨_, rfl, _, rfl, pa, pb, As, Bs, rfl, R ab18.a hA lA, R ab18.b hB lB, by omega, fun o3 H19 _ e3 t3 => ⟨o3, _, rfl, R e3 hab.1 hab.2, fun o4 Iab H20 _ hIab e4 t4 => ?_⟩⟩
    have ab20 := (ab18.same t3).same t4
    refine ⟨_, rfl, pb, Bs, rfl, R ab20.b hB lB, fun o5 Ib H21 _ hIb e5 t5 => ⟨_, rfl, pa, As, rfl, R (ab20.same t5).a hA lA, fun o6 Ia2 H22 _ hIa2 e6 t6 => ?_⟩⟩
    have hRb := hIb.row hB
    have lRb : Ib.length = m := by rw [hIb.1]; exact lB
    obtain rfl := hIa2.uniq hIa hA
    refine ⟨o5, o6, Ib, _, rfl, R (t6 _ _ e5) hRb lRb, R e6 hRa lRa, by omega, fun o7 H23 _ e7 t7 => ?_⟩
    refine ⟨_, _, dp_ints (SqL.at ((t5.trans (t6.trans t7)) _ _ e4)), dp_ints (SqL.at e7), shaped_ints, shaped_ints, _, rfl, ?_⟩
    refine ne_false (hIab.uniq (InvOf.joined hA hB (by omega) hIa hIb) hab.1) ?_
    have S23 := S16.trans (t1.trans (t2.trans (t3.trans (t4.trans (t5.trans (t6.trans t7))))))
    clear t1 t2 t3 t4 t5 t6 t7 e1 e2 e3 e4 e5 e6 e7 ab17 ab18 ab20 S16 ab16
    have ab23 := ab.same S23
    have hp23 := hp10.same S23
    clear S23 ab hp10
    -- many, more = ..
    refine ⟨_, rfl, d, c, _, 99, rfl, hp23, by omega, by decide, by decide, fun v4 H24 v40 v41 hp24 b24 => ⟨_, 49, rfl, rfl, _, rfl, d, c, _, 99, rfl, hp24, by omega, by decide, by decide, fun v5 H25 v50 v51 hp25 b25 => ⟨_, 49, rfl, rfl, 10, 30, rfl, rfl, ⟨by decide, by decide, by decide⟩, _, _, rfl, rfl, .inl ⟨by omega, by omega⟩, _, 1, rfl, rfl, _, _, rfl, ?_⟩⟩⟩
    obtain ⟨_, hd23⟩ := hp23.dict
    obtain ⟨_, hd24⟩ := hp24.dict
    have ab25 := (ab23.but b24 hd23).but b25 hd24
    clear b24 b25 hd23 hd24 hp23 hp24 ab23
    have rR : ∀ {xs : List Int} (k : Int), IsRow xs → xs.length = m → IsRow (repI xs k) ∧ (repI xs k).length = m := fun k h l => ⟨isRow_rep h k, by rw [repI_len]; exact l⟩
    -- joined(repeated(a, many), repeated(a, more)) != repeated(a, many + more)
    refine ⟨_, rfl, _, rfl, pa, As, v4 - 49, rfl, R ab25.a hA lA, fun o1 H26 _ e1 t1 => ⟨_, rfl, _, rfl, pa, As, (v5 - 49) * (10 : Int) ^ (30 : Int).toNat + 1, rfl, R (ab25.same t1).a hA lA, fun o2 H27 _ e2 t2 => ⟨o1, o2, _, _, rfl, R (t2 _ _ e1) (rR _ hA lA).1 (rR _ hA lA).2, R e2 (rR _ hA lA).1 (rR _ hA lA).2, by rw [repI_len, repI_len], fun o3 H28 _ e3 t3 => ?_⟩⟩⟩
    have ab28 := ((ab25.same t1).same t2).same t3
    refine ⟨_, rfl, _, rfl, _, rfl, _, _, rfl, rfl, pa, As, _, rfl, R ab28.a hA lA, fun o4 H29 _ e4 t4 => ?_⟩
    refine ⟨_, _, dp_ints (SqL.at (t4 _ _ e3)), dp_ints (SqL.at e4), shaped_ints, shaped_ints, _, rfl, ?_⟩
    refine ne_false (repI_add hA _ _) ?_
    have ab29 := ab28.same t4
    have S29 := t1.trans (t2.trans (t3.trans t4))
    clear t1 t2 t3 t4 e1 e2 e3 e4 ab28
    -- repeated(repeated(a, many), more) != repeated(a, many * more)
    refine ⟨_, rfl, _, rfl, pa, As, v4 - 49, rfl, R ab29.a hA lA, fun o1 H30 _ e1 t1 => ⟨_, rfl, o1, _, (v5 - 49) * (10 : Int) ^ (30 : Int).toNat + 1, rfl, R e1 (rR _ hA lA).1 (rR _ hA lA).2, fun o2 H31 _ e2 t2 => ?_⟩⟩
    have ab31 := (ab29.same t1).same t2
    refine ⟨_, rfl, _, rfl, _, rfl, _, _, rfl, rfl, .inl ⟨by omega, by omega⟩, pa, As, _, rfl, R ab31.a hA lA, fun o3 H32 _ e3 t3 => ?_⟩
    refine ⟨_, _, dp_ints (SqL.at (t3 _ _ e2)), dp_ints (SqL.at e3), shaped_ints, shaped_ints, _, rfl, ?_⟩
    refine ne_false (repI_mul hA _ _) ?_
    have ab32 := ab31.same t3
    have S32 := S29.trans (t1.trans (t2.trans t3))
    clear t1 t2 t3 e1 e2 e3 ab31 ab29 S29
    -- repeated(undone(a), many) != repeated(a, -many) or not is_even(still)
    refine ⟨_, rfl, pa, As, rfl, R ab32.a hA lA, fun o1 Ia3 H33 _ hIa3 e1 t1 => ?_⟩
    obtain rfl := hIa3.uniq hIa hA
    refine ⟨_, rfl, o1, Ia3, v4 - 49, rfl, R e1 hRa lRa, fun o2 H34 _ e2 t2 => ?_⟩
    have ab34 := (ab32.same t1).same t2
    refine ⟨_, rfl, _, rfl, _, rfl, pa, As, _, rfl, R ab34.a hA lA, fun o3 H35 _ e3 t3 => ?_⟩
    refine ⟨_, _, dp_ints (SqL.at (t3 _ _ e2)), dp_ints (SqL.at e3), shaped_ints, shaped_ints, _, rfl, ?_⟩
    refine ne_false (repI_neg hA hIa _) ?_
    have ab35 := ab34.same t3
    refine ⟨_, rfl, ps, ri m, rfl, R ab35.s hS0 lS0, fun H36 t4 => ?_⟩
    refine ⟨_, rfl, ?_⟩
    rw [show decide (Int.fmod (((ri m).length : Int) - ((leads (ri m) (ri m).length).length : Int)) 2 = 0) = true from evB_ri m]
    refine iteF ?_
    have ab36 := ab35.same t4
    have S36 := S32.trans (t1.trans (t2.trans (t3.trans t4)))
    clear t1 t2 t3 t4 e1 e2 e3 ab34 ab35 S32
    -- is_even(joined(a, b)) != (is_even(a) == is_even(b))
    refine ⟨_, rfl, _, rfl, pa, pb, As, Bs, rfl, R ab36.a hA lA, R ab36.b hB lB, by omega, fun o1 H37 _ e1 t1 => ⟨o1, _, rfl, R e1 hab.1 hab.2, fun H38 t2 => ?_⟩⟩
    have ab38 := (ab36.same t1).same t2
    refine ⟨_, rfl, pa, As, rfl, R ab38.a hA lA, fun H39 t3 => ⟨_, rfl, pb, Bs, rfl, R (ab38.same t3).b hB lB, fun H40 t4 => ?_⟩⟩
    refine ⟨rfl, rfl, _, rfl, ?_⟩
    refine iteNS (c := V.bl (evB (pickI As Bs)) = V.bl (decide (V.bl (evB As) = V.bl (evB Bs)))) ?_ ?_
    · rw [evB_joined hA hB (by omega)]
      exact congrArg V.bl (decide_eq_decide.mpr ⟨fun h => congrArg _ h, fun h => V.bl.inj h⟩)
    have ab40 := (ab38.same t3).same t4
    refine ⟨_, rfl, pa, As, rfl, R ab40.a hA lA, fun H41 t5 => ⟨_, rfl, pa, As, rfl, R (ab40.same t5).a hA lA, fun o2 Ia4 H42 _ hIa4 e6 t6 => ?_⟩⟩
    obtain rfl := hIa4.uniq hIa hA
    refine ⟨o2, Ia4, rfl, R e6 hRa lRa, fun H43 t7 => ?_⟩
    refine ⟨rfl, _, rfl, ?_⟩
    refine iteNS (c := V.bl (evB As) = V.bl (evB Ia4)) (congrArg V.bl (evB_inverse hA hIa)) ?_
    have ab43 := ((ab40.same t5).same t6).same t7
    have S43 := S36.trans (t1.trans (t2.trans (t3.trans (t4.trans (t5.trans (t6.trans t7))))))
    clear t1 t2 t3 t4 t5 t6 t7 e1 e6 ab36 ab38 ab40 S36
    -- _law_sorted_rings([list(ring)[::-1] for ring in rings(a)]) != [tuple(ring) for ring in rings(undone(a))]
    refine ⟨_, rfl, pa, As, rfl, R ab43.a hA lA, fun o ts H44 no eo hh t1 => ?_⟩
    have hlen2 := hh.len
    have hls := lists_leads hA
    have hsz := lists_size hls
    refine ⟨o, rfl, ⟨_, SqL.at eo⟩, fun D hD => ?_⟩
    refine lc_it (walk_list (xs := ts.map V.ref)) (fun j H' => Same H44 H' ∧ ∃ rs : List Addr, H' D = some (.lst (rs.map V.ref)) ∧ HeldRL H' Ia4 rs (((leads As As.length).map (itP Ia4 1)).take j)) ?h0 ?hG ?hs ?hd
    case h0 => exact ⟨same_upd hD, [], upd_same, trivial⟩
    case hG =>
      rintro j H' _ ⟨sm, _⟩
      exact sm.seq (SqL.at eo)
    case hs =>
      rintro j y H5 H6 hj ⟨sm, rs, e, hrs⟩ ⟨rfl, ex⟩
      rw [List.length_map] at hj
      obtain ⟨t, et, ht⟩ := (hh.same sm).get (List.getElem?_eq_getElem (show j < (leads As As.length).length by omega))
      rw [List.getElem?_map, et] at ex
      cases ex
      have hrl := hrs.len
      rw [List.length_take, List.length_map] at hrl
      refine ⟨rfl, _, rfl, t, _, rfl, .inr (SqT.at ht), fun c1 nc1 => ⟨c1, _, rfl, SqL.at upd_same, fun c2 nc2 => ?_⟩⟩
      have u1 := same_upd (o := .lst ((ringP As (leads As As.length)[j]).map V.int)) nc1
      have u2 := same_upd (o := .lst ((ringP As (leads As As.length)[j]).map V.int).reverse) nc2
      have u12 := u1.trans u2
      refine ⟨_, u12 _ _ e, szlt (by rw [List.length_map]; omega), keep_upd (sm.trans u12) hD, rs ++ [c2], by rw [upd_same, List.map_append]; rfl, ?_⟩
      have htk : ((leads As As.length).map (itP Ia4 1)).take (j + 1) = ((leads As As.length).map (itP Ia4 1)).take j ++ [itP Ia4 1 (leads As As.length)[j]] := by
        rw [List.take_add_one, List.getElem?_map, List.getElem?_eq_getElem (by omega)]
        rfl
      rw [htk]
      have hl1 : (leads As As.length)[j] < As.length := hls.1 _ (List.getElem_mem ..)
      have hin : ∀ p ∈ ((leads As As.length).map (itP Ia4 1)).take j, p < Ia4.length := fun p hp => (lists_inv hA hIa).1 p (List.mem_of_mem_take hp)
      have eD := u12 _ _ e
      refine HeldRL.snoc ?_ ((hrs.same u12).offR hRa eD hin)
      rw [upd_ne (ne_of_none (u1 _ _ e) nc2).symm, upd_same, ← List.map_reverse, ringP_rev hA hIa hl1]
    case hd =>
      rintro H45 ⟨t2, rs, eD, hrs⟩
      rw [List.length_map, List.take_of_length_le (by rw [List.length_map]; omega)] at hrs
      refine ⟨D, Ia4, rs, _, rfl, SqL.at eD, hrs, lists_inv hA hIa, hRa, by omega, fun o2 us H46 no2 eo2 hus t3 => ?_⟩
      have ab46 := ((ab43.same t1).same t2).same t3
      refine ⟨_, rfl, pa, As, rfl, R ab46.a hA lA, fun o3 Ia5 H47 _ hIa5 e3 t4 => ?_⟩
      obtain rfl := hIa5.uniq hIa hA
      refine ⟨o3, Ia5, rfl, R e3 hRa lRa, fun o4 ts4 H48 no4 e4 hh4 t5 => ?_⟩
      have hl4 := hh4.len
      have hsz4 := lists_size (lists_leads hRa)
      refine ⟨o4, rfl, ⟨_, SqL.at e4⟩, fun D2 hD2 => ?_⟩
      refine lc_tupE (k := 13) (SqL.at e4) hh4 (by omega) hD2 ?_ (fun H49 e5 t6 => ?_)
      · exact (show 13 < 15 by decide)
      refine ⟨_, _, Dp.lst (SqL.at ((t4.trans (t5.trans t6)) _ _ eo2)) (hus.same (t4.trans (t5.trans t6))).dp, Dp.lst (SqL.at e5) (hh4.same t6).dp, shaped_tis, shaped_tis, _, rfl, ?_⟩
      refine ne_tis ?_
      have ab49 := ab46.same (t4.trans (t5.trans t6))
      have S49 := S43.trans (t1.trans (t2.trans (t3.trans (t4.trans (t5.trans t6)))))
      clear t1 t2 t3 t4 t5 t6 e3 e4 e5 eo2 hus hh4 hl4 hsz4 eD hrs ab43 ab46 S43 hlen2 eo hh
      -- carried = joined(joined(undone(b), a), b)
      refine ⟨_, rfl, pb, Bs, rfl, R ab49.b hB lB, fun o1 Ib2 H50 _ hIb2 e1 t1 => ?_⟩
      obtain rfl := hIb2.uniq hIb hB
      have hia := J hRb hA lRb lA
      refine ⟨_, rfl, o1, pa, Ib2, As, rfl, R e1 hRb lRb, R (ab49.same t1).a hA lA, by omega, fun o2 H51 _ e2 t2 => ?_⟩
      have ab51 := (ab49.same t1).same t2
      have hcar := J hia.1 hB hia.2 lB
      refine ⟨_, rfl, o2, pb, _, Bs, rfl, R e2 hia.1 hia.2, R ab51.b hB lB, by omega, fun pk H52 _ ek t3 => ?_⟩
      have ab52 := ab51.same t3
      -- back = undone(b)
      refine ⟨_, rfl, pb, Bs, rfl, R ab52.b hB lB, fun pd Ib3 H53 _ hIb3 ed t4 => ?_⟩
      obtain rfl := hIb3.uniq hIb hB
      have ab53 := ab52.same t4
      have ek53 := t4 _ _ ek
      have S53 := S49.trans (t1.trans (t2.trans (t3.trans t4)))
      clear t1 t2 t3 t4 e1 e2 ek ab49 ab51 ab52 S49
      obtain ⟨hC1, lC1, hC2, hC3⟩ := lists_carry hA hB (by omega) hIb (rfl : pickI (pickI Ib3 As) Bs = pickI (pickI Ib3 As) Bs)
      generalize hcs : pickI (pickI Ib3 As) Bs = Ks at hC1 lC1 hC2 hC3 ek53 hcar
      -- moved = [[back[place] for place in ring] for ring in rings(a)]
      refine ⟨_, rfl, pa, As, rfl, R ab53.a hA lA, fun o ts H54 no eo hh t1 => ?_⟩
      have hlen2 := hh.len
      have ed54 := t1 _ _ ed
      refine ⟨o, rfl, ⟨_, SqL.at eo⟩, fun D hD => ?_⟩
      refine lc_it (walk_list (xs := ts.map V.ref)) (fun j H' => Same H54 H' ∧ ∃ rs : List Addr, H' D = some (.lst (rs.map V.ref)) ∧ HeldRL H' Ks rs (((leads As As.length).map (nxP Ib3)).take j)) ?h1 ?hG1 ?hs1 ?hd1
      case h1 => exact ⟨same_upd hD, [], upd_same, trivial⟩
      case hG1 =>
        rintro j H' _ ⟨sm, _⟩
        exact sm.seq (SqL.at eo)
      case hs1 =>
        rintro j y H5 H6 hj ⟨sm, rs, e, hrs⟩ ⟨rfl, ex⟩
        rw [List.length_map] at hj
        have hjl : j < (leads As As.length).length := by omega
        obtain ⟨t, et, ht⟩ := (hh.same sm).get (List.getElem?_eq_getElem hjl)
        rw [List.getElem?_map, et] at ex
        cases ex
        have hrl := hrs.len
        rw [List.length_take, List.length_map] at hrl
        have hl1 : (leads As As.length)[j] < As.length := hls.1 _ (List.getElem_mem ..)
        have htk : ((leads As As.length).map (nxP Ib3)).take (j + 1) = ((leads As As.length).map (nxP Ib3)).take j ++ [nxP Ib3 (leads As As.length)[j]] := by
          rw [List.take_add_one, List.getElem?_map, List.getElem?_eq_getElem (by omega)]
          rfl
        rw [htk]
        generalize (leads As As.length)[j] = l at ht hl1 ⊢
        refine ⟨rfl, _, rfl, t, rfl, ⟨_, SqT.at ht⟩, fun D2 hD2 => ?_⟩
        refine lc_it (walk_tup (xs := (ringP As l).map V.int)) (fun k H' => Same H6 H' ∧ H' D2 = some (.lst ((((ringP As l).map fun v => Ib3.getD v.toNat 0).take k).map V.int))) ?h2 ?hG2 ?hs2 ?hd2
        case h2 => exact ⟨same_upd hD2, upd_same⟩
        case hG2 =>
          rintro k H' _ ⟨sm2, _⟩
          exact Same.seqT sm2 (SqT.at ht)
        case hs2 =>
          rintro k z H7 H8 hk ⟨sm2, e2⟩ ⟨rfl, ex⟩
          rw [List.length_map] at hk
          rw [List.getElem?_map, List.getElem?_eq_getElem hk] at ex
          cases ex
          obtain ⟨r, er, mr⟩ := (ringP_mem hA hl1).mp (List.getElem_mem hk)
          have hr : r < As.length := by
            obtain ⟨k, ek⟩ := mr
            rw [← ek]
            exact itP_lt hA hl1 k
          have hrl2 := ringP_len As l
          obtain ⟨m1, m2, _⟩ := rlen_spec hA hl1
          have z0 : 0 ≤ (ringP As l)[k] := by omega
          have z1 : (ringP As l)[k].toNat < Ib3.length := by omega
          refine ⟨rfl, _, rfl, _, rfl, pd, _, (ringP As l)[k], _, rfl, rfl, SqL.at ((sm.trans sm2) _ _ ed54), atI_ints z0 z1, _, e2, ?_, keep_upd sm2 hD2, ?_⟩
          · rw [List.length_map, List.length_take]
            exact szlt (by rw [List.length_map]; omega)
          · rw [upd_same, List.take_add_one, List.getElem?_map, List.getElem?_eq_getElem hk, List.map_append]
            show _ = some (HO.lst (_ ++ [V.int (Ib3.getD (ringP As l)[k].toNat 0)]))
            rw [getD_get z1]
        case hd2 =>
          rintro H7 ⟨sm2, e2⟩
          rw [List.length_map, List.take_of_length_le (by rw [List.length_map]; exact Nat.le_refl _), hC3 l hl1] at e2
          have hin : ∀ p ∈ ((leads As As.length).map (nxP Ib3)).take j, p < Ks.length := fun p hp => hC2.1 p (List.mem_of_mem_take hp)
          refine ⟨_, sm2 _ _ e, szlt (by rw [List.length_map]; omega), keep_upd (sm.trans sm2) hD, rs ++ [D2], by rw [upd_same, List.map_append]; rfl, HeldRL.snoc ?_ ((hrs.same sm2).offR hC1 (sm2 _ _ e) hin)⟩
          rw [upd_ne (ne_of_none e hD2).symm]
          exact e2
      case hd1 =>
        rintro H55 ⟨t2, rs, eD, hrs⟩
        rw [List.length_map, List.take_of_length_le (by rw [List.length_map]; omega)] at hrs
        have ab55 := ab53.same (t1.trans t2)
        have ek55 := (t1.trans t2) _ _ ek53
        have lKm : Ks.length = m := by omega
        -- _law_sorted_rings(moved) != [tuple(ring) for ring in rings(carried)]
        refine ⟨_, rfl, D, Ks, rs, _, rfl, SqL.at eD, hrs, hC2, hC1, by omega, fun o2 us H56 no2 eo2 hus t3 => ?_⟩
        refine ⟨_, rfl, pk, Ks, rfl, R (t3 _ _ ek55) hC1 lKm, fun o4 ts4 H57 no4 e4 hh4 t4 => ?_⟩
        have hl4 := hh4.len
        have hsz4 := lists_size (lists_leads hC1)
        refine ⟨o4, rfl, ⟨_, SqL.at e4⟩, fun D2 hD2 => ?_⟩
        refine lc_tupE (k := 13) (SqL.at e4) hh4 (by omega) hD2 ?_ (fun H58 e5 t5 => ?_)
        · exact (show 13 < 15 by decide)
        refine ⟨_, _, Dp.lst (SqL.at ((t4.trans t5) _ _ eo2)) (hus.same (t4.trans t5)).dp, Dp.lst (SqL.at e5) (hh4.same t5).dp, shaped_tis, shaped_tis, _, rfl, ?_⟩
        refine ne_tis ?_
        have ab58 := ab55.same (t3.trans (t4.trans t5))
        have ek58 := (t3.trans (t4.trans t5)) _ _ ek55
        have S58 := S53.trans (t1.trans (t2.trans (t3.trans (t4.trans t5))))
        clear t1 t2 t3 t4 t5 e4 e5 eo2 hus hh4 hl4 hsz4 eD hrs ab53 ab55 S53 hlen2 eo hh
        -- done(carried, done(undone(b), c)) != ..
        refine ⟨_, rfl, _, rfl, pb, Bs, rfl, R ab58.b hB lB, fun o1 Ib4 H59 _ hIb4 e1 t1 => ⟨_, rfl, o1, pc, Ib4, Cs, rfl, R e1 (hIb4.row hB) (by rw [hIb4.1]; exact lB), .inl (SqL.at (ab58.same t1).c), by rw [hIb4.1]; omega, fun o2 H60 _ e2 t2 => ?_⟩⟩
        obtain rfl := hIb4.uniq hIb hB
        have ek60 := (t1.trans t2) _ _ ek58
        refine ⟨pk, o2, Ks, _, rfl, R ek60 hC1 lKm, .inl (SqL.at e2), by rw [pick_len]; omega, fun o3 H61 _ e3 t3 => ?_⟩
        have ab61 := ((ab58.same t1).same t2).same t3
        -- done(b, done(a, done(undone(b), done(undone(b), c))))
        refine ⟨_, rfl, _, rfl, _, rfl, pb, Bs, rfl, R ab61.b hB lB, fun o4 Ib5 H62 _ hIb5 e4 t4 => ⟨_, rfl, pb, Bs, rfl, R (ab61.same t4).b hB lB, fun o5 Ib6 H63 _ hIb6 e5 t5 => ?_⟩⟩
        obtain rfl := hIb5.uniq hIb hB
        obtain rfl := hIb6.uniq hIb hB
        have ab63 := (ab61.same t4).same t5
        refine ⟨_, rfl, o5, pc, _, Cs, rfl, R e5 hRb lRb, .inl (SqL.at ab63.c), by omega, fun o6 H64 _ e6 t6 => ?_⟩
        refine ⟨o4, o6, _, _, rfl, R ((t5.trans t6) _ _ e4) hRb lRb, .inl (SqL.at e6), by rw [pick_len], fun o7 H65 _ e7 t7 => ?_⟩
        refine ⟨pa, o7, As, _, rfl, R ((ab63.same t6).same t7).a hA lA, .inl (SqL.at e7), by rw [pick_len]; omega, fun o8 H66 _ e8 t8 => ?_⟩
        refine ⟨pb, o8, Bs, _, rfl, R (((ab63.same t6).same t7).same t8).b hB lB, .inl (SqL.at e8), by rw [pick_len]; omega, fun o9 H67 _ e9 t9 => ?_⟩
        have S6167 := t4.trans (t5.trans (t6.trans (t7.trans (t8.trans t9))))
        refine ⟨_, _, dp_ints (SqL.at (S6167 _ _ e3)), dp_ints (SqL.at e9), shaped_ints, shaped_ints, _, rfl, ?_⟩
        refine ne_false ?_ ?_
        · rw [← hcs, ← pick_pick (bnd hB lB hia.2), ← pick_pick (bnd hA lA lRb)]
        have hp67 := hp25.same (S58.trans (t1.trans (t2.trans (t3.trans S6167))))
        exact ⟨⟨_, _, _, _, _, _, _, _, _, _, _, _, _, rfl⟩, hp67.up (by omega)⟩
end


theorem all_mk {l : PySem.W.OpenLaw} {w : World} {K : PySem.W.Frag} {h : Heap} {mg : Str → Option Value} {fa : Addr} (X : K.In h) (G : h.Ns mainGlobals mg) (hfa : mg "law" = some (.ref fa))
    {f0 : Addr} {od0 an0 : Option Addr} {sl0 : Array (Option Value)} {oc0 kV0 dc0 pm0 cd0 ct0 : Value}
    {f1 : Addr} {od1 an1 : Option Addr} {sl1 : Array (Option Value)} {oc1 kV1 dc1 pm1 cd1 ct1 : Value}
    {f2 : Addr} {od2 an2 : Option Addr} {sl2 : Array (Option Value)} {oc2 kV2 dc2 pm2 cd2 ct2 : Value}
    {f3 : Addr} {od3 an3 : Option Addr} {sl3 : Array (Option Value)} {oc3 kV3 dc3 pm3 cd3 ct3 : Value}
    {f4 : Addr} {od4 an4 : Option Addr} {sl4 : Array (Option Value)} {oc4 kV4 dc4 pm4 cd4 ct4 : Value}
    {f5 : Addr} {od5 an5 : Option Addr} {sl5 : Array (Option Value)} {oc5 kV5 dc5 pm5 cd5 ct5 : Value}
    {f6 : Addr} {od6 an6 : Option Addr} {sl6 : Array (Option Value)} {oc6 kV6 dc6 pm6 cd6 ct6 : Value}
    {f7 : Addr} {od7 an7 : Option Addr} {sl7 : Array (Option Value)} {oc7 kV7 dc7 pm7 cd7 ct7 : Value}
    {f8 : Addr} {od8 an8 : Option Addr} {sl8 : Array (Option Value)} {oc8 kV8 dc8 pm8 cd8 ct8 : Value}
    {f9 : Addr} {od9 an9 : Option Addr} {sl9 : Array (Option Value)} {oc9 kV9 dc9 pm9 cd9 ct9 : Value}
    {f10 : Addr} {od10 an10 : Option Addr} {sl10 : Array (Option Value)} {oc10 kV10 dc10 pm10 cd10 ct10 : Value}
    {f11 : Addr} {od11 an11 : Option Addr} {sl11 : Array (Option Value)} {oc11 kV11 dc11 pm11 cd11 ct11 : Value}
    {f12 : Addr} {od12 an12 : Option Addr} {sl12 : Array (Option Value)} {oc12 kV12 dc12 pm12 cd12 ct12 : Value}
    {f13 : Addr} {od13 an13 : Option Addr} {sl13 : Array (Option Value)} {oc13 kV13 dc13 pm13 cd13 ct13 : Value}
    {f14 : Addr} {od14 an14 : Option Addr} {sl14 : Array (Option Value)} {oc14 kV14 dc14 pm14 cd14 ct14 : Value}
    {f15 : Addr} {od15 an15 : Option Addr} {sl15 : Array (Option Value)} {oc15 kV15 dc15 pm15 cd15 ct15 : Value}
    {f16 : Addr} {od16 an16 : Option Addr} {sl16 : Array (Option Value)} {oc16 kV16 dc16 pm16 cd16 ct16 : Value}
    {f17 : Addr} {od17 an17 : Option Addr} {sl17 : Array (Option Value)} {oc17 kV17 dc17 pm17 cd17 ct17 : Value}
    {f18 : Addr} {od18 an18 : Option Addr} {sl18 : Array (Option Value)} {oc18 kV18 dc18 pm18 cd18 ct18 : Value}
    {f19 : Addr} {od19 an19 : Option Addr} {sl19 : Array (Option Value)} {oc19 kV19 dc19 pm19 cd19 ct19 : Value}
    {f20 : Addr} {od20 an20 : Option Addr} {sl20 : Array (Option Value)} {oc20 kV20 dc20 pm20 cd20 ct20 : Value}
    {f21 : Addr} {od21 an21 : Option Addr} {sl21 : Array (Option Value)} {oc21 kV21 dc21 pm21 cd21 ct21 : Value}
    {f22 : Addr} {od22 an22 : Option Addr} {sl22 : Array (Option Value)} {oc22 kV22 dc22 pm22 cd22 ct22 : Value}
    {f23 : Addr} {od23 an23 : Option Addr} {sl23 : Array (Option Value)} {oc23 kV23 dc23 pm23 cd23 ct23 : Value}
    {f24 : Addr} {od24 an24 : Option Addr} {sl24 : Array (Option Value)} {oc24 kV24 dc24 pm24 cd24 ct24 : Value}
    {f25 : Addr} {od25 an25 : Option Addr} {sl25 : Array (Option Value)} {oc25 kV25 dc25 pm25 cd25 ct25 : Value}
    {f26 : Addr} {od26 an26 : Option Addr} {sl26 : Array (Option Value)} {oc26 kV26 dc26 pm26 cd26 ct26 : Value}
    {f27 : Addr} {od27 an27 : Option Addr} {sl27 : Array (Option Value)} {oc27 kV27 dc27 pm27 cd27 ct27 : Value}
    {C_EveryError : Addr}
    {C_BadSize : Addr}
    {C_BadNumber : Addr}
    {C_BadRow : Addr}
    {t_MOST_PLACES : Tok}
    (c_EveryError : PySem.W.nsIn K mainGlobals "EveryError" = some (some (.ref C_EveryError)))
    (c_BadSize : PySem.W.nsIn K mainGlobals "BadSize" = some (some (.ref C_BadSize)))
    (c_BadNumber : PySem.W.nsIn K mainGlobals "BadNumber" = some (some (.ref C_BadNumber)))
    (c_BadRow : PySem.W.nsIn K mainGlobals "BadRow" = some (some (.ref C_BadRow)))
    (a0 : PySem.W.nsIn K mainGlobals "is_integer" = some (some (.ref f0)))
    (l0 : K.lookup f0 = some ⟨oc0, od0, .func (PySem.W.fnOf "is_integer" "is_integer" (defArgs s_is_integer) (defBody s_is_integer) (defScope s_is_integer) .none kV0 dc0 pm0 an0 cd0 ct0), sl0⟩)
    (e0 : PySem.W.codeIn K cd0 "is_integer" = true)
    (k0 : PySem.W.keepIn K (.ref f0) = true)
    (a1 : PySem.W.nsIn K mainGlobals "is_between" = some (some (.ref f1)))
    (l1 : K.lookup f1 = some ⟨oc1, od1, .func (PySem.W.fnOf "is_between" "is_between" (defArgs s_is_between) (defBody s_is_between) (defScope s_is_between) .none kV1 dc1 pm1 an1 cd1 ct1), sl1⟩)
    (e1 : PySem.W.codeIn K cd1 "is_between" = true)
    (k1 : PySem.W.keepIn K (.ref f1) = true)
    (a2 : PySem.W.nsIn K mainGlobals "first_wrong" = some (some (.ref f2)))
    (l2 : K.lookup f2 = some ⟨oc2, od2, .func (PySem.W.fnOf "first_wrong" "first_wrong" (defArgs s_first_wrong) (defBody s_first_wrong) (defScope s_first_wrong) .none kV2 dc2 pm2 an2 cd2 ct2), sl2⟩)
    (e2 : PySem.W.codeIn K cd2 "first_wrong" = true)
    (k2 : PySem.W.keepIn K (.ref f2) = true)
    (a3 : PySem.W.findIn K (.ref C_BadSize) "__init__" = some (some (.ref f3)))
    (l3 : K.lookup f3 = some ⟨oc3, od3, .func (PySem.W.fnOf "__init__" "BadSize.__init__" (defArgs s_BadSize_init) (defBody s_BadSize_init) (defScope s_BadSize_init) .none kV3 dc3 pm3 an3 cd3 ct3), sl3⟩)
    (e3 : PySem.W.codeIn K cd3 "BadSize.__init__" = true)
    (k3 : PySem.W.keepIn K (.ref f3) = true)
    (a4 : PySem.W.findIn K (.ref C_BadNumber) "__init__" = some (some (.ref f4)))
    (l4 : K.lookup f4 = some ⟨oc4, od4, .func (PySem.W.fnOf "__init__" "BadNumber.__init__" (defArgs s_BadNumber_init) (defBody s_BadNumber_init) (defScope s_BadNumber_init) .none kV4 dc4 pm4 an4 cd4 ct4), sl4⟩)
    (e4 : PySem.W.codeIn K cd4 "BadNumber.__init__" = true)
    (k4 : PySem.W.keepIn K (.ref f4) = true)
    (a5 : PySem.W.findIn K (.ref C_BadRow) "__init__" = some (some (.ref f5)))
    (l5 : K.lookup f5 = some ⟨oc5, od5, .func (PySem.W.fnOf "__init__" "BadRow.__init__" (defArgs s_BadRow_init) (defBody s_BadRow_init) (defScope s_BadRow_init) .none kV5 dc5 pm5 an5 cd5 ct5), sl5⟩)
    (e5 : PySem.W.codeIn K cd5 "BadRow.__init__" = true)
    (k5 : PySem.W.keepIn K (.ref f5) = true)
    (a6 : PySem.W.nsIn K mainGlobals "check_row" = some (some (.ref f6)))
    (l6 : K.lookup f6 = some ⟨oc6, od6, .func (PySem.W.fnOf "check_row" "check_row" (defArgs s_check_row) (defBody s_check_row) (defScope s_check_row) .none kV6 dc6 pm6 an6 cd6 ct6), sl6⟩)
    (e6 : PySem.W.codeIn K cd6 "check_row" = true)
    (k6 : PySem.W.keepIn K (.ref f6) = true)
    (a7 : PySem.W.nsIn K mainGlobals "nothing" = some (some (.ref f7)))
    (l7 : K.lookup f7 = some ⟨oc7, od7, .func (PySem.W.fnOf "nothing" "nothing" (defArgs s_nothing) (defBody s_nothing) (defScope s_nothing) .none kV7 dc7 pm7 an7 cd7 ct7), sl7⟩)
    (e7 : PySem.W.codeIn K cd7 "nothing" = true)
    (k7 : PySem.W.keepIn K (.ref f7) = true)
    (a8 : PySem.W.nsIn K mainGlobals "joined" = some (some (.ref f8)))
    (l8 : K.lookup f8 = some ⟨oc8, od8, .func (PySem.W.fnOf "joined" "joined" (defArgs s_joined) (defBody s_joined) (defScope s_joined) .none kV8 dc8 pm8 an8 cd8 ct8), sl8⟩)
    (e8 : PySem.W.codeIn K cd8 "joined" = true)
    (k8 : PySem.W.keepIn K (.ref f8) = true)
    (a9 : PySem.W.nsIn K mainGlobals "in_turn" = some (some (.ref f9)))
    (l9 : K.lookup f9 = some ⟨oc9, od9, .func (PySem.W.fnOf "in_turn" "in_turn" (defArgs s_in_turn) (defBody s_in_turn) (defScope s_in_turn) .none kV9 dc9 pm9 an9 cd9 ct9), sl9⟩)
    (e9 : PySem.W.codeIn K cd9 "in_turn" = true)
    (k9 : PySem.W.keepIn K (.ref f9) = true)
    (a10 : PySem.W.nsIn K mainGlobals "undone" = some (some (.ref f10)))
    (l10 : K.lookup f10 = some ⟨oc10, od10, .func (PySem.W.fnOf "undone" "undone" (defArgs s_undone) (defBody s_undone) (defScope s_undone) .none kV10 dc10 pm10 an10 cd10 ct10), sl10⟩)
    (e10 : PySem.W.codeIn K cd10 "undone" = true)
    (k10 : PySem.W.keepIn K (.ref f10) = true)
    (a11 : PySem.W.nsIn K mainGlobals "back_from" = some (some (.ref f11)))
    (l11 : K.lookup f11 = some ⟨oc11, od11, .func (PySem.W.fnOf "back_from" "back_from" (defArgs s_back_from) (defBody s_back_from) (defScope s_back_from) .none kV11 dc11 pm11 an11 cd11 ct11), sl11⟩)
    (e11 : PySem.W.codeIn K cd11 "back_from" = true)
    (k11 : PySem.W.keepIn K (.ref f11) = true)
    (a12 : PySem.W.nsIn K mainGlobals "done" = some (some (.ref f12)))
    (l12 : K.lookup f12 = some ⟨oc12, od12, .func (PySem.W.fnOf "done" "done" (defArgs s_done) (defBody s_done) (defScope s_done) .none kV12 dc12 pm12 an12 cd12 ct12), sl12⟩)
    (e12 : PySem.W.codeIn K cd12 "done" = true)
    (k12 : PySem.W.keepIn K (.ref f12) = true)
    (a13 : PySem.W.nsIn K mainGlobals "repeated" = some (some (.ref f13)))
    (l13 : K.lookup f13 = some ⟨oc13, od13, .func (PySem.W.fnOf "repeated" "repeated" (defArgs s_repeated) (defBody s_repeated) (defScope s_repeated) .none kV13 dc13 pm13 an13 cd13 ct13), sl13⟩)
    (e13 : PySem.W.codeIn K cd13 "repeated" = true)
    (k13 : PySem.W.keepIn K (.ref f13) = true)
    (a14 : PySem.W.nsIn K mainGlobals "seats_of" = some (some (.ref f14)))
    (l14 : K.lookup f14 = some ⟨oc14, od14, .func (PySem.W.fnOf "seats_of" "seats_of" (defArgs s_seats_of) (defBody s_seats_of) (defScope s_seats_of) .none kV14 dc14 pm14 an14 cd14 ct14), sl14⟩)
    (e14 : PySem.W.codeIn K cd14 "seats_of" = true)
    (k14 : PySem.W.keepIn K (.ref f14) = true)
    (a15 : PySem.W.nsIn K mainGlobals "led" = some (some (.ref f15)))
    (l15 : K.lookup f15 = some ⟨oc15, od15, .func (PySem.W.fnOf "led" "led" (defArgs s_led) (defBody s_led) (defScope s_led) .none kV15 dc15 pm15 an15 cd15 ct15), sl15⟩)
    (e15 : PySem.W.codeIn K cd15 "led" = true)
    (k15 : PySem.W.keepIn K (.ref f15) = true)
    (a16 : PySem.W.nsIn K mainGlobals "rings" = some (some (.ref f16)))
    (l16 : K.lookup f16 = some ⟨oc16, od16, .func (PySem.W.fnOf "rings" "rings" (defArgs s_rings) (defBody s_rings) (defScope s_rings) .none kV16 dc16 pm16 an16 cd16 ct16), sl16⟩)
    (e16 : PySem.W.codeIn K cd16 "rings" = true)
    (k16 : PySem.W.keepIn K (.ref f16) = true)
    (a17 : PySem.W.nsIn K mainGlobals "rings_in" = some (some (.ref f17)))
    (l17 : K.lookup f17 = some ⟨oc17, od17, .func (PySem.W.fnOf "rings_in" "rings_in" (defArgs s_rings_in) (defBody s_rings_in) (defScope s_rings_in) .none kV17 dc17 pm17 an17 cd17 ct17), sl17⟩)
    (e17 : PySem.W.codeIn K cd17 "rings_in" = true)
    (k17 : PySem.W.keepIn K (.ref f17) = true)
    (a18 : PySem.W.nsIn K mainGlobals "ring_from" = some (some (.ref f18)))
    (l18 : K.lookup f18 = some ⟨oc18, od18, .func (PySem.W.fnOf "ring_from" "ring_from" (defArgs s_ring_from) (defBody s_ring_from) (defScope s_ring_from) .none kV18 dc18 pm18 an18 cd18 ct18), sl18⟩)
    (e18 : PySem.W.codeIn K cd18 "ring_from" = true)
    (k18 : PySem.W.keepIn K (.ref f18) = true)
    (a19 : PySem.W.nsIn K mainGlobals "is_even" = some (some (.ref f19)))
    (l19 : K.lookup f19 = some ⟨oc19, od19, .func (PySem.W.fnOf "is_even" "is_even" (defArgs s_is_even) (defBody s_is_even) (defScope s_is_even) .none kV19 dc19 pm19 an19 cd19 ct19), sl19⟩)
    (e19 : PySem.W.codeIn K cd19 "is_even" = true)
    (k19 : PySem.W.keepIn K (.ref f19) = true)
    (a20 : PySem.W.nsIn K mainGlobals "_law_pen" = some (some (.ref f20)))
    (l20 : K.lookup f20 = some ⟨oc20, od20, .func (PySem.W.fnOf "_law_pen" "_law_pen" (defArgs s__law_pen) (defBody s__law_pen) (defScope s__law_pen) .none kV20 dc20 pm20 an20 cd20 ct20), sl20⟩)
    (e20 : PySem.W.codeIn K cd20 "_law_pen" = true)
    (k20 : PySem.W.keepIn K (.ref f20) = true)
    (a21 : PySem.W.nsIn K mainGlobals "_law_draw" = some (some (.ref f21)))
    (l21 : K.lookup f21 = some ⟨oc21, od21, .func (PySem.W.fnOf "_law_draw" "_law_draw" (defArgs s__law_draw) (defBody s__law_draw) (defScope s__law_draw) .none kV21 dc21 pm21 an21 cd21 ct21), sl21⟩)
    (e21 : PySem.W.codeIn K cd21 "_law_draw" = true)
    (k21 : PySem.W.keepIn K (.ref f21) = true)
    (a22 : PySem.W.nsIn K mainGlobals "_law_pick" = some (some (.ref f22)))
    (l22 : K.lookup f22 = some ⟨oc22, od22, .func (PySem.W.fnOf "_law_pick" "_law_pick" (defArgs s__law_pick) (defBody s__law_pick) (defScope s__law_pick) .none kV22 dc22 pm22 an22 cd22 ct22), sl22⟩)
    (e22 : PySem.W.codeIn K cd22 "_law_pick" = true)
    (k22 : PySem.W.keepIn K (.ref f22) = true)
    (a23 : PySem.W.nsIn K mainGlobals "_law_shuffled" = some (some (.ref f23)))
    (l23 : K.lookup f23 = some ⟨oc23, od23, .func (PySem.W.fnOf "_law_shuffled" "_law_shuffled" (defArgs s__law_shuffled) (defBody s__law_shuffled) (defScope s__law_shuffled) .none kV23 dc23 pm23 an23 cd23 ct23), sl23⟩)
    (e23 : PySem.W.codeIn K cd23 "_law_shuffled" = true)
    (k23 : PySem.W.keepIn K (.ref f23) = true)
    (a24 : PySem.W.nsIn K mainGlobals "_law_row" = some (some (.ref f24)))
    (l24 : K.lookup f24 = some ⟨oc24, od24, .func (PySem.W.fnOf "_law_row" "_law_row" (defArgs s__law_row) (defBody s__law_row) (defScope s__law_row) .none kV24 dc24 pm24 an24 cd24 ct24), sl24⟩)
    (e24 : PySem.W.codeIn K cd24 "_law_row" = true)
    (k24 : PySem.W.keepIn K (.ref f24) = true)
    (a25 : PySem.W.nsIn K mainGlobals "_law_least_first" = some (some (.ref f25)))
    (l25 : K.lookup f25 = some ⟨oc25, od25, .func (PySem.W.fnOf "_law_least_first" "_law_least_first" (defArgs s__law_least_first) (defBody s__law_least_first) (defScope s__law_least_first) .none kV25 dc25 pm25 an25 cd25 ct25), sl25⟩)
    (e25 : PySem.W.codeIn K cd25 "_law_least_first" = true)
    (k25 : PySem.W.keepIn K (.ref f25) = true)
    (a26 : PySem.W.nsIn K mainGlobals "_law_sorted_rings" = some (some (.ref f26)))
    (l26 : K.lookup f26 = some ⟨oc26, od26, .func (PySem.W.fnOf "_law_sorted_rings" "_law_sorted_rings" (defArgs s__law_sorted_rings) (defBody s__law_sorted_rings) (defScope s__law_sorted_rings) .none kV26 dc26 pm26 an26 cd26 ct26), sl26⟩)
    (e26 : PySem.W.codeIn K cd26 "_law_sorted_rings" = true)
    (k26 : PySem.W.keepIn K (.ref f26) = true)
    (a27 : PySem.W.nsIn K mainGlobals "law" = some (some (.ref f27)))
    (l27 : K.lookup f27 = some ⟨oc27, od27, .func (PySem.W.fnOf "law" "law" (defArgs s_law) (defBody s_law) (defScope s_law) .none kV27 dc27 pm27 an27 cd27 ct27), sl27⟩)
    (e27 : PySem.W.codeIn K cd27 "law" = true)
    (k27 : PySem.W.keepIn K (.ref f27) = true)
    (z_bool : PySem.W.nsIn K mainGlobals "bool" = some none)
    (z_enumerate : PySem.W.nsIn K mainGlobals "enumerate" = some none)
    (z_int : PySem.W.nsIn K mainGlobals "int" = some none)
    (z_isinstance : PySem.W.nsIn K mainGlobals "isinstance" = some none)
    (z_len : PySem.W.nsIn K mainGlobals "len" = some none)
    (z_list : PySem.W.nsIn K mainGlobals "list" = some none)
    (z_min : PySem.W.nsIn K mainGlobals "min" = some none)
    (z_range : PySem.W.nsIn K mainGlobals "range" = some none)
    (z_sorted : PySem.W.nsIn K mainGlobals "sorted" = some none)
    (z_tuple : PySem.W.nsIn K mainGlobals "tuple" = some none)
    (m_MOST_PLACES : PySem.W.nsIn K mainGlobals "MOST_PLACES" = some (some (.int 1000 t_MOST_PLACES)))
    : ∃ fd : FuncData, (∀ (s : Shared) (v : Value), BindsTo s fd ⟨[v], []⟩ [("script", v)]) ∧ ∀ base : Heap, K.In base → base.Ns mainGlobals mg → FnOk l.prog w K mg base CX0 7 fa fd ["script"] (spLaw K) := by
  have e := hfa.symm.trans (PySem.W.mg_of X G a27)
  cases e
  let a : Ad := ⟨f0, PySem.W.fnOf "is_integer" "is_integer" (defArgs s_is_integer) (defBody s_is_integer) (defScope s_is_integer) .none kV0 dc0 pm0 an0 cd0 ct0, f1, PySem.W.fnOf "is_between" "is_between" (defArgs s_is_between) (defBody s_is_between) (defScope s_is_between) .none kV1 dc1 pm1 an1 cd1 ct1, f2, PySem.W.fnOf "first_wrong" "first_wrong" (defArgs s_first_wrong) (defBody s_first_wrong) (defScope s_first_wrong) .none kV2 dc2 pm2 an2 cd2 ct2, f3, PySem.W.fnOf "__init__" "BadSize.__init__" (defArgs s_BadSize_init) (defBody s_BadSize_init) (defScope s_BadSize_init) .none kV3 dc3 pm3 an3 cd3 ct3, f4, PySem.W.fnOf "__init__" "BadNumber.__init__" (defArgs s_BadNumber_init) (defBody s_BadNumber_init) (defScope s_BadNumber_init) .none kV4 dc4 pm4 an4 cd4 ct4, f5, PySem.W.fnOf "__init__" "BadRow.__init__" (defArgs s_BadRow_init) (defBody s_BadRow_init) (defScope s_BadRow_init) .none kV5 dc5 pm5 an5 cd5 ct5, f6, PySem.W.fnOf "check_row" "check_row" (defArgs s_check_row) (defBody s_check_row) (defScope s_check_row) .none kV6 dc6 pm6 an6 cd6 ct6, f7, PySem.W.fnOf "nothing" "nothing" (defArgs s_nothing) (defBody s_nothing) (defScope s_nothing) .none kV7 dc7 pm7 an7 cd7 ct7, f8, PySem.W.fnOf "joined" "joined" (defArgs s_joined) (defBody s_joined) (defScope s_joined) .none kV8 dc8 pm8 an8 cd8 ct8, f9, PySem.W.fnOf "in_turn" "in_turn" (defArgs s_in_turn) (defBody s_in_turn) (defScope s_in_turn) .none kV9 dc9 pm9 an9 cd9 ct9, f10, PySem.W.fnOf "undone" "undone" (defArgs s_undone) (defBody s_undone) (defScope s_undone) .none kV10 dc10 pm10 an10 cd10 ct10, f11, PySem.W.fnOf "back_from" "back_from" (defArgs s_back_from) (defBody s_back_from) (defScope s_back_from) .none kV11 dc11 pm11 an11 cd11 ct11, f12, PySem.W.fnOf "done" "done" (defArgs s_done) (defBody s_done) (defScope s_done) .none kV12 dc12 pm12 an12 cd12 ct12, f13, PySem.W.fnOf "repeated" "repeated" (defArgs s_repeated) (defBody s_repeated) (defScope s_repeated) .none kV13 dc13 pm13 an13 cd13 ct13, f14, PySem.W.fnOf "seats_of" "seats_of" (defArgs s_seats_of) (defBody s_seats_of) (defScope s_seats_of) .none kV14 dc14 pm14 an14 cd14 ct14, f15, PySem.W.fnOf "led" "led" (defArgs s_led) (defBody s_led) (defScope s_led) .none kV15 dc15 pm15 an15 cd15 ct15, f16, PySem.W.fnOf "rings" "rings" (defArgs s_rings) (defBody s_rings) (defScope s_rings) .none kV16 dc16 pm16 an16 cd16 ct16, f17, PySem.W.fnOf "rings_in" "rings_in" (defArgs s_rings_in) (defBody s_rings_in) (defScope s_rings_in) .none kV17 dc17 pm17 an17 cd17 ct17, f18, PySem.W.fnOf "ring_from" "ring_from" (defArgs s_ring_from) (defBody s_ring_from) (defScope s_ring_from) .none kV18 dc18 pm18 an18 cd18 ct18, f19, PySem.W.fnOf "is_even" "is_even" (defArgs s_is_even) (defBody s_is_even) (defScope s_is_even) .none kV19 dc19 pm19 an19 cd19 ct19, f20, PySem.W.fnOf "_law_pen" "_law_pen" (defArgs s__law_pen) (defBody s__law_pen) (defScope s__law_pen) .none kV20 dc20 pm20 an20 cd20 ct20, f21, PySem.W.fnOf "_law_draw" "_law_draw" (defArgs s__law_draw) (defBody s__law_draw) (defScope s__law_draw) .none kV21 dc21 pm21 an21 cd21 ct21, f22, PySem.W.fnOf "_law_pick" "_law_pick" (defArgs s__law_pick) (defBody s__law_pick) (defScope s__law_pick) .none kV22 dc22 pm22 an22 cd22 ct22, f23, PySem.W.fnOf "_law_shuffled" "_law_shuffled" (defArgs s__law_shuffled) (defBody s__law_shuffled) (defScope s__law_shuffled) .none kV23 dc23 pm23 an23 cd23 ct23, f24, PySem.W.fnOf "_law_row" "_law_row" (defArgs s__law_row) (defBody s__law_row) (defScope s__law_row) .none kV24 dc24 pm24 an24 cd24 ct24, f25, PySem.W.fnOf "_law_least_first" "_law_least_first" (defArgs s__law_least_first) (defBody s__law_least_first) (defScope s__law_least_first) .none kV25 dc25 pm25 an25 cd25 ct25, f26, PySem.W.fnOf "_law_sorted_rings" "_law_sorted_rings" (defArgs s__law_sorted_rings) (defBody s__law_sorted_rings) (defScope s__law_sorted_rings) .none kV26 dc26 pm26 an26 cd26 ct26, fa, PySem.W.fnOf "law" "law" (defArgs s_law) (defBody s_law) (defScope s_law) .none kV27 dc27 pm27 an27 cd27 ct27, C_EveryError, C_BadSize, C_BadNumber, C_BadRow⟩
  have F0 : Fun K "is_integer" "is_integer" s_is_integer a.f_is_integer a.d_is_integer := fun_mk (st := s_is_integer) l0 e0 k0
  have F1 : Fun K "is_between" "is_between" s_is_between a.f_is_between a.d_is_between := fun_mk (st := s_is_between) l1 e1 k1
  have F2 : Fun K "first_wrong" "first_wrong" s_first_wrong a.f_first_wrong a.d_first_wrong := fun_mk (st := s_first_wrong) l2 e2 k2
  have F3 : Fun K "__init__" "BadSize.__init__" s_BadSize_init a.f_BadSize_init a.d_BadSize_init := fun_mk (st := s_BadSize_init) l3 e3 k3
  have F4 : Fun K "__init__" "BadNumber.__init__" s_BadNumber_init a.f_BadNumber_init a.d_BadNumber_init := fun_mk (st := s_BadNumber_init) l4 e4 k4
  have F5 : Fun K "__init__" "BadRow.__init__" s_BadRow_init a.f_BadRow_init a.d_BadRow_init := fun_mk (st := s_BadRow_init) l5 e5 k5
  have F6 : Fun K "check_row" "check_row" s_check_row a.f_check_row a.d_check_row := fun_mk (st := s_check_row) l6 e6 k6
  have F7 : Fun K "nothing" "nothing" s_nothing a.f_nothing a.d_nothing := fun_mk (st := s_nothing) l7 e7 k7
  have F8 : Fun K "joined" "joined" s_joined a.f_joined a.d_joined := fun_mk (st := s_joined) l8 e8 k8
  have F9 : Fun K "in_turn" "in_turn" s_in_turn a.f_in_turn a.d_in_turn := fun_mk (st := s_in_turn) l9 e9 k9
  have F10 : Fun K "undone" "undone" s_undone a.f_undone a.d_undone := fun_mk (st := s_undone) l10 e10 k10
  have F11 : Fun K "back_from" "back_from" s_back_from a.f_back_from a.d_back_from := fun_mk (st := s_back_from) l11 e11 k11
  have F12 : Fun K "done" "done" s_done a.f_done a.d_done := fun_mk (st := s_done) l12 e12 k12
  have F13 : Fun K "repeated" "repeated" s_repeated a.f_repeated a.d_repeated := fun_mk (st := s_repeated) l13 e13 k13
  have F14 : Fun K "seats_of" "seats_of" s_seats_of a.f_seats_of a.d_seats_of := fun_mk (st := s_seats_of) l14 e14 k14
  have F15 : Fun K "led" "led" s_led a.f_led a.d_led := fun_mk (st := s_led) l15 e15 k15
  have F16 : Fun K "rings" "rings" s_rings a.f_rings a.d_rings := fun_mk (st := s_rings) l16 e16 k16
  have F17 : Fun K "rings_in" "rings_in" s_rings_in a.f_rings_in a.d_rings_in := fun_mk (st := s_rings_in) l17 e17 k17
  have F18 : Fun K "ring_from" "ring_from" s_ring_from a.f_ring_from a.d_ring_from := fun_mk (st := s_ring_from) l18 e18 k18
  have F19 : Fun K "is_even" "is_even" s_is_even a.f_is_even a.d_is_even := fun_mk (st := s_is_even) l19 e19 k19
  have F20 : Fun K "_law_pen" "_law_pen" s__law_pen a.f__law_pen a.d__law_pen := fun_mk (st := s__law_pen) l20 e20 k20
  have F21 : Fun K "_law_draw" "_law_draw" s__law_draw a.f__law_draw a.d__law_draw := fun_mk (st := s__law_draw) l21 e21 k21
  have F22 : Fun K "_law_pick" "_law_pick" s__law_pick a.f__law_pick a.d__law_pick := fun_mk (st := s__law_pick) l22 e22 k22
  have F23 : Fun K "_law_shuffled" "_law_shuffled" s__law_shuffled a.f__law_shuffled a.d__law_shuffled := fun_mk (st := s__law_shuffled) l23 e23 k23
  have F24 : Fun K "_law_row" "_law_row" s__law_row a.f__law_row a.d__law_row := fun_mk (st := s__law_row) l24 e24 k24
  have F25 : Fun K "_law_least_first" "_law_least_first" s__law_least_first a.f__law_least_first a.d__law_least_first := fun_mk (st := s__law_least_first) l25 e25 k25
  have F26 : Fun K "_law_sorted_rings" "_law_sorted_rings" s__law_sorted_rings a.f__law_sorted_rings a.d__law_sorted_rings := fun_mk (st := s__law_sorted_rings) l26 e26 k26
  have F27 : Fun K "law" "law" s_law a.f_law a.d_law := fun_mk (st := s_law) l27 e27 k27
  have T : Tx w K mg a := ⟨(F0),
    (F0.binds (ps := ["value"]) fun _ _ _ _ _ _ us hl => match us, hl with | [_], _ => rfl),
    (PySem.W.mg_of X G a0),
    (F1),
    (F1.binds (ps := ["value", "low", "high"]) fun _ _ _ _ _ _ us hl => match us, hl with | [_, _, _], _ => rfl),
    (PySem.W.mg_of X G a1),
    (F2),
    (F2.binds (ps := ["row", "size"]) fun _ _ _ _ _ _ us hl => match us, hl with | [_, _], _ => rfl),
    (PySem.W.mg_of X G a2),
    (F3),
    (F3.binds (ps := ["self", "size"]) fun _ _ _ _ _ _ us hl => match us, hl with | [_, _], _ => rfl),
    (F4),
    (F4.binds (ps := ["self", "number"]) fun _ _ _ _ _ _ us hl => match us, hl with | [_, _], _ => rfl),
    (F5),
    (F5.binds (ps := ["self", "index"]) fun _ _ _ _ _ _ us hl => match us, hl with | [_, _], _ => rfl),
    (F6),
    (F6.binds (ps := ["row"]) fun _ _ _ _ _ _ us hl => match us, hl with | [_], _ => rfl),
    (PySem.W.mg_of X G a6),
    (F7),
    (F7.binds (ps := ["size"]) fun _ _ _ _ _ _ us hl => match us, hl with | [_], _ => rfl),
    (PySem.W.mg_of X G a7),
    (F8),
    (F8.binds (ps := ["first", "second"]) fun _ _ _ _ _ _ us hl => match us, hl with | [_, _], _ => rfl),
    (PySem.W.mg_of X G a8),
    (F9),
    (F9.binds (ps := ["first", "second"]) fun _ _ _ _ _ _ us hl => match us, hl with | [_, _], _ => rfl),
    (PySem.W.mg_of X G a9),
    (F10),
    (F10.binds (ps := ["row"]) fun _ _ _ _ _ _ us hl => match us, hl with | [_], _ => rfl),
    (PySem.W.mg_of X G a10),
    (F11),
    (F11.binds (ps := ["row"]) fun _ _ _ _ _ _ us hl => match us, hl with | [_], _ => rfl),
    (PySem.W.mg_of X G a11),
    (F12),
    (F12.binds (ps := ["row", "things"]) fun _ _ _ _ _ _ us hl => match us, hl with | [_, _], _ => rfl),
    (PySem.W.mg_of X G a12),
    (F13),
    (F13.binds (ps := ["row", "many"]) fun _ _ _ _ _ _ us hl => match us, hl with | [_, _], _ => rfl),
    (PySem.W.mg_of X G a13),
    (F14),
    (F14.binds (ps := ["row"]) fun _ _ _ _ _ _ us hl => match us, hl with | [_], _ => rfl),
    (PySem.W.mg_of X G a14),
    (F15),
    (F15.binds (ps := ["seats", "place", "many"]) fun _ _ _ _ _ _ us hl => match us, hl with | [_, _, _], _ => rfl),
    (PySem.W.mg_of X G a15),
    (F16),
    (F16.binds (ps := ["row"]) fun _ _ _ _ _ _ us hl => match us, hl with | [_], _ => rfl),
    (PySem.W.mg_of X G a16),
    (F17),
    (F17.binds (ps := ["row"]) fun _ _ _ _ _ _ us hl => match us, hl with | [_], _ => rfl),
    (PySem.W.mg_of X G a17),
    (F18),
    (F18.binds (ps := ["row", "start"]) fun _ _ _ _ _ _ us hl => match us, hl with | [_, _], _ => rfl),
    (PySem.W.mg_of X G a18),
    (F19),
    (F19.binds (ps := ["row"]) fun _ _ _ _ _ _ us hl => match us, hl with | [_], _ => rfl),
    (PySem.W.mg_of X G a19),
    (F20),
    (F20.binds (ps := ["script"]) fun _ _ _ _ _ _ us hl => match us, hl with | [_], _ => rfl),
    (PySem.W.mg_of X G a20),
    (F21),
    (F21.binds (ps := ["pen", "many"]) fun _ _ _ _ _ _ us hl => match us, hl with | [_, _], _ => rfl),
    (PySem.W.mg_of X G a21),
    (F22),
    (F22.binds (ps := ["pen", "some"]) fun _ _ _ _ _ _ us hl => match us, hl with | [_, _], _ => rfl),
    (PySem.W.mg_of X G a22),
    (F23),
    (F23.binds (ps := ["pen", "some"]) fun _ _ _ _ _ _ us hl => match us, hl with | [_, _], _ => rfl),
    (PySem.W.mg_of X G a23),
    (F24),
    (F24.binds (ps := ["pen", "size"]) fun _ _ _ _ _ _ us hl => match us, hl with | [_, _], _ => rfl),
    (PySem.W.mg_of X G a24),
    (F25),
    (F25.binds (ps := ["ring"]) fun _ _ _ _ _ _ us hl => match us, hl with | [_], _ => rfl),
    (PySem.W.mg_of X G a25),
    (F26),
    (F26.binds (ps := ["some"]) fun _ _ _ _ _ _ us hl => match us, hl with | [_], _ => rfl),
    (PySem.W.mg_of X G a26),
    (F27),
    (F27.binds (ps := ["script"]) fun _ _ _ _ _ _ us hl => match us, hl with | [_], _ => rfl),
    (PySem.W.mg_of X G a27),
    (PySem.W.mg_of X G c_EveryError),
    (PySem.W.mg_of X G c_BadSize),
    (PySem.W.mg_of X G c_BadNumber),
    (PySem.W.mg_of X G c_BadRow),
    (PySem.W.mg_none_of X G z_bool),
    (PySem.W.mg_none_of X G z_enumerate),
    (PySem.W.mg_none_of X G z_int),
    (PySem.W.mg_none_of X G z_isinstance),
    (PySem.W.mg_none_of X G z_len),
    (PySem.W.mg_none_of X G z_list),
    (PySem.W.mg_none_of X G z_min),
    (PySem.W.mg_none_of X G z_range),
    (PySem.W.mg_none_of X G z_sorted),
    (PySem.W.mg_none_of X G z_tuple),
    (⟨_, PySem.W.mg_of X G m_MOST_PLACES⟩)⟩
  exact ⟨a.d_law, fun s v => .of_eq rfl, fun base _ _ => ok_law T⟩
end Pf03
open PySem PySem.W PyProof.Rows
set_option maxRecDepth 100000 in
set_option maxHeartbeats 0 in
theorem PySem.Challenge.cw_everyorder_k03_whole_rules_of_rearrangem_holds : PySem.Challenge.rw_everyorder_k03_whole_rules_of_rearrangem.Holds := by
  w_on; o_law; k_head; (case hw => w_witness2)
  k_fill
  refine L2.walk_of (l := PySem.Challenge.rw_everyorder_k03_whole_rules_of_rearrangem) (n := 63) (k := 7) (x := "script") (CX := fun _ => L2.CX0) (sp := fun w => Pf03.spLaw _) rfl (by decide) rfl ⟨rfl, by decide, by decide⟩ (fun w h Y => PySem.W.kIn_of Y) ?F (fun _ _ a ns hl _ hS => ⟨a, ns, rfl, hS, hl, fun _ => rfl⟩) (fun _ _ _ _ _ h => h)
  case F =>
    intro w mg fa h KX G hmg
    refine' Pf03.all_mk KX G hmg ?c_EveryError ?c_BadSize ?c_BadNumber ?c_BadRow ?a0 ?l0 ?e0 ?k0 ?a1 ?l1 ?e1 ?k1 ?a2 ?l2 ?e2 ?k2 ?a3 ?l3 ?e3 ?k3 ?a4 ?l4 ?e4 ?k4 ?a5 ?l5 ?e5 ?k5 ?a6 ?l6 ?e6 ?k6 ?a7 ?l7 ?e7 ?k7 ?a8 ?l8 ?e8 ?k8 ?a9 ?l9 ?e9 ?k9 ?a10 ?l10 ?e10 ?k10 ?a11 ?l11 ?e11 ?k11 ?a12 ?l12 ?e12 ?k12 ?a13 ?l13 ?e13 ?k13 ?a14 ?l14 ?e14 ?k14 ?a15 ?l15 ?e15 ?k15 ?a16 ?l16 ?e16 ?k16 ?a17 ?l17 ?e17 ?k17 ?a18 ?l18 ?e18 ?k18 ?a19 ?l19 ?e19 ?k19 ?a20 ?l20 ?e20 ?k20 ?a21 ?l21 ?e21 ?k21 ?a22 ?l22 ?e22 ?k22 ?a23 ?l23 ?e23 ?k23 ?a24 ?l24 ?e24 ?k24 ?a25 ?l25 ?e25 ?k25 ?a26 ?l26 ?e26 ?k26 ?a27 ?l27 ?e27 ?k27 ?z_bool ?z_enumerate ?z_int ?z_isinstance ?z_len ?z_list ?z_min ?z_range ?z_sorted ?z_tuple ?m_MOST_PLACES
    (case c_EveryError => k_is)
    (case c_BadSize => k_is)
    (case c_BadNumber => k_is)
    (case c_BadRow => k_is)
    (case a0 => k_is)
    (case l0 => k_is)
    (case e0 => k_is)
    (case k0 => k_is)
    (case a1 => k_is)
    (case l1 => k_is)
    (case e1 => k_is)
    (case k1 => k_is)
    (case a2 => k_is)
    (case l2 => k_is)
    (case e2 => k_is)
    (case k2 => k_is)
    (case a3 => k_is)
    (case l3 => k_is)
    (case e3 => k_is)
    (case k3 => k_is)
    (case a4 => k_is)
    (case l4 => k_is)
    (case e4 => k_is)
    (case k4 => k_is)
    (case a5 => k_is)
    (case l5 => k_is)
    (case e5 => k_is)
    (case k5 => k_is)
    (case a6 => k_is)
    (case l6 => k_is)
    (case e6 => k_is)
    (case k6 => k_is)
    (case a7 => k_is)
    (case l7 => k_is)
    (case e7 => k_is)
    (case k7 => k_is)
    (case a8 => k_is)
    (case l8 => k_is)
    (case e8 => k_is)
    (case k8 => k_is)
    (case a9 => k_is)
    (case l9 => k_is)
    (case e9 => k_is)
    (case k9 => k_is)
    (case a10 => k_is)
    (case l10 => k_is)
    (case e10 => k_is)
    (case k10 => k_is)
    (case a11 => k_is)
    (case l11 => k_is)
    (case e11 => k_is)
    (case k11 => k_is)
    (case a12 => k_is)
    (case l12 => k_is)
    (case e12 => k_is)
    (case k12 => k_is)
    (case a13 => k_is)
    (case l13 => k_is)
    (case e13 => k_is)
    (case k13 => k_is)
    (case a14 => k_is)
    (case l14 => k_is)
    (case e14 => k_is)
    (case k14 => k_is)
    (case a15 => k_is)
    (case l15 => k_is)
    (case e15 => k_is)
    (case k15 => k_is)
    (case a16 => k_is)
    (case l16 => k_is)
    (case e16 => k_is)
    (case k16 => k_is)
    (case a17 => k_is)
    (case l17 => k_is)
    (case e17 => k_is)
    (case k17 => k_is)
    (case a18 => k_is)
    (case l18 => k_is)
    (case e18 => k_is)
    (case k18 => k_is)
    (case a19 => k_is)
    (case l19 => k_is)
    (case e19 => k_is)
    (case k19 => k_is)
    (case a20 => k_is)
    (case l20 => k_is)
    (case e20 => k_is)
    (case k20 => k_is)
    (case a21 => k_is)
    (case l21 => k_is)
    (case e21 => k_is)
    (case k21 => k_is)
    (case a22 => k_is)
    (case l22 => k_is)
    (case e22 => k_is)
    (case k22 => k_is)
    (case a23 => k_is)
    (case l23 => k_is)
    (case e23 => k_is)
    (case k23 => k_is)
    (case a24 => k_is)
    (case l24 => k_is)
    (case e24 => k_is)
    (case k24 => k_is)
    (case a25 => k_is)
    (case l25 => k_is)
    (case e25 => k_is)
    (case k25 => k_is)
    (case a26 => k_is)
    (case l26 => k_is)
    (case e26 => k_is)
    (case k26 => k_is)
    (case a27 => k_is)
    (case l27 => k_is)
    (case e27 => k_is)
    (case k27 => k_is)
    (case z_bool => k_is)
    (case z_enumerate => k_is)
    (case z_int => k_is)
    (case z_isinstance => k_is)
    (case z_len => k_is)
    (case z_list => k_is)
    (case z_min => k_is)
    (case z_range => k_is)
    (case z_sorted => k_is)
    (case z_tuple => k_is)
    (case m_MOST_PLACES => k_is)
