import PyProof.Rows.All
import Wide.All
import OpenK.AllK
import Wide.FinOn
import HandS.ForMost
import HandS.Codes
import HandS.Conv
import HandS.IsInst
import HandS.Style
import HandS.Walk
import HandS.Wide
import KE.GoesEnum
import KE.GoesMore
import PySem.Challenge.RW_everyorder_k01_rearrangements_done_and_t
set_option Elab.async false
set_option linter.all false
set_option maxRecDepth 100000
set_option maxHeartbeats 4000000
namespace Pf01
open PySem PySem.Spec PyProof.Rows L2
/-! ### the text by places -/
def topS (i : Nat) : Stmt := PySem.Challenge.pw_everyorder_k01_rearrangements_done_and_t.main.body.getD i (.Pass ⟨0, 0, 0, 0⟩)
abbrev s_is_integer : Stmt := topS 1
abbrev s_is_between : Stmt := topS 2
abbrev s_first_wrong : Stmt := topS 3
abbrev s_BadSize_init : Stmt := inClass (topS 6) 0
abbrev s_BadRow_init : Stmt := inClass (topS 7) 0
abbrev s_check_row : Stmt := topS 10
abbrev s_nothing : Stmt := topS 11
abbrev s_joined : Stmt := topS 12
abbrev s_in_turn : Stmt := topS 13
abbrev s_undone : Stmt := topS 14
abbrev s_back_from : Stmt := topS 15
abbrev s_done : Stmt := topS 16
abbrev s__law_pen : Stmt := topS 18
abbrev s__law_draw : Stmt := topS 19
abbrev s__law_pick : Stmt := topS 20
abbrev s__law_shuffled : Stmt := topS 21
abbrev s__law_row : Stmt := topS 22
abbrev s__law_after : Stmt := topS 23
abbrev s_law : Stmt := topS 24
theorem sc_is_integer : FnScope ["value"] ["value"] (defScope s_is_integer) := ⟨rfl, rfl, rfl, by decide +kernel, rfl, by decide +kernel, by decide +kernel⟩
theorem sc_is_between : FnScope ["value", "low", "high"] ["value", "low", "high"] (defScope s_is_between) := ⟨rfl, rfl, rfl, by decide +kernel, rfl, by decide +kernel, by decide +kernel⟩
theorem sc_first_wrong : FnScope ["row", "size", "has_come", "index", "member"] ["row", "size"] (defScope s_first_wrong) := ⟨rfl, rfl, rfl, by decide +kernel, rfl, by decide +kernel, by decide +kernel⟩
theorem sc_BadSize_init : FnScope ["self", "size"] ["self", "size"] (defScope s_BadSize_init) := ⟨rfl, rfl, rfl, by decide +kernel, rfl, by decide +kernel, by decide +kernel⟩
theorem sc_BadRow_init : FnScope ["self", "index"] ["self", "index"] (defScope s_BadRow_init) := ⟨rfl, rfl, rfl, by decide +kernel, rfl, by decide +kernel, by decide +kernel⟩
theorem sc_check_row : FnScope ["row", "wrong"] ["row"] (defScope s_check_row) := ⟨rfl, rfl, rfl, by decide +kernel, rfl, by decide +kernel, by decide +kernel⟩
theorem sc_nothing : FnScope ["size"] ["size"] (defScope s_nothing) := ⟨rfl, rfl, rfl, by decide +kernel, rfl, by decide +kernel, by decide +kernel⟩
theorem sc_joined : FnScope ["first", "second"] ["first", "second"] (defScope s_joined) := ⟨rfl, rfl, rfl, by decide +kernel, rfl, by decide +kernel, by decide +kernel⟩
theorem sc_in_turn : FnScope ["first", "second", "place"] ["first", "second"] (defScope s_in_turn) := ⟨rfl, rfl, rfl, by decide +kernel, rfl, by decide +kernel, by decide +kernel⟩
theorem sc_undone : FnScope ["row"] ["row"] (defScope s_undone) := ⟨rfl, rfl, rfl, by decide +kernel, rfl, by decide +kernel, by decide +kernel⟩
theorem sc_back_from : FnScope ["row", "back", "index", "place"] ["row"] (defScope s_back_from) := ⟨rfl, rfl, rfl, by decide +kernel, rfl, by decide +kernel, by decide +kernel⟩
theorem sc_done : FnScope ["row", "things", "place"] ["row", "things"] (defScope s_done) := ⟨rfl, rfl, rfl, by decide +kernel, rfl, by decide +kernel, by decide +kernel⟩
theorem sc__law_pen : FnScope ["script"] ["script"] (defScope s__law_pen) := ⟨rfl, rfl, rfl, by decide +kernel, rfl, by decide +kernel, by decide +kernel⟩
theorem sc__law_draw : FnScope ["pen", "many", "digit", "at", "cell", "mixed"] ["pen", "many"] (defScope s__law_draw) := ⟨rfl, rfl, rfl, by decide +kernel, rfl, by decide +kernel, by decide +kernel⟩
theorem sc__law_pick : FnScope ["pen", "some"] ["pen", "some"] (defScope s__law_pick) := ⟨rfl, rfl, rfl, by decide +kernel, rfl, by decide +kernel, by decide +kernel⟩
theorem sc__law_shuffled : FnScope ["pen", "some", "left", "found", "k"] ["pen", "some"] (defScope s__law_shuffled) := ⟨rfl, rfl, rfl, by decide +kernel, rfl, by decide +kernel, by decide +kernel⟩
theorem sc__law_row : FnScope ["pen", "size"] ["pen", "size"] (defScope s__law_row) := ⟨rfl, rfl, rfl, by decide +kernel, rfl, by decide +kernel, by decide +kernel⟩
theorem sc__law_after : FnScope ["row", "things", "part"] ["row", "things"] (defScope s__law_after) := ⟨rfl, rfl, rfl, by decide +kernel, rfl, by decide +kernel, by decide +kernel⟩
theorem sc_law : FnScope ["script", "pen", "lap", "size", "one", "other", "things", "first", "second", "kept", "told", "back", "k", "part"] ["script"] (defScope s_law) := ⟨rfl, rfl, rfl, by decide +kernel, rfl, by decide +kernel, by decide +kernel⟩
/-- where the defs and classes stand -/
structure Ad where
  f_is_integer : Addr
  d_is_integer : FuncData
  f_is_between : Addr
  d_is_between : FuncData
  f_first_wrong : Addr
  d_first_wrong : FuncData
  f_BadSize_init : Addr
  d_BadSize_init : FuncData
  f_BadRow_init : Addr
  d_BadRow_init : FuncData
  f_check_row : Addr
  d_check_row : FuncData
  f_nothing : Addr
  d_nothing : FuncData
  f_joined : Addr
  d_joined : FuncData
  f_in_turn : Addr
  d_in_turn : FuncData
  f_undone : Addr
  d_undone : FuncData
  f_back_from : Addr
  d_back_from : FuncData
  f_done : Addr
  d_done : FuncData
  f__law_pen : Addr
  d__law_pen : FuncData
  f__law_draw : Addr
  d__law_draw : FuncData
  f__law_pick : Addr
  d__law_pick : FuncData
  f__law_shuffled : Addr
  d__law_shuffled : FuncData
  f__law_row : Addr
  d__law_row : FuncData
  f__law_after : Addr
  d__law_after : FuncData
  f_law : Addr
  d_law : FuncData
  C_EveryError : Addr
  C_BadSize : Addr
  C_BadRow : Addr
/-- what the top has written -/
structure Tx (w : World) (K : PySem.W.Frag) (mg : Str → Option Value) (a : Ad) : Prop where
  F_is_integer : Fun K "is_integer" "is_integer" s_is_integer a.f_is_integer a.d_is_integer
  b_is_integer : Binds K a.d_is_integer ["value"] []
  m_is_integer : mg "is_integer" = some (.ref a.f_is_integer)
  F_is_between : Fun K "is_between" "is_between" s_is_between a.f_is_between a.d_is_between
  b_is_between : Binds K a.d_is_between ["value", "low", "high"] []
  m_is_between : mg "is_between" = some (.ref a.f_is_between)
  F_first_wrong : Fun K "first_wrong" "first_wrong" s_first_wrong a.f_first_wrong a.d_first_wrong
  b_first_wrong : Binds K a.d_first_wrong ["row", "size"] []
  m_first_wrong : mg "first_wrong" = some (.ref a.f_first_wrong)
  F_BadSize_init : Fun K "__init__" "BadSize.__init__" s_BadSize_init a.f_BadSize_init a.d_BadSize_init
  b_BadSize_init : Binds K a.d_BadSize_init ["self", "size"] []
  F_BadRow_init : Fun K "__init__" "BadRow.__init__" s_BadRow_init a.f_BadRow_init a.d_BadRow_init
  b_BadRow_init : Binds K a.d_BadRow_init ["self", "index"] []
  F_check_row : Fun K "check_row" "check_row" s_check_row a.f_check_row a.d_check_row
  b_check_row : Binds K a.d_check_row ["row"] []
  m_check_row : mg "check_row" = some (.ref a.f_check_row)
  F_nothing : Fun K "nothing" "nothing" s_nothing a.f_nothing a.d_nothing
  b_nothing : Binds K a.d_nothing ["size"] []
  m_nothing : mg "nothing" = some (.ref a.f_nothing)
  F_joined : Fun K "joined" "joined" s_joined a.f_joined a.d_joined
  b_joined : Binds K a.d_joined ["first", "second"] []
  m_joined : mg "joined" = some (.ref a.f_joined)
  F_in_turn : Fun K "in_turn" "in_turn" s_in_turn a.f_in_turn a.d_in_turn
  b_in_turn : Binds K a.d_in_turn ["first", "second"] []
  m_in_turn : mg "in_turn" = some (.ref a.f_in_turn)
  F_undone : Fun K "undone" "undone" s_undone a.f_undone a.d_undone
  b_undone : Binds K a.d_undone ["row"] []
  m_undone : mg "undone" = some (.ref a.f_undone)
  F_back_from : Fun K "back_from" "back_from" s_back_from a.f_back_from a.d_back_from
  b_back_from : Binds K a.d_back_from ["row"] []
  m_back_from : mg "back_from" = some (.ref a.f_back_from)
  F_done : Fun K "done" "done" s_done a.f_done a.d_done
  b_done : Binds K a.d_done ["row", "things"] []
  m_done : mg "done" = some (.ref a.f_done)
  F__law_pen : Fun K "_law_pen" "_law_pen" s__law_pen a.f__law_pen a.d__law_pen
  b__law_pen : Binds K a.d__law_pen ["script"] []
  m__law_pen : mg "_law_pen" = some (.ref a.f__law_pen)
  F__law_draw : Fun K "_law_draw" "_law_draw" s__law_draw a.f__law_draw a.d__law_draw
  b__law_draw : Binds K a.d__law_draw ["pen", "many"] []
  m__law_draw : mg "_law_draw" = some (.ref a.f__law_draw)
  F__law_pick : Fun K "_law_pick" "_law_pick" s__law_pick a.f__law_pick a.d__law_pick
  b__law_pick : Binds K a.d__law_pick ["pen", "some"] []
  m__law_pick : mg "_law_pick" = some (.ref a.f__law_pick)
  F__law_shuffled : Fun K "_law_shuffled" "_law_shuffled" s__law_shuffled a.f__law_shuffled a.d__law_shuffled
  b__law_shuffled : Binds K a.d__law_shuffled ["pen", "some"] []
  m__law_shuffled : mg "_law_shuffled" = some (.ref a.f__law_shuffled)
  F__law_row : Fun K "_law_row" "_law_row" s__law_row a.f__law_row a.d__law_row
  b__law_row : Binds K a.d__law_row ["pen", "size"] []
  m__law_row : mg "_law_row" = some (.ref a.f__law_row)
  F__law_after : Fun K "_law_after" "_law_after" s__law_after a.f__law_after a.d__law_after
  b__law_after : Binds K a.d__law_after ["row", "things"] []
  m__law_after : mg "_law_after" = some (.ref a.f__law_after)
  F_law : Fun K "law" "law" s_law a.f_law a.d_law
  b_law : Binds K a.d_law ["script"] []
  m_law : mg "law" = some (.ref a.f_law)
  c_EveryError : mg "EveryError" = some (.ref a.C_EveryError)
  c_BadSize : mg "BadSize" = some (.ref a.C_BadSize)
  c_BadRow : mg "BadRow" = some (.ref a.C_BadRow)
  z_bool : mg "bool" = none
  z_enumerate : mg "enumerate" = none
  z_int : mg "int" = none
  z_isinstance : mg "isinstance" = none
  z_len : mg "len" = none
  z_list : mg "list" = none
  z_range : mg "range" = none
  z_tuple : mg "tuple" = none
  m_MOST_PLACES : ∃ t, mg "MOST_PLACES" = some (.int 1000 t)
/-! ### heaps -/
/-- all but what stands at d is as it was -/
def But (d : Addr) (H H' : Hp) : Prop := ∀ b o, H b = some o → b ≠ d → H' b = some o
theorem But.refl {d : Addr} {H : Hp} : But d H H := fun _ _ h _ => h
theorem But.trans {d : Addr} {H H1 H2 : Hp} (x : But d H H1) (y : But d H1 H2) : But d H H2 := fun b o h n => y b o (x b o h n) n
theorem but_same {d : Addr} {H H' : Hp} (h : Same H H') : But d H H' := fun b o e _ => h b o e
theorem same_upd {H : Hp} {p : Addr} {o : HO} (h : H p = none) : Same H (upd H p o) := fun b x e => by
  rw [upd_ne (ne_of_none e h)]
  exact e
theorem but_upd {d : Addr} {H : Hp} {o : HO} : But d H (upd H d o) := fun b x e n => by
  rw [upd_ne n]
  exact e
theorem But.list {d : Addr} {H H' : Hp} {kvs : List (Key × V)} {l : Addr} {xs : List V} (x : But d H H') (hd : H d = some (.dK kvs)) (h : H l = some (.lst xs)) : H' l = some (.lst xs) :=
  x l _ h (ne_of h hd (by intro z; cases z))
theorem But.tup {d : Addr} {H H' : Hp} {kvs : List (Key × V)} {l : Addr} {xs : List V} (x : But d H H') (hd : H d = some (.dK kvs)) (h : H l = some (.tup xs)) : H' l = some (.tup xs) :=
  x l _ h (ne_of h hd (by intro z; cases z))
theorem But.seq {K : PySem.W.Frag} {d : Addr} {H H' : Hp} {kvs : List (Key × V)} {l : Addr} {xs : List V} (x : But d H H') (hd : H d = some (.dK kvs)) (h : SqL K H l xs) : SqL K H' l xs := by
  rcases h with (h | ⟨o, h⟩) | h
  · exact .inl (.inl (x l _ h (ne_of h hd (by intro z; cases z))))
  · exact .inl (.inr ⟨o, x l _ h (ne_of h hd (by intro z; cases z))⟩)
  · exact .inr h
/-- a list changes where none of what is known stood -/
theorem keep_upd {H H' : Hp} {l : Addr} {o : HO} (h : Same H H') (n : H l = none) : Same H (upd H' l o) := fun b u e => by
  rw [upd_ne (ne_of_none e n)]
  exact h b u e
theorem free_of {H H' : Hp} {p : Addr} (e : Same H H') (h : H' p = none) : H p = none := e.free h
theorem SqL.at {K : PySem.W.Frag} {H : Hp} {a : Addr} {xs : List V} (h : H a = some (.lst xs)) : SqL K H a xs := .inl (.inl h)
theorem SqT.at {K : PySem.W.Frag} {H : Hp} {a : Addr} {xs : List V} (h : H a = some (.tup xs)) : SqT K H a xs := .inl (.inl h)
theorem sz {n : Nat} (h : n ≤ 100000) : n ≤ sizeLine := Nat.le_trans h (by decide)
theorem szlt {n : Nat} (h : n ≤ 100000) : n < sizeLine := Nat.lt_of_le_of_lt h (by decide)
/-! ### data: lists of ints -/
def iD (ns : List Int) : PyData := .list (ns.map PyData.int)
theorem dp_all {K : PySem.W.Frag} {H : Hp} : ∀ ns : List Int, DpAll K H (ns.map V.int) (ns.map PyData.int)
  | [] => .nil
  | _ :: r => .cons (.int _) (dp_all r)
theorem dp_ints {K : PySem.W.Frag} {H : Hp} {p : Addr} {ns : List Int} (h : SqL K H p (ns.map V.int)) : Dp K H (.ref p) (iD ns) := .lst h (dp_all ns)
theorem dp_tints {K : PySem.W.Frag} {H : Hp} {p : Addr} {ns : List Int} (h : SqT K H p (ns.map V.int)) : Dp K H (.ref p) (.tuple (ns.map PyData.int)) := .tup h (dp_all ns)
theorem lay_ints : ∀ ns : List Int, PyData.canLayAll0 (ns.map PyData.int) = true
  | [] => by simp [PyData.canLayAll0]
  | _ :: r => by simp [PyData.canLayAll0, PyData.canLay0, lay_ints r]
theorem eqv_all_ints : ∀ ns ms : List Int, PyData.eqvAll (ns.map PyData.int) (ms.map PyData.int) = decide (ns = ms)
  | [], [] => by simp [PyData.eqvAll]
  | [], _ :: _ => by simp [PyData.eqvAll]
  | _ :: _, [] => by simp [PyData.eqvAll]
  | x :: r, y :: u => by
    simp only [List.map_cons, PyData.eqvAll, PyData.eqv, eqv_all_ints r u, List.cons.injEq]
    by_cases h1 : x = y <;> by_cases h2 : r = u <;> simp [h1, h2]
theorem eqv_ints (ns ms : List Int) : PyData.eqv (iD ns) (iD ms) = decide (ns = ms) := by
  unfold iD
  rw [PyData.eqv]
  exact eqv_all_ints ns ms
theorem deep_ints : ∀ ns : List Int, PyData.depthAll (ns.map PyData.int) ≤ 1
  | [] => by simp [PyData.depthAll]
  | _ :: r => by
    have := deep_ints r
    simp only [List.map_cons, PyData.depthAll, PyData.depth]
    omega
theorem shaped_ints {ns : List Int} : SeqAt.shaped (iD ns) = true := by
  unfold SeqAt.shaped iD
  rw [Bool.and_eq_true, decide_eq_true_eq]
  refine ⟨by rw [PyData.canLay0]; exact lay_ints ns, ?_⟩
  have := deep_ints ns
  rw [PyData.depth]
  omega
theorem atI_ints {ns : List Int} {i : Int} (h0 : 0 ≤ i) (h1 : i.toNat < ns.length) : atI (ns.map V.int) i = some (.int (ns[i.toNat]'h1)) := by
  have e : (i.toNat : Int) = i := by omega
  have z : atI (ns.map V.int) (i.toNat : Int) = some (.int (ns[i.toNat]'h1)) := by
    refine atI_nat ?_
    rw [List.getElem?_map, List.getElem?_eq_getElem h1]
    rfl
  rw [e] at z
  exact z
theorem ixN_nat {n : Nat} {i : Int} (h0 : 0 ≤ i) (h1 : i < (n : Int)) : ixN n i = some i.toNat := by
  unfold ixN
  rw [if_pos h0, if_pos h1]
theorem getD_get {ts : List Int} {i : Nat} (h : i < ts.length) : ts.getD i 0 = ts[i] := by
  rw [List.getD_eq_getElem?_getD, List.getElem?_eq_getElem h]
  rfl
theorem inV_ints {x : Int} : ∀ {xs : List Int}, inV (.int x) (xs.map V.int) = decide (x ∈ xs)
  | [] => rfl
  | y :: r => by
    have ih := inV_ints (x := x) (xs := r)
    unfold inV at ih ⊢
    rw [List.map_cons, List.any_cons, ih]
    have e : eqV (.int y) (.int x) = decide (y = x) := rfl
    rw [e]
    by_cases h : y = x
    · subst h
      simp
    · have h2 : ¬ x = y := fun z => h z.symm
      simp [h, h2]
theorem flat_ints (xs : List Int) : (xs.map V.int).all flatV = true := by
  rw [List.all_eq_true]
  intro x hx
  obtain ⟨i, _, rfl⟩ := List.mem_map.mp hx
  rfl

/-! ### the pen: a dict of the script's cells and two ints -/
def penD (c : Addr) (t l : Int) : HO := .dK [((.inr "cells" : Key), V.ref c), ((.inr "at" : Key), V.int t), ((.inr "left" : Key), V.int l)]
structure PenAt (H : Hp) (d c : Addr) (ns : List Int) (t l : Int) : Prop where
  dc : H d = some (penD c t l)
  cs : H c = some (.lst (ns.map V.int))
  len : ns.length ≤ 63
  t0 : 0 ≤ t
/-- a pen with which at most n draws were made -/
def Pen (H : Hp) (d c : Addr) (n : Nat) : Prop := ∃ ns t l, PenAt H d c ns t l ∧ t ≤ n
theorem k1 : ¬ (("cells" : Str) = "at") := by decide +kernel
theorem k2 : ¬ (("cells" : Str) = "left") := by decide +kernel
theorem k3 : ¬ (("at" : Str) = "left") := by decide +kernel
theorem kk {x y : Str} (h : ¬ x = y) : ¬ ((Sum.inr x : Key) = Sum.inr y) := fun z => h (Sum.inr.inj z)
theorem pen_valC {c : Addr} {t l : Int} : valV [((.inr "cells" : Key), V.ref c), ((.inr "at" : Key), V.int t), ((.inr "left" : Key), V.int l)] (.inr "cells") = some (.ref c) := by
  simp [valV, List.find?]
theorem pen_valA {c : Addr} {t l : Int} : valV [((.inr "cells" : Key), V.ref c), ((.inr "at" : Key), V.int t), ((.inr "left" : Key), V.int l)] (.inr "at") = some (.int t) := by
  simp [valV, List.find?, k1]
theorem pen_valL {c : Addr} {t l : Int} : valV [((.inr "cells" : Key), V.ref c), ((.inr "at" : Key), V.int t), ((.inr "left" : Key), V.int l)] (.inr "left") = some (.int l) := by
  simp [valV, List.find?, k2, k3]
theorem pen_C {H : Hp} {d c : Addr} {t l : Int} (h : H d = some (penD c t l)) : DGet H d (.str "cells") (some (.ref c)) := by
  have e := DGet.k (k := Sum.inr "cells") h
  rw [pen_valC] at e
  exact e
theorem pen_A {H : Hp} {d c : Addr} {t l : Int} (h : H d = some (penD c t l)) : DGet H d (.str "at") (some (.int t)) := by
  have e := DGet.k (k := Sum.inr "at") h
  rw [pen_valA] at e
  exact e
theorem pen_L {H : Hp} {d c : Addr} {t l : Int} (h : H d = some (penD c t l)) : DGet H d (.str "left") (some (.int l)) := by
  have e := DGet.k (k := Sum.inr "left") h
  rw [pen_valL] at e
  exact e
theorem pen_putA {c : Addr} {t l u : Int} : putK [((.inr "cells" : Key), V.ref c), ((.inr "at" : Key), V.int t), ((.inr "left" : Key), V.int l)] (.inr "at") (.int u) = [((.inr "cells" : Key), V.ref c), ((.inr "at" : Key), V.int u), ((.inr "left" : Key), V.int l)] := by
  simp [putK, k1, k3, show ¬ (("left" : Str) = "at") from fun h => k3 h.symm]
theorem pen_putL {c : Addr} {t l u : Int} : putK [((.inr "cells" : Key), V.ref c), ((.inr "at" : Key), V.int t), ((.inr "left" : Key), V.int l)] (.inr "left") (.int u) = [((.inr "cells" : Key), V.ref c), ((.inr "at" : Key), V.int t), ((.inr "left" : Key), V.int u)] := by
  simp [putK, k2, k3]
theorem pen_setA {H : Hp} {d c : Addr} {t l u : Int} (h : H d = some (penD c t l)) : DPut H d (.str "at") (.int u) (upd H d (penD c u l)) := by
  have e := DPut.k (k := Sum.inr "at") (v := .int u) h (by show 3 < sizeLine; exact szlt (by decide))
  rw [pen_putA] at e
  exact e
theorem pen_setL {H : Hp} {d c : Addr} {t l u : Int} (h : H d = some (penD c t l)) : DPut H d (.str "left") (.int u) (upd H d (penD c t u)) := by
  have e := DPut.k (k := Sum.inr "left") (v := .int u) h (by show 3 < sizeLine; exact szlt (by decide))
  rw [pen_putL] at e
  exact e
theorem pen_mk {l : Addr} : mergeK [] [((.inr "cells" : Key), V.ref l), ((.inr "at" : Key), V.int 0), ((.inr "left" : Key), V.int 0)] = [((.inr "cells" : Key), V.ref l), ((.inr "at" : Key), V.int 0), ((.inr "left" : Key), V.int 0)] := by
  simp [mergeK, putK, k1, k2, k3]
theorem Pen.same {H H' : Hp} {d c : Addr} {n : Nat} (p : Pen H d c n) (h : Same H H') : Pen H' d c n := by
  obtain ⟨ns, t, l, q, e⟩ := p
  exact ⟨ns, t, l, ⟨h _ _ q.dc, h _ _ q.cs, q.len, q.t0⟩, e⟩
theorem Pen.up {H : Hp} {d c : Addr} {n m : Nat} (p : Pen H d c n) (h : n ≤ m) : Pen H d c m := by
  obtain ⟨ns, t, l, q, e⟩ := p
  exact ⟨ns, t, l, q, by omega⟩
theorem Pen.dict {H : Hp} {d c : Addr} {n : Nat} (p : Pen H d c n) : ∃ kvs, H d = some (.dK kvs) := by
  obtain ⟨ns, t, l, q, e⟩ := p
  exact ⟨_, q.dc⟩
theorem Pen.cells {H : Hp} {d c : Addr} {n : Nat} (p : Pen H d c n) : ∃ o, H c = some o := by
  obtain ⟨ns, t, l, q, e⟩ := p
  exact ⟨_, q.cs⟩
/-- a list that is not the pen's changes -/
theorem Pen.mut {H : Hp} {d c l : Addr} {n : Nat} {o : HO} (p : Pen H d c n) (hd : d ≠ l) (hc : c ≠ l) : Pen (upd H l o) d c n := by
  obtain ⟨ns, t, u, q, e⟩ := p
  exact ⟨ns, t, u, ⟨by rw [upd_ne hd]; exact q.dc, by rw [upd_ne hc]; exact q.cs, q.len, q.t0⟩, e⟩
/-- what stands where nothing stood may change -/
theorem But.mut {d l : Addr} {H H' : Hp} {o : HO} (b : But d H H') (h : H l = none) : But d H (upd H' l o) := fun x u e n => by
  rw [upd_ne (ne_of_none e h)]
  exact b x u e n
theorem cut63 (ns : List Int) : cutV (ns.map V.int) none (some 63) = (ns.take 63).map V.int := by
  unfold cutV
  rw [show HT.sIx (ns.map V.int).length (ns.map V.int).length (some 63) = min 63 (ns.map V.int).length from HT.sIx_nat _ _ 63, HT.sIx_none, List.drop_zero, Nat.sub_zero, List.map_take, List.take_eq_take_iff]
  omega
section
variable {P : Program} {w : World} {K : PySem.W.Frag} {mg : Str → Option Value} {base : Heap} {a : Ad}
def spPen (K : PySem.W.Frag) : Sp := fun vs H Q _ => ∃ (s : Addr) (ns : List Int), vs = [.ref s] ∧ SqL K H s (ns.map V.int) ∧ ns.length ≤ 63 ∧
  ∀ d c H', H d = none → H c = none → Pen H' d c 0 → Same H H' → Q (.ref d) H'
theorem ok__law_pen (T : Tx w K mg a) : FnOk P w K mg base CX0 1 a.f__law_pen a.d__law_pen ["script"] (spPen K) := by
  refine T.F__law_pen.ok sc__law_pen (fun vs H Q E h => ?_) (fun cdv A outer s H vs Q E hr h => ?_)
  · obtain ⟨s, ns, rfl, _⟩ := h
    rfl
  · obtain ⟨x, ns, rfl, hS, hlen, q⟩ := h
    have hu := hu_of hr
    refine ⟨_, 
(pss_one (ps_ret (pe_disp (pps_cons pe_str (pe_callTy call_list_of (by rfl) T.z_list (by decide +kernel) (pa_cons (pe_slice sl_list (pv 0) po_none (po_some pe_int)) pa_nil)) (pps_cons pe_str pe_int (pps_cons pe_str pe_int pps_nil))) (by rfl) (by rfl) (fun z => by cases z) (by decide)))), ?_⟩
    intro d hd
    have s1 : Same H (upd H d (.dK [])) := same_upd hd
    refine ⟨.ref x, rfl, 63, rfl, x, ns.map V.int, rfl, s1.seq hS, fun p hp => ?_⟩
    have s2 : Same (upd H d (.dK [])) (upd (upd H d (.dK [])) p (.lst (cutV (ns.map V.int) none (some 63)))) := same_upd hp
    refine ⟨p, _, rfl, .inl (SqL.at upd_same), fun l hl => ?_⟩
    have s3 := same_upd (o := .lst (cutV (ns.map V.int) none (some 63))) hl
    have hd3 := s3 _ _ (s2 _ _ (upd_same (H := H) (a := d) (o := .dK [])))
    have hl3 : (upd (upd (upd H d (.dK [])) p (.lst (cutV (ns.map V.int) none (some 63)))) l (.lst (cutV (ns.map V.int) none (some 63)))) l = _ := upd_same
    have ndl : l ≠ d := ne_of hl3 hd3 (by intro z; cases z)
    refine ⟨hd3, [((.inr "cells" : Key), V.ref l), ((.inr "at" : Key), V.int 0), ((.inr "left" : Key), V.int 0)], rfl, (by show 3 ≤ 15; decide), ?_⟩
    rw [pen_mk]
    refine q d l _ hd (s1.free (s2.free hl)) ⟨ns.take 63, 0, 0, ⟨upd_same, ?_, ?_, by decide⟩, by decide⟩ ?_
    · rw [upd_ne ndl, hl3, cut63]
    · rw [List.length_take]
      omega
    · intro b o e
      rw [upd_ne (ne_of_none e hd)]
      exact s3 _ _ (s2 _ _ (s1 _ _ e))
/-- a draw: any int from 0 on that is less than the second argument; the pen alone changes -/
def spDraw : Sp := fun vs H Q _ => ∃ (d c : Addr) (n : Nat) (m : Int), vs = [.ref d, .int m] ∧ Pen H d c n ∧ n < 2 ^ 40 ∧ 0 < m ∧ m < 2 ^ 200 ∧
  ∀ v H', 0 ≤ v → v < m → Pen H' d c (n + 1) → But d H H' → Q (.int v) H'
theorem ok__law_draw (T : Tx w K mg a) : FnOk P w K mg base CX0 1 a.f__law_draw a.d__law_draw ["pen", "many"] spDraw := by
  refine T.F__law_draw.ok sc__law_draw (fun vs H Q E h => ?_) (fun cdv A outer s H vs Q E hr h => ?_)
  · obtain ⟨d, c, n, m, rfl, _⟩ := h
    rfl
  · obtain ⟨d, c, n, m, rfl, ⟨ns, t, l, ⟨hd, hc, hlen, t0⟩, htn⟩, hn, m0, mb, q⟩ := h
    have hu := hu_of hr
    have hmne : m ≠ 0 := by omega
    have hdiv : ∀ x : Int, CDivW x m := fun x => wide_div m0 (b := 200) (by omega) (by decide) (by decide)
    have f0 : ∀ x : Int, 0 ≤ Int.fmod x m := fun x => Int.fmod_nonneg_of_pos x m0
    have f1 : ∀ x : Int, Int.fmod x m < m := fun x => Int.fmod_lt_of_pos x m0
    refine ⟨_, 
(pss_cons (ps_if (pt_cmpR op_ge (pe_dget hu (pv 0) pe_str (fun _ _ => rfl)) (pv 1) (nomark _))
  (pss_cons (ps_set (i := 2) sc__law_draw.nd rfl (.inl rfl) (pe_op op_modN (pe_callTy call_int1 (by rfl) T.z_int (by decide +kernel) (pa_cons (pe_dget hu (pv 0) pe_str (fun _ _ => rfl)) pa_nil)) (pv 1)))
  (pss_cons (ps_dput hu (pv 0) pe_str (pe_op op_fdivW (pe_dget hu (pv 0) pe_str (fun _ _ => rfl)) (pv 1)) rfl)
  (pss_one (ps_ret (pv 2)))))
  pss_nil)
  (pss_cons (ps_set (i := 3) sc__law_draw.nd rfl (.inl rfl) (pe_dget hu (pv 0) pe_str (fun _ _ => rfl)))
  (pss_cons (ps_dput hu (pv 0) pe_str (pe_op op_add (pv 3) pe_int) rfl)
  (pss_cons (ps_set (i := 4) sc__law_draw.nd rfl (.inl rfl) (pe_op op_add (pe_op op_mul pe_int (pv 3)) pe_int))
  (C8.pss_cut (ps_if (pt_cmpR (op_neD hr.units) (pe_dget hu (pv 0) pe_str (fun _ _ => rfl)) (pe_lst pa_nil) (nomark _))
  (pss_one (ps_set (i := 4) sc__law_draw.nd rfl (.inl rfl) (pe_ix ix_list (pe_dget hu (pv 0) pe_str (fun _ _ => rfl)) (pe_op op_modN (pe_callTy call_int1 (by rfl) T.z_int (by decide +kernel) (pa_cons (pv 3) pa_nil)) (pe_callB call_len_seq (by rfl) T.z_len PySem.boot_len (pa_cons (pe_dget hu (pv 0) pe_str (fun _ _ => rfl)) pa_nil))) (fun _ _ => rfl))))
  pss_nil)
  (C8.pss_cut (ps_if (PW.pt (pw_and (pt_cmpR op_lt (pv 3) (pe_callB call_len_seq (by rfl) T.z_len PySem.boot_len (pa_cons (pe_dget hu (pv 0) pe_str (fun _ _ => rfl)) pa_nil)) (nomark _)) (pw_and1 (pt_cmpR op_ge (pv 4) (pe_op op_pow pe_int pe_int) (nomark _)))))
  (pss_cons (ps_dput hu (pv 0) pe_str (pe_op op_fdivW (pe_op op_sub (pv 4) (pe_op op_pow pe_int pe_int)) (pv 1)) rfl)
  (pss_one (ps_ret (pe_op op_modN (pe_callTy call_int1 (by rfl) T.z_int (by decide +kernel) (pa_cons (pe_op op_sub (pv 4) (pe_op op_pow pe_int pe_int)) pa_nil)) (pv 1)))))
  pss_nil)
  (pss_cons (ps_set (i := 5) sc__law_draw.nd rfl (.inl rfl) (pe_op op_add (pe_op op_add (pe_op op_add (pe_op op_mul (pe_op op_modN (pe_callTy call_int1 (by rfl) T.z_int (by decide +kernel) (pa_cons (pv 4) pa_nil)) pe_int) pe_int) (pe_op op_mul (pe_op op_mul pe_int (pv 3)) (pv 3))) (pe_op op_mul pe_int (pv 3))) pe_int))
  (pss_cons (ps_set (i := 5) sc__law_draw.nd rfl (.inl rfl) (pe_op op_modN (pe_callTy call_int1 (by rfl) T.z_int (by decide +kernel) (pa_cons (pv 5) pa_nil)) pe_int))
  (pss_cons (ps_set (i := 5) sc__law_draw.nd rfl (.inl rfl) (pe_op op_modN (pe_callTy call_int1 (by rfl) T.z_int (by decide +kernel) (pa_cons (pe_op op_mul (pv 5) (pe_op op_add (pv 5) pe_int)) pa_nil)) pe_int))
  (pss_one (ps_ret (pe_op op_modN (pe_callTy call_int1 (by rfl) T.z_int (by decide +kernel) (pa_cons (pe_op op_fdivN (pe_op op_modN (pe_callTy call_int1 (by rfl) T.z_int (by decide +kernel) (pa_cons (pe_op op_mul (pv 5) (pv 5)) pa_nil)) pe_int) pe_int) pa_nil)) (pv 1))))))))))))), ?_⟩
    -- if pen['left'] >= many
    refine ⟨.ref d, rfl, d, .int l, rfl, pen_L hd, .int m, rfl, l, m, rfl, rfl, _, rfl, ite2 (fun e => ?_) (fun e => ?_)⟩
    · -- digit = int(pen['left']) % many; pen['left'] = pen['left'] // many; return digit
      refine ⟨.ref d, rfl, d, .int l, rfl, pen_L hd, .inl ⟨l, rfl, .int m, rfl, l, m, rfl, rfl, hmne, ?_⟩⟩
      refine ⟨.ref d, rfl, d, .int l, rfl, pen_L hd, .int m, rfl, l, m, rfl, rfl, hdiv l, .ref d, rfl, d, _, rfl, pen_setL hd, ?_⟩
      exact ⟨_, rfl, q _ _ (f0 l) (f1 l) ⟨ns, t, _, ⟨upd_same, by rw [upd_ne (ne_of hc hd (by intro z; cases z))]; exact hc, hlen, t0⟩, by omega⟩ but_upd⟩
    · -- at = pen['at']; pen['at'] = at + 1; cell = 41 * at + 13
      refine ⟨.ref d, rfl, d, .int t, rfl, pen_A hd, ?_⟩
      refine ⟨.int t, rfl, t, 1, rfl, rfl, .ref d, rfl, d, _, rfl, pen_setA hd, ?_⟩
      refine ⟨.int t, rfl, 41, t, rfl, rfl, .inl ⟨by decide, by decide⟩, 41 * t, 13, rfl, rfl, ?_⟩
      have hd1 : (upd H d (penD c (t + 1) l)) d = some (penD c (t + 1) l) := upd_same
      have hc1 : (upd H d (penD c (t + 1) l)) c = some (.lst (ns.map V.int)) := by
        rw [upd_ne (ne_of hc hd (by intro z; cases z))]
        exact hc
      have b1 : But d H (upd H d (penD c (t + 1) l)) := but_upd
      generalize upd H d (penD c (t + 1) l) = H1 at hd1 hc1 b1 ⊢
      -- if pen['cells'] != []: cell = pen['cells'][int(at) % len(pen['cells'])]
      refine ⟨fun σ' H' => ∃ cell : Int, σ' = [some (.ref d), some (.int m), none, some (.int t), some (.int cell), none] ∧ H' d = some (penD c (t + 1) l) ∧ H' c = some (.lst (ns.map V.int)) ∧ But d H H', ?_, fun σ'' H'' hM => ?_⟩
      · refine ⟨.ref d, rfl, d, .ref c, rfl, pen_C hd1, Nat.zero_le _, fun p hp => ?_⟩
        have s2 : Same H1 (upd H1 p (.lst [])) := same_upd hp
        have hp2 : (upd H1 p (.lst [])) p = some (.lst []) := upd_same
        have hd2 := s2 _ _ hd1
        have hc2 := s2 _ _ hc1
        have b2 : But d H (upd H1 p (.lst [])) := b1.trans (but_same s2)
        generalize upd H1 p (.lst []) = H2 at hd2 hc2 hp2 b2 ⊢
        refine ⟨_, _, dp_ints (SqL.at hc2), dp_ints (ns := []) (SqL.at hp2), shaped_ints, shaped_ints, _, rfl, ?_⟩
        rw [eqv_ints]
        refine ite2 (fun e => ?_) (fun e => ?_)
        · have hns : ns ≠ [] := by
            intro z
            subst z
            simp at e
          have hpos : 0 < ns.length := List.length_pos_iff.mpr hns
          have g0 : (0 : Int) ≤ Int.fmod t (ns.length : Int) := Int.fmod_nonneg_of_pos _ (by omega)
          have g1 : Int.fmod t (ns.length : Int) < (ns.length : Int) := Int.fmod_lt_of_pos _ (by omega)
          refine ⟨.ref d, rfl, d, .ref c, rfl, pen_C hd2, .int t, rfl, .inl ⟨t, rfl, .ref d, rfl, d, .ref c, rfl, pen_C hd2, c, _, rfl, .inl (SqL.at hc2), t, _, rfl, rfl, ?_, c, _, _, .int (ns[(Int.fmod t (ns.length : Int)).toNat]'(by omega)), rfl, rfl, SqL.at hc2, ?_, ?_⟩⟩
          · rw [List.length_map]
            omega
          · rw [List.length_map]
            exact atI_ints g0 (by omega)
          · exact ⟨_, rfl, hd2, hc2, b2⟩
        · exact ⟨_, rfl, hd2, hc2, b2⟩
      · obtain ⟨cell, rfl, hd3, hc3, b3⟩ := hM
        have hlen' : (ns.map V.int).length ≤ 63 := by
          rw [List.length_map]
          exact hlen
        -- if at < len(pen['cells']) and cell >= 10 ** 18
        refine ⟨fun σ' H' => σ' = [some (.ref d), some (.int m), none, some (.int t), some (.int cell), none] ∧ H' = H'', ?_, fun σ' H' hM => ?_⟩
        · refine ⟨.int t, rfl, .ref d, rfl, d, .ref c, rfl, pen_C hd3, c, _, rfl, .inl (SqL.at hc3), t, _, rfl, rfl, _, rfl, ite2 (fun e1 => ?_) (fun e1 => iteF ⟨rfl, rfl⟩)⟩
          refine ⟨.int cell, rfl, 10, 18, rfl, rfl, ⟨by decide, by decide, by decide⟩, cell, _, rfl, rfl, _, rfl, ite2 (fun e2 => ?_) (fun e2 => ⟨rfl, rfl⟩)⟩
          refine ⟨.int cell, rfl, 10, 18, rfl, rfl, ⟨by decide, by decide, by decide⟩, cell, _, rfl, rfl, .int m, rfl, _, m, rfl, rfl, hdiv _, .ref d, rfl, d, _, rfl, pen_setL hd3, ?_⟩
          refine ⟨.int cell, rfl, 10, 18, rfl, rfl, ⟨by decide, by decide, by decide⟩, cell, _, rfl, rfl, .inl ⟨_, rfl, .int m, rfl, _, m, rfl, rfl, hmne, ?_⟩⟩
          exact q _ _ (f0 _) (f1 _) ⟨ns, t + 1, _, ⟨upd_same, by rw [upd_ne (ne_of hc3 hd3 (by intro z; cases z))]; exact hc3, hlen, by omega⟩, by omega⟩ (b3.trans but_upd)
        · obtain ⟨rfl, rfl⟩ := hM
          have g : ∀ x y : Int, 0 < y → 0 ≤ Int.fmod x y ∧ Int.fmod x y < y := fun x y hy => ⟨Int.fmod_nonneg_of_pos x hy, Int.fmod_lt_of_pos x hy⟩
          have g1 := g cell 2147483629 (by decide)
          have z1 : (2147483629 : Int) ≠ 0 := by decide
          have z2 : (2147483647 : Int) ≠ 0 := by decide
          have z3 : (2147483587 : Int) ≠ 0 := by decide
          have z4 : (2147483563 : Int) ≠ 0 := by decide
          have y1 : -(2 ^ 64) < Int.fmod cell 2147483629 ∧ Int.fmod cell 2147483629 < 2 ^ 64 := by omega
          have y2 : -(2 ^ 64) < t ∧ t < 2 ^ 64 := by omega
          refine ⟨.int cell, rfl, .inl ⟨cell, rfl, cell, 2147483629, rfl, rfl, z1, _, 48271, rfl, rfl, .inl y1, .int t, rfl, 69621, t, rfl, rfl, .inr y2, .int t, rfl, _, t, rfl, rfl, .inr y2, _, _, rfl, rfl, .int t, rfl, 59, t, rfl, rfl, .inr y2, _, _, rfl, rfl, _, 11, rfl, rfl, ?_⟩⟩
          have g2 := g (Int.fmod cell 2147483629 * 48271 + 69621 * t * t + 59 * t + 11) 2147483647 (by decide)
          refine ⟨_, rfl, .inl ⟨_, rfl, _, 2147483647, rfl, rfl, z2, ?_⟩⟩
          have y3 : -(2 ^ 64) < Int.fmod (Int.fmod cell 2147483629 * 48271 + 69621 * t * t + 59 * t + 11) 2147483647 ∧ Int.fmod (Int.fmod cell 2147483629 * 48271 + 69621 * t * t + 59 * t + 11) 2147483647 < 2 ^ 64 := by omega
          refine ⟨_, rfl, _, rfl, _, 40014, rfl, rfl, _, _, rfl, rfl, .inl y3, .inl ⟨_, rfl, _, 2147483587, rfl, rfl, z3, ?_⟩⟩
          have g3 := fun x => g x 2147483587 (by decide)
          have y4 : ∀ x, -(2 ^ 64) < Int.fmod x 2147483587 ∧ Int.fmod x 2147483587 < 2 ^ 64 := fun x => by
            have := g3 x
            omega
          refine ⟨_, rfl, _, rfl, _, _, rfl, rfl, .inl (y4 _), .inl ⟨_, rfl, _, 2147483563, rfl, rfl, z4, _, 64, rfl, rfl, ⟨by decide, by decide⟩, .inl ⟨_, rfl, .int m, rfl, _, m, rfl, rfl, hmne, ?_⟩⟩⟩
          exact q _ _ (f0 _) (f1 _) ⟨ns, t + 1, l, ⟨hd3, hc3, hlen, by omega⟩, by omega⟩ b3
end

section
variable {P : Program} {w : World} {K : PySem.W.Frag} {mg : Str → Option Value} {base : Heap} {a : Ad}
/-- a pick: some item of the list -/
def spPick (K : PySem.W.Frag) : Sp := fun vs H Q _ => ∃ (d c s : Addr) (n : Nat) (xs : List V), vs = [.ref d, .ref s] ∧ Pen H d c n ∧ n < 2 ^ 40 ∧ SqL K H s xs ∧ 0 < xs.length ∧ xs.length ≤ 100000 ∧
  ∀ v H', v ∈ xs → Pen H' d c (n + 1) → But d H H' → Q v H'
theorem ok__law_pick (T : Tx w K mg a) : FnOk P w K mg base CX0 2 a.f__law_pick a.d__law_pick ["pen", "some"] (spPick K) := by
  refine T.F__law_pick.ok sc__law_pick (fun vs H Q E h => ?_) (fun cdv A outer s H vs Q E hr h => ?_)
  · obtain ⟨d, c, s, n, xs, rfl, _⟩ := h
    rfl
  · obtain ⟨d, c, s, n, xs, rfl, hp, hn, hs, h0, h1, q⟩ := h
    obtain ⟨kvs, hd⟩ := hp.dict
    refine ⟨_, 
(pss_one (ps_ret (pe_ix ix_list (pv 1) (pe_call (ok__law_draw T) hr (by rfl) T.m__law_draw T.F__law_draw.kp T.b__law_draw .nil pass0 (pa_cons (pv 0) (pa_cons (pe_callB call_len_seq (by rfl) T.z_len PySem.boot_len (pa_cons (pv 1) pa_nil)) pa_nil))) (fun _ _ => rfl)))), ?_⟩
    refine ⟨.ref s, rfl, .ref d, rfl, .ref s, rfl, s, _, rfl, .inl hs, d, c, n, _, rfl, hp, hn, by omega, ?_, fun v H' v0 v1 hp' hb => ?_⟩
    · have : ((100000 : Nat) : Int) < 2 ^ 200 := by decide
      omega
    · refine ⟨s, xs, v, xs[v.toNat]'(by omega), rfl, rfl, hb.seq hd hs, ?_, q _ _ (List.getElem_mem _) hp' hb⟩
      have e : (v.toNat : Int) = v := by omega
      have z : atI xs (v.toNat : Int) = some (xs[v.toNat]'(by omega)) := atI_nat (List.getElem?_eq_getElem (by omega))
      rw [e] at z
      exact z
/-- the same items in another order, as a new list -/
def spShuf (K : PySem.W.Frag) : Sp := fun vs H Q _ => ∃ (d c s : Addr) (n : Nat) (xs : List V), vs = [.ref d, .ref s] ∧ Pen H d c n ∧ n + xs.length < 2 ^ 40 ∧ SqL K H s xs ∧ xs.length ≤ 100000 ∧
  ∀ p ys H', ys.Perm xs → H p = none → H' p = some (.lst ys) → Pen H' d c (n + xs.length) → But d H H' → Q (.ref p) H'
theorem perm_erase : ∀ (xs : List V) (k : Nat) (h : k < xs.length), (xs[k] :: xs.eraseIdx k).Perm xs
  | x :: r, 0, _ => List.Perm.refl _
  | x :: r, k + 1, h => by
    have h' : k < r.length := by
      simp only [List.length_cons] at h
      omega
    refine (List.Perm.swap x r[k] (r.eraseIdx k)).trans ?_
    exact (perm_erase r k h').cons x
theorem seqIx {v : Int} {n : Nat} (h0 : 0 ≤ v) (h1 : v < n) : seqIndex? v n = some v.toNat := by
  unfold seqIndex?
  have e : ¬ v < 0 := by omega
  simp only [e, if_false]
  simp [h0, h1]
theorem ok__law_shuffled (T : Tx w K mg a) : FnOk P w K mg base CX0 2 a.f__law_shuffled a.d__law_shuffled ["pen", "some"] (spShuf K) := by
  refine T.F__law_shuffled.ok sc__law_shuffled (fun vs H Q E h => ?_) (fun cdv A outer s H vs Q E hr h => ?_)
  · obtain ⟨d, c, s, n, xs, rfl, _⟩ := h
    rfl
  · obtain ⟨d, c, s, n, xs, rfl, hp, hn, hs, h1, q⟩ := h
    obtain ⟨kvs, hd⟩ := hp.dict
    refine ⟨_, 
(pss_cons (ps_par (i := 2) (j := 3) (by rfl) sc__law_shuffled.nd rfl rfl (by decide) rfl rfl (pa_cons (pe_callTy call_list_of (by rfl) T.z_list (by decide +kernel) (pa_cons (pv 1) pa_nil)) (pa_cons (pe_lst pa_nil) pa_nil)) (by rfl))
  (pss_cons (ps_for PassesOwn.never rfl (pi_range1 (by rfl) T.z_range (pa_cons (pe_callB call_len_seq (by rfl) T.z_len PySem.boot_len (pa_cons (pv 2) pa_nil)) pa_nil)) (pg_name (i := 4) sc__law_shuffled.nd rfl (.inl rfl))
  (pss_one (ps_expr (pe_bm PySem.F.plainAttrs_list PySem.F.slot_list_append PySem.F.type_list_append mt_append (pv 3) (pa_cons (pe_bm PySem.F.plainAttrs_list PySem.F.slot_list_pop PySem.F.type_list_pop mt_popAt (pv 2) (pa_cons (pe_call (ok__law_draw T) hr (by rfl) T.m__law_draw T.F__law_draw.kp T.b__law_draw .nil pass0 (pa_cons (pv 0) (pa_cons (pe_callB call_len_seq (by rfl) T.z_len PySem.boot_len (pa_cons (pv 2) pa_nil)) pa_nil))) pa_nil)) pa_nil)))))
  (pss_one (ps_ret (pv 3))))), ?_⟩
    -- left, found = list(some), []
    refine ⟨.ref s, rfl, s, xs, rfl, .inl hs, fun l hl => ⟨Nat.zero_le _, fun f hf => ⟨.ref l, .ref f, rfl, ?_⟩⟩⟩
    have s1 : Same H (upd H l (.lst xs)) := same_upd hl
    have s2 : Same (upd H l (.lst xs)) (upd (upd H l (.lst xs)) f (.lst [])) := same_upd hf
    have nfl : l ≠ f := ne_of_none upd_same hf
    have hl2 : (upd (upd H l (.lst xs)) f (.lst [])) l = some (.lst xs) := s2 _ _ upd_same
    have hf2 : (upd (upd H l (.lst xs)) f (.lst [])) f = some (.lst []) := upd_same
    have fnew : H f = none := s1.free hf
    have lnew : H l = none := hl
    obtain ⟨oc, hcc⟩ := hp.cells
    have hp2 := hp.same (s1.trans s2)
    have b2 : But d H (upd (upd H l (.lst xs)) f (.lst [])) := but_same (s1.trans s2)
    -- for k in range(len(left))
    refine ⟨.ref l, rfl, l, xs, rfl, .inl (SqL.at hl2), _, rfl, by omega, by omega, ?_⟩
    refine for_range (lo := 0) (n := xs.length) (fun i σ H3 => ∃ y4 ls fs, σ = [some (.ref d), some (.ref s), some (.ref l), some (.ref f), y4] ∧ H3 l = some (.lst ls) ∧ H3 f = some (.lst fs) ∧ (fs ++ ls).Perm xs ∧ fs.length = i ∧ Pen H3 d c (n + i) ∧ But d H H3) ?_ ?_ ?_
    · exact ⟨none, xs, [], rfl, hl2, hf2, List.Perm.refl _, rfl, hp2, b2⟩
    · rintro i σ H3 hi ⟨y4, ls, fs, rfl, hl3, hf3, pm, fl, hp3, b3⟩
      obtain ⟨kvs3, hd3⟩ := hp3.dict
      have hlen : fs.length + ls.length = xs.length := by
        have := pm.length_eq
        rw [List.length_append] at this
        exact this
      refine ⟨.ref f, rfl, .inl ⟨rfl, _, SqL.at hf3⟩, .ref l, rfl, .inl ⟨rfl, _, SqL.at hl3⟩, .ref d, rfl, .ref l, rfl, l, ls, rfl, .inl (SqL.at hl3), d, c, n + i, _, rfl, hp3, by omega, by omega, ?_, fun v H4 v0 v1 hp4 hb => ?_⟩
      · have : ((100000 : Nat) : Int) < 2 ^ 200 := by decide
        omega
      · have hl4 := hb.list hd3 hl3
        have hf4 := hb.list hd3 hf3
        have hv : v.toNat < ls.length := by omega
        refine ⟨l, ls, v, v.toNat, ls[v.toNat], rfl, rfl, hl4, by omega, by omega, seqIx v0 v1, List.getElem?_eq_getElem hv, f, fs, _, rfl, rfl, by rw [upd_ne nfl.symm]; exact hf4, szlt (by omega), ?_⟩
        refine ⟨_, ls.eraseIdx v.toNat, fs ++ [ls[v.toNat]], rfl, by rw [upd_ne nfl]; exact upd_same, upd_same, ?_, by rw [List.length_append, fl]; rfl, ?_, ?_⟩
        · refine List.Perm.trans ?_ pm
          rw [List.append_assoc]
          exact (perm_erase ls v.toNat hv).append_left fs
        · have hp5 := (hp4.mut (l := l) (o := .lst (ls.eraseIdx v.toNat)) (ne_of_none hd lnew) (ne_of_none hcc lnew)).mut (l := f) (o := .lst (fs ++ [ls[v.toNat]])) (ne_of_none hd fnew) (ne_of_none hcc fnew)
          exact hp5
        · exact ((b3.trans hb).mut lnew).mut fnew
    · rintro σ H3 ⟨y4, ls, fs, rfl, hl3, hf3, pm, fl, hp3, b3⟩
      have hlen := pm.length_eq
      rw [List.length_append] at hlen
      have e : ls = [] := List.eq_nil_of_length_eq_zero (by omega)
      subst e
      rw [List.append_nil] at pm
      exact ⟨_, rfl, q f fs H3 pm fnew hf3 hp3 b3⟩
end

/-! ### a list or a tuple: walked, enumerated -/
def SqA (K : PySem.W.Frag) (H : Hp) (p : Addr) (xs : List V) : Prop := SqL K H p xs ∨ SqT K H p xs
theorem SqA.len {K : PySem.W.Frag} {H : Hp} {p : Addr} {xs : List V} (h : SqA K H p xs) : SqL K H p xs ∨ SqT K H p xs := h
theorem Same.seqT {K : PySem.W.Frag} {H H' : Hp} {p : Addr} {xs : List V} (e : Same H H') (h : SqT K H p xs) : SqT K H' p xs := by
  rcases h with (h | ⟨o, h⟩) | h
  · exact .inl (.inl (e _ _ h))
  · exact .inl (.inr ⟨o, e _ _ h⟩)
  · exact .inr h
theorem SqA.same {K : PySem.W.Frag} {H H' : Hp} {p : Addr} {xs : List V} (h : SqA K H p xs) (e : Same H H') : SqA K H' p xs := h.elim (fun q => .inl (e.seq q)) fun q => .inr (Same.seqT e q)
def iSeq (K : PySem.W.Frag) (tl : TE) : TI := fun σ H R => tl σ H fun x H1 => ∃ p xs, x = .ref p ∧ ((SqL K H1 p xs ∧ R (Itl K p) H1) ∨ (SqT K H1 p xs ∧ R (Itt K p) H1))
theorem pi_seq {X : Cx} {tg l : Expr} {tl : TE} (hl : PE X l tl) : PI X tg l (iSeq X.K tl) := by
  constructor
  intro pins s σ H R I h
  apply thn (hl.run pins s σ H _ I h)
  rintro v s1 ⟨x, H1, I1, r1, p, xs, rfl, hq⟩
  cases r1
  rcases hq with ⟨hq, q⟩ | ⟨hq, q⟩
  · obtain ⟨its, _, z, _⟩ := I1.list hq
    exact wpAny_pyIter_list z.isList (pi_one (tk := s1.toks) I1 _ (turn_list p _) ⟨_, Heap.get?_push_size _ rfl, rfl, rfl⟩ q)
  · obtain ⟨its, _, z, _⟩ := I1.tuple hq
    exact wpAny_pyIter_tuple (show s1.heap.IsTuple p its.toArray from z) (pi_one (tk := s1.toks) I1 _ (turn_tuple p _) ⟨_, Heap.get?_push_size _ rfl, rfl, rfl⟩ q)
/-- enumerate over a tuple -/
def IteT (K : PySem.W.Frag) (p : Addr) : It where
  go := fun i H => ∃ (xs : List V) (x : V), SqT K H p xs ∧ xs[i]? = some x
  yld := fun i H v H' => ∃ q x, v = .ref q ∧ H q = none ∧ H' = upd H q (.tup [.int (i : Nat), x]) ∧ ∀ xs, SqT K H p xs → xs[i]? = some x
  stop := fun i H => ∃ xs : List V, SqT K H p xs ∧ xs.length = i
theorem turn_enumT {P : Program} {w : World} {K : PySem.W.Frag} {elts : List Expr} {kk : Nat} {tpos : Pos} (p e it : Addr) :
    Turn P w K (.Tuple elts kk tpos) (IteT K p) [e, it] e (fun i h => (∃ old, IsEnum h e it ((i : Nat) : Int) old) ∧ h.IsTupleIter it p i ∧ e ≠ it) where
  mem := List.mem_cons_self ..
  obj := by
    rintro i h ⟨⟨old, he⟩, ⟨o, ho, hc, hd⟩, _⟩ b hb
    simp only [List.mem_cons, List.not_mem_nil, or_false] at hb
    rcases hb with rfl | rfl
    · exact ⟨_, he, fun v q => nomatch q⟩
    · exact ⟨o, ho, fun v q => by rw [hd] at q; cases q⟩
  keep := by
    rintro i h h' ⟨⟨old, he⟩, hi, hne⟩ k
    exact ⟨⟨old, k e (by simp) _ he⟩, hi.at fun o q => k it (by simp) o q, hne⟩
  item := by
    rintro X rfl rfl rfl hc i pins s σ H E I hf ⟨⟨old, he⟩, hit, hne⟩ ⟨xs, x, hq, hx⟩
    obtain ⟨its, rv, z, hz⟩ := I.tuple hq
    obtain ⟨u, hu, ru⟩ := rv.get hx
    have hel : e < s.heap.objs.size := Heap.lt_size he
    have hil : it < s.heap.objs.size := by
      obtain ⟨_, q, _⟩ := hit
      exact Heap.lt_size q
    have hpe : e ≠ p := fun q => by
      obtain ⟨o, ho, hc1, _⟩ := (show s.heap.IsTuple p its.toArray from z)
      rw [← q] at ho
      rw [Option.some.inj (ho.symm.trans he)] at hc1
      injection hc1 with hc1
      exact absurd hc1 (by decide)
    have hpi : p ≠ it := fun q => by
      obtain ⟨o, ho, hc1, _⟩ := (show s.heap.IsTuple p its.toArray from z)
      obtain ⟨o2, ho2, hc2, _⟩ := hit
      rw [q] at ho
      rw [Option.some.inj (ho.symm.trans ho2), hc2] at hc1
      injection hc1 with hc1
      exact absurd hc1 (by decide)
    have D := Draws.tuple (prog := X.prog) (w := X.w) (A := X.A.in1) (I.ok.hd hc) it p hpi its.toArray
    have hlt : i < its.toArray.size := by
      have := (List.getElem?_eq_some_iff.mp hu).1
      simpa using this
    refine wpAny_pyNext_enum_itemD (i := i) D he ⟨hit, z⟩ hlt hne (by simp [hne, hpe]) ?_
    intro v h' tk hv ho hst' hT hsz hk
    have ev : v = u := by
      have h1 : its[i]? = some v := by simpa using hv
      exact Option.some.inj (h1.symm.trans hu)
    subst ev
    refine ⟨_, rfl, wpAny_letOwnedTupleGo_enum (s := { s with heap := h', toks := tk + 1 }) ho ?_⟩
    intro h'' he' sb
    have hT2 : h''.get? s.heap.objs.size = some { cls := .type "tuple", data := .seq #[.int i tk, v] } := (sb.2 _ (Nat.ne_of_gt hel)).trans hT
    have new : ObjOk X.prog X.w (upd H s.heap.objs.size (.tup [.int (i : Nat), x])) h'' s.heap.objs.size (.tup [.int (i : Nat), x]) :=
      ⟨(by decide : 2 ≤ sizeLine), [.int i tk, v], .cons ⟨_, rfl⟩ (.cons ru .nil), _, hT2, rfl, _, rfl⟩
    have I1 : Inv X pins σ (upd H s.heap.objs.size (.tup [.int (i : Nat), x])) { s with heap := h'', toks := tk + 1 } := by
      refine I.turnedNew (ch := [e, it]) (fun b ob hb q => ?_) hf (Nat.le_refl _) new
      have n1 : b ≠ e := fun y => hb (by simp [y])
      have n2 : b ≠ it := fun y => hb (by simp [y])
      exact (sb.2 b n1).trans (hk b ob n1 n2 q)
    refine ⟨.ref s.heap.objs.size, _, I1, rfl, ⟨_, x, rfl, I.hok.fresh (Nat.le_refl _), rfl, fun ys hy => ?_⟩, ⟨⟨v, ?_⟩, hst'.1.at fun o q => (sb.2 it hne.symm).trans q, hne⟩, fun b hb => ?_⟩
    · rw [I.tuple_inj hy hq]
      exact hx
    · rw [show ((i + 1 : Nat) : Int) = (i : Int) + 1 by omega]
      exact he'
    · have hb' : b < s.heap.objs.size := by
        simp only [List.mem_cons, List.not_mem_nil, or_false] at hb
        rcases hb with rfl | rfl
        · exact hel
        · exact hil
      rw [upd_ne (Nat.ne_of_lt hb')]
      exact (hf b hb).1
  done := by
    rintro X rfl rfl rfl hc i pins s σ H E I hf ⟨⟨old, he⟩, hit, hne⟩ ⟨xs, hq, hx⟩
    obtain ⟨its, rv, z, hz⟩ := I.tuple hq
    obtain ⟨f0, f1, f2, f3, f4, f5⟩ := hf it (by simp)
    have hl := rv.length
    have hpi : p ≠ it := fun q => by
      obtain ⟨o, ho, hc1, _⟩ := (show s.heap.IsTuple p its.toArray from z)
      obtain ⟨o2, ho2, hc2, _⟩ := hit
      rw [q] at ho
      rw [Option.some.inj (ho.symm.trans ho2), hc2] at hc1
      injection hc1 with hc1
      exact absurd hc1 (by decide)
    have D := Draws.tuple (prog := X.prog) (w := X.w) (A := X.A.in1) (I.ok.hd hc) it p hpi its.toArray
    have ei : i = its.toArray.size := by
      simp only [List.size_toArray]
      omega
    subst ei
    exact wpAny_pyNext_enum_endD D he ⟨hit, z⟩ fun h' eb => ⟨rfl, I.turned (t' := s.toks) (fun b o hb e => eb b o hb e) f0 f1 f3 f4 f5⟩
  self := by
    rintro A i s Q E ⟨⟨_, he⟩, _⟩ h
    exact wpAny_pyIter_enum he h
theorem meets_enum0 {v : Value} {o : Obj} {Hh : Heap → Prop} (B : Begins v o Hh) :
    Meets (Builtin.«enumerate.__new__» ⟨[.type "enumerate", v], []⟩) (fun _ R s => Hh s.heap ∧
      R (.ok (.ret (.ref (s.heap.push o).objs.size))) { s with heap := (s.heap.push o).push { cls := .type "enumerate", data := .fields #[.none, .bool false, .ref s.heap.objs.size, rawInt 0, .none, .none] } }) := by
  refine .of_wp ?_
  rintro prog w A R ⟨hp, g, d, tk, os⟩ ⟨h1, h⟩
  have hsb := sub_enumerate
  have q1 : ∀ {A' : Around} {E : Value → Shared → Prop} {Q : Value → Shared → Prop}, Q (.ref hp.objs.size) ⟨hp.push o, g, d, tk, os⟩ → wpAny (model prog w) A' (pyIter v) Q E ⟨hp, g, d, tk, os⟩ := by
    intro A' E Q q
    exact B.iter prog w _ _ ⟨hp, g, d, tk, os⟩ _ h1 q
  wp_walk using q1
  refine wpAny_stack_any fun st => wpAny_pure ?_
  split
  · rename_i c _ _ _ _ _
    cases (c == Value.type "enumerate") <;> (wp_walk using q1; exact ⟨_, rfl, h⟩)
  · wp_walk using q1
    exact ⟨_, rfl, h⟩
theorem call_enum0 {prog : Program} {w : World} {A : Around} {E : Value → Shared → Prop} {s : Shared} {v : Value} {o : Obj} {Hh : Heap → Prop} {Q : Value → Shared → Prop} (B : Begins v o Hh) (h1 : Hh s.heap)
    (h : ∀ h', IsEnum h' (s.heap.objs.size + 1) s.heap.objs.size 0 .none → h'.get? s.heap.objs.size = some o → h'.objs.size = s.heap.objs.size + 2 → (∀ b u, s.heap.get? b = some u → h'.get? b = some u) → Q (.ref (s.heap.objs.size + 1)) { s with heap := h' }) :
    wpAny (model prog w) A (call (.type "enumerate") [v]) Q E s := by
  have hz : (s.heap.push o).objs.size = s.heap.objs.size + 1 := by rw [Heap.size_push]
  refine callType_new F.called_enumerate (by decide) (F.typeCall_enumerate_1 _) (F.newCall_enumerate_1 _) (fun obj => F.args_object_init_2 obj _) F.entry_enumerate_new (meets_enum0 B) ⟨h1, ?_⟩
  have key : IsEnum ((s.heap.push o).push { cls := .type "enumerate", data := .fields #[.none, .bool false, .ref s.heap.objs.size, rawInt 0, .none, .none] }) (s.heap.push o).objs.size s.heap.objs.size 0 .none := Heap.get?_push_size _ rfl
  show _ ∧ _
  rw [hz] at key ⊢
  exact ⟨⟨_, key, rfl⟩, h _ key (Heap.get?_push_of_some _ (Heap.get?_push_size _ B.free)) (by rw [Heap.size_push, hz]) fun b u x => Heap.get?_push_of_some _ (Heap.get?_push_of_some _ x)⟩
def iEnS (K : PySem.W.Frag) (ta : TA) : TI := fun σ H R => ta σ H fun vs H1 => ∃ p xs, vs = [.ref p] ∧ ((SqL K H1 p xs ∧ R (Ite K p) H1) ∨ (SqT K H1 p xs ∧ R (IteT K p) H1))
theorem pi_enumS {X : Cx} {e : Expr} {ta : TA} {p pos tpos : Pos} {elts : List Expr} {kk : Nat} (hg : Gl X "enumerate") (hm : X.mg "enumerate" = none) (ha : PA X [e] ta) (hs : starEach [e] X.env = [(false, eval e X.env)] := by rfl) :
    PI X (.Tuple elts kk tpos) (.Call (.Name "enumerate" p) [e] [] pos) (iEnS X.K ta) := by
  constructor
  intro pins s σ H R I h
  refine Call_ (ld_blt I hg hm boot_enumerate (PyProof.Rows.callWith_type1 (thn (ha.run pos pins s σ H _ I h) ?_) hs rfl))
  rintro us s1 ⟨vs, H1, I1, r1, q0, xs, rfl, hq⟩
  cases r1 with
  | cons r rr =>
    cases rr
    cases r
    have fp : ∀ b ∈ [s1.heap.objs.size + 1, s1.heap.objs.size], FpOk X pins H1 b := by
      intro b hb
      simp only [List.mem_cons, List.not_mem_nil, or_false] at hb
      have hle : s1.heap.objs.size ≤ b := by
        rcases hb with rfl | rfl
        · exact Nat.le_add_right _ _
        · exact Nat.le_refl _
      exact I1.fpOk hle (I1.hok.fresh hle)
    rcases hq with ⟨hq, q⟩ | ⟨hq, q⟩
    · obtain ⟨its, _, z, _⟩ := I1.list hq
      refine call_enumerate_list z.isList ?_
      intro h' he hit hsz hk
      exact wpAny_pyIter_enum he ⟨s1.heap.objs.size + 1, [s1.heap.objs.size + 1, s1.heap.objs.size], _, _, H1, rfl, I1.kept (t' := s1.toks) hk, turn_enum q0 (s1.heap.objs.size + 1) s1.heap.objs.size, ⟨⟨.none, he⟩, hit, Nat.succ_ne_self _⟩, fp, q⟩
    · obtain ⟨its, _, z, _⟩ := I1.tuple hq
      refine call_enum0 (begins_tuple q0 its.toArray) z ?_
      intro h' he hit hsz hk
      exact wpAny_pyIter_enum he ⟨s1.heap.objs.size + 1, [s1.heap.objs.size + 1, s1.heap.objs.size], _, _, H1, rfl, I1.kept (t' := s1.toks) hk, turn_enumT q0 (s1.heap.objs.size + 1) s1.heap.objs.size, ⟨⟨.none, he⟩, ⟨_, hit, rfl, rfl⟩, Nat.succ_ne_self _⟩, fp, q⟩
theorem walk_enumT {K : PySem.W.Frag} {p : Addr} {xs : List V} : Walk (IteT K p) xs.length (fun H => SqT K H p xs) (YPair (fun i => some (.int (i : Nat))) (fun i => xs[i]?)) where
  goes := fun i H hi h => ⟨xs, xs[i], h, List.getElem?_eq_getElem hi⟩
  stops := fun H h => ⟨xs, h, rfl⟩
  yields := by
    rintro i H v H' hi h ⟨q, x, rfl, hn, rfl, hx⟩
    exact ⟨q, _, x, rfl, hn, rfl, rfl, hx xs h⟩

/-! ### questions about values -/
/-- whether a value is an int that is no bool, as isinstance tells it -/
inductive IsI (H : Hp) : V → Bool → Prop where
  | int (i : Int) : IsI H (.int i) true
  | non : IsI H .non false
  | bl (b : Bool) : IsI H (.bl b) false
  | str (z : Str) : IsI H (.str z) false
  | tup {p : Addr} {xs : List V} (e : H p = some (.tup xs)) : IsI H (.ref p) false
  | lst {p : Addr} {xs : List V} (e : H p = some (.lst xs)) : IsI H (.ref p) false
theorem IsI.same {H H' : Hp} {x : V} {b : Bool} (h : IsI H x b) (e : Same H H') : IsI H' x b := by
  cases h with
  | int i => exact .int i
  | non => exact .non
  | bl b => exact .bl b
  | str z => exact .str z
  | tup q => exact .tup (e _ _ q)
  | lst q => exact .lst (e _ _ q)
section
variable {P : Program} {w : World} {K : PySem.W.Frag} {mg : Str → Option Value} {base : Heap} {a : Ad}
def spIsInteger : Sp := fun vs H Q _ => ∃ x b, vs = [x] ∧ IsI H x b ∧ Q (.bl b) H
theorem ok_is_integer (T : Tx w K mg a) : FnOk P w K mg base CX0 1 a.f_is_integer a.d_is_integer ["value"] spIsInteger := by
  refine T.F_is_integer.ok sc_is_integer (fun vs H Q E h => ?_) (fun cdv A outer s H vs Q E hr h => ?_)
  · obtain ⟨x, b, rfl, _⟩ := h
    rfl
  · obtain ⟨x, b, rfl, hb, q⟩ := h
    refine ⟨_, 
(pss_one (ps_ret (pe_and (pe_callB call_isi (by rfl) T.z_isinstance (by decide +kernel) (pa_cons (pv 0) (pa_cons (pe_bltn (v := .ty "int") (by rfl) T.z_int (by decide +kernel) rfl) pa_nil))) (pe_one (pe_not (pe_callB call_isi (by rfl) T.z_isinstance (by decide +kernel) (pa_cons (pv 0) (pa_cons (pe_bltn (v := .ty "bool") (by rfl) T.z_bool (by decide +kernel) rfl) pa_nil)))))))), ?_⟩
    refine ⟨x, rfl, ?_⟩
    cases hb with
    | int i => exact ⟨_, _, _, _, true, rfl, .ty "int", .base (.int i), kit_ty (by decide +kernel), true, rfl, iteT ⟨_, rfl, _, _, _, _, false, rfl, .ty "bool", .base (.int i), kit_ty (by decide +kernel), _, rfl, q⟩⟩
    | non => exact ⟨_, _, _, _, false, rfl, .ty "int", .base .non, kit_ty (by decide +kernel), false, rfl, iteF q⟩
    | str z => exact ⟨_, _, _, _, false, rfl, .ty "int", .base (.str z), kit_ty (by decide +kernel), false, rfl, iteF q⟩
    | tup e => exact ⟨_, _, _, _, false, rfl, .ty "int", .base (.tup e), kit_ty (by decide +kernel), false, rfl, iteF q⟩
    | lst e => exact ⟨_, _, _, _, false, rfl, .ty "int", .base (.lst e), kit_ty (by decide +kernel), false, rfl, iteF q⟩
    | bl b => exact ⟨_, _, _, _, true, rfl, .ty "int", .base (.bl b), kit_ty (by decide +kernel), true, rfl, iteT ⟨_, rfl, _, _, _, _, true, rfl, .ty "bool", .base (.bl b), kit_ty (by decide +kernel), _, rfl, q⟩⟩
def btM (lo hi : Int) : V → Bool
  | .int i => decide (lo ≤ i) && decide (i ≤ hi)
  | _ => false
def spIsBetween : Sp := fun vs H Q _ => ∃ x b lo hi, vs = [x, .int lo, .int hi] ∧ IsI H x b ∧ Q (.bl (btM lo hi x)) H
theorem ok_is_between (T : Tx w K mg a) : FnOk P w K mg base CX0 2 a.f_is_between a.d_is_between ["value", "low", "high"] spIsBetween := by
  refine T.F_is_between.ok sc_is_between (fun vs H Q E h => ?_) (fun cdv A outer s H vs Q E hr h => ?_)
  · obtain ⟨x, b, lo, hi, rfl, _⟩ := h
    rfl
  · obtain ⟨x, b, lo, hi, rfl, hb, q⟩ := h
    refine ⟨_, 
(pss_one (ps_ret (pe_and (pe_call (ok_is_integer T) hr (by rfl) T.m_is_integer T.F_is_integer.kp T.b_is_integer .nil pass0 (pa_cons (pv 0) pa_nil)) (pe_one (pe_chain op_le op_le (pv 1) (pv 0) (pv 2)))))), ?_⟩
    refine ⟨x, rfl, x, b, rfl, hb, b, rfl, ?_⟩
    cases hb with
    | int i =>
      refine iteT ⟨_, rfl, _, rfl, lo, i, rfl, rfl, _, rfl, ?_⟩
      by_cases h1 : lo ≤ i
      · rw [decide_eq_true h1]
        refine iteT ⟨_, rfl, i, hi, rfl, rfl, ?_⟩
        have e : btM lo hi (.int i) = decide (i ≤ hi) := by simp [btM, h1]
        rw [e] at q
        exact q
      · rw [decide_eq_false h1]
        have e : btM lo hi (.int i) = false := by simp [btM, h1]
        rw [e] at q
        exact iteF q
    | non => exact iteF q
    | str z => exact iteF q
    | tup e => exact iteF q
    | lst e => exact iteF q
    | bl b => exact iteF q
/-- the first member that is no place of n or has come before -/
def fwI (n : Nat) : List Int → Nat → List V → Option Nat
  | _, _, [] => none
  | seen, k, .int i :: r => if 0 ≤ i ∧ i < (n : Int) ∧ i ∉ seen then fwI n (i :: seen) (k + 1) r else some k
  | _, k, _ :: _ => some k
def oN : Option Nat → V
  | none => .non
  | some k => .int k
def flags (n : Nat) (seen : List Int) : List V := (List.range n).map fun j : Nat => V.bl (decide ((j : Int) ∈ seen))
theorem flags_len (n : Nat) (seen : List Int) : (flags n seen).length = n := by
  unfold flags
  rw [List.length_map, List.length_range]
theorem flags_nil (n : Nat) : List.replicate n (V.bl false) = flags n [] := by
  refine List.ext_getElem (by rw [flags_len, List.length_replicate]) fun i h1 h2 => ?_
  simp [flags]
theorem flags_get {n : Nat} {seen : List Int} {i : Int} (h0 : 0 ≤ i) (h1 : i < (n : Int)) : atI (flags n seen) i = some (.bl (decide (i ∈ seen))) := by
  have e : (i.toNat : Int) = i := by omega
  have z : atI (flags n seen) (i.toNat : Int) = some (.bl (decide (i ∈ seen))) := by
    refine atI_nat ?_
    unfold flags
    rw [List.getElem?_map, List.getElem?_range (by omega)]
    show some (V.bl (decide ((i.toNat : Int) ∈ seen))) = _
    rw [e]
  rw [e] at z
  exact z
theorem flags_set {n : Nat} {seen : List Int} {i : Int} (h0 : 0 ≤ i) : (flags n seen).set i.toNat (.bl true) = flags n (i :: seen) := by
  refine List.ext_getElem (by rw [List.length_set, flags_len, flags_len]) fun j h1 h2 => ?_
  rw [List.getElem_set]
  by_cases h : i.toNat = j
  · rw [if_pos h]
    have : (j : Int) = i := by omega
    simp [flags, this]
  · rw [if_neg h]
    have : ¬ (j : Int) = i := by omega
    simp [flags, this]
def spFirstWrong (K : PySem.W.Frag) : Sp := fun vs H Q _ => ∃ r xs, vs = [.ref r, .int (xs.length : Int)] ∧ SqA K H r xs ∧ xs.length ≤ 100000 ∧ (∀ x ∈ xs, ∃ b, IsI H x b) ∧ ∀ H', Same H H' → Q (oN (fwI xs.length [] 0 xs)) H'
theorem ok_first_wrong (T : Tx w K mg a) : FnOk P w K mg base CX0 3 a.f_first_wrong a.d_first_wrong ["row", "size"] (spFirstWrong K) := by
  refine T.F_first_wrong.ok sc_first_wrong (fun vs H Q E h => ?_) (fun cdv A outer s H vs Q E hr h => ?_)
  · obtain ⟨r, xs, rfl, _⟩ := h
    rfl
  · obtain ⟨r, xs, rfl, hx, hl, hk, q⟩ := h
    refine ⟨_, 
(pss_cons (ps_set (i := 2) sc_first_wrong.nd rfl (.inl rfl) (pe_op op_rep (pe_lst (pa_cons pe_bl pa_nil)) (pv 1)))
  (pss_cons (ps_for PassesOwn.never rfl (pi_enumS (by rfl) T.z_enumerate (pa_cons (pv 0) pa_nil)) (pg_tup rfl (pgs_cons (pg_name (i := 3) sc_first_wrong.nd rfl (.inl rfl)) (pgs_cons (pg_name (i := 4) sc_first_wrong.nd rfl (.inl rfl)) pgs_nil)))
  (pss_cons (ps_if (PW.pt (pw_or (pt_not (pt_val (pe_call (ok_is_between T) hr (by rfl) T.m_is_between T.F_is_between.kp T.b_is_between .nil pass0 (pa_cons (pv 4) (pa_cons pe_int (pa_cons (pe_op op_sub (pv 1) pe_int) pa_nil)))))) (pw_or1 (pt_val (pe_ix ix_list (pv 2) (pv 4) (fun _ _ => rfl))))))
  (pss_one (ps_ret (pv 3)))
  pss_nil)
  (pss_one (ps_asg pe_bl (pg_sub (pv 2) (pv 4) set_list)))))
  (pss_one (ps_ret pe_non)))), ?_⟩
    -- has_come = [False] * size
    refine ⟨sz (by decide), fun p0 hp0 => ⟨_, rfl, p0, _, _, rfl, rfl, upd_same, by omega, by omega, sz (by simp; omega), fun p hp => ?_⟩⟩
    have s1 : Same H (upd (upd H p0 (.lst [.bl false])) p (.lst (List.replicate (xs.length : Int).toNat [V.bl false]).flatten)) := (same_upd hp0).trans (same_upd hp)
    have e0 : (List.replicate (xs.length : Int).toNat [V.bl false]).flatten = flags xs.length [] := by
      rw [List.flatten_replicate_singleton, Int.toNat_natCast, flags_nil]
    have pn : H p = none := (same_upd hp0).free hp
    have hp1 : (upd (upd H p0 (.lst [.bl false])) p (.lst (List.replicate (xs.length : Int).toNat [V.bl false]).flatten)) p = some (.lst (flags xs.length [])) := by
      rw [e0]
      exact upd_same
    generalize upd (upd H p0 (.lst [.bl false])) p (.lst (List.replicate (xs.length : Int).toNat [V.bl false]).flatten) = H1 at s1 hp1 ⊢
    -- for index, member in enumerate(row)
    refine ⟨.ref r, rfl, r, xs, rfl, ?_⟩
    refine hx.elim (fun hS => .inl ⟨s1.seq hS, ?_⟩) (fun hS => .inr ⟨Same.seqT s1 hS, ?_⟩)
    all_goals
      refine for_it (by first | exact walk_enum (xs := xs) | exact walk_enumT (xs := xs)) (fun i σ H3 => ∃ y3 y4 seen, σ = [some (.ref r), some (.int (xs.length : Int)), some (.ref p), y3, y4] ∧ Same H H3 ∧ H3 p = some (.lst (flags xs.length seen)) ∧ fwI xs.length [] 0 xs = fwI xs.length seen i (xs.drop i)) ?h0 ?hG ?hs ?hd
      case h0 => exact ⟨none, none, [], rfl, s1, hp1, rfl⟩
      case hG =>
        rintro i σ H3 hi ⟨y3, y4, seen, rfl, s3, hp3, ef⟩
        first | exact s3.seq hS | exact Same.seqT s3 hS
      case hd =>
        rintro σ H3 ⟨y3, y4, seen, rfl, s3, hp3, ef⟩
        rw [List.drop_length] at ef
        have q2 := q H3 s3
        rw [ef] at q2
        exact q2
      case hs =>
        rintro i v σ H3 H4 hi ⟨y3, y4, seen, rfl, s3, hp3, ef⟩ ⟨t, x1, x, rfl, nt, rfl, e1, e2⟩
        cases e1
        have s4 : Same H3 (upd H3 t (.tup [.int (i : Nat), x])) := same_upd nt
        have hp4 := s4 _ _ hp3
        have ed : xs.drop i = x :: xs.drop (i + 1) := by
          rw [List.drop_eq_getElem_cons hi]
          have := List.getElem?_eq_some_iff.mp e2
          rw [this.2]
        rw [ed] at ef
        refine ⟨t, [.int (i : Nat), x], rfl, SqT.at upd_same, rfl, _, [x], rfl, x, [], rfl, rfl, ?_⟩
        obtain ⟨b, hb⟩ := hk x (List.mem_of_getElem? e2)
        refine ⟨x, rfl, _, rfl, (xs.length : Int), 1, rfl, rfl, x, b, 0, _, rfl, (hb.same s3).same s4, _, rfl, ?_⟩
        by_cases hbt : btM 0 ((xs.length : Int) - 1) x = true
        · obtain ⟨m, rfl, h0, h1⟩ : ∃ m : Int, x = .int m ∧ 0 ≤ m ∧ m < (xs.length : Int) := by
            cases x with
            | int m =>
              simp only [btM, Bool.and_eq_true, decide_eq_true_eq] at hbt
              exact ⟨m, rfl, hbt.1, by omega⟩
            | _ => exact absurd hbt (by simp [btM])
          rw [hbt]
          refine iteF ⟨_, rfl, _, rfl, p, _, m, _, rfl, rfl, SqL.at hp4, flags_get h0 h1, _, rfl, ?_⟩
          by_cases hm : m ∈ seen
          · rw [decide_eq_true hm]
            have ef2 : fwI xs.length [] 0 xs = some i := by
              rw [ef]
              simp [fwI, hm]
            have q2 := q _ (s3.trans s4)
            rw [ef2] at q2
            exact iteT ⟨_, rfl, q2⟩
          · rw [decide_eq_false hm]
            have ef2 : fwI xs.length [] 0 xs = fwI xs.length (m :: seen) (i + 1) (xs.drop (i + 1)) := by
              rw [ef]
              simp [fwI, hm, h0, h1]
            refine iteF ⟨_, rfl, _, rfl, p, _, m, m.toNat, rfl, rfl, hp4, by rw [flags_len]; exact ixN_nat h0 h1, ?_⟩
            refine ⟨_, _, m :: seen, rfl, ?_, by rw [flags_set h0]; exact upd_same, ef2⟩
            intro c o e
            rw [upd_ne (ne_of_none e pn)]
            exact s4 _ _ (s3 _ _ e)
        · rw [Bool.not_eq_true] at hbt
          rw [hbt]
          have ef2 : fwI xs.length [] 0 xs = some i := by
            rw [ef]
            cases x with
            | int m =>
              simp only [btM, Bool.and_eq_false_iff, decide_eq_false_iff_not] at hbt
              have : ¬ (0 ≤ m ∧ m < (xs.length : Int) ∧ m ∉ seen) := by omega
              simp only [fwI, if_neg this]
            | _ => rfl
          have q2 := q _ (s3.trans s4)
          rw [ef2] at q2
          exact iteT ⟨_, rfl, q2⟩
end

/-! ### rearrangements as lists of ints -/
def ri (n : Nat) : List Int := (List.range n).map fun i : Nat => (i : Int)
theorem ri_len (n : Nat) : (ri n).length = n := by
  unfold ri
  rw [List.length_map, List.length_range]
theorem ri_mem {n : Nat} {x : Int} : x ∈ ri n ↔ 0 ≤ x ∧ x < (n : Int) := by
  unfold ri
  simp only [List.mem_map, List.mem_range]
  constructor
  · rintro ⟨k, hk, rfl⟩
    omega
  · rintro ⟨h0, h1⟩
    exact ⟨x.toNat, by omega, by omega⟩
theorem ri_get {n i : Nat} (h : i < n) : (ri n)[i]? = some (i : Int) := by
  unfold ri
  rw [List.getElem?_map, List.getElem?_range h]
  rfl
theorem ri_nodup (n : Nat) : (ri n).Nodup := by
  unfold ri
  refine List.Pairwise.map _ (fun i j (h : i ≠ j) => ?_) List.nodup_range
  omega
theorem rgV_ri (n : Nat) : rgV 0 (n : Int) = (ri n).map V.int := by
  unfold rgV ri
  rw [List.map_map]
  have e : ((n : Int) - 0).toNat = n := by omega
  rw [e]
  refine List.map_congr_left fun i _ => ?_
  show V.int (0 + (i : Nat)) = V.int (i : Int)
  rw [Int.zero_add]
/-- a rearrangement: the ints from 0 on, each once -/
def IsRow (xs : List Int) : Prop := xs.Perm (ri xs.length)
theorem IsRow.mem {xs : List Int} (h : IsRow xs) {x : Int} : x ∈ xs ↔ 0 ≤ x ∧ x < (xs.length : Int) := by
  rw [h.mem_iff, ri_mem]
theorem IsRow.nodup {xs : List Int} (h : IsRow xs) : xs.Nodup := h.nodup_iff.mpr (ri_nodup _)
theorem IsRow.at {xs : List Int} (h : IsRow xs) {i : Nat} (hi : i < xs.length) : 0 ≤ xs[i] ∧ xs[i].toNat < xs.length := by
  have := h.mem.mp (List.getElem_mem hi)
  omega
theorem isRow_ri (n : Nat) : IsRow (ri n) := by
  unfold IsRow
  rw [ri_len]
theorem isRow_of {xs : List Int} (n : Nat) (h : xs.Perm (ri n)) : IsRow xs := by
  unfold IsRow
  have := h.length_eq
  rw [ri_len] at this
  rw [this]
  exact h
/-- without doubles and within bounds: a rearrangement -/
theorem nodup_sub_len : ∀ {xs ys : List Int}, xs.Nodup → (∀ x ∈ xs, x ∈ ys) → xs.length ≤ ys.length
  | [], _, _, _ => Nat.zero_le _
  | x :: r, ys, hn, hs => by
    have hx := hs x (List.mem_cons_self ..)
    have hn' := List.nodup_cons.mp hn
    have h2 := nodup_sub_len (xs := r) (ys := ys.erase x) hn'.2 fun y hy => by
      have hne : y ≠ x := fun e => hn'.1 (e ▸ hy)
      exact (List.mem_erase_of_ne hne).mpr (hs y (List.mem_cons_of_mem _ hy))
    rw [List.length_erase_of_mem hx] at h2
    have : 0 < ys.length := List.length_pos_of_mem hx
    simp only [List.length_cons]
    omega
theorem perm_of_nodup : ∀ {xs ys : List Int}, xs.Nodup → ys.Nodup → (∀ x ∈ xs, x ∈ ys) → xs.length = ys.length → xs.Perm ys
  | [], ys, _, _, _, e => by
    have : ys = [] := List.eq_nil_of_length_eq_zero e.symm
    subst this
    exact List.Perm.refl _
  | x :: r, ys, hn, hy, hs, e => by
    have hx := hs x (List.mem_cons_self ..)
    have hn' := List.nodup_cons.mp hn
    have hl : r.length = (ys.erase x).length := by
      rw [List.length_erase_of_mem hx]
      simp only [List.length_cons] at e
      omega
    have p := perm_of_nodup (xs := r) (ys := ys.erase x) hn'.2 (hy.erase x) (fun y h => by
      have hne : y ≠ x := fun e => hn'.1 (e ▸ h)
      exact (List.mem_erase_of_ne hne).mpr (hs y (List.mem_cons_of_mem _ h))) hl
    exact (p.cons x).trans (List.perm_cons_erase hx).symm
theorem isRow_mk {xs : List Int} (hn : xs.Nodup) (hb : ∀ x ∈ xs, 0 ≤ x ∧ x < (xs.length : Int)) : IsRow xs :=
  perm_of_nodup hn (ri_nodup _) (fun x hx => ri_mem.mpr (hb x hx)) (ri_len _).symm
/-- all places are there -/
theorem IsRow.all {xs : List Int} (h : IsRow xs) {v : Nat} (hv : v < xs.length) : (v : Int) ∈ xs := h.mem.mpr (by omega)
/-! ### picking members -/
def pickI (ts rs : List Int) : List Int := rs.map fun r => ts.getD r.toNat 0
theorem pick_len (ts rs : List Int) : (pickI ts rs).length = rs.length := by
  unfold pickI
  rw [List.length_map]
theorem pick_get {ts rs : List Int} {i : Nat} (h : i < rs.length) : (pickI ts rs)[i]'(by rw [pick_len]; exact h) = ts.getD rs[i].toNat 0 := by
  simp [pickI]
/-- done one behind the other -/
theorem pick_pick {ts xs ys : List Int} (hx : ∀ y ∈ ys, 0 ≤ y ∧ y.toNat < xs.length) : pickI (pickI ts xs) ys = pickI ts (pickI xs ys) := by
  unfold pickI
  rw [List.map_map]
  refine List.map_congr_left fun y hy => ?_
  have h := (hx y hy).2
  show (List.map (fun r : Int => ts.getD r.toNat 0) xs).getD y.toNat 0 = ts.getD (xs.getD y.toNat 0).toNat 0
  rw [List.getD_eq_getElem?_getD, List.getElem?_map, List.getElem?_eq_getElem h, List.getD_eq_getElem?_getD (l := xs), List.getElem?_eq_getElem h]
  rfl
theorem pick_ri (xs : List Int) : pickI xs (ri xs.length) = xs := by
  refine List.ext_getElem (by rw [pick_len, ri_len]) fun i h1 h2 => ?_
  rw [pick_get (by rw [ri_len]; exact h2)]
  have e : (ri xs.length)[i]'(by rw [ri_len]; exact h2) = (i : Int) := by
    have := ri_get h2
    rw [List.getElem?_eq_getElem (by rw [ri_len]; exact h2)] at this
    exact Option.some.inj this
  rw [e, Int.toNat_natCast, getD_get h2]
theorem ri_pick {xs : List Int} {n : Nat} (h : ∀ x ∈ xs, 0 ≤ x ∧ x < (n : Int)) : pickI (ri n) xs = xs := by
  unfold pickI
  conv => rhs; rw [← List.map_id xs]
  refine List.map_congr_left fun x hx => ?_
  have := h x hx
  show (ri n).getD x.toNat 0 = x
  rw [List.getD_eq_getElem?_getD, ri_get (by omega)]
  show ((x.toNat : Nat) : Int) = x
  omega
/-- a rearrangement of a rearrangement's members -/
theorem pick_perm {ts rs : List Int} (hr : IsRow rs) (hl : rs.length = ts.length) : (pickI ts rs).Perm ts := by
  have p : (pickI ts rs).Perm (pickI ts (ri rs.length)) := List.Perm.map _ hr
  rw [hl, pick_ri] at p
  exact p
theorem isRow_pick {xs ys : List Int} (hx : IsRow xs) (hy : IsRow ys) (hl : ys.length = xs.length) : IsRow (pickI xs ys) := by
  refine isRow_of xs.length ((pick_perm hy hl).trans hx)
/-! ### taking back -/
/-- bs takes xs back -/
def InvOf (xs bs : List Int) : Prop := bs.length = xs.length ∧ ∀ (j : Nat) (h : j < xs.length), bs[xs[j].toNat]? = some (j : Int)
theorem InvOf.pick {xs bs : List Int} (h : InvOf xs bs) (hx : IsRow xs) : pickI bs xs = ri xs.length := by
  refine List.ext_getElem (by rw [pick_len, ri_len]) fun i h1 h2 => ?_
  rw [pick_len] at h1
  rw [pick_get h1, List.getD_eq_getElem?_getD, h.2 i h1]
  have := ri_get h1
  rw [List.getElem?_eq_getElem h2] at this
  exact (Option.some.inj this).symm
theorem InvOf.mem {xs bs : List Int} (h : InvOf xs bs) (hx : IsRow xs) {v : Nat} (hv : v < xs.length) : ∃ (j : Nat) (hj : j < xs.length), xs[j] = (v : Int) ∧ bs[v]? = some (j : Int) := by
  obtain ⟨j, hj, e⟩ := List.getElem_of_mem (hx.all hv)
  have := h.2 j hj
  rw [e, Int.toNat_natCast] at this
  exact ⟨j, hj, e, this⟩
theorem InvOf.pick2 {xs bs : List Int} (h : InvOf xs bs) (hx : IsRow xs) : pickI xs bs = ri xs.length := by
  refine List.ext_getElem (by rw [pick_len, ri_len, h.1]) fun i h1 h2 => ?_
  rw [pick_len, h.1] at h1
  obtain ⟨j, hj, e, eb⟩ := h.mem hx h1
  have hb : i < bs.length := by rw [h.1]; exact h1
  rw [pick_get hb]
  have e2 : bs[i] = (j : Int) := by
    rw [List.getElem?_eq_getElem hb] at eb
    exact Option.some.inj eb
  rw [e2, Int.toNat_natCast, getD_get hj, e]
  have := ri_get h1
  rw [List.getElem?_eq_getElem h2] at this
  exact (Option.some.inj this).symm
theorem InvOf.bound {xs bs : List Int} (h : InvOf xs bs) (hx : IsRow xs) : ∀ y ∈ bs, 0 ≤ y ∧ y.toNat < xs.length := by
  intro y hy
  obtain ⟨i, hi, e⟩ := List.getElem_of_mem hy
  obtain ⟨j, hj, _, eb⟩ := h.mem hx (v := i) (by rw [← h.1]; exact hi)
  rw [List.getElem?_eq_getElem hi] at eb
  have := Option.some.inj eb
  omega
theorem InvOf.row {xs bs : List Int} (h : InvOf xs bs) (hx : IsRow xs) : IsRow bs := by
  refine isRow_mk ?_ fun y hy => ?_
  · rw [List.nodup_iff_pairwise_ne, List.pairwise_iff_getElem]
    intro i j hi hj hij e
    obtain ⟨u, hu, e1, b1⟩ := h.mem hx (v := i) (by rw [← h.1]; exact hi)
    obtain ⟨v, hv, e2, b2⟩ := h.mem hx (v := j) (by rw [← h.1]; exact hj)
    rw [List.getElem?_eq_getElem hi] at b1
    rw [List.getElem?_eq_getElem hj] at b2
    have q1 := Option.some.inj b1
    have q2 := Option.some.inj b2
    have : u = v := by omega
    subst this
    rw [e1] at e2
    omega
  · have := h.bound hx y hy
    rw [h.1]
    omega
theorem InvOf.uniq {xs b1 b2 : List Int} (h1 : InvOf xs b1) (h2 : InvOf xs b2) (hx : IsRow xs) : b1 = b2 := by
  refine List.ext_getElem (by rw [h1.1, h2.1]) fun i q1 q2 => ?_
  obtain ⟨u, hu, e1, y1⟩ := h1.mem hx (v := i) (by rw [← h1.1]; exact q1)
  have y2 := h2.2 u hu
  rw [e1, Int.toNat_natCast] at y2
  rw [List.getElem?_eq_getElem q1] at y1
  rw [List.getElem?_eq_getElem q2] at y2
  exact (Option.some.inj y1).trans (Option.some.inj y2).symm
theorem fwI_none : ∀ (n : Nat) (xs : List Int) (seen : List Int) (k : Nat), xs.Nodup → (∀ x ∈ xs, 0 ≤ x ∧ x < (n : Int) ∧ x ∉ seen) → fwI n seen k (xs.map V.int) = none
  | _, [], _, _, _, _ => rfl
  | n, x :: r, seen, k, hn, hb => by
    have hn' := List.nodup_cons.mp hn
    have hx := hb x (List.mem_cons_self ..)
    simp only [List.map_cons, fwI, if_pos hx]
    refine fwI_none n r (x :: seen) (k + 1) hn'.2 fun y hy => ?_
    have := hb y (List.mem_cons_of_mem _ hy)
    refine ⟨this.1, this.2.1, ?_⟩
    intro q
    rcases List.mem_cons.mp q with e | q
    · exact hn'.1 (e ▸ hy)
    · exact this.2.2 q
theorem fwI_row {xs : List Int} (h : IsRow xs) : fwI xs.length [] 0 (xs.map V.int) = none :=
  fwI_none _ _ _ _ h.nodup fun x hx => ⟨(h.mem.mp hx).1, (h.mem.mp hx).2, List.not_mem_nil⟩

section
variable {P : Program} {w : World} {K : PySem.W.Frag} {mg : Str → Option Value} {base : Heap} {a : Ad}
theorem isI_ints {H : Hp} {ns : List Int} : ∀ x ∈ ns.map V.int, ∃ b, IsI H x b := by
  intro x hx
  obtain ⟨i, _, rfl⟩ := List.mem_map.mp hx
  exact ⟨true, .int i⟩
/-- the row at p, as a list or a tuple -/
def RowAt (K : PySem.W.Frag) (H : Hp) (p : Addr) (xs : List Int) : Prop := SqA K H p (xs.map V.int) ∧ IsRow xs ∧ xs.length ≤ 100000
theorem RowAt.same {H H' : Hp} {p : Addr} {xs : List Int} (h : RowAt K H p xs) (e : Same H H') : RowAt K H' p xs := ⟨h.1.same e, h.2⟩
theorem SqA.at_get {K : PySem.W.Frag} {H : Hp} {p : Addr} {ts : List Int} {i : Int} {Q : VK} (h : SqA K H p (ts.map V.int)) (h0 : 0 ≤ i) (h1 : i.toNat < ts.length) (q : Q (.int (ts.getD i.toNat 0)) H) : rIx K (.ref p) (.int i) H Q := by
  rw [getD_get h1] at q
  have hi := atI_ints h0 h1
  rcases h with h | h
  · exact .inl ⟨p, _, i, _, rfl, rfl, h, hi, q⟩
  · exact .inr (.inl ⟨p, _, i, _, rfl, rfl, h, hi, q⟩)
def spCheckRow (K : PySem.W.Frag) : Sp := fun vs H Q _ => ∃ p xs, vs = [.ref p] ∧ RowAt K H p xs ∧ ∀ H', Same H H' → Q .non H'
theorem ok_check_row (T : Tx w K mg a) : FnOk P w K mg base CX0 4 a.f_check_row a.d_check_row ["row"] (spCheckRow K) := by
  refine T.F_check_row.ok sc_check_row (fun vs H Q E h => ?_) (fun cdv A outer s H vs Q E hr h => ?_)
  · obtain ⟨p, xs, rfl, _⟩ := h
    rfl
  · obtain ⟨p, xs, rfl, ⟨hS, hR, hL⟩, q⟩ := h
    refine ⟨_, 
(pss_cons (ps_set (i := 1) sc_check_row.nd rfl (.inl rfl) (pe_call (ok_first_wrong T) hr (by rfl) T.m_first_wrong T.F_first_wrong.kp T.b_first_wrong .nil pass0 (pa_cons (pv 0) (pa_cons (pe_callB call_len_seq (by rfl) T.z_len PySem.boot_len (pa_cons (pv 0) pa_nil)) pa_nil))))
  (pss_one (ps_if (pt_cmpR op_notN (pv 1) pe_non (nomark _))
  (pss_one ps_never)
  pss_nil))), ?_⟩
    refine ⟨.ref p, rfl, .ref p, rfl, p, _, rfl, hS, p, xs.map V.int, rfl, hS, by rw [List.length_map]; exact hL, isI_ints, fun H' s' => ?_⟩
    rw [List.length_map, fwI_row hR]
    exact ⟨_, rfl, rfl, _, rfl, iteF (q H' s')⟩
def spNothing : Sp := fun vs H Q _ => ∃ n : Nat, vs = [.int (n : Int)] ∧ n ≤ 1000 ∧ ∀ p H', H p = none → H' p = some (.lst ((ri n).map V.int)) → Same H H' → Q (.ref p) H'
theorem ok_nothing (T : Tx w K mg a) : FnOk P w K mg base CX0 3 a.f_nothing a.d_nothing ["size"] spNothing := by
  refine T.F_nothing.ok sc_nothing (fun vs H Q E h => ?_) (fun cdv A outer s H vs Q E hr h => ?_)
  · obtain ⟨n, rfl, _⟩ := h
    rfl
  · obtain ⟨n, rfl, hn, q⟩ := h
    refine ⟨_, 
(pss_cons (ps_if (pt_not (pt_val (pe_call (ok_is_between T) hr (by rfl) T.m_is_between T.F_is_between.kp T.b_is_between .nil pass0 (pa_cons (pv 0) (pa_cons pe_int (pa_cons (pe_glob (v := .int 1000) (by rfl) T.m_MOST_PLACES.choose_spec ⟨_, rfl⟩) pa_nil))))))
  (pss_one ps_never)
  pss_nil)
  (pss_one (ps_ret (pe_listRg rfl (by rfl) T.z_list (prg_1 (by rfl) T.z_range (pv 0)))))), ?_⟩
    refine ⟨_, rfl, .int n, true, 0, 1000, rfl, .int _, _, rfl, ?_⟩
    have e : btM 0 1000 (.int (n : Int)) = true := by
      simp only [btM, Bool.and_eq_true, decide_eq_true_eq]
      omega
    rw [e]
    refine iteF ⟨_, rfl, _, rfl, RgOk.of_le (by decide) (by omega) (by decide) (by omega), fun p hp => ?_⟩
    rw [rgV_ri]
    exact q p _ hp upd_same (same_upd hp)
def spInTurn (K : PySem.W.Frag) : Sp := fun vs H Q _ => ∃ p r xs ys, vs = [.ref p, .ref r] ∧ SqA K H p (xs.map V.int) ∧ SqA K H r (ys.map V.int) ∧ (∀ y ∈ ys, 0 ≤ y ∧ y.toNat < xs.length) ∧ ys.length ≤ 100000 ∧ ∀ o H', H o = none → H' o = some (.lst ((pickI xs ys).map V.int)) → Same H H' → Q (.ref o) H'
theorem ok_in_turn (T : Tx w K mg a) : FnOk P w K mg base CX0 1 a.f_in_turn a.d_in_turn ["first", "second"] (spInTurn K) := by
  refine T.F_in_turn.ok sc_in_turn (fun vs H Q E h => ?_) (fun cdv A outer s H vs Q E hr h => ?_)
  · obtain ⟨p, r, xs, ys, rfl, _⟩ := h
    rfl
  · obtain ⟨p, r, xs, ys, rfl, hX, hY, hb, hl, q⟩ := h
    refine ⟨_, 
(pss_one (ps_ret (pe_lc (own := [("place", 2)]) (g := gName 2) rfl sc_in_turn.nd (pi_seq (pv 1)) (blkOk_by (own := [("place", 2)]) (N := ["first", "second", "place"]) (sc := defScope s_in_turn) (by decide +kernel)) (fun _ _ _ _ _ => pg_name (i := 2) sc_in_turn.nd rfl (Or.inl rfl)) (fun _ _ _ _ _ => pts_nil) (fun _ _ _ _ _ => (pe_ix (show IxR _ (rIx K) from ix_seq) (pv 0) (pv 2) (fun _ _ => rfl)))))), ?_⟩
    refine ⟨.ref r, rfl, r, ys.map V.int, rfl, ?_⟩
    refine hY.elim (fun hS => .inl ⟨hS, fun o ho => ?_⟩) (fun hS => .inr ⟨hS, fun o ho => ?_⟩)
    all_goals
      refine lc_it (by first | exact walk_list (xs := ys.map V.int) | exact walk_tup (xs := ys.map V.int)) (fun i H' => Same H H' ∧ H' o = some (.lst (((pickI xs ys).take i).map V.int))) ?h0 ?hG ?hs ?hd
      case h0 => exact ⟨same_upd ho, upd_same⟩
      case hG =>
        rintro i H' _ ⟨sm, _⟩
        first | exact sm.seq hS | exact Same.seqT sm hS
      case hd =>
        rintro H' ⟨sm, e⟩
        rw [List.length_map, List.take_of_length_le (by rw [pick_len]; exact Nat.le_refl _)] at e
        exact q o H' ho e sm
      case hs =>
        rintro i x H3 H4 hi ⟨sm, e⟩ ⟨rfl, ex⟩
        rw [List.length_map] at hi
        rw [List.getElem?_map, List.getElem?_eq_getElem hi] at ex
        cases ex
        have hb := hb _ (List.getElem_mem hi)
        refine ⟨rfl, _, rfl, _, rfl, SqA.at_get (hX.same sm) hb.1 hb.2 ?_⟩
        refine ⟨_, e, ?_, ?_, ?_⟩
        · rw [List.length_map, List.length_take]
          exact szlt (Nat.le_trans (Nat.min_le_right _ _) (by rw [pick_len]; exact hl))
        · intro b u hb'
          rw [upd_ne (ne_of_none hb' ho)]
          exact sm b u hb'
        · rw [upd_same, List.take_add_one, List.getElem?_eq_getElem (by rw [pick_len]; exact hi), pick_get hi, List.map_append]
          rfl
def spJoined (K : PySem.W.Frag) : Sp := fun vs H Q _ => ∃ p r xs ys, vs = [.ref p, .ref r] ∧ RowAt K H p xs ∧ RowAt K H r ys ∧ ys.length = xs.length ∧ ∀ o H', H o = none → H' o = some (.lst ((pickI xs ys).map V.int)) → Same H H' → Q (.ref o) H'
theorem ok_joined (T : Tx w K mg a) : FnOk P w K mg base CX0 5 a.f_joined a.d_joined ["first", "second"] (spJoined K) := by
  refine T.F_joined.ok sc_joined (fun vs H Q E h => ?_) (fun cdv A outer s H vs Q E hr h => ?_)
  · obtain ⟨p, r, xs, ys, rfl, _⟩ := h
    rfl
  · obtain ⟨p, r, xs, ys, rfl, hX, hY, hl, q⟩ := h
    refine ⟨_, 
(pss_cons (ps_expr (pe_call (ok_check_row T) hr (by rfl) T.m_check_row T.F_check_row.kp T.b_check_row .nil pass0 (pa_cons (pv 0) pa_nil)))
  (pss_cons (ps_expr (pe_call (ok_check_row T) hr (by rfl) T.m_check_row T.F_check_row.kp T.b_check_row .nil pass0 (pa_cons (pv 1) pa_nil)))
  (pss_cons (ps_if (pt_cmpR op_ne (pe_callB call_len_seq (by rfl) T.z_len PySem.boot_len (pa_cons (pv 0) pa_nil)) (pe_callB call_len_seq (by rfl) T.z_len PySem.boot_len (pa_cons (pv 1) pa_nil)) (nomark _))
  (pss_one ps_never)
  pss_nil)
  (pss_one (ps_ret (pe_call (ok_in_turn T) (hr.mono (by decide)) (by rfl) T.m_in_turn T.F_in_turn.kp T.b_in_turn .nil pass0 (pa_cons (pv 0) (pa_cons (pv 1) pa_nil)))))))), ?_⟩
    refine ⟨.ref p, rfl, p, xs, rfl, hX, fun H1 s1 => ⟨.ref r, rfl, r, ys, rfl, hY.same s1, fun H2 s2 => ?_⟩⟩
    have s12 := s1.trans s2
    have hX2 := hX.same s12
    have hY2 := hY.same s12
    refine ⟨.ref p, rfl, p, _, rfl, hX2.1, .ref r, rfl, r, _, rfl, hY2.1, rfl, _, rfl, ?_⟩
    rw [List.length_map, List.length_map, hl]
    refine iteNS rfl ?_
    refine ⟨.ref p, rfl, .ref r, rfl, p, r, xs, ys, rfl, hX2.1, hY2.1, fun y hy => ?_, hY.2.2, fun o H' no eo s3 => q o H' (s12.free no) eo (s12.trans s3)⟩
    have := hY.2.1.mem.mp hy
    omega
def spDone (K : PySem.W.Frag) : Sp := fun vs H Q _ => ∃ p r xs ts, vs = [.ref p, .ref r] ∧ RowAt K H p xs ∧ SqA K H r (ts.map V.int) ∧ ts.length = xs.length ∧ ∀ o H', H o = none → H' o = some (.lst ((pickI ts xs).map V.int)) → Same H H' → Q (.ref o) H'
theorem ok_done (T : Tx w K mg a) : FnOk P w K mg base CX0 5 a.f_done a.d_done ["row", "things"] (spDone K) := by
  refine T.F_done.ok sc_done (fun vs H Q E h => ?_) (fun cdv A outer s H vs Q E hr h => ?_)
  · obtain ⟨p, r, xs, ts, rfl, _⟩ := h
    rfl
  · obtain ⟨p, r, xs, ts, rfl, hX, hT, hl, q⟩ := h
    refine ⟨_, 
(pss_cons (ps_expr (pe_call (ok_check_row T) hr (by rfl) T.m_check_row T.F_check_row.kp T.b_check_row .nil pass0 (pa_cons (pv 0) pa_nil)))
  (pss_cons (ps_if (pt_cmpR op_ne (pe_callB call_len_seq (by rfl) T.z_len PySem.boot_len (pa_cons (pv 1) pa_nil)) (pe_callB call_len_seq (by rfl) T.z_len PySem.boot_len (pa_cons (pv 0) pa_nil)) (nomark _))
  (pss_one ps_never)
  pss_nil)
  (pss_one (ps_ret (pe_lc (own := [("place", 2)]) (g := gName 2) rfl sc_done.nd (pi_seq (pv 0)) (blkOk_by (own := [("place", 2)]) (N := ["row", "things", "place"]) (sc := defScope s_done) (by decide +kernel)) (fun _ _ _ _ _ => pg_name (i := 2) sc_done.nd rfl (Or.inl rfl)) (fun _ _ _ _ _ => pts_nil) (fun _ _ _ _ _ => (pe_ix (show IxR _ (rIx K) from ix_seq) (pv 1) (pv 2) (fun _ _ => rfl)))))))), ?_⟩
    refine ⟨.ref p, rfl, p, xs, rfl, hX, fun H1 s1 => ?_⟩
    have hX1 := hX.same s1
    have hT1 := hT.same s1
    refine ⟨.ref r, rfl, r, _, rfl, hT1, .ref p, rfl, p, _, rfl, hX1.1, rfl, _, rfl, ?_⟩
    rw [List.length_map, List.length_map, hl]
    refine iteNS rfl ?_
    refine ⟨.ref p, rfl, p, xs.map V.int, rfl, ?_⟩
    refine hX1.1.elim (fun hS => .inl ⟨hS, fun o ho => ?_⟩) (fun hS => .inr ⟨hS, fun o ho => ?_⟩)
    all_goals
      refine lc_it (by first | exact walk_list (xs := xs.map V.int) | exact walk_tup (xs := xs.map V.int)) (fun i H' => Same H1 H' ∧ H' o = some (.lst (((pickI ts xs).take i).map V.int))) ?h0 ?hG ?hs ?hd
      case h0 => exact ⟨same_upd ho, upd_same⟩
      case hG =>
        rintro i H' _ ⟨sm, _⟩
        first | exact sm.seq hS | exact Same.seqT sm hS
      case hd =>
        rintro H' ⟨sm, e⟩
        rw [List.length_map, List.take_of_length_le (by rw [pick_len]; exact Nat.le_refl _)] at e
        exact q o H' (s1.free ho) e (s1.trans sm)
      case hs =>
        rintro i x H3 H4 hi ⟨sm, e⟩ ⟨rfl, ex⟩
        rw [List.length_map] at hi
        rw [List.getElem?_map, List.getElem?_eq_getElem hi] at ex
        cases ex
        have hb := hX.2.1.at hi
        refine ⟨rfl, _, rfl, _, rfl, SqA.at_get (hT1.same sm) hb.1 (show xs[i].toNat < ts.length by have := hb.2; omega) ?_⟩
        refine ⟨_, e, ?_, ?_, ?_⟩
        · rw [List.length_map, List.length_take]
          exact szlt (Nat.le_trans (Nat.min_le_right _ _) (by rw [pick_len]; exact hX.2.2))
        · intro b u hb'
          rw [upd_ne (ne_of_none hb' ho)]
          exact sm b u hb'
        · rw [upd_same, List.take_add_one, List.getElem?_eq_getElem (by rw [pick_len]; exact hi), pick_get hi, List.map_append]
          rfl
def spBackFrom (K : PySem.W.Frag) : Sp := fun vs H Q _ => ∃ p xs, vs = [.ref p] ∧ RowAt K H p xs ∧ ∀ o bs H', H o = none → InvOf xs bs → H' o = some (.lst (bs.map V.int)) → Same H H' → Q (.ref o) H'
theorem ok_back_from (T : Tx w K mg a) : FnOk P w K mg base CX0 1 a.f_back_from a.d_back_from ["row"] (spBackFrom K) := by
  refine T.F_back_from.ok sc_back_from (fun vs H Q E h => ?_) (fun cdv A outer s H vs Q E hr h => ?_)
  · obtain ⟨p, xs, rfl, _⟩ := h
    rfl
  · obtain ⟨p, xs, rfl, hX, q⟩ := h
    refine ⟨_, 
(pss_cons (ps_set (i := 1) sc_back_from.nd rfl (.inl rfl) (pe_callTy call_list_of (by rfl) T.z_list (by decide +kernel) (pa_cons (pv 0) pa_nil)))
  (pss_cons (ps_for PassesOwn.never rfl (pi_enumS (by rfl) T.z_enumerate (pa_cons (pv 0) pa_nil)) (pg_tup rfl (pgs_cons (pg_name (i := 2) sc_back_from.nd rfl (.inl rfl)) (pgs_cons (pg_name (i := 3) sc_back_from.nd rfl (.inl rfl)) pgs_nil)))
  (pss_one (ps_asg (pv 2) (pg_sub (pv 1) (pv 3) set_list))))
  (pss_one (ps_ret (pv 1))))), ?_⟩
    refine ⟨.ref p, rfl, p, _, rfl, hX.1, fun o ho => ?_⟩
    have s2 : Same H (upd H o (.lst (xs.map V.int))) := same_upd ho
    have ho2 : (upd H o (.lst (xs.map V.int))) o = some (.lst (xs.map V.int)) := upd_same
    generalize upd H o (.lst (xs.map V.int)) = H2 at s2 ho2 ⊢
    have hn := hX.2.1.nodup
    refine ⟨.ref p, rfl, p, xs.map V.int, rfl, ?_⟩
    refine hX.1.elim (fun hS => .inl ⟨s2.seq hS, ?_⟩) (fun hS => .inr ⟨Same.seqT s2 hS, ?_⟩)
    all_goals
      refine for_it (by first | exact walk_enum (xs := xs.map V.int) | exact walk_enumT (xs := xs.map V.int)) (fun i σ H3 => ∃ (y2 y3 : Option V) (bs : List Int), σ = [some (.ref p), some (.ref o), y2, y3] ∧ Same H H3 ∧ H3 o = some (.lst (bs.map V.int)) ∧ bs.length = xs.length ∧ (∀ (j : Nat) (h : j < xs.length), j < i → bs[xs[j].toNat]? = some (j : Int))) ?h0 ?hG ?hs ?hd
      case h0 => exact ⟨none, none, xs, rfl, s2, ho2, rfl, fun j _ h => absurd h (Nat.not_lt_zero _)⟩
      case hG =>
        rintro i σ H3 hi ⟨y2, y3, bs, rfl, s3, _, _, _⟩
        first | exact s3.seq hS | exact Same.seqT s3 hS
      case hd =>
        rintro σ H3 ⟨y2, y3, bs, rfl, s3, ho3, hl, hb⟩
        rw [List.length_map] at hb
        exact ⟨_, rfl, q o bs H3 ho ⟨hl, fun j h => hb j h h⟩ ho3 s3⟩
      case hs =>
        rintro i v σ H3 H4 hi ⟨y2, y3, bs, rfl, s3, ho3, hl, hb⟩ ⟨t, x1, x, rfl, nt, rfl, e1, e2⟩
        cases e1
        rw [List.length_map] at hi
        have e2 : (xs.map V.int)[i]? = some x := e2
        rw [List.getElem?_map, List.getElem?_eq_getElem hi] at e2
        cases e2
        have s4 : Same H3 (upd H3 t (.tup [.int (i : Nat), .int xs[i]])) := same_upd nt
        have ho4 := s4 _ _ ho3
        have hat := hX.2.1.at hi
        refine ⟨t, [.int (i : Nat), .int xs[i]], rfl, SqT.at upd_same, rfl, _, [.int xs[i]], rfl, .int xs[i], [], rfl, rfl, ?_⟩
        refine ⟨_, rfl, _, rfl, _, rfl, o, _, _, xs[i].toNat, rfl, rfl, ho4, ixN_nat hat.1 (by rw [List.length_map]; omega), ?_⟩
        refine ⟨_, _, bs.set xs[i].toNat (i : Int), rfl, ?_, by rw [upd_same, List.map_set], by rw [List.length_set]; exact hl, fun j hj hji => ?_⟩
        · intro b u hb'
          rw [upd_ne (ne_of_none hb' ho)]
          exact s4 _ _ (s3 b u hb')
        · by_cases hjc : j = i
          · subst hjc
            rw [List.getElem?_set_self (by omega)]
          · have hne : xs[j] ≠ xs[i] := fun e => hjc ((List.getElem_inj hn).mp e)
            have hatj := hX.2.1.at hj
            rw [List.getElem?_set_ne (by omega)]
            exact hb j hj (by omega)
def spUndone (K : PySem.W.Frag) : Sp := fun vs H Q _ => ∃ p xs, vs = [.ref p] ∧ RowAt K H p xs ∧ ∀ o bs H', H o = none → InvOf xs bs → H' o = some (.lst (bs.map V.int)) → Same H H' → Q (.ref o) H'
theorem ok_undone (T : Tx w K mg a) : FnOk P w K mg base CX0 5 a.f_undone a.d_undone ["row"] (spUndone K) := by
  refine T.F_undone.ok sc_undone (fun vs H Q E h => ?_) (fun cdv A outer s H vs Q E hr h => ?_)
  · obtain ⟨p, xs, rfl, _⟩ := h
    rfl
  · obtain ⟨p, xs, rfl, hX, q⟩ := h
    refine ⟨_, 
(pss_cons (ps_expr (pe_call (ok_check_row T) hr (by rfl) T.m_check_row T.F_check_row.kp T.b_check_row .nil pass0 (pa_cons (pv 0) pa_nil)))
  (pss_one (ps_ret (pe_call (ok_back_from T) (hr.mono (by decide)) (by rfl) T.m_back_from T.F_back_from.kp T.b_back_from .nil pass0 (pa_cons (pv 0) pa_nil))))), ?_⟩
    refine ⟨.ref p, rfl, p, xs, rfl, hX, fun H1 s1 => ⟨.ref p, rfl, p, xs, rfl, hX.same s1, fun o bs H' no iv eo s2 => q o bs H' (s1.free no) iv eo (s1.trans s2)⟩⟩
end

theorem ne_false {xs ys : List Int} {A B : Prop} (h : xs = ys) (q : B) : if (!PyData.eqv (iD xs) (iD ys)) = true then A else B := by
  subst h
  rw [eqv_ints, decide_eq_true rfl]
  exact q
theorem perm_ints {vs : List V} {xs : List Int} (h : vs.Perm (xs.map V.int)) : ∃ ys : List Int, vs = ys.map V.int ∧ ys.Perm xs := by
  let un : V → Int := fun v => match v with
    | .int i => i
    | _ => 0
  have e : vs = (vs.map un).map V.int := by
    rw [List.map_map]
    conv => lhs; rw [← List.map_id vs]
    refine List.map_congr_left fun v hv => ?_
    obtain ⟨i, _, rfl⟩ := List.mem_map.mp (h.mem_iff.mp hv)
    rfl
  refine ⟨vs.map un, e, ?_⟩
  have p := h.map un
  rw [List.map_map] at p
  have e2 : xs.map (un ∘ V.int) = xs := by
    conv => rhs; rw [← List.map_id xs]
    exact List.map_congr_left fun _ _ => rfl
  rw [e2] at p
  exact p
/-- the comprehension [xs[y] for y in ys]: names at i (ys), j (xs), k (y) -/
theorem lc_pick {K : PySem.W.Frag} {σ : L2.St} {H : Hp} {Q : VK} {p r : Addr} {xs ys : List Int} {i j k : Nat} (hi : σ[i]? = some (some (.ref r))) (hj : σ[j]? = some (some (.ref p))) (hjk : k ≠ j) (hk : k < σ.length)
    (hy : SqL K H r (ys.map V.int)) (hx : SqL K H p (xs.map V.int)) (hb : ∀ y ∈ ys, 0 ≤ y ∧ y.toNat < xs.length) (hl : ys.length ≤ 100000)
    (q : ∀ o H', H o = none → H' o = some (.lst ((pickI xs ys).map V.int)) → Same H H' → Q (.ref o) H') :
    tLc (iList K (tVar i)) (gName k) tYes (tOp (rIxL K) (tVar j) (tVar k)) [k] σ H Q := by
  refine ⟨_, hi, r, rfl, ⟨_, hy⟩, fun o ho => ?_⟩
  refine lc_it (walk_list (xs := ys.map V.int)) (fun i H' => Same H H' ∧ H' o = some (.lst (((pickI xs ys).take i).map V.int))) ?h0 ?hG ?hs ?hd
  case h0 => exact ⟨same_upd ho, upd_same⟩
  case hG =>
    rintro i H' _ ⟨sm, _⟩
    exact sm.seq hy
  case hd =>
    rintro H' ⟨sm, e⟩
    rw [List.length_map, List.take_of_length_le (by rw [pick_len]; exact Nat.le_refl _)] at e
    exact q o H' ho e sm
  case hs =>
    rintro i x H3 H4 hi' ⟨sm, e⟩ ⟨rfl, ex⟩
    rw [List.length_map] at hi'
    rw [List.getElem?_map, List.getElem?_eq_getElem hi'] at ex
    cases ex
    have hbi := hb _ (List.getElem_mem hi')
    refine ⟨?_, .ref p, ?_, .int ys[i], ?_, p, _, ys[i], _, rfl, rfl, sm.seq hx, atI_ints hbi.1 hbi.2, ?_⟩
    · show ((σ.set k none).set k _).set k none = σ.set k none
      simp
    · show ((σ.set k none).set k _)[j]? = _
      rw [List.getElem?_set_ne hjk, List.getElem?_set_ne hjk]
      exact hj
    · show ((σ.set k none).set k _)[k]? = _
      rw [List.getElem?_set_self (by simp; exact hk)]
    · refine ⟨_, e, ?_, ?_, ?_⟩
      · rw [List.length_map, List.length_take]
        exact szlt (Nat.le_trans (Nat.min_le_right _ _) (by rw [pick_len]; exact hl))
      · intro b u hb'
        rw [upd_ne (ne_of_none hb' ho)]
        exact sm b u hb'
      · rw [upd_same, List.take_add_one, List.getElem?_eq_getElem (by rw [pick_len]; exact hi'), pick_get hi', List.map_append, getD_get hbi.2]
        rfl
section
variable {P : Program} {w : World} {K : PySem.W.Frag} {mg : Str → Option Value} {base : Heap} {a : Ad}
def spLawRow : Sp := fun vs H Q _ => ∃ (d c : Addr) (n m : Nat), vs = [.ref d, .int (m : Int)] ∧ Pen H d c n ∧ n + m < 2 ^ 40 ∧ m ≤ 100000 ∧
  ∀ p ys H', IsRow ys → ys.length = m → H p = none → H' p = some (.lst (ys.map V.int)) → Pen H' d c (n + m) → But d H H' → Q (.ref p) H'
theorem ok__law_row (T : Tx w K mg a) : FnOk P w K mg base CX0 3 a.f__law_row a.d__law_row ["pen", "size"] spLawRow := by
  refine T.F__law_row.ok sc__law_row (fun vs H Q E h => ?_) (fun cdv A outer s H vs Q E hr h => ?_)
  · obtain ⟨d, c, n, m, rfl, _⟩ := h
    rfl
  · obtain ⟨d, c, n, m, rfl, hp, hn, hm, q⟩ := h
    refine ⟨_, 
(pss_one (ps_ret (pe_call (ok__law_shuffled T) hr (by rfl) T.m__law_shuffled T.F__law_shuffled.kp T.b__law_shuffled .nil pass0 (pa_cons (pv 0) (pa_cons (pe_listRg rfl (by rfl) T.z_list (prg_1 (by rfl) T.z_range (pv 1))) pa_nil))))), ?_⟩
    refine ⟨.ref d, rfl, _, rfl, _, rfl, RgOk.of_le (by decide) (by omega) (by decide) (by omega), fun l hl => ?_⟩
    rw [rgV_ri]
    have s1 : Same H (upd H l (.lst ((ri m).map V.int))) := same_upd hl
    have hlen : ((ri m).map V.int).length = m := by rw [List.length_map, ri_len]
    refine ⟨d, c, l, n, _, rfl, hp.same s1, by rw [hlen]; exact hn, SqL.at upd_same, by rw [hlen]; exact hm, fun p ys H' pm hp0 hpl hpen hb => ?_⟩
    obtain ⟨zs, rfl, pz⟩ := perm_ints pm
    have zl : zs.length = m := by
      have := pz.length_eq
      rw [ri_len] at this
      exact this
    rw [hlen] at hpen
    exact q p zs H' (isRow_of m pz) zl (s1.free hp0) hpl hpen fun b o e n => hb b o (s1 b o e) n
def spAfter (K : PySem.W.Frag) : Sp := fun vs H Q _ => ∃ p r xs ts, vs = [.ref p, .ref r] ∧ SqL K H p (xs.map V.int) ∧ SqL K H r (ts.map V.int) ∧ (∀ y ∈ xs, 0 ≤ y ∧ y.toNat < ts.length) ∧ xs.length ≤ 100000 ∧
  ∀ o H', H o = none → H' o = some (.lst ((pickI ts xs).map V.int)) → Same H H' → Q (.ref o) H'
theorem ok__law_after (T : Tx w K mg a) : FnOk P w K mg base CX0 1 a.f__law_after a.d__law_after ["row", "things"] (spAfter K) := by
  refine T.F__law_after.ok sc__law_after (fun vs H Q E h => ?_) (fun cdv A outer s H vs Q E hr h => ?_)
  · obtain ⟨p, r, xs, ts, rfl, _⟩ := h
    rfl
  · obtain ⟨p, r, xs, ts, rfl, hX, hT, hb, hl, q⟩ := h
    refine ⟨_, 
(pss_one (ps_ret (pe_lc (own := [("part", 2)]) (g := gName 2) rfl sc__law_after.nd (pi_list (pv 0)) (blkOk_by (own := [("part", 2)]) (N := ["row", "things", "part"]) (sc := defScope s__law_after) (by decide +kernel)) (fun _ _ _ _ _ => pg_name (i := 2) sc__law_after.nd rfl (Or.inl rfl)) (fun _ _ _ _ _ => pts_nil) (fun _ _ _ _ _ => (pe_ix (show IxR _ (rIxL K) from ix_list) (pv 1) (pv 2) (fun _ _ => rfl)))))), ?_⟩
    exact lc_pick (i := 0) (j := 1) (k := 2) rfl rfl (by decide) (show 2 < 3 by decide) hX hT hb hl q
end

/-- the lists of a lap -/
structure Six (H : Hp) (p1 p2 p3 q1 q2 q3 : Addr) (one other things : List Int) : Prop where
  a1 : H p1 = some (.lst (one.map V.int))
  a2 : H p2 = some (.lst (other.map V.int))
  a3 : H p3 = some (.lst (things.map V.int))
  b1 : H q1 = some (.lst (one.map V.int))
  b2 : H q2 = some (.lst (other.map V.int))
  b3 : H q3 = some (.lst (things.map V.int))
theorem Six.same {H H' : Hp} {p1 p2 p3 q1 q2 q3 : Addr} {one other things : List Int} (h : Six H p1 p2 p3 q1 q2 q3 one other things) (s : Same H H') : Six H' p1 p2 p3 q1 q2 q3 one other things :=
  ⟨s _ _ h.a1, s _ _ h.a2, s _ _ h.a3, s _ _ h.b1, s _ _ h.b2, s _ _ h.b3⟩
theorem pick_snoc {ts rs : List Int} {t : Int} (hr : IsRow rs) (hl : ts.length = rs.length) : pickI (ts ++ [t]) (rs ++ [(rs.length : Int)]) = pickI ts rs ++ [t] := by
  unfold pickI
  rw [List.map_append]
  congr 1
  · refine List.map_congr_left fun r h => ?_
    have := hr.mem.mp h
    rw [List.getD_eq_getElem?_getD, List.getD_eq_getElem?_getD, List.getElem?_append_left (by omega)]
  · show [(ts ++ [t]).getD (rs.length : Int).toNat 0] = [t]
    rw [Int.toNat_natCast, List.getD_eq_getElem?_getD, List.getElem?_append_right (by omega)]
    simp [hl]
theorem row_snoc {rs : List Int} (hr : IsRow rs) : IsRow (rs ++ [(rs.length : Int)]) := by
  refine isRow_mk ?_ ?_
  · rw [List.nodup_append]
    refine ⟨hr.nodup, by simp, ?_⟩
    intro x hx y hy e
    have := hr.mem.mp hx
    rw [List.mem_singleton] at hy
    omega
  · intro x hx
    rw [List.length_append]
    rcases List.mem_append.mp hx with h | h
    · have := hr.mem.mp h
      simp
      omega
    · rw [List.mem_singleton] at h
      subst h
      simp
      omega
section
variable {P : Program} {w : World} {K : PySem.W.Frag} {mg : Str → Option Value} {base : Heap} {a : Ad}
def spLaw (K : PySem.W.Frag) : Sp := fun vs H Q _ => ∃ (s : Addr) (ns : List Int), vs = [.ref s] ∧ SqL K H s (ns.map V.int) ∧ ns.length ≤ 63 ∧ ∀ H', Q (.bl true) H'
theorem ok_law (T : Tx w K mg a) : FnOk P w K mg base CX0 6 a.f_law a.d_law ["script"] (spLaw K) := by
  refine T.F_law.ok sc_law (fun vs H Q E h => ?_) (fun cdv A outer s H vs Q E hr h => ?_)
  · obtain ⟨x, ns, rfl, _⟩ := h
    rfl
  · obtain ⟨x, ns, rfl, hS, hlen, q⟩ := h
    refine ⟨_, 
(pss_cons (ps_set (i := 1) sc_law.nd rfl (.inl rfl) (pe_call (ok__law_pen T) (hr.mono (by decide)) (by rfl) T.m__law_pen T.F__law_pen.kp T.b__law_pen .nil pass0 (pa_cons (pv 0) pa_nil)))
  (pss_cons (ps_for PassesOwn.never rfl (pi_range1 (by rfl) T.z_range (pa_cons pe_int pa_nil)) (pg_name (i := 2) sc_law.nd rfl (.inl rfl))
  (pss_cons (ps_set (i := 3) sc_law.nd rfl (.inl rfl) (pe_call (ok__law_pick T) (hr.mono (by decide)) (by rfl) T.m__law_pick T.F__law_pick.kp T.b__law_pick .nil pass0 (pa_cons (pv 1) (pa_cons (pe_lst (pa_cons (pe_call (ok__law_draw T) (hr.mono (by decide)) (by rfl) T.m__law_draw T.F__law_draw.kp T.b__law_draw .nil pass0 (pa_cons (pv 1) (pa_cons pe_int pa_nil))) (pa_cons (pe_call (ok__law_draw T) (hr.mono (by decide)) (by rfl) T.m__law_draw T.F__law_draw.kp T.b__law_draw .nil pass0 (pa_cons (pv 1) (pa_cons pe_int pa_nil))) (pa_cons (pe_call (ok__law_draw T) (hr.mono (by decide)) (by rfl) T.m__law_draw T.F__law_draw.kp T.b__law_draw .nil pass0 (pa_cons (pv 1) (pa_cons pe_int pa_nil))) pa_nil)))) pa_nil))))
  (C8.pss_cut (ps_if (PW.pt (pw_and (pt_cmpR op_eq (pv 2) pe_int (nomark _)) (pw_and1 (pt_cmpR op_eq (pe_call (ok__law_draw T) (hr.mono (by decide)) (by rfl) T.m__law_draw T.F__law_draw.kp T.b__law_draw .nil pass0 (pa_cons (pv 1) (pa_cons pe_int pa_nil))) pe_int (nomark _)))))
  (pss_one (ps_set (i := 3) sc_law.nd rfl (.inl rfl) pe_int))
  pss_nil)
  (pss_cons (ps_par (i := 4) (j := 5) (by rfl) sc_law.nd rfl rfl (by decide) rfl rfl (pa_cons (pe_call (ok__law_row T) (hr.mono (by decide)) (by rfl) T.m__law_row T.F__law_row.kp T.b__law_row .nil pass0 (pa_cons (pv 1) (pa_cons (pv 3) pa_nil))) (pa_cons (pe_call (ok__law_row T) (hr.mono (by decide)) (by rfl) T.m__law_row T.F__law_row.kp T.b__law_row .nil pass0 (pa_cons (pv 1) (pa_cons (pv 3) pa_nil))) pa_nil)) (by rfl))
  (pss_cons (ps_setLc (i := 6) (own := [("k", 12)]) (g := gName 12) rfl sc_law.nd rfl rfl (sw_true rfl rfl rfl (by decide +kernel)) (pi_list (pe_call (ok__law_row T) (hr.mono (by decide)) (by rfl) T.m__law_row T.F__law_row.kp T.b__law_row .nil pass0 (pa_cons (pv 1) (pa_cons (pv 3) pa_nil)))) (blkOk_by (own := [("k", 12)]) (N := ["script", "pen", "lap", "size", "one", "other", "things", "first", "second", "kept", "told", "back", "k", "part"]) (sc := defScope s_law) (by decide +kernel)) (fun _ _ _ _ _ => pg_name (i := 12) sc_law.nd rfl (Or.inl rfl)) (fun _ _ _ _ _ => pts_nil) (fun _ _ _ _ _ => (pe_op op_sub (pe_op op_mul pe_int (pv 12)) pe_int)))
  (pss_cons (ps_asg (pe_tup (pa_cons (pe_callTy call_list_of (by rfl) T.z_list (by decide +kernel) (pa_cons (pv 4) pa_nil)) (pa_cons (pe_callTy call_list_of (by rfl) T.z_list (by decide +kernel) (pa_cons (pv 5) pa_nil)) (pa_cons (pe_callTy call_list_of (by rfl) T.z_list (by decide +kernel) (pa_cons (pv 6) pa_nil)) pa_nil)))) (pg_tup rfl (pgs_cons (pg_name (i := 7) sc_law.nd rfl (.inr rfl)) (pgs_cons (pg_name (i := 8) sc_law.nd rfl (.inl rfl)) (pgs_cons (pg_name (i := 9) sc_law.nd rfl (.inl rfl)) pgs_nil)))))
  (pss_cons (ps_set (i := 10) sc_law.nd rfl (.inl rfl) (pe_call (ok_joined T) hr (by rfl) T.m_joined T.F_joined.kp T.b_joined .nil pass0 (pa_cons (pv 4) (pa_cons (pv 5) pa_nil))))
  (pss_cons (ps_if (pt_cmpR (op_neD hr.units) (pv 10) (pe_lc (own := [("part", 13)]) (g := gName 13) rfl sc_law.nd (pi_list (pv 8)) (blkOk_by (own := [("part", 13)]) (N := ["script", "pen", "lap", "size", "one", "other", "things", "first", "second", "kept", "told", "back", "k", "part"]) (sc := defScope s_law) (by decide +kernel)) (fun _ _ _ _ _ => pg_name (i := 13) sc_law.nd rfl (Or.inl rfl)) (fun _ _ _ _ _ => pts_nil) (fun _ _ _ _ _ => (pe_ix (show IxR _ (rIxL K) from ix_list) (pv 7) (pv 13) (fun _ _ => rfl)))) (nomark _))
  (pss_one (ps_ret pe_bl))
  pss_nil)
  (pss_cons (ps_if (pt_cmpR (op_neD hr.units) (pe_call (ok_done T) hr (by rfl) T.m_done T.F_done.kp T.b_done .nil pass0 (pa_cons (pv 10) (pa_cons (pv 6) pa_nil))) (pe_call (ok__law_after T) (hr.mono (by decide)) (by rfl) T.m__law_after T.F__law_after.kp T.b__law_after .nil pass0 (pa_cons (pv 8) (pa_cons (pe_call (ok__law_after T) (hr.mono (by decide)) (by rfl) T.m__law_after T.F__law_after.kp T.b__law_after .nil pass0 (pa_cons (pv 7) (pa_cons (pv 9) pa_nil))) pa_nil))) (nomark _))
  (pss_one (ps_ret pe_bl))
  pss_nil)
  (pss_cons (ps_if (PW.pt (pw_or (pt_cmpR (op_neD hr.units) (pe_call (ok_done T) hr (by rfl) T.m_done T.F_done.kp T.b_done .nil pass0 (pa_cons (pe_callTy call_tuple_of (by rfl) T.z_tuple (by decide +kernel) (pa_cons (pv 4) pa_nil)) (pa_cons (pv 6) pa_nil))) (pe_call (ok__law_after T) (hr.mono (by decide)) (by rfl) T.m__law_after T.F__law_after.kp T.b__law_after .nil pass0 (pa_cons (pv 7) (pa_cons (pv 9) pa_nil))) (nomark _)) (pw_or1 (pt_cmpR (op_neD hr.units) (pe_call (ok_joined T) hr (by rfl) T.m_joined T.F_joined.kp T.b_joined .nil pass0 (pa_cons (pe_callTy call_tuple_of (by rfl) T.z_tuple (by decide +kernel) (pa_cons (pv 4) pa_nil)) (pa_cons (pe_callTy call_tuple_of (by rfl) T.z_tuple (by decide +kernel) (pa_cons (pv 5) pa_nil)) pa_nil))) (pv 10) (nomark _)))))
  (pss_one (ps_ret pe_bl))
  pss_nil)
  (pss_cons (ps_set (i := 11) sc_law.nd rfl (.inl rfl) (pe_call (ok_undone T) hr (by rfl) T.m_undone T.F_undone.kp T.b_undone .nil pass0 (pa_cons (pv 4) pa_nil)))
  (pss_cons (ps_if (PW.pt (pw_or (pt_cmpR (op_neD hr.units) (pe_call (ok_done T) hr (by rfl) T.m_done T.F_done.kp T.b_done .nil pass0 (pa_cons (pv 11) (pa_cons (pe_call (ok_done T) hr (by rfl) T.m_done T.F_done.kp T.b_done .nil pass0 (pa_cons (pv 4) (pa_cons (pv 6) pa_nil))) pa_nil))) (pv 9) (nomark _)) (pw_or (pt_cmpR (op_neD hr.units) (pe_call (ok_done T) hr (by rfl) T.m_done T.F_done.kp T.b_done .nil pass0 (pa_cons (pv 4) (pa_cons (pe_call (ok_done T) hr (by rfl) T.m_done T.F_done.kp T.b_done .nil pass0 (pa_cons (pv 11) (pa_cons (pv 6) pa_nil))) pa_nil))) (pv 9) (nomark _)) (pw_or1 (pt_cmpR op_ne (pe_callB call_len_seq (by rfl) T.z_len PySem.boot_len (pa_cons (pv 11) pa_nil)) (pv 3) (nomark _))))))
  (pss_one (ps_ret pe_bl))
  pss_nil)
  (pss_cons (ps_if (PW.pt (pw_or (pt_cmpR (op_neD hr.units) (pe_lc (own := [("part", 13)]) (g := gName 13) rfl sc_law.nd (pi_list (pv 11)) (blkOk_by (own := [("part", 13)]) (N := ["script", "pen", "lap", "size", "one", "other", "things", "first", "second", "kept", "told", "back", "k", "part"]) (sc := defScope s_law) (by decide +kernel)) (fun _ _ _ _ _ => pg_name (i := 13) sc_law.nd rfl (Or.inl rfl)) (fun _ _ _ _ _ => pts_nil) (fun _ _ _ _ _ => (pe_ix (show IxR _ (rIxL K) from ix_list) (pv 7) (pv 13) (fun _ _ => rfl)))) (pe_listRg rfl (by rfl) T.z_list (prg_1 (by rfl) T.z_range (pv 3))) (nomark _)) (pw_or1 (pt_cmpR (op_neD hr.units) (pe_call (ok_nothing T) (hr.mono (by decide)) (by rfl) T.m_nothing T.F_nothing.kp T.b_nothing .nil pass0 (pa_cons (pv 3) pa_nil)) (pe_listRg rfl (by rfl) T.z_list (prg_1 (by rfl) T.z_range (pv 3))) (nomark _)))))
  (pss_one (ps_ret pe_bl))
  pss_nil)
  (pss_cons (ps_if (PW.pt (pw_or (pt_cmpR (op_neD hr.units) (pv 4) (pv 7) (nomark _)) (pw_or (pt_cmpR (op_neD hr.units) (pv 5) (pv 8) (nomark _)) (pw_or1 (pt_cmpR (op_neD hr.units) (pv 6) (pv 9) (nomark _))))))
  (pss_one (ps_ret pe_bl))
  pss_nil)
  (pss_cons (ps_expr (pe_bm PySem.F.plainAttrs_list PySem.F.slot_list_append PySem.F.type_list_append mt_append (pv 10) (pa_cons pe_int pa_nil)))
  (pss_cons (ps_expr (pe_bm PySem.F.plainAttrs_list PySem.F.slot_list_append PySem.F.type_list_append mt_append (pv 11) (pa_cons pe_int pa_nil)))
  (pss_cons (ps_if (PW.pt (pw_or (pt_cmpR (op_neD hr.units) (pe_call (ok_joined T) hr (by rfl) T.m_joined T.F_joined.kp T.b_joined .nil pass0 (pa_cons (pv 4) (pa_cons (pv 5) pa_nil))) (pe_lc (own := [("part", 13)]) (g := gName 13) rfl sc_law.nd (pi_list (pv 8)) (blkOk_by (own := [("part", 13)]) (N := ["script", "pen", "lap", "size", "one", "other", "things", "first", "second", "kept", "told", "back", "k", "part"]) (sc := defScope s_law) (by decide +kernel)) (fun _ _ _ _ _ => pg_name (i := 13) sc_law.nd rfl (Or.inl rfl)) (fun _ _ _ _ _ => pts_nil) (fun _ _ _ _ _ => (pe_ix (show IxR _ (rIxL K) from ix_list) (pv 7) (pv 13) (fun _ _ => rfl)))) (nomark _)) (pw_or1 (pt_cmpR op_ne (pe_callB call_len_seq (by rfl) T.z_len PySem.boot_len (pa_cons (pe_call (ok_undone T) hr (by rfl) T.m_undone T.F_undone.kp T.b_undone .nil pass0 (pa_cons (pv 4) pa_nil)) pa_nil)) (pv 3) (nomark _)))))
  (pss_one (ps_ret pe_bl))
  pss_nil)
  (pss_cons (ps_expr (pe_bm PySem.F.plainAttrs_list PySem.F.slot_list_append PySem.F.type_list_append mt_append (pv 4) (pa_cons (pv 3) pa_nil)))
  (pss_one (ps_if (pt_cmpR (op_neD hr.units) (pe_call (ok_done T) hr (by rfl) T.m_done T.F_done.kp T.b_done .nil pass0 (pa_cons (pv 4) (pa_cons (pe_op op_cat (pv 6) (pe_lst (pa_cons pe_int pa_nil))) pa_nil))) (pe_op op_cat (pe_call (ok__law_after T) (hr.mono (by decide)) (by rfl) T.m__law_after T.F__law_after.kp T.b__law_after .nil pass0 (pa_cons (pv 7) (pa_cons (pv 9) pa_nil))) (pe_lst (pa_cons pe_int pa_nil))) (nomark _))
  (pss_one (ps_ret pe_bl))
  pss_nil))))))))))))))))))))
  (pss_one (ps_ret pe_bl)))), ?_⟩
    refine ⟨.ref x, rfl, x, ns, rfl, hS, hlen, fun d c H1 hd hc hp s1 => ?_⟩
    refine ⟨6, rfl, by decide, by decide, ?_⟩
    refine for_range (lo := 0) (n := 6) (fun i σ H2 => (∃ y2 y3 y4 y5 y6 y7 y8 y9 y10 y11 y12 y13 : Option V, σ = [some (.ref x), some (.ref d), y2, y3, y4, y5, y6, y7, y8, y9, y10, y11, y12, y13]) ∧ Pen H2 d c (i * 10000)) ?_ ?_ ?_
    · exact ⟨⟨none, none, none, none, none, none, none, none, none, none, none, none, rfl⟩, hp⟩
    rotate_left
    · rintro σ H2 _
      exact q _
    rintro i σ H2 hi ⟨⟨y2, y3, y4, y5, y6, y7, y8, y9, y10, y11, y12, y13, rfl⟩, hp2⟩
    -- size = _law_pick(pen, [..])
    refine ⟨.ref d, rfl, .ref d, rfl, d, c, i * 10000, 5, rfl, hp2, by omega, by decide, by decide, fun v1 H3 v10 v11 hp3 b3 => ⟨.ref d, rfl, d, c, _, 13, rfl, hp3, by omega, by decide, by decide, fun v2 H4 v20 v21 hp4 b4 => ⟨.ref d, rfl, d, c, _, 61, rfl, hp4, by omega, by decide, by decide, fun v3 H5 v30 v31 hp5 b5 => ⟨sz (show 3 ≤ 100000 by decide), fun p0 hp0 => ?_⟩⟩⟩⟩
    refine ⟨d, c, p0, _, [.int v1, .int v2, .int v3], rfl, hp5.same (same_upd hp0), by omega, SqL.at upd_same, (show 0 < 3 by decide), (show 3 ≤ 100000 by decide), fun v H6 hv hp6 b6 => ?_⟩
    obtain ⟨m0, rfl, hm0⟩ : ∃ m : Nat, v = .int (m : Int) ∧ m ≤ 60 := by
      simp only [List.mem_cons, List.not_mem_nil, or_false] at hv
      rcases hv with rfl | rfl | rfl
      · exact ⟨v1.toNat, by congr 1; omega, by omega⟩
      · exact ⟨v2.toNat, by congr 1; omega, by omega⟩
      · exact ⟨v3.toNat, by congr 1; omega, by omega⟩
    -- if lap == 5 and ..: size = 1000
    refine ⟨fun σ' H' => ∃ m : Nat, m ≤ 1000 ∧ σ' = [some (.ref x), some (.ref d), some (.int (0 + (i : Int))), some (.int (m : Int)), y4, y5, y6, y7, y8, y9, y10, y11, y12, y13] ∧ Pen H' d c (i * 10000 + 10), ?_, ?_⟩
    · refine ⟨_, rfl, rfl, _, rfl, ite2 (fun _ => ?_) (fun _ => iteF ⟨m0, by omega, rfl, hp6.up (by omega)⟩)⟩
      refine ⟨.ref d, rfl, d, c, _, 4, rfl, hp6, by omega, by decide, by decide, fun v7 H7 _ _ hp7 b7 => ⟨rfl, _, rfl, ite2 (fun _ => ?_) (fun _ => ?_)⟩⟩
      · exact ⟨1000, by omega, rfl, hp7.up (by omega)⟩
      · exact ⟨m0, by omega, rfl, hp7.up (by omega)⟩
    rintro σ' H7 ⟨m, hm, rfl, hp7⟩
    clear hp3 hp4 hp5 hp6 b3 b4 b5 b6
    -- one, other = ..; things = ..
    refine ⟨.ref d, rfl, .int m, rfl, d, c, _, m, rfl, hp7, by omega, by omega, fun p1 one H8 r1 l1 n1 e1 hp8 b8 => ⟨.ref d, rfl, .int m, rfl, d, c, _, m, rfl, hp8, by omega, by omega, fun p2 other H9 r2 l2 n2 e2 hp9 b9 => ⟨.ref p1, .ref p2, rfl, ?_⟩⟩⟩
    refine ⟨.ref d, rfl, .int m, rfl, d, c, _, m, rfl, hp9, by omega, by omega, fun pk ks H10 r3 l3 n3 e3 hp10 b10 => ⟨pk, rfl, ⟨_, SqL.at e3⟩, fun p3 n4 => ?_⟩⟩
    obtain ⟨_, hd8⟩ := hp8.dict
    obtain ⟨_, hd9⟩ := hp9.dict
    obtain ⟨oc, hc7⟩ := hp7.cells
    obtain ⟨_, hd7⟩ := hp7.dict
    have x1 := b10.list hd9 (b9.list hd8 e1)
    have x2 := b10.list hd9 e2
    refine lc_it (walk_list (xs := ks.map V.int)) (fun j H' => Same H10 H' ∧ H' p3 = some (.lst (((ks.map fun k => 7 * k - 3).take j).map V.int))) ?h0 ?hG ?hs ?hd
    case h0 => exact ⟨same_upd n4, upd_same⟩
    case hG =>
      rintro j H' _ ⟨sm, _⟩
      exact sm.seq (SqL.at e3)
    case hs =>
      rintro j y H3 H4 hj ⟨sm, e⟩ ⟨rfl, ex⟩
      rw [List.length_map] at hj
      rw [List.getElem?_map, List.getElem?_eq_getElem hj] at ex
      cases ex
      refine ⟨rfl, .int ks[j], rfl, 7, ks[j], rfl, rfl, .inl ⟨by decide, by decide⟩, _, 3, rfl, rfl, _, e, ?_, keep_upd sm n4, ?_⟩
      · rw [List.length_map, List.length_take]
        exact szlt (Nat.le_trans (Nat.min_le_right _ _) (by rw [List.length_map]; omega))
      · rw [upd_same, List.take_add_one, List.getElem?_map, List.getElem?_eq_getElem hj, List.map_append]
        rfl
    rintro H11 ⟨sm11, x3⟩
    rw [List.length_map, List.take_of_length_le (by rw [List.length_map]; exact Nat.le_refl _)] at x3
    have hp11 := hp10.same sm11
    replace x1 := sm11 _ _ x1
    replace x2 := sm11 _ _ x2
    have tl : (ks.map fun k : Int => 7 * k - 3).length = m := by rw [List.length_map]; exact l3
    generalize (ks.map fun k : Int => 7 * k - 3) = things at x3 tl
    have f3 : p3 ≠ p1 := (ne_of_none (b10.list hd9 (b9.list hd8 e1)) n4).symm
    have hp1d : d ≠ p1 := ne_of_none hd7 n1
    have hp1c : c ≠ p1 := ne_of_none hc7 n1
    clear hp8 hp9 hp10 b8 b9 b10 hd8 hd9 sm11 e1 e2 e3 n2 n3 n4 r3 l3 hp2
    -- first, second, kept = list(one), list(other), list(things)
    refine ⟨.ref p1, rfl, p1, _, rfl, .inl (SqL.at x1), fun q1 m1 => ⟨.ref p2, rfl, p2, _, rfl, .inl (SqL.at (same_upd m1 _ _ x2)), fun q2 m2 => ⟨.ref p3, rfl, p3, _, rfl, .inl (SqL.at (same_upd m2 _ _ (same_upd m1 _ _ x3))), fun q3 m3 => ⟨sz (show 3 ≤ 100000 by decide), fun t m4 => ?_⟩⟩⟩⟩
    refine ⟨t, [.ref q1, .ref q2, .ref q3], rfl, SqT.at upd_same, rfl, _, [.ref q2, .ref q3], rfl, _, [.ref q3], rfl, _, [], rfl, rfl, ?_⟩
    have w1 := same_upd (o := .lst (one.map V.int)) m1
    have w2 := same_upd (o := .lst (other.map V.int)) m2
    have w3 := same_upd (o := .lst (things.map V.int)) m3
    have w4 := same_upd (o := .tup [.ref q1, .ref q2, .ref q3]) m4
    have S12 := w1.trans (w2.trans (w3.trans w4))
    have six : Six _ p1 p2 p3 q1 q2 q3 one other things := ⟨S12 _ _ x1, S12 _ _ x2, S12 _ _ x3, w4 _ _ (w3 _ _ (w2 _ _ upd_same)), w4 _ _ (w3 _ _ upd_same), w4 _ _ upd_same⟩
    have hp12 := hp11.same S12
    have f1 : q1 ≠ p1 := (ne_of_none x1 m1).symm
    have f2 : q3 ≠ p1 := (ne_of_none (w2 _ _ (w1 _ _ x1)) m3).symm
    generalize upd (upd (upd (upd H11 q1 (.lst (one.map V.int))) q2 (.lst (other.map V.int))) q3 (.lst (things.map V.int))) t (.tup [.ref q1, .ref q2, .ref q3]) = H12 at six hp12
    clear w1 w2 w3 w4 S12 m1 m2 m3 m4 x1 x2 x3 hp11
    have rowL : ∀ {H' : Hp} {p : Addr} {xs : List Int}, H' p = some (.lst (xs.map V.int)) → IsRow xs → xs.length = m → RowAt K H' p xs := fun h r l => ⟨.inl (SqL.at h), r, by omega⟩
    have rowT : ∀ {H' : Hp} {p : Addr} {xs : List Int}, H' p = some (.tup (xs.map V.int)) → IsRow xs → xs.length = m → RowAt K H' p xs := fun h r l => ⟨.inr (SqT.at h), r, by omega⟩
    have bnd : ∀ {xs ts : List Int}, IsRow xs → xs.length = m → ts.length = m → ∀ y ∈ xs, 0 ≤ y ∧ y.toNat < ts.length := fun hr' hl ht y hy => by
      have := hr'.mem.mp hy
      omega
    have e12 : pickI things (pickI one other) = pickI (pickI things one) other := (pick_pick (bnd r2 l2 l1)).symm
    -- told = joined(one, other)
    refine ⟨.ref p1, rfl, .ref p2, rfl, p1, p2, one, other, rfl, rowL six.a1 r1 l1, rowL six.a2 r2 l2, by omega, fun pt H13 nt et s13 => ?_⟩
    have six13 := six.same s13
    have hp13 := hp12.same s13
    have rt : IsRow (pickI one other) := isRow_pick r1 r2 (by omega)
    have lt : (pickI one other).length = m := by rw [pick_len]; exact l2
    have nt1 : H12 pt = none := nt
    -- if told != [first[part] for part in second]
    refine ⟨.ref pt, rfl, lc_pick (i := 8) (j := 7) (k := 13) rfl rfl (by decide) (show 13 < 14 by decide) (SqL.at six13.b2) (SqL.at six13.b1) (bnd r2 l2 l1) (by omega) (fun o1 H14 no1 eo1 s14 => ?_)⟩
    refine ⟨_, _, dp_ints (SqL.at (s14 _ _ et)), dp_ints (SqL.at eo1), shaped_ints, shaped_ints, _, rfl, ?_⟩
    refine ne_false rfl ?_
    have six14 := six13.same s14
    have et14 := s14 _ _ et
    -- done(told, things) != _law_after(second, _law_after(first, kept))
    refine ⟨.ref pt, rfl, .ref p3, rfl, pt, p3, pickI one other, things, rfl, rowL et14 rt lt, .inl (SqL.at six14.a3), by omega, fun o2 H15 no2 eo2 s15 => ?_⟩
    have six15 := six14.same s15
    refine ⟨.ref q2, rfl, .ref q1, rfl, .ref q3, rfl, q1, q3, one, things, rfl, SqL.at six15.b1, SqL.at six15.b3, bnd r1 l1 tl, by omega, fun o3 H16 no3 eo3 s16 => ?_⟩
    have six16 := six15.same s16
    refine ⟨q2, o3, other, pickI things one, rfl, SqL.at six16.b2, SqL.at eo3, bnd r2 l2 (by rw [pick_len]; exact l1), by omega, fun o4 H17 no4 eo4 s17 => ?_⟩
    refine ⟨_, _, dp_ints (SqL.at (s17 _ _ (s16 _ _ eo2))), dp_ints (SqL.at eo4), shaped_ints, shaped_ints, _, rfl, ?_⟩
    refine ne_false e12 ?_
    have six17 := six16.same s17
    have et17 := s17 _ _ (s16 _ _ (s15 _ _ et14))
    have s1317 := s14.trans (s15.trans (s16.trans s17))
    clear et14 six14 six15 six16 eo1 eo2 eo3 eo4 no1 no2 no3 no4 s15 s16 s14 s17 six13
    -- done(tuple(one), things) != _law_after(first, kept) or joined(tuple(one), tuple(other)) != told
    refine ⟨.ref p1, rfl, p1, _, rfl, .inl ⟨SqL.at six17.a1, fun g1 ng1 => ?_⟩⟩
    have u1 := same_upd (o := .tup (one.map V.int)) ng1
    have six18 := six17.same u1
    have eg1 : (upd H17 g1 (.tup (one.map V.int))) g1 = some (.tup (one.map V.int)) := upd_same
    have et18 := u1 _ _ et17
    generalize upd H17 g1 (.tup (one.map V.int)) = H18 at u1 six18 eg1 et18
    refine ⟨.ref p3, rfl, g1, p3, one, things, rfl, rowT eg1 r1 l1, .inl (SqL.at six18.a3), by omega, fun o2 H19 no2 eo2 s19 => ?_⟩
    have six19 := six18.same s19
    refine ⟨.ref q1, rfl, .ref q3, rfl, q1, q3, one, things, rfl, SqL.at six19.b1, SqL.at six19.b3, bnd r1 l1 tl, by omega, fun o3 H20 no3 eo3 s20 => ?_⟩
    refine ⟨_, _, dp_ints (SqL.at (s20 _ _ eo2)), dp_ints (SqL.at eo3), shaped_ints, shaped_ints, _, rfl, ?_⟩
    refine ne_false rfl ?_
    have six20 := six19.same s20
    have et20 := s20 _ _ (s19 _ _ et18)
    refine ⟨.ref p1, rfl, p1, _, rfl, .inl ⟨SqL.at six20.a1, fun g2 ng2 => ?_⟩⟩
    have u2 := same_upd (o := .tup (one.map V.int)) ng2
    have six21 := six20.same u2
    have eg2 : (upd H20 g2 (.tup (one.map V.int))) g2 = some (.tup (one.map V.int)) := upd_same
    have et21 := u2 _ _ et20
    generalize upd H20 g2 (.tup (one.map V.int)) = H21 at u2 six21 eg2 et21
    refine ⟨.ref p2, rfl, p2, _, rfl, .inl ⟨SqL.at six21.a2, fun g3 ng3 => ?_⟩⟩
    have u3 := same_upd (o := .tup (other.map V.int)) ng3
    have six22 := six21.same u3
    have eg3 : (upd H21 g3 (.tup (other.map V.int))) g3 = some (.tup (other.map V.int)) := upd_same
    have eg2' := u3 _ _ eg2
    have et22 := u3 _ _ et21
    generalize upd H21 g3 (.tup (other.map V.int)) = H22 at u3 six22 eg3 eg2' et22
    refine ⟨g2, g3, one, other, rfl, rowT eg2' r1 l1, rowT eg3 r2 l2, by omega, fun o4 H23 no4 eo4 s23 => ?_⟩
    have six23 := six22.same s23
    have et23 := s23 _ _ et22
    refine ⟨.ref pt, rfl, _, _, dp_ints (SqL.at eo4), dp_ints (SqL.at et23), shaped_ints, shaped_ints, _, rfl, ?_⟩
    refine ne_false rfl ?_
    have S23 : Same H13 H23 := s1317.trans (u1.trans (s19.trans (s20.trans (u2.trans (u3.trans s23)))))
    have hp23 := hp13.same S23
    clear six17 six18 six19 six20 six21 six22 et17 et18 et20 et21 et22 eg1 eg2 eg2' eg3 eo2 eo3 eo4 no2 no3 no4 u1 u2 u3 s19 s20 s23 s1317 hp13 ng1 ng2 ng3
    -- back = undone(one)
    refine ⟨.ref p1, rfl, p1, one, rfl, rowL six23.a1 r1 l1, fun pb bs H24 nb hinv eb s24 => ?_⟩
    have six24 := six23.same s24
    have et24 := s24 _ _ et23
    have rb : IsRow bs := hinv.row r1
    have lb : bs.length = m := by rw [hinv.1]; exact l1
    have nb12 : H12 pb = none := s13.free (S23.free nb)
    have k1' : pickI (pickI things one) bs = things := by
      rw [pick_pick (bnd rb lb l1), hinv.pick2 r1, l1, ← tl, pick_ri]
    have k2' : pickI (pickI things bs) one = things := by
      rw [pick_pick (bnd r1 l1 lb), hinv.pick r1, l1, ← tl, pick_ri]
    -- done(back, done(one, things)) != kept or done(one, done(back, things)) != kept or len(back) != size
    refine ⟨.ref pb, rfl, .ref p1, rfl, .ref p3, rfl, p1, p3, one, things, rfl, rowL six24.a1 r1 l1, .inl (SqL.at six24.a3), by omega, fun o1 H25 no1 eo1 s25 => ?_⟩
    have six25 := six24.same s25
    refine ⟨pb, o1, bs, pickI things one, rfl, rowL (s25 _ _ eb) rb lb, .inl (SqL.at eo1), by rw [pick_len]; omega, fun o2 H26 no2 eo2 s26 => ?_⟩
    have six26 := six25.same s26
    rw [k1'] at eo2
    refine ⟨.ref q3, rfl, _, _, dp_ints (SqL.at eo2), dp_ints (SqL.at six26.b3), shaped_ints, shaped_ints, _, rfl, ?_⟩
    refine ne_false rfl ?_
    have eb26 := s26 _ _ (s25 _ _ eb)
    refine ⟨.ref p1, rfl, .ref pb, rfl, .ref p3, rfl, pb, p3, bs, things, rfl, rowL eb26 rb lb, .inl (SqL.at six26.a3), by omega, fun o3 H27 no3 eo3 s27 => ?_⟩
    have six27 := six26.same s27
    refine ⟨p1, o3, one, pickI things bs, rfl, rowL six27.a1 r1 l1, .inl (SqL.at eo3), by rw [pick_len]; omega, fun o4 H28 no4 eo4 s28 => ?_⟩
    have six28 := six27.same s28
    rw [k2'] at eo4
    refine ⟨.ref q3, rfl, _, _, dp_ints (SqL.at eo4), dp_ints (SqL.at six28.b3), shaped_ints, shaped_ints, _, rfl, ?_⟩
    refine ne_false rfl ?_
    have eb28 := s28 _ _ (s27 _ _ eb26)
    have et28 := s28 _ _ (s27 _ _ (s26 _ _ (s25 _ _ et24)))
    have S28 := s25.trans (s26.trans (s27.trans s28))
    refine ⟨.ref pb, rfl, pb, _, rfl, .inl (SqL.at eb28), _, rfl, rfl, _, rfl, ?_⟩
    rw [List.length_map, lb]
    refine iteNS rfl ?_
    clear six25 six26 six27 eo1 eo2 eo3 eo4 no1 no2 no3 no4 eb26 s25 s26 s27 s28
    -- [first[part] for part in back] != list(range(size)) or nothing(size) != list(range(size))
    dsimp only [tNext, tSeq, tIfS, tOr, tTest, tOp]
    refine lc_pick (i := 11) (j := 7) (k := 13) rfl rfl (by decide) (show 13 < 14 by decide) (SqL.at eb28) (SqL.at six28.b1) (bnd rb lb l1) (by omega) (fun o1 H29 no1 eo1 s29 => ?_)
    rw [hinv.pick2 r1, l1] at eo1
    have six29 := six28.same s29
    refine ⟨_, rfl, _, rfl, RgOk.of_le (by decide) (by omega) (by decide) (by omega), fun o2 no2 => ?_⟩
    rw [rgV_ri]
    have s30 := same_upd (o := .lst ((ri m).map V.int)) no2
    have six30 := six29.same s30
    refine ⟨_, _, dp_ints (SqL.at (s30 _ _ eo1)), dp_ints (SqL.at upd_same), shaped_ints, shaped_ints, _, rfl, ?_⟩
    refine ne_false rfl ?_
    have eb30 := s30 _ _ (s29 _ _ eb28)
    have et30 := s30 _ _ (s29 _ _ et28)
    generalize upd H29 o2 (.lst ((ri m).map V.int)) = H30 at s30 six30 eb30 et30
    refine ⟨_, rfl, m, rfl, hm, fun o3 H31 no3 eo3 s31 => ?_⟩
    have six31 := six30.same s31
    refine ⟨_, rfl, _, rfl, RgOk.of_le (by decide) (by omega) (by decide) (by omega), fun o4 no4 => ?_⟩
    rw [rgV_ri]
    have s32 := same_upd (o := .lst ((ri m).map V.int)) no4
    have six32 := six31.same s32
    refine ⟨_, _, dp_ints (SqL.at (s32 _ _ eo3)), dp_ints (SqL.at upd_same), shaped_ints, shaped_ints, _, rfl, ?_⟩
    refine ne_false rfl ?_
    have eb32 := s32 _ _ (s31 _ _ eb30)
    have et32 := s32 _ _ (s31 _ _ et30)
    have S32 := S28.trans (s29.trans (s30.trans (s31.trans s32)))
    generalize upd H31 o4 (.lst ((ri m).map V.int)) = H32 at s32 six32 eb32 et32 S32
    clear six29 six30 six31 eo1 eo3 no1 no2 no3 no4 eb28 et28 eb30 et30 s29 s30 s31 s32 S28 six28
    -- one != first or other != second or things != kept
    refine ⟨.ref p1, rfl, .ref q1, rfl, _, _, dp_ints (SqL.at six32.a1), dp_ints (SqL.at six32.b1), shaped_ints, shaped_ints, _, rfl, ?_⟩
    refine ne_false rfl ?_
    refine ⟨.ref p2, rfl, .ref q2, rfl, _, _, dp_ints (SqL.at six32.a2), dp_ints (SqL.at six32.b2), shaped_ints, shaped_ints, _, rfl, ?_⟩
    refine ne_false rfl ?_
    refine ⟨.ref p3, rfl, .ref q3, rfl, _, _, dp_ints (SqL.at six32.a3), dp_ints (SqL.at six32.b3), shaped_ints, shaped_ints, _, rfl, ?_⟩
    refine ne_false rfl ?_
    -- told.append(5); back.append(5)
    refine ⟨.ref pt, rfl, .inl ⟨rfl, _, SqL.at et32⟩, pt, _, _, rfl, rfl, et32, szlt (by rw [List.length_map]; omega), ?_⟩
    have S33 : Same H12 H32 := s13.trans (S23.trans (s24.trans S32))
    have t33 := keep_upd (o := .lst ((pickI one other).map V.int ++ [.int 5])) S33 nt1
    have hne : pb ≠ pt := fun e => by
      rw [e] at nb
      rw [S23 _ _ et] at nb
      cases nb
    have eb33 : (upd H32 pt (.lst ((pickI one other).map V.int ++ [.int 5]))) pb = some (.lst (bs.map V.int)) := by
      rw [upd_ne hne]
      exact eb32
    generalize upd H32 pt (.lst ((pickI one other).map V.int ++ [.int 5])) = H33 at t33 eb33
    refine ⟨.ref pb, rfl, .inl ⟨rfl, _, SqL.at eb33⟩, pb, _, _, rfl, rfl, eb33, szlt (by rw [List.length_map]; omega), ?_⟩
    have t34 := keep_upd (o := .lst (bs.map V.int ++ [.int 5])) t33 nb12
    generalize upd H33 pb (.lst (bs.map V.int ++ [.int 5])) = H34 at t34
    have six34 := six.same t34
    have hp34 := hp12.same t34
    clear six32 eb32 et32 eb33 t33 S33 S32 six24 et24 eb six23 et23
    -- joined(one, other) != [first[part] for part in second] or len(undone(one)) != size
    refine ⟨.ref p1, rfl, .ref p2, rfl, p1, p2, one, other, rfl, rowL six34.a1 r1 l1, rowL six34.a2 r2 l2, by omega, fun o1 H35 no1 eo1 s35 => ?_⟩
    have six35 := six34.same s35
    dsimp only [tNext, tSeq, tIfS, tOr, tTest, tOp]
    refine lc_pick (i := 8) (j := 7) (k := 13) rfl rfl (by decide) (show 13 < 14 by decide) (SqL.at six35.b2) (SqL.at six35.b1) (bnd r2 l2 l1) (by omega) (fun o2 H36 no2 eo2 s36 => ?_)
    have six36 := six35.same s36
    refine ⟨_, _, dp_ints (SqL.at (s36 _ _ eo1)), dp_ints (SqL.at eo2), shaped_ints, shaped_ints, _, rfl, ?_⟩
    refine ne_false rfl ?_
    refine ⟨.ref p1, rfl, p1, one, rfl, rowL six36.a1 r1 l1, fun o3 b2 H37 no3 hinv2 eo3 s37 => ?_⟩
    have six37 := six36.same s37
    refine ⟨o3, _, rfl, .inl (SqL.at eo3), _, rfl, rfl, _, rfl, ?_⟩
    rw [List.length_map, hinv2.1, l1]
    refine iteNS rfl ?_
    have hp37 := hp34.same (s35.trans (s36.trans s37))
    -- one.append(size)
    refine ⟨.ref p1, rfl, .inl ⟨rfl, _, SqL.at six37.a1⟩, _, rfl, p1, _, _, rfl, rfl, six37.a1, szlt (by rw [List.length_map]; omega), ?_⟩
    have hp38 := hp37.mut (l := p1) (o := .lst (one.map V.int ++ [.int (m : Int)])) hp1d hp1c
    have z1 : (upd H37 p1 (.lst (one.map V.int ++ [.int (m : Int)]))) p1 = some (.lst ((one ++ [(one.length : Int)]).map V.int)) := by
      rw [upd_same, List.map_append, l1]
      rfl
    have z3 : (upd H37 p1 (.lst (one.map V.int ++ [.int (m : Int)]))) p3 = some (.lst (things.map V.int)) := by
      rw [upd_ne f3]
      exact six37.a3
    have zq1 : (upd H37 p1 (.lst (one.map V.int ++ [.int (m : Int)]))) q1 = some (.lst (one.map V.int)) := by
      rw [upd_ne f1]
      exact six37.b1
    have zq3 : (upd H37 p1 (.lst (one.map V.int ++ [.int (m : Int)]))) q3 = some (.lst (things.map V.int)) := by
      rw [upd_ne f2]
      exact six37.b3
    generalize upd H37 p1 (.lst (one.map V.int ++ [.int (m : Int)])) = H38 at hp38 z1 z3 zq1 zq3
    -- done(one, things + [8]) != _law_after(first, kept) + [8]
    refine ⟨.ref p1, rfl, .ref p3, rfl, sz (show 1 ≤ 100000 by decide), fun o4 no4 => ?_⟩
    have s39 := same_upd (o := .lst [V.int 8]) no4
    refine ⟨p3, o4, _, _, rfl, rfl, s39 _ _ z3, upd_same, sz (by rw [List.length_map]; show things.length + 1 ≤ 100000; omega), fun o5 no5 => ?_⟩
    have s40 := s39.trans (same_upd (o := .lst (things.map V.int ++ [V.int 8])) no5)
    have z5 : (upd (upd H38 o4 (.lst [V.int 8])) o5 (.lst (things.map V.int ++ [V.int 8]))) o5 = some (.lst ((things ++ [8]).map V.int)) := by
      rw [upd_same, List.map_append]
      rfl
    generalize upd (upd H38 o4 (.lst [V.int 8])) o5 (.lst (things.map V.int ++ [V.int 8])) = H40 at s40 z5
    refine ⟨p1, o5, one ++ [(one.length : Int)], things ++ [8], rfl, ⟨.inl (SqL.at (s40 _ _ z1)), row_snoc r1, by simp; omega⟩, .inl (SqL.at z5), by simp; omega, fun o6 H41 no6 eo6 s41 => ?_⟩
    have s41' := s40.trans s41
    rw [pick_snoc r1 (by omega)] at eo6
    refine ⟨.ref q1, rfl, .ref q3, rfl, q1, q3, one, things, rfl, SqL.at (s41' _ _ zq1), SqL.at (s41' _ _ zq3), bnd r1 l1 tl, by omega, fun o7 H42 no7 eo7 s42 => ⟨sz (show 1 ≤ 100000 by decide), fun o8 no8 => ?_⟩⟩
    have s43 := same_upd (o := .lst [V.int 8]) no8
    refine ⟨o7, o8, _, _, rfl, rfl, s43 _ _ eo7, upd_same, sz (by rw [List.length_map, pick_len]; show one.length + 1 ≤ 100000; omega), fun o9 no9 => ?_⟩
    have s44 := s43.trans (same_upd (o := .lst ((pickI things one).map V.int ++ [V.int 8])) no9)
    have z9 : (upd (upd H42 o8 (.lst [V.int 8])) o9 (.lst ((pickI things one).map V.int ++ [V.int 8]))) o9 = some (.lst ((pickI things one ++ [8]).map V.int)) := by
      rw [upd_same, List.map_append]
      rfl
    generalize upd (upd H42 o8 (.lst [V.int 8])) o9 (.lst ((pickI things one).map V.int ++ [V.int 8])) = H44 at s44 z9
    refine ⟨_, _, dp_ints (SqL.at (s44 _ _ (s42 _ _ eo6))), dp_ints (SqL.at z9), shaped_ints, shaped_ints, _, rfl, ?_⟩
    refine ne_false rfl ?_
    have hp44 := hp38.same (s41'.trans (s42.trans s44))
    exact ⟨⟨_, _, _, _, _, _, _, _, _, _, _, _, rfl⟩, hp44.up (by omega)⟩
end


theorem all_mk {l : PySem.W.OpenLaw} {w : World} {K : PySem.W.Frag} {h : Heap} {mg : Str → Option Value} {fa : Addr} (X : K.In h) (G : h.Ns mainGlobals mg) (hfa : mg "law" = some (.ref fa))
    {f0 : Addr} {od0 an0 : Option Addr} {sl0 : Array (Option Value)} {oc0 kV0 dc0 pm0 cd0 ct0 : Value}
    {f1 : Addr} {od1 an1 : Option Addr} {sl1 : Array (Option Value)} {oc1 kV1 dc1 pm1 cd1 ct1 : Value}
    {f2 : Addr} {od2 an2 : Option Addr} {sl2 : Array (Option Value)} {oc2 kV2 dc2 pm2 cd2 ct2 : Value}
    {f3 : Addr} {od3 an3 : Option Addr} {sl3 : Array (Option Value)} {oc3 kV3 dc3 pm3 cd3 ct3 : Value}
    {f4 : Addr} {od4 an4 : Option Addr} {sl4 : Array (Option Value)} {oc4 kV4 dc4 pm4 cd4 ct4 : Value}
    {f5 : Addr} {od5 an5 : Option Addr} {sl5 : Array (Option Value)} {oc5 kV5 dc5 pm5 cd5 ct5 : Value}
    {f6 : Addr} {od6 an6 : Option Addr} {sl6 : Array (Option Value)} {oc6 kV6 dc6 pm6 cd6 ct6 : Value}
    {f7 : Addr} {od7 an7 : Option Addr} {sl7 : Array (Option Value)} {oc7 kV7 dc7 pm7 cd7 ct7 : Value}
    {f8 : Addr} {od8 an8 : Option Addr} {sl8 : Array (Option Value)} {oc8 kV8 dc8 pm8 cd8 ct8 : Value}
    {f9 : Addr} {od9 an9 : Option Addr} {sl9 : Array (Option Value)} {oc9 kV9 dc9 pm9 cd9 ct9 : Value}
    {f10 : Addr} {od10 an10 : Option Addr} {sl10 : Array (Option Value)} {oc10 kV10 dc10 pm10 cd10 ct10 : Value}
    {f11 : Addr} {od11 an11 : Option Addr} {sl11 : Array (Option Value)} {oc11 kV11 dc11 pm11 cd11 ct11 : Value}
    {f12 : Addr} {od12 an12 : Option Addr} {sl12 : Array (Option Value)} {oc12 kV12 dc12 pm12 cd12 ct12 : Value}
    {f13 : Addr} {od13 an13 : Option Addr} {sl13 : Array (Option Value)} {oc13 kV13 dc13 pm13 cd13 ct13 : Value}
    {f14 : Addr} {od14 an14 : Option Addr} {sl14 : Array (Option Value)} {oc14 kV14 dc14 pm14 cd14 ct14 : Value}
    {f15 : Addr} {od15 an15 : Option Addr} {sl15 : Array (Option Value)} {oc15 kV15 dc15 pm15 cd15 ct15 : Value}
    {f16 : Addr} {od16 an16 : Option Addr} {sl16 : Array (Option Value)} {oc16 kV16 dc16 pm16 cd16 ct16 : Value}
    {f17 : Addr} {od17 an17 : Option Addr} {sl17 : Array (Option Value)} {oc17 kV17 dc17 pm17 cd17 ct17 : Value}
    {f18 : Addr} {od18 an18 : Option Addr} {sl18 : Array (Option Value)} {oc18 kV18 dc18 pm18 cd18 ct18 : Value}
    {C_EveryError : Addr}
    {C_BadSize : Addr}
    {C_BadRow : Addr}
    {t_MOST_PLACES : Tok}
    (c_EveryError : PySem.W.nsIn K mainGlobals "EveryError" = some (some (.ref C_EveryError)))
    (c_BadSize : PySem.W.nsIn K mainGlobals "BadSize" = some (some (.ref C_BadSize)))
    (c_BadRow : PySem.W.nsIn K mainGlobals "BadRow" = some (some (.ref C_BadRow)))
    (a0 : PySem.W.nsIn K mainGlobals "is_integer" = some (some (.ref f0)))
    (l0 : K.lookup f0 = some ⟨oc0, od0, .func (PySem.W.fnOf "is_integer" "is_integer" (defArgs s_is_integer) (defBody s_is_integer) (defScope s_is_integer) .none kV0 dc0 pm0 an0 cd0 ct0), sl0⟩)
    (e0 : PySem.W.codeIn K cd0 "is_integer" = true)
    (k0 : PySem.W.keepIn K (.ref f0) = true)
    (a1 : PySem.W.nsIn K mainGlobals "is_between" = some (some (.ref f1)))
    (l1 : K.lookup f1 = some ⟨oc1, od1, .func (PySem.W.fnOf "is_between" "is_between" (defArgs s_is_between) (defBody s_is_between) (defScope s_is_between) .none kV1 dc1 pm1 an1 cd1 ct1), sl1⟩)
    (e1 : PySem.W.codeIn K cd1 "is_between" = true)
    (k1 : PySem.W.keepIn K (.ref f1) = true)
    (a2 : PySem.W.nsIn K mainGlobals "first_wrong" = some (some (.ref f2)))
    (l2 : K.lookup f2 = some ⟨oc2, od2, .func (PySem.W.fnOf "first_wrong" "first_wrong" (defArgs s_first_wrong) (defBody s_first_wrong) (defScope s_first_wrong) .none kV2 dc2 pm2 an2 cd2 ct2), sl2⟩)
    (e2 : PySem.W.codeIn K cd2 "first_wrong" = true)
    (k2 : PySem.W.keepIn K (.ref f2) = true)
    (a3 : PySem.W.findIn K (.ref C_BadSize) "__init__" = some (some (.ref f3)))
    (l3 : K.lookup f3 = some ⟨oc3, od3, .func (PySem.W.fnOf "__init__" "BadSize.__init__" (defArgs s_BadSize_init) (defBody s_BadSize_init) (defScope s_BadSize_init) .none kV3 dc3 pm3 an3 cd3 ct3), sl3⟩)
    (e3 : PySem.W.codeIn K cd3 "BadSize.__init__" = true)
    (k3 : PySem.W.keepIn K (.ref f3) = true)
    (a4 : PySem.W.findIn K (.ref C_BadRow) "__init__" = some (some (.ref f4)))
    (l4 : K.lookup f4 = some ⟨oc4, od4, .func (PySem.W.fnOf "__init__" "BadRow.__init__" (defArgs s_BadRow_init) (defBody s_BadRow_init) (defScope s_BadRow_init) .none kV4 dc4 pm4 an4 cd4 ct4), sl4⟩)
    (e4 : PySem.W.codeIn K cd4 "BadRow.__init__" = true)
    (k4 : PySem.W.keepIn K (.ref f4) = true)
    (a5 : PySem.W.nsIn K mainGlobals "check_row" = some (some (.ref f5)))
    (l5 : K.lookup f5 = some ⟨oc5, od5, .func (PySem.W.fnOf "check_row" "check_row" (defArgs s_check_row) (defBody s_check_row) (defScope s_check_row) .none kV5 dc5 pm5 an5 cd5 ct5), sl5⟩)
    (e5 : PySem.W.codeIn K cd5 "check_row" = true)
    (k5 : PySem.W.keepIn K (.ref f5) = true)
    (a6 : PySem.W.nsIn K mainGlobals "nothing" = some (some (.ref f6)))
    (l6 : K.lookup f6 = some ⟨oc6, od6, .func (PySem.W.fnOf "nothing" "nothing" (defArgs s_nothing) (defBody s_nothing) (defScope s_nothing) .none kV6 dc6 pm6 an6 cd6 ct6), sl6⟩)
    (e6 : PySem.W.codeIn K cd6 "nothing" = true)
    (k6 : PySem.W.keepIn K (.ref f6) = true)
    (a7 : PySem.W.nsIn K mainGlobals "joined" = some (some (.ref f7)))
    (l7 : K.lookup f7 = some ⟨oc7, od7, .func (PySem.W.fnOf "joined" "joined" (defArgs s_joined) (defBody s_joined) (defScope s_joined) .none kV7 dc7 pm7 an7 cd7 ct7), sl7⟩)
    (e7 : PySem.W.codeIn K cd7 "joined" = true)
    (k7 : PySem.W.keepIn K (.ref f7) = true)
    (a8 : PySem.W.nsIn K mainGlobals "in_turn" = some (some (.ref f8)))
    (l8 : K.lookup f8 = some ⟨oc8, od8, .func (PySem.W.fnOf "in_turn" "in_turn" (defArgs s_in_turn) (defBody s_in_turn) (defScope s_in_turn) .none kV8 dc8 pm8 an8 cd8 ct8), sl8⟩)
    (e8 : PySem.W.codeIn K cd8 "in_turn" = true)
    (k8 : PySem.W.keepIn K (.ref f8) = true)
    (a9 : PySem.W.nsIn K mainGlobals "undone" = some (some (.ref f9)))
    (l9 : K.lookup f9 = some ⟨oc9, od9, .func (PySem.W.fnOf "undone" "undone" (defArgs s_undone) (defBody s_undone) (defScope s_undone) .none kV9 dc9 pm9 an9 cd9 ct9), sl9⟩)
    (e9 : PySem.W.codeIn K cd9 "undone" = true)
    (k9 : PySem.W.keepIn K (.ref f9) = true)
    (a10 : PySem.W.nsIn K mainGlobals "back_from" = some (some (.ref f10)))
    (l10 : K.lookup f10 = some ⟨oc10, od10, .func (PySem.W.fnOf "back_from" "back_from" (defArgs s_back_from) (defBody s_back_from) (defScope s_back_from) .none kV10 dc10 pm10 an10 cd10 ct10), sl10⟩)
    (e10 : PySem.W.codeIn K cd10 "back_from" = true)
    (k10 : PySem.W.keepIn K (.ref f10) = true)
    (a11 : PySem.W.nsIn K mainGlobals "done" = some (some (.ref f11)))
    (l11 : K.lookup f11 = some ⟨oc11, od11, .func (PySem.W.fnOf "done" "done" (defArgs s_done) (defBody s_done) (defScope s_done) .none kV11 dc11 pm11 an11 cd11 ct11), sl11⟩)
    (e11 : PySem.W.codeIn K cd11 "done" = true)
    (k11 : PySem.W.keepIn K (.ref f11) = true)
    (a12 : PySem.W.nsIn K mainGlobals "_law_pen" = some (some (.ref f12)))
    (l12 : K.lookup f12 = some ⟨oc12, od12, .func (PySem.W.fnOf "_law_pen" "_law_pen" (defArgs s__law_pen) (defBody s__law_pen) (defScope s__law_pen) .none kV12 dc12 pm12 an12 cd12 ct12), sl12⟩)
    (e12 : PySem.W.codeIn K cd12 "_law_pen" = true)
    (k12 : PySem.W.keepIn K (.ref f12) = true)
    (a13 : PySem.W.nsIn K mainGlobals "_law_draw" = some (some (.ref f13)))
    (l13 : K.lookup f13 = some ⟨oc13, od13, .func (PySem.W.fnOf "_law_draw" "_law_draw" (defArgs s__law_draw) (defBody s__law_draw) (defScope s__law_draw) .none kV13 dc13 pm13 an13 cd13 ct13), sl13⟩)
    (e13 : PySem.W.codeIn K cd13 "_law_draw" = true)
    (k13 : PySem.W.keepIn K (.ref f13) = true)
    (a14 : PySem.W.nsIn K mainGlobals "_law_pick" = some (some (.ref f14)))
    (l14 : K.lookup f14 = some ⟨oc14, od14, .func (PySem.W.fnOf "_law_pick" "_law_pick" (defArgs s__law_pick) (defBody s__law_pick) (defScope s__law_pick) .none kV14 dc14 pm14 an14 cd14 ct14), sl14⟩)
    (e14 : PySem.W.codeIn K cd14 "_law_pick" = true)
    (k14 : PySem.W.keepIn K (.ref f14) = true)
    (a15 : PySem.W.nsIn K mainGlobals "_law_shuffled" = some (some (.ref f15)))
    (l15 : K.lookup f15 = some ⟨oc15, od15, .func (PySem.W.fnOf "_law_shuffled" "_law_shuffled" (defArgs s__law_shuffled) (defBody s__law_shuffled) (defScope s__law_shuffled) .none kV15 dc15 pm15 an15 cd15 ct15), sl15⟩)
    (e15 : PySem.W.codeIn K cd15 "_law_shuffled" = true)
    (k15 : PySem.W.keepIn K (.ref f15) = true)
    (a16 : PySem.W.nsIn K mainGlobals "_law_row" = some (some (.ref f16)))
    (l16 : K.lookup f16 = some ⟨oc16, od16, .func (PySem.W.fnOf "_law_row" "_law_row" (defArgs s__law_row) (defBody s__law_row) (defScope s__law_row) .none kV16 dc16 pm16 an16 cd16 ct16), sl16⟩)
    (e16 : PySem.W.codeIn K cd16 "_law_row" = true)
    (k16 : PySem.W.keepIn K (.ref f16) = true)
    (a17 : PySem.W.nsIn K mainGlobals "_law_after" = some (some (.ref f17)))
    (l17 : K.lookup f17 = some ⟨oc17, od17, .func (PySem.W.fnOf "_law_after" "_law_after" (defArgs s__law_after) (defBody s__law_after) (defScope s__law_after) .none kV17 dc17 pm17 an17 cd17 ct17), sl17⟩)
    (e17 : PySem.W.codeIn K cd17 "_law_after" = true)
    (k17 : PySem.W.keepIn K (.ref f17) = true)
    (a18 : PySem.W.nsIn K mainGlobals "law" = some (some (.ref f18)))
    (l18 : K.lookup f18 = some ⟨oc18, od18, .func (PySem.W.fnOf "law" "law" (defArgs s_law) (defBody s_law) (defScope s_law) .none kV18 dc18 pm18 an18 cd18 ct18), sl18⟩)
    (e18 : PySem.W.codeIn K cd18 "law" = true)
    (k18 : PySem.W.keepIn K (.ref f18) = true)
    (z_bool : PySem.W.nsIn K mainGlobals "bool" = some none)
    (z_enumerate : PySem.W.nsIn K mainGlobals "enumerate" = some none)
    (z_int : PySem.W.nsIn K mainGlobals "int" = some none)
    (z_isinstance : PySem.W.nsIn K mainGlobals "isinstance" = some none)
    (z_len : PySem.W.nsIn K mainGlobals "len" = some none)
    (z_list : PySem.W.nsIn K mainGlobals "list" = some none)
    (z_range : PySem.W.nsIn K mainGlobals "range" = some none)
    (z_tuple : PySem.W.nsIn K mainGlobals "tuple" = some none)
    (m_MOST_PLACES : PySem.W.nsIn K mainGlobals "MOST_PLACES" = some (some (.int 1000 t_MOST_PLACES)))
    : ∃ fd : FuncData, (∀ (s : Shared) (v : Value), BindsTo s fd ⟨[v], []⟩ [("script", v)]) ∧ ∀ base : Heap, K.In base → base.Ns mainGlobals mg → FnOk l.prog w K mg base CX0 6 fa fd ["script"] (spLaw K) := by
  have e := hfa.symm.trans (PySem.W.mg_of X G a18)
  cases e
  let a : Ad := ⟨f0, PySem.W.fnOf "is_integer" "is_integer" (defArgs s_is_integer) (defBody s_is_integer) (defScope s_is_integer) .none kV0 dc0 pm0 an0 cd0 ct0, f1, PySem.W.fnOf "is_between" "is_between" (defArgs s_is_between) (defBody s_is_between) (defScope s_is_between) .none kV1 dc1 pm1 an1 cd1 ct1, f2, PySem.W.fnOf "first_wrong" "first_wrong" (defArgs s_first_wrong) (defBody s_first_wrong) (defScope s_first_wrong) .none kV2 dc2 pm2 an2 cd2 ct2, f3, PySem.W.fnOf "__init__" "BadSize.__init__" (defArgs s_BadSize_init) (defBody s_BadSize_init) (defScope s_BadSize_init) .none kV3 dc3 pm3 an3 cd3 ct3, f4, PySem.W.fnOf "__init__" "BadRow.__init__" (defArgs s_BadRow_init) (defBody s_BadRow_init) (defScope s_BadRow_init) .none kV4 dc4 pm4 an4 cd4 ct4, f5, PySem.W.fnOf "check_row" "check_row" (defArgs s_check_row) (defBody s_check_row) (defScope s_check_row) .none kV5 dc5 pm5 an5 cd5 ct5, f6, PySem.W.fnOf "nothing" "nothing" (defArgs s_nothing) (defBody s_nothing) (defScope s_nothing) .none kV6 dc6 pm6 an6 cd6 ct6, f7, PySem.W.fnOf "joined" "joined" (defArgs s_joined) (defBody s_joined) (defScope s_joined) .none kV7 dc7 pm7 an7 cd7 ct7, f8, PySem.W.fnOf "in_turn" "in_turn" (defArgs s_in_turn) (defBody s_in_turn) (defScope s_in_turn) .none kV8 dc8 pm8 an8 cd8 ct8, f9, PySem.W.fnOf "undone" "undone" (defArgs s_undone) (defBody s_undone) (defScope s_undone) .none kV9 dc9 pm9 an9 cd9 ct9, f10, PySem.W.fnOf "back_from" "back_from" (defArgs s_back_from) (defBody s_back_from) (defScope s_back_from) .none kV10 dc10 pm10 an10 cd10 ct10, f11, PySem.W.fnOf "done" "done" (defArgs s_done) (defBody s_done) (defScope s_done) .none kV11 dc11 pm11 an11 cd11 ct11, f12, PySem.W.fnOf "_law_pen" "_law_pen" (defArgs s__law_pen) (defBody s__law_pen) (defScope s__law_pen) .none kV12 dc12 pm12 an12 cd12 ct12, f13, PySem.W.fnOf "_law_draw" "_law_draw" (defArgs s__law_draw) (defBody s__law_draw) (defScope s__law_draw) .none kV13 dc13 pm13 an13 cd13 ct13, f14, PySem.W.fnOf "_law_pick" "_law_pick" (defArgs s__law_pick) (defBody s__law_pick) (defScope s__law_pick) .none kV14 dc14 pm14 an14 cd14 ct14, f15, PySem.W.fnOf "_law_shuffled" "_law_shuffled" (defArgs s__law_shuffled) (defBody s__law_shuffled) (defScope s__law_shuffled) .none kV15 dc15 pm15 an15 cd15 ct15, f16, PySem.W.fnOf "_law_row" "_law_row" (defArgs s__law_row) (defBody s__law_row) (defScope s__law_row) .none kV16 dc16 pm16 an16 cd16 ct16, f17, PySem.W.fnOf "_law_after" "_law_after" (defArgs s__law_after) (defBody s__law_after) (defScope s__law_after) .none kV17 dc17 pm17 an17 cd17 ct17, fa, PySem.W.fnOf "law" "law" (defArgs s_law) (defBody s_law) (defScope s_law) .none kV18 dc18 pm18 an18 cd18 ct18, C_EveryError, C_BadSize, C_BadRow⟩
  have F0 : Fun K "is_integer" "is_integer" s_is_integer a.f_is_integer a.d_is_integer := fun_mk (st := s_is_integer) l0 e0 k0
  have F1 : Fun K "is_between" "is_between" s_is_between a.f_is_between a.d_is_between := fun_mk (st := s_is_between) l1 e1 k1
  have F2 : Fun K "first_wrong" "first_wrong" s_first_wrong a.f_first_wrong a.d_first_wrong := fun_mk (st := s_first_wrong) l2 e2 k2
  have F3 : Fun K "__init__" "BadSize.__init__" s_BadSize_init a.f_BadSize_init a.d_BadSize_init := fun_mk (st := s_BadSize_init) l3 e3 k3
  have F4 : Fun K "__init__" "BadRow.__init__" s_BadRow_init a.f_BadRow_init a.d_BadRow_init := fun_mk (st := s_BadRow_init) l4 e4 k4
  have F5 : Fun K "check_row" "check_row" s_check_row a.f_check_row a.d_check_row := fun_mk (st := s_check_row) l5 e5 k5
  have F6 : Fun K "nothing" "nothing" s_nothing a.f_nothing a.d_nothing := fun_mk (st := s_nothing) l6 e6 k6
  have F7 : Fun K "joined" "joined" s_joined a.f_joined a.d_joined := fun_mk (st := s_joined) l7 e7 k7
  have F8 : Fun K "in_turn" "in_turn" s_in_turn a.f_in_turn a.d_in_turn := fun_mk (st := s_in_turn) l8 e8 k8
  have F9 : Fun K "undone" "undone" s_undone a.f_undone a.d_undone := fun_mk (st := s_undone) l9 e9 k9
  have F10 : Fun K "back_from" "back_from" s_back_from a.f_back_from a.d_back_from := fun_mk (st := s_back_from) l10 e10 k10
  have F11 : Fun K "done" "done" s_done a.f_done a.d_done := fun_mk (st := s_done) l11 e11 k11
  have F12 : Fun K "_law_pen" "_law_pen" s__law_pen a.f__law_pen a.d__law_pen := fun_mk (st := s__law_pen) l12 e12 k12
  have F13 : Fun K "_law_draw" "_law_draw" s__law_draw a.f__law_draw a.d__law_draw := fun_mk (st := s__law_draw) l13 e13 k13
  have F14 : Fun K "_law_pick" "_law_pick" s__law_pick a.f__law_pick a.d__law_pick := fun_mk (st := s__law_pick) l14 e14 k14
  have F15 : Fun K "_law_shuffled" "_law_shuffled" s__law_shuffled a.f__law_shuffled a.d__law_shuffled := fun_mk (st := s__law_shuffled) l15 e15 k15
  have F16 : Fun K "_law_row" "_law_row" s__law_row a.f__law_row a.d__law_row := fun_mk (st := s__law_row) l16 e16 k16
  have F17 : Fun K "_law_after" "_law_after" s__law_after a.f__law_after a.d__law_after := fun_mk (st := s__law_after) l17 e17 k17
  have F18 : Fun K "law" "law" s_law a.f_law a.d_law := fun_mk (st := s_law) l18 e18 k18
  have T : Tx w K mg a := ⟨(F0),
    (F0.binds (ps := ["value"]) fun _ _ _ _ _ _ us hl => match us, hl with | [_], _ => rfl),
    (PySem.W.mg_of X G a0),
    (F1),
    (F1.binds (ps := ["value", "low", "high"]) fun _ _ _ _ _ _ us hl => match us, hl with | [_, _, _], _ => rfl),
    (PySem.W.mg_of X G a1),
    (F2),
    (F2.binds (ps := ["row", "size"]) fun _ _ _ _ _ _ us hl => match us, hl with | [_, _], _ => rfl),
    (PySem.W.mg_of X G a2),
    (F3),
    (F3.binds (ps := ["self", "size"]) fun _ _ _ _ _ _ us hl => match us, hl with | [_, _], _ => rfl),
    (F4),
    (F4.binds (ps := ["self", "index"]) fun _ _ _ _ _ _ us hl => match us, hl with | [_, _], _ => rfl),
    (F5),
    (F5.binds (ps := ["row"]) fun _ _ _ _ _ _ us hl => match us, hl with | [_], _ => rfl),
    (PySem.W.mg_of X G a5),
    (F6),
    (F6.binds (ps := ["size"]) fun _ _ _ _ _ _ us hl => match us, hl with | [_], _ => rfl),
    (PySem.W.mg_of X G a6),
    (F7),
    (F7.binds (ps := ["first", "second"]) fun _ _ _ _ _ _ us hl => match us, hl with | [_, _], _ => rfl),
    (PySem.W.mg_of X G a7),
    (F8),
    (F8.binds (ps := ["first", "second"]) fun _ _ _ _ _ _ us hl => match us, hl with | [_, _], _ => rfl),
    (PySem.W.mg_of X G a8),
    (F9),
    (F9.binds (ps := ["row"]) fun _ _ _ _ _ _ us hl => match us, hl with | [_], _ => rfl),
    (PySem.W.mg_of X G a9),
    (F10),
    (F10.binds (ps := ["row"]) fun _ _ _ _ _ _ us hl => match us, hl with | [_], _ => rfl),
    (PySem.W.mg_of X G a10),
    (F11),
    (F11.binds (ps := ["row", "things"]) fun _ _ _ _ _ _ us hl => match us, hl with | [_, _], _ => rfl),
    (PySem.W.mg_of X G a11),
    (F12),
    (F12.binds (ps := ["script"]) fun _ _ _ _ _ _ us hl => match us, hl with | [_], _ => rfl),
    (PySem.W.mg_of X G a12),
    (F13),
    (F13.binds (ps := ["pen", "many"]) fun _ _ _ _ _ _ us hl => match us, hl with | [_, _], _ => rfl),
    (PySem.W.mg_of X G a13),
    (F14),
    (F14.binds (ps := ["pen", "some"]) fun _ _ _ _ _ _ us hl => match us, hl with | [_, _], _ => rfl),
    (PySem.W.mg_of X G a14),
    (F15),
    (F15.binds (ps := ["pen", "some"]) fun _ _ _ _ _ _ us hl => match us, hl with | [_, _], _ => rfl),
    (PySem.W.mg_of X G a15),
    (F16),
    (F16.binds (ps := ["pen", "size"]) fun _ _ _ _ _ _ us hl => match us, hl with | [_, _], _ => rfl),
    (PySem.W.mg_of X G a16),
    (F17),
    (F17.binds (ps := ["row", "things"]) fun _ _ _ _ _ _ us hl => match us, hl with | [_, _], _ => rfl),
    (PySem.W.mg_of X G a17),
    (F18),
    (F18.binds (ps := ["script"]) fun _ _ _ _ _ _ us hl => match us, hl with | [_], _ => rfl),
    (PySem.W.mg_of X G a18),
    (PySem.W.mg_of X G c_EveryError),
    (PySem.W.mg_of X G c_BadSize),
    (PySem.W.mg_of X G c_BadRow),
    (PySem.W.mg_none_of X G z_bool),
    (PySem.W.mg_none_of X G z_enumerate),
    (PySem.W.mg_none_of X G z_int),
    (PySem.W.mg_none_of X G z_isinstance),
    (PySem.W.mg_none_of X G z_len),
    (PySem.W.mg_none_of X G z_list),
    (PySem.W.mg_none_of X G z_range),
    (PySem.W.mg_none_of X G z_tuple),
    (⟨_, PySem.W.mg_of X G m_MOST_PLACES⟩)⟩
  exact ⟨a.d_law, fun s v => .of_eq rfl, fun base _ _ => ok_law T⟩
end Pf01
open PySem PySem.W PyProof.Rows
set_option maxRecDepth 100000 in
set_option maxHeartbeats 0 in
theorem PySem.Challenge.cw_everyorder_k01_rearrangements_done_and_t_holds : PySem.Challenge.rw_everyorder_k01_rearrangements_done_and_t.Holds := by
  w_on; o_law; k_head; (case hw => w_witness2)
  k_fill
  refine L2.walk_of (l := PySem.Challenge.rw_everyorder_k01_rearrangements_done_and_t) (n := 63) (k := 6) (x := "script") (CX := fun _ => L2.CX0) (sp := fun w => Pf01.spLaw _) rfl (by decide) rfl ⟨rfl, by decide, by decide⟩ (fun w h Y => PySem.W.kIn_of Y) ?F (fun _ _ a ns hl _ hS => ⟨a, ns, rfl, hS, hl, fun _ => rfl⟩) (fun _ _ _ _ _ h => h)
  case F =>
    intro w mg fa h KX G hmg
    refine' Pf01.all_mk KX G hmg ?c_EveryError ?c_BadSize ?c_BadRow ?a0 ?l0 ?e0 ?k0 ?a1 ?l1 ?e1 ?k1 ?a2 ?l2 ?e2 ?k2 ?a3 ?l3 ?e3 ?k3 ?a4 ?l4 ?e4 ?k4 ?a5 ?l5 ?e5 ?k5 ?a6 ?l6 ?e6 ?k6 ?a7 ?l7 ?e7 ?k7 ?a8 ?l8 ?e8 ?k8 ?a9 ?l9 ?e9 ?k9 ?a10 ?l10 ?e10 ?k10 ?a11 ?l11 ?e11 ?k11 ?a12 ?l12 ?e12 ?k12 ?a13 ?l13 ?e13 ?k13 ?a14 ?l14 ?e14 ?k14 ?a15 ?l15 ?e15 ?k15 ?a16 ?l16 ?e16 ?k16 ?a17 ?l17 ?e17 ?k17 ?a18 ?l18 ?e18 ?k18 ?z_bool ?z_enumerate ?z_int ?z_isinstance ?z_len ?z_list ?z_range ?z_tuple ?m_MOST_PLACES
    (case c_EveryError => k_is)
    (case c_BadSize => k_is)
    (case c_BadRow => k_is)
    (case a0 => k_is)
    (case l0 => k_is)
    (case e0 => k_is)
    (case k0 => k_is)
    (case a1 => k_is)
    (case l1 => k_is)
    (case e1 => k_is)
    (case k1 => k_is)
    (case a2 => k_is)
    (case l2 => k_is)
    (case e2 => k_is)
    (case k2 => k_is)
    (case a3 => k_is)
    (case l3 => k_is)
    (case e3 => k_is)
    (case k3 => k_is)
    (case a4 => k_is)
    (case l4 => k_is)
    (case e4 => k_is)
    (case k4 => k_is)
    (case a5 => k_is)
    (case l5 => k_is)
    (case e5 => k_is)
    (case k5 => k_is)
    (case a6 => k_is)
    (case l6 => k_is)
    (case e6 => k_is)
    (case k6 => k_is)
    (case a7 => k_is)
    (case l7 => k_is)
    (case e7 => k_is)
    (case k7 => k_is)
    (case a8 => k_is)
    (case l8 => k_is)
    (case e8 => k_is)
    (case k8 => k_is)
    (case a9 => k_is)
    (case l9 => k_is)
    (case e9 => k_is)
    (case k9 => k_is)
    (case a10 => k_is)
    (case l10 => k_is)
    (case e10 => k_is)
    (case k10 => k_is)
    (case a11 => k_is)
    (case l11 => k_is)
    (case e11 => k_is)
    (case k11 => k_is)
    (case a12 => k_is)
    (case l12 => k_is)
    (case e12 => k_is)
    (case k12 => k_is)
    (case a13 => k_is)
    (case l13 => k_is)
    (case e13 => k_is)
    (case k13 => k_is)
    (case a14 => k_is)
    (case l14 => k_is)
    (case e14 => k_is)
    (case k14 => k_is)
    (case a15 => k_is)
    (case l15 => k_is)
    (case e15 => k_is)
    (case k15 => k_is)
    (case a16 => k_is)
    (case l16 => k_is)
    (case e16 => k_is)
    (case k16 => k_is)
    (case a17 => k_is)
    (case l17 => k_is)
    (case e17 => k_is)
    (case k17 => k_is)
    (case a18 => k_is)
    (case l18 => k_is)
    (case e18 => k_is)
    (case k18 => k_is)
    (case z_bool => k_is)
    (case z_enumerate => k_is)
    (case z_int => k_is)
    (case z_isinstance => k_is)
    (case z_len => k_is)
    (case z_list => k_is)
    (case z_range => k_is)
    (case z_tuple => k_is)
    (case m_MOST_PLACES => k_is)
