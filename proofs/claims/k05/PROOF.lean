import PyProof.Rows.All
import Wide.All
import OpenK.AllK
import Wide.FinOn
import HandS.ForMost
import HandS.Exc
import HandS.ExcOwn
import HandS.ExcField
import HandS.ExcIs
import HandS.ExcInit
import HandS.WordsExc
import HandS.TryMany
import KE.KExcIs
import KE.KIsAll
import KE.RegKIsAll
import HandS.Codes
import HandS.Conv
import HandS.IsInst
import HandS.Style
import HandS.Walk
import HandS.Wide
import KE.GoesEnum
import KE.GoesMore
import HandS.More
import HandS.StrMore
import KE.GoesEnumKw
import PyProof.Rows.CallKwBuiltin
import HandS.Deep
import HandS.Star
import HandS.Text
import HandS.SortInts
import KE.KSortedM
import HandS.ForMost
import PySem.Challenge.RW_everyorder_k05_place_words_and_their_val
set_option Elab.async false
set_option linter.all false
set_option maxRecDepth 100000
set_option maxHeartbeats 4000000
namespace Pf05
open PySem PySem.Spec PyProof.Rows L2
/-! ### tuples of texts that the top has written -/
def strB : List V → List Value → Bool
  | [], [] => true
  | .str x :: r, .str y _ :: u => decide (x = y) && strB r u
  | _, _ => false
theorem strB_ok : ∀ {xs : List V} {us : List Value}, strB xs us = true → Vals xs us
  | [], [], _ => .nil
  | .str x :: r, .str y t :: u, h => by
    rw [strB, Bool.and_eq_true, decide_eq_true_eq] at h
    obtain ⟨rfl, h2⟩ := h
    exact .cons ⟨t, rfl⟩ (strB_ok h2)
def tupB (o : Obj) (xs : List V) : Bool := match o.cls, o.data with
  | .type c, .seq its _ => decide (c = "tuple") && (decide (its.size ≤ 1000) && strB xs its.toList)
  | _, _ => false
theorem tupB_ok {K : PySem.W.Frag} {H : Hp} {p : Addr} {o : Obj} {xs : List V} (l : K.lookup p = some o) (h : tupB o xs = true) : SqT K H p xs := by
  unfold tupB at h
  split at h
  · rename_i c its n hc hd
    simp only [Bool.and_eq_true, decide_eq_true_eq] at h
    obtain ⟨rfl, h1, h2⟩ := h
    exact .inr ⟨o, its, n, l, hc, hd, Nat.le_trans h1 (by decide), strB_ok h2⟩
  · cases h
/-! ### the text by places -/
def topS (i : Nat) : Stmt := PySem.Challenge.pw_everyorder_k05_place_words_and_their_val.main.body.getD i (.Pass ⟨0, 0, 0, 0⟩)
abbrev s_is_integer : Stmt := topS 1
abbrev s_is_from : Stmt := topS 2
abbrev s_BadWord_init : Stmt := inClass (topS 5) 0
abbrev s_BadSize_init : Stmt := inClass (topS 6) 0
abbrev s_is_figure_behind : Stmt := topS 10
abbrev s_is_place_word : Stmt := topS 11
abbrev s_place_value : Stmt := topS 12
abbrev s_place_of : Stmt := topS 13
abbrev s__law_pen : Stmt := topS 15
abbrev s__law_draw : Stmt := topS 16
abbrev s__law_pick : Stmt := topS 17
abbrev s__law_shuffled : Stmt := topS 18
abbrev s__law_place_word : Stmt := topS 19
abbrev s__law_value : Stmt := topS 20
abbrev s__law_numbers : Stmt := topS 21
abbrev s__law_places : Stmt := topS 22
abbrev s__law_met : Stmt := topS 23
abbrev s_law : Stmt := topS 24
theorem sc_is_integer : FnScope ["value"] ["value"] (defScope s_is_integer) := ⟨rfl, rfl, rfl, by decide +kernel, rfl, by decide +kernel, by decide +kernel⟩
theorem sc_is_from : FnScope ["value", "low"] ["value", "low"] (defScope s_is_from) := ⟨rfl, rfl, rfl, by decide +kernel, rfl, by decide +kernel, by decide +kernel⟩
theorem sc_BadWord_init : FnScope ["self", "index"] ["self", "index"] (defScope s_BadWord_init) := ⟨rfl, rfl, rfl, by decide +kernel, rfl, by decide +kernel, by decide +kernel⟩
theorem sc_BadSize_init : FnScope ["self", "size"] ["self", "size"] (defScope s_BadSize_init) := ⟨rfl, rfl, rfl, by decide +kernel, rfl, by decide +kernel, by decide +kernel⟩
theorem sc_is_figure_behind : FnScope ["fronts", "text"] ["fronts", "text"] (defScope s_is_figure_behind) := ⟨rfl, rfl, rfl, by decide +kernel, rfl, by decide +kernel, by decide +kernel⟩
theorem sc_is_place_word : FnScope ["text"] ["text"] (defScope s_is_place_word) := ⟨rfl, rfl, rfl, by decide +kernel, rfl, by decide +kernel, by decide +kernel⟩
theorem sc_place_value : FnScope ["word", "size"] ["word", "size"] (defScope s_place_value) := ⟨rfl, rfl, rfl, by decide +kernel, rfl, by decide +kernel, by decide +kernel⟩
theorem sc_place_of : FnScope ["word", "size"] ["word", "size"] (defScope s_place_of) := ⟨rfl, rfl, rfl, by decide +kernel, rfl, by decide +kernel, by decide +kernel⟩
theorem sc__law_pen : FnScope ["script"] ["script"] (defScope s__law_pen) := ⟨rfl, rfl, rfl, by decide +kernel, rfl, by decide +kernel, by decide +kernel⟩
theorem sc__law_draw : FnScope ["pen", "many", "digit", "at", "cell", "mixed"] ["pen", "many"] (defScope s__law_draw) := ⟨rfl, rfl, rfl, by decide +kernel, rfl, by decide +kernel, by decide +kernel⟩
theorem sc__law_pick : FnScope ["pen", "some"] ["pen", "some"] (defScope s__law_pick) := ⟨rfl, rfl, rfl, by decide +kernel, rfl, by decide +kernel, by decide +kernel⟩
theorem sc__law_shuffled : FnScope ["pen", "some", "left", "found", "k"] ["pen", "some"] (defScope s__law_shuffled) := ⟨rfl, rfl, rfl, by decide +kernel, rfl, by decide +kernel, by decide +kernel⟩
theorem sc__law_place_word : FnScope ["pen", "k"] ["pen"] (defScope s__law_place_word) := ⟨rfl, rfl, rfl, by decide +kernel, rfl, by decide +kernel, by decide +kernel⟩
theorem sc__law_value : FnScope ["word", "k"] ["word", "k"] (defScope s__law_value) := ⟨rfl, rfl, rfl, by decide +kernel, rfl, by decide +kernel, by decide +kernel⟩
theorem sc__law_numbers : FnScope ["k"] [] (defScope s__law_numbers) := ⟨rfl, rfl, rfl, by decide +kernel, rfl, by decide +kernel, by decide +kernel⟩
theorem sc__law_places : FnScope ["found", "k"] [] (defScope s__law_places) := ⟨rfl, rfl, rfl, by decide +kernel, rfl, by decide +kernel, by decide +kernel⟩
theorem sc__law_met : FnScope ["word", "size", "e"] ["word", "size"] (defScope s__law_met) := ⟨rfl, rfl, rfl, by decide +kernel, rfl, by decide +kernel, by decide +kernel⟩
theorem sc_law : FnScope ["script", "pen", "wrong", "lap", "size", "word", "odd"] ["script"] (defScope s_law) := ⟨rfl, rfl, rfl, by decide +kernel, rfl, by decide +kernel, by decide +kernel⟩
/-- where the defs and classes stand -/
structure Ad where
  f_is_integer : Addr
  d_is_integer : FuncData
  f_is_from : Addr
  d_is_from : FuncData
  f_BadWord_init : Addr
  d_BadWord_init : FuncData
  f_BadSize_init : Addr
  d_BadSize_init : FuncData
  f_is_figure_behind : Addr
  d_is_figure_behind : FuncData
  f_is_place_word : Addr
  d_is_place_word : FuncData
  f_place_value : Addr
  d_place_value : FuncData
  f_place_of : Addr
  d_place_of : FuncData
  f__law_pen : Addr
  d__law_pen : FuncData
  f__law_draw : Addr
  d__law_draw : FuncData
  f__law_pick : Addr
  d__law_pick : FuncData
  f__law_shuffled : Addr
  d__law_shuffled : FuncData
  f__law_place_word : Addr
  d__law_place_word : FuncData
  f__law_value : Addr
  d__law_value : FuncData
  f__law_numbers : Addr
  d__law_numbers : FuncData
  f__law_places : Addr
  d__law_places : FuncData
  f__law_met : Addr
  d__law_met : FuncData
  f_law : Addr
  d_law : FuncData
  C_EveryError : Addr
  C_BadWord : Addr
  C_BadSize : Addr
  a_FIGURES : Addr
  a_PLACE_FRONTS : Addr
/-- isinstance of a caught error that has its own dict -/
structure ExcD (K : PySem.W.Frag) (D : Addr) : Prop where
  hg : PySem.W.findIn K (.ref D) "__getattribute__" = some (some (.builtin "BaseException.__getattribute__"))
  hk : PySem.W.findIn K (.ref D) "__getattr__" = some none
  hs : PySem.W.subIn K (.ref D) (.type "BaseException") = some true
  hd : PySem.W.hasDictIn K D = true
  ha : PySem.W.findIn K (.ref D) "__class__" = some (some (.builtin "object.__class__"))
  hn : PySem.W.specialIn K (.builtin "object.__class__") "__get__" = some (some (.builtin "getset_descriptor.__get__"))
  ht : PySem.W.takesIn K (.builtin "object.__class__") = some true
  hm : PySem.W.mroIn K D (.type "object") = some true
/-- an own error class: made, its field read, asked by isinstance -/
structure ErrC (K : PySem.W.Frag) (C fI : Addr) (f : Str) : Prop where
  o : OexC K C
  ini : PySem.W.findIn K (.ref C) "__init__" = some (some (.ref fI))
  tin : PySem.W.typeIn K (.ref fI) = some (.type "function")
  no : PySem.W.findIn K (.ref C) f = some none
  x : XfC K C
  i : ExcD K C
/-- an own error class without own __init__ -/
structure ErrZ (K : PySem.W.Frag) (C : Addr) : Prop where
  x : PySem.W.excIn K C [.type "ValueError", .type "Exception", .type "BaseException", .type "object"] "ValueError.__new__" = true
  k : PySem.W.keepIn K (.ref C) = true
  i : ExcD K C
/-- what the top has written -/
structure Tx (w : World) (K : PySem.W.Frag) (mg : Str → Option Value) (a : Ad) : Prop where
  F_is_integer : Fun K "is_integer" "is_integer" s_is_integer a.f_is_integer a.d_is_integer
  b_is_integer : Binds K a.d_is_integer ["value"] []
  m_is_integer : mg "is_integer" = some (.ref a.f_is_integer)
  F_is_from : Fun K "is_from" "is_from" s_is_from a.f_is_from a.d_is_from
  b_is_from : Binds K a.d_is_from ["value", "low"] []
  m_is_from : mg "is_from" = some (.ref a.f_is_from)
  F_BadWord_init : Fun K "__init__" "BadWord.__init__" s_BadWord_init a.f_BadWord_init a.d_BadWord_init
  b_BadWord_init : Binds K a.d_BadWord_init ["self", "index"] []
  F_BadSize_init : Fun K "__init__" "BadSize.__init__" s_BadSize_init a.f_BadSize_init a.d_BadSize_init
  b_BadSize_init : Binds K a.d_BadSize_init ["self", "size"] []
  F_is_figure_behind : Fun K "is_figure_behind" "is_figure_behind" s_is_figure_behind a.f_is_figure_behind a.d_is_figure_behind
  b_is_figure_behind : Binds K a.d_is_figure_behind ["fronts", "text"] []
  m_is_figure_behind : mg "is_figure_behind" = some (.ref a.f_is_figure_behind)
  F_is_place_word : Fun K "is_place_word" "is_place_word" s_is_place_word a.f_is_place_word a.d_is_place_word
  b_is_place_word : Binds K a.d_is_place_word ["text"] []
  m_is_place_word : mg "is_place_word" = some (.ref a.f_is_place_word)
  F_place_value : Fun K "place_value" "place_value" s_place_value a.f_place_value a.d_place_value
  b_place_value : Binds K a.d_place_value ["word", "size"] []
  m_place_value : mg "place_value" = some (.ref a.f_place_value)
  F_place_of : Fun K "place_of" "place_of" s_place_of a.f_place_of a.d_place_of
  b_place_of : Binds K a.d_place_of ["word", "size"] []
  m_place_of : mg "place_of" = some (.ref a.f_place_of)
  F__law_pen : Fun K "_law_pen" "_law_pen" s__law_pen a.f__law_pen a.d__law_pen
  b__law_pen : Binds K a.d__law_pen ["script"] []
  m__law_pen : mg "_law_pen" = some (.ref a.f__law_pen)
  F__law_draw : Fun K "_law_draw" "_law_draw" s__law_draw a.f__law_draw a.d__law_draw
  b__law_draw : Binds K a.d__law_draw ["pen", "many"] []
  m__law_draw : mg "_law_draw" = some (.ref a.f__law_draw)
  F__law_pick : Fun K "_law_pick" "_law_pick" s__law_pick a.f__law_pick a.d__law_pick
  b__law_pick : Binds K a.d__law_pick ["pen", "some"] []
  m__law_pick : mg "_law_pick" = some (.ref a.f__law_pick)
  F__law_shuffled : Fun K "_law_shuffled" "_law_shuffled" s__law_shuffled a.f__law_shuffled a.d__law_shuffled
  b__law_shuffled : Binds K a.d__law_shuffled ["pen", "some"] []
  m__law_shuffled : mg "_law_shuffled" = some (.ref a.f__law_shuffled)
  F__law_place_word : Fun K "_law_place_word" "_law_place_word" s__law_place_word a.f__law_place_word a.d__law_place_word
  b__law_place_word : Binds K a.d__law_place_word ["pen"] []
  m__law_place_word : mg "_law_place_word" = some (.ref a.f__law_place_word)
  F__law_value : Fun K "_law_value" "_law_value" s__law_value a.f__law_value a.d__law_value
  b__law_value : Binds K a.d__law_value ["word", "k"] []
  m__law_value : mg "_law_value" = some (.ref a.f__law_value)
  F__law_numbers : Fun K "_law_numbers" "_law_numbers" s__law_numbers a.f__law_numbers a.d__law_numbers
  b__law_numbers : Binds K a.d__law_numbers [] []
  m__law_numbers : mg "_law_numbers" = some (.ref a.f__law_numbers)
  F__law_places : Fun K "_law_places" "_law_places" s__law_places a.f__law_places a.d__law_places
  b__law_places : Binds K a.d__law_places [] []
  m__law_places : mg "_law_places" = some (.ref a.f__law_places)
  F__law_met : Fun K "_law_met" "_law_met" s__law_met a.f__law_met a.d__law_met
  b__law_met : Binds K a.d__law_met ["word", "size"] []
  m__law_met : mg "_law_met" = some (.ref a.f__law_met)
  F_law : Fun K "law" "law" s_law a.f_law a.d_law
  b_law : Binds K a.d_law ["script"] []
  m_law : mg "law" = some (.ref a.f_law)
  c_EveryError : mg "EveryError" = some (.ref a.C_EveryError)
  c_BadWord : mg "BadWord" = some (.ref a.C_BadWord)
  c_BadSize : mg "BadSize" = some (.ref a.C_BadSize)
  ox_BadWord : ErrC K a.C_BadWord a.f_BadWord_init "index"
  em_BadWord_BadSize : PySem.W.exmOne K (.ref a.C_BadWord) (.ref a.C_BadSize) = some false
  em_BadWord_BadWord : PySem.W.exmOne K (.ref a.C_BadWord) (.ref a.C_BadWord) = some true
  kt_BadWord_EveryError : PySem.W.kitOne K (.ref a.C_BadWord) (.ref a.C_EveryError) = some true
  ox_BadSize : ErrC K a.C_BadSize a.f_BadSize_init "size"
  em_BadSize_BadSize : PySem.W.exmOne K (.ref a.C_BadSize) (.ref a.C_BadSize) = some true
  em_BadSize_BadWord : PySem.W.exmOne K (.ref a.C_BadSize) (.ref a.C_BadWord) = some false
  kt_BadSize_EveryError : PySem.W.kitOne K (.ref a.C_BadSize) (.ref a.C_EveryError) = some true
  z_bool : mg "bool" = none
  z_int : mg "int" = none
  z_isinstance : mg "isinstance" = none
  z_len : mg "len" = none
  z_list : mg "list" = none
  z_range : mg "range" = none
  z_str : mg "str" = none
  m_FIGURES : mg "FIGURES" = some (.ref a.a_FIGURES)
  q_FIGURES : ∀ H : Hp, SqT K H a.a_FIGURES [.str "1", .str "2", .str "3", .str "4", .str "5", .str "6", .str "7", .str "8", .str "9"]
  m_PLACE_FRONTS : mg "PLACE_FRONTS" = some (.ref a.a_PLACE_FRONTS)
  q_PLACE_FRONTS : ∀ H : Hp, SqT K H a.a_PLACE_FRONTS [.str "", .str "-", .str "half-", .str "half+"]

/-! ### several clauses `except X as n` -/
/-- what such clauses wish of an exception of the body, one after the other: class, slot of the name, suite -/
def wManyAs (K : PySem.W.Frag) (Wout : WX) (D : Ends) : List (Value × Nat × (Addr → Value → Option Addr → TS)) → WX
  | [] => Wout
  | (c, i, ts) :: r => fun cls d σ H => ∃ b, PySem.W.exmOne K cls c = some b ∧
      (b = true → ∀ a, H a = none → ts a cls d { nx := fun σ' H' => D.nx (σ'.set i none) H', rt := D.rt, bk := fun σ' H' => D.bk (σ'.set i none) H', ct := fun σ' H' => D.ct (σ'.set i none) H' } (σ.set i (some (.ref a))) H) ∧
      (b = false → wManyAs K Wout D r cls d σ H)
inductive HdsAs (X : Cx) : List ExceptHandler → List (Value × Nat × (Addr → Value → Option Addr → TS)) → Prop
  | nil : HdsAs X [] []
  | cons {x n : Str} {c : Value} {i : Nat} {ts : Addr → Value → Option Addr → TS} {b₀ : Stmt} {suite : List Stmt} {np pos' : Pos} {hds : List ExceptHandler} {l : List (Value × Nat × (Addr → Value → Option Addr → TS))}
      (hi : X.N[i]? = some n) (hln : X.env.kindOf n = some .local) (hc : Names X x c)
      (hsu : ∀ (a : Addr) (oe : Obj) (cls : Value) (d : Option Addr) (pn : List (Addr × Obj)), Zc cls d oe → (∃ vs, oe.data = .fields vs) → PSs (X.suite a ((a, oe) :: pn)) (b₀ :: suite) (ts a cls d)) (r : HdsAs X hds l) :
      HdsAs X (.ExceptHandler (some (.Name x np)) (some n) (b₀ :: suite) pos' :: hds) ((c, i, ts) :: l)
section
variable {X : Cx} {body : List Stmt} {h₀ : ExceptHandler} {hds : List ExceptHandler} {l : List (Value × Nat × (Addr → Value → Option Addr → TS))} {pos : Pos} {tb : WX → TS} {Wout : WX}
theorem ps_try_manyAs (hs : X.stack = X.env :: X.outer) (hf : X.env.frame = some X.env.locals) (hN : X.N.Nodup) (tk : Takes X Wout)
    (hb : ∀ (W : WX) (pn : List (Addr × Obj)) (xe : Value → Shared → Prop), Takes (X.tr pn xe) W → PassesOwn (model X.prog X.w) X.A X.env xe → PSs (X.tr pn xe) body (tb W))
    (hh : HdsAs X (h₀ :: hds) l) : PS X (.Try body (h₀ :: hds) [] [] pos) (fun D σ H => tb (wManyAs X.K Wout D l) D σ H) := by
  refine ⟨fun pins s σ H D I h => ?_⟩
  have ok := I.ok
  have hfr : X.A.frames = some (X.env :: X.outer) := by rw [ok.frames, hs]
  refine wpAny_Try_except ?_
  refine wpAny_mono ((hb (wManyAs X.K Wout D l) (X.pn ++ pins) (fun e s₁ => wpAny (model X.prog X.w) X.A (noteFrame e X.env) (fun _ s₂ => wpAny (model X.prog X.w) X.A (setFlight e none) (fun _ s₃ =>
    wpAny (model X.prog X.w) X.A (handleBy e X.env (h₀ :: hds)) (SP X pins D) X.xe s₃) X.xe s₂) X.xe s₁) (fun u s' xx => ?_) PassesOwn.looking).run [] s σ H D (I.toTry _) h) (fun f s1 hsp => ?_) (fun e s1 he => he)
  · -- an exception arrives
    obtain ⟨a, B, sI, pins', σ', H', cls, d, rfl, J', nb, up, sky, na, os, ag, want⟩ := xx
    have J : Inv X pins σ' H' sI := J'.ofTry ok
    show wpAny (model X.prog X.w) X.A (noteFrame (.ref a) X.env) _ _ _
    refine Sky.land Zc.steady hfr hf (show Sky B (X.env :: X.outer) a (Zc cls d) X.env.locals s'.heap by rw [← hs]; exact sky) fun h3 fl3 up3 => ?_
    have J3 : Inv X pins σ' H' { s' with heap := h3 } := J.landed nb fl3.1 (up.trans up3) os ag
    obtain ⟨oe3, vs3, he3, hz3, hd3⟩ := fl3.there
    have nfr : a ∉ frs (X.env :: X.outer) := fun hm => by
      obtain ⟨_, o', e', hnf⟩ := fl3.2.2.1.mem hm
      rw [he3] at e'
      cases e'
      exact hnf _ hd3
    have nL : a ≠ X.env.locals := fun z => nfr (List.mem_filterMap.mpr ⟨X.env, List.mem_cons_self, by rw [hf, z]⟩)
    have nF : a ∉ X.fs := fun hm => by
      obtain ⟨e, he, q⟩ := List.mem_filterMap.mp hm
      exact nfr (List.mem_filterMap.mpr ⟨e, List.mem_cons_of_mem _ he, q⟩)
    have S3 := J3.suite he3 hd3 na nL nF
    have LT : PySem.W.Looks (model X.prog X.w) h3 (typeOf (.ref a)) cls := fun A Q E s k q => wpAny_typeOf_ref (k _ _ he3) (by rw [hz3.1]; exact q)
    have each : ∀ {hds' : List ExceptHandler} {l' : List (Value × Nat × (Addr → Value → Option Addr → TS))}, HdsAs X hds' l' → wManyAs X.K Wout D l' cls d σ' H' →
        wpAny (model X.prog X.w) X.A (handleBy (.ref a) X.env hds') (SP X pins D) X.xe { s' with heap := h3 } := by
      intro hds' l' hk
      induction hk with
      | nil =>
        intro w
        refine wpAny_handleBy_nil ?_
        obtain ⟨_, _, _, oe, vs, T, oT, ts', he, hz, hd, h1, hr⟩ := id fl3
        unfold PySem.passOn
        refine wpAny_bind (wpAny_field he hd h1 ?_)
        rw [if_neg (show ¬ ((Value.ref T == Value.none) = true) from by simp)]
        have fin : wpAny (model X.prog X.w) X.A (setFlight (.ref a) X.env.frame) (fun _ s4 => wpAny (model X.prog X.w) X.A (throw (.ref a) : Sem Flow) (SP X pins D) X.xe s4) X.xe { s' with heap := h3 } := by
          rw [hf]
          exact HandSPX.setFlight_upZ fl3 fun h4 hh4 up4 => wpAny_throw (tk _ _ ⟨a, B, sI, pins, σ', H', cls, d, rfl, J, nb, (up.trans up3).trans up4, .inr (.inr (by rw [hs]; exact hh4)), na, os, ag, w⟩)
        first
          | exact wpAny_bind (wpAny_pure (wpAny_bind fin))
          | exact wpAny_bind fin
      | @cons x n c i ts b₀ suite np pos' hds2 l2 hi hln hc hsu r ih =>
        rintro ⟨b, hb1, hyes, hno⟩
        refine wpAny_handleBy_cons (codeAny_handlers_test ?_) (by intro q; cases q)
        have named : ∀ {Q : Value → Shared → Prop} {E : Value → Shared → Prop}, Q c { s' with heap := h3 } → wpAny (model X.prog X.w) (X.A.mark (some (.ref a))) (eval (.Name x np) X.env) Q E { s' with heap := h3 } := fun {Q E} q => by
          obtain ⟨hg, hdbg, hm | ⟨hm, hv, hnn⟩⟩ := hc
          · exact ld_glob (X := X.suite a ((a, oe3) :: (X.pn ++ pins))) S3 hg hm q hdbg
          · exact ld_blt (X := X.suite a ((a, oe3) :: (X.pn ++ pins))) S3 hg hm hv q hnn hdbg
        refine named ((PySem.W.exm_one (M := model X.prog X.w) (J3.kIn) LT hb1).here ?_)
        cases b with
        | false =>
          show wpAny _ X.A (handleBy (.ref a) X.env hds2) _ _ _
          exact ih (hno rfl)
        | true =>
          refine codeAny_handlers_suite_as ?_
          refine HandSPX.lands_againZ fl3 fun h4 fl4 up4 => ?_
          have J4 : Inv X pins σ' H' { s' with heap := h4 } := J.landed nb fl4.1 ((up.trans up3).trans up4) os ag
          obtain ⟨oe4, vs4, he4, hz4, hd4⟩ := fl4.there
          refine store_ok (X := X.suite a ((a, oe4) :: (X.pn ++ pins))) (v := .ref a) (J4.suite he4 hd4 na nL nF) hN hi (.inl hln) rfl (fun s5 S5 => ?_) (.inr hln)
          refine wpAny_mono ((hsu a oe4 cls d (X.pn ++ pins) hz4 ⟨_, hd4⟩).run [] s5 _ H' _ S5 (hyes rfl a na)) (fun f s6 hsp => ?_) (fun _ _ z => False.elim z)
          have gone : ∀ {σ6 : L2.St} {H6 : Hp} {Q : Shared → Prop}, Inv (X.suite a ((a, oe4) :: (X.pn ++ pins))) [] σ6 H6 s6 → (∀ s7, Inv X pins (σ6.set i none) H6 s7 → Q s7) →
              wpAny (model X.prog X.w) X.A (do bindName X.env n .none; unbindBehindTheSuite X.env n pos') (fun _ s7 => Q s7) X.xe s6 := fun {σ6 H6 Q} S6 hq => gone_ok (S6.unsuite ok) hN hi hln hq
          cases f with
          | next =>
            obtain ⟨σ6, H6, S6, q6⟩ := hsp
            exact gone S6 fun s7 J7 => ⟨_, _, J7, q6⟩
          | brk =>
            obtain ⟨σ6, H6, S6, q6⟩ := hsp
            exact gone S6 fun s7 J7 => ⟨_, _, J7, q6⟩
          | cont =>
            obtain ⟨σ6, H6, S6, q6⟩ := hsp
            exact gone S6 fun s7 J7 => ⟨_, _, J7, q6⟩
          | ret u =>
            obtain ⟨v6, σ6, H6, S6, r6, q6⟩ := hsp
            exact gone S6 fun s7 J7 => ⟨_, _, _, J7, r6, q6⟩
    exact each hh want
  · cases f with
    | next =>
      obtain ⟨σ', H', J', q⟩ := hsp
      exact wpAny_execs_nil ⟨σ', H', J'.ofTry ok, q⟩
    | brk =>
      obtain ⟨σ', H', J', q⟩ := hsp
      exact ⟨σ', H', J'.ofTry ok, q⟩
    | cont =>
      obtain ⟨σ', H', J', q⟩ := hsp
      exact ⟨σ', H', J'.ofTry ok, q⟩
    | ret u =>
      obtain ⟨v, σ', H', J', r, q⟩ := hsp
      exact ⟨v, σ', H', J'.ofTry ok, r, q⟩
end
/-! ### isinstance of a caught error with fields -/
theorem clsIn_of {K : PySem.W.Frag} {D : Addr} (h : PySem.W.hasDictIn K D = true) : (PySem.W.clsIn K D).isSome = true := by
  obtain ⟨cd, hc, _⟩ := PySem.W.any_some h
  rw [hc]
  rfl
theorem exm_ofHd {K : PySem.W.Frag} {C : Addr} {cls : Value} {b : Bool} (h1 : PySem.W.subIn K (.ref C) (.type "BaseException") = some true) (hd : PySem.W.hasDictIn K C = true) (ht : PySem.W.typeIn K (.ref C) = some (.type "type")) (h4 : PySem.W.subIn K cls (.ref C) = some b) :
    PySem.W.exmOne K cls (.ref C) = some b := PySem.W.exm_ref h1 hd ht h4
def rIsD (K : PySem.W.Frag) (D a : Addr) (cls : Value) (d : Option Addr) : List V → Hp → VK → Prop := fun xs H Q => ∃ (dd : Addr) (fs : List (Str × V)) (c : V) (cv : Value) (b : Bool), cls = .ref D ∧ d = some dd ∧ H dd = some (.xd fs) ∧ xs = [.ref a, c] ∧ (∀ u, RelV c u → u = cv) ∧ PySem.W.kitOne K (.ref D) cv = some b ∧ Q (.bl b) H
theorem call_isD {X : Cx} {a D : Addr} {oe : Obj} {cls : Value} {d : Option Addr} {pn : List (Addr × Obj)} (C : ExcD X.K D) (hz : Zc cls d oe) (hf : ∃ vs, oe.data = .fields vs) : CallR (X.suite a ((a, oe) :: pn)) (.builtin "isinstance") (rIsD X.K D a cls d) := by
  intro pins s σ H xs us Q I r h
  obtain ⟨dd, fs, c, cv, b, rfl, rfl, ea, rfl, hcv, e, q⟩ := h
  obtain ⟨u1, u2, rfl, r1, r2⟩ := vals2 r
  cases (show u1 = Value.ref a from r1)
  obtain rfl := hcv _ r2
  obtain ⟨hget, _⟩ := I.pin (a, oe) (List.mem_append.mpr (.inl List.mem_cons_self))
  obtain ⟨vs, hv⟩ := hf
  obtain ⟨mA, hns, hr⟩ := (show ObjOk X.prog X.w H s.heap dd (.xd fs) from I.hok dd _ ea)
  obtain ⟨od, ho, hl⟩ := lookIn_ns hns
  have J : PySem.W.InstAt s.heap a oe D (some od) := ⟨hget, hz.1, by unfold PySem.W.notCls; rw [hv] <;> rfl, by rw [hz.2]; exact ho⟩
  exact PySem.W.kia_one (PySem.W.kitx_exc (clsIn_of C.hd) C.hg C.hk C.hs C.ha C.hn C.ht C.hm) I.kIn J e (fun z => nomatch z) fun tk => ⟨.bl b, H, I.tok tk, rfl, q⟩

/-! ### heaps -/
/-- all but what stands at d is as it was -/
def But (d : Addr) (H H' : Hp) : Prop := ∀ b o, H b = some o → b ≠ d → H' b = some o
theorem But.refl {d : Addr} {H : Hp} : But d H H := fun _ _ h _ => h
theorem But.trans {d : Addr} {H H1 H2 : Hp} (x : But d H H1) (y : But d H1 H2) : But d H H2 := fun b o h n => y b o (x b o h n) n
theorem but_same {d : Addr} {H H' : Hp} (h : Same H H') : But d H H' := fun b o e _ => h b o e
theorem same_upd {H : Hp} {p : Addr} {o : HO} (h : H p = none) : Same H (upd H p o) := fun b x e => by
  rw [upd_ne (ne_of_none e h)]
  exact e
theorem but_upd {d : Addr} {H : Hp} {o : HO} : But d H (upd H d o) := fun b x e n => by
  rw [upd_ne n]
  exact e
theorem But.list {d : Addr} {H H' : Hp} {kvs : List (Key × V)} {l : Addr} {xs : List V} (x : But d H H') (hd : H d = some (.dK kvs)) (h : H l = some (.lst xs)) : H' l = some (.lst xs) :=
  x l _ h (ne_of h hd (by intro z; cases z))
theorem But.tup {d : Addr} {H H' : Hp} {kvs : List (Key × V)} {l : Addr} {xs : List V} (x : But d H H') (hd : H d = some (.dK kvs)) (h : H l = some (.tup xs)) : H' l = some (.tup xs) :=
  x l _ h (ne_of h hd (by intro z; cases z))
theorem But.seq {K : PySem.W.Frag} {d : Addr} {H H' : Hp} {kvs : List (Key × V)} {l : Addr} {xs : List V} (x : But d H H') (hd : H d = some (.dK kvs)) (h : SqL K H l xs) : SqL K H' l xs := by
  rcases h with (h | ⟨o, h⟩) | h
  · exact .inl (.inl (x l _ h (ne_of h hd (by intro z; cases z))))
  · exact .inl (.inr ⟨o, x l _ h (ne_of h hd (by intro z; cases z))⟩)
  · exact .inr h
/-- a list changes where none of what is known stood -/
theorem keep_upd {H H' : Hp} {l : Addr} {o : HO} (h : Same H H') (n : H l = none) : Same H (upd H' l o) := fun b u e => by
  rw [upd_ne (ne_of_none e n)]
  exact h b u e
theorem free_of {H H' : Hp} {p : Addr} (e : Same H H') (h : H' p = none) : H p = none := e.free h
theorem SqL.at {K : PySem.W.Frag} {H : Hp} {a : Addr} {xs : List V} (h : H a = some (.lst xs)) : SqL K H a xs := .inl (.inl h)
theorem SqT.at {K : PySem.W.Frag} {H : Hp} {a : Addr} {xs : List V} (h : H a = some (.tup xs)) : SqT K H a xs := .inl (.inl h)
theorem sz {n : Nat} (h : n ≤ 100000) : n ≤ sizeLine := Nat.le_trans h (by decide)
theorem szlt {n : Nat} (h : n ≤ 100000) : n < sizeLine := Nat.lt_of_le_of_lt h (by decide)
/-! ### data: lists of ints -/
def iD (ns : List Int) : PyData := .list (ns.map PyData.int)
theorem dp_all {K : PySem.W.Frag} {H : Hp} : ∀ ns : List Int, DpAll K H (ns.map V.int) (ns.map PyData.int)
  | [] => .nil
  | _ :: r => .cons (.int _) (dp_all r)
theorem dp_ints {K : PySem.W.Frag} {H : Hp} {p : Addr} {ns : List Int} (h : SqL K H p (ns.map V.int)) : Dp K H (.ref p) (iD ns) := .lst h (dp_all ns)
theorem dp_tints {K : PySem.W.Frag} {H : Hp} {p : Addr} {ns : List Int} (h : SqT K H p (ns.map V.int)) : Dp K H (.ref p) (.tuple (ns.map PyData.int)) := .tup h (dp_all ns)
theorem lay_ints : ∀ ns : List Int, PyData.canLayAll0 (ns.map PyData.int) = true
  | [] => by simp [PyData.canLayAll0]
  | _ :: r => by simp [PyData.canLayAll0, PyData.canLay0, lay_ints r]
theorem eqv_all_ints : ∀ ns ms : List Int, PyData.eqvAll (ns.map PyData.int) (ms.map PyData.int) = decide (ns = ms)
  | [], [] => by simp [PyData.eqvAll]
  | [], _ :: _ => by simp [PyData.eqvAll]
  | _ :: _, [] => by simp [PyData.eqvAll]
  | x :: r, y :: u => by
    simp only [List.map_cons, PyData.eqvAll, PyData.eqv, eqv_all_ints r u, List.cons.injEq]
    by_cases h1 : x = y <;> by_cases h2 : r = u <;> simp [h1, h2]
theorem eqv_ints (ns ms : List Int) : PyData.eqv (iD ns) (iD ms) = decide (ns = ms) := by
  unfold iD
  rw [PyData.eqv]
  exact eqv_all_ints ns ms
theorem deep_ints : ∀ ns : List Int, PyData.depthAll (ns.map PyData.int) ≤ 1
  | [] => by simp [PyData.depthAll]
  | _ :: r => by
    have := deep_ints r
    simp only [List.map_cons, PyData.depthAll, PyData.depth]
    omega
theorem shaped_ints {ns : List Int} : SeqAt.shaped (iD ns) = true := by
  unfold SeqAt.shaped iD
  rw [Bool.and_eq_true, decide_eq_true_eq]
  refine ⟨by rw [PyData.canLay0]; exact lay_ints ns, ?_⟩
  have := deep_ints ns
  rw [PyData.depth]
  omega
theorem atI_ints {ns : List Int} {i : Int} (h0 : 0 ≤ i) (h1 : i.toNat < ns.length) : atI (ns.map V.int) i = some (.int (ns[i.toNat]'h1)) := by
  have e : (i.toNat : Int) = i := by omega
  have z : atI (ns.map V.int) (i.toNat : Int) = some (.int (ns[i.toNat]'h1)) := by
    refine atI_nat ?_
    rw [List.getElem?_map, List.getElem?_eq_getElem h1]
    rfl
  rw [e] at z
  exact z
theorem ixN_nat {n : Nat} {i : Int} (h0 : 0 ≤ i) (h1 : i < (n : Int)) : ixN n i = some i.toNat := by
  unfold ixN
  rw [if_pos h0, if_pos h1]
theorem getD_get {ts : List Int} {i : Nat} (h : i < ts.length) : ts.getD i 0 = ts[i] := by
  rw [List.getD_eq_getElem?_getD, List.getElem?_eq_getElem h]
  rfl

/-! ### the pen: a dict of the script's cells and two ints -/
def penD (c : Addr) (t l : Int) : HO := .dK [((.inr "cells" : Key), V.ref c), ((.inr "at" : Key), V.int t), ((.inr "left" : Key), V.int l)]
structure PenAt (H : Hp) (d c : Addr) (ns : List Int) (t l : Int) : Prop where
  dc : H d = some (penD c t l)
  cs : H c = some (.lst (ns.map V.int))
  len : ns.length ≤ 63
  t0 : 0 ≤ t
/-- a pen with which at most n draws were made -/
def Pen (H : Hp) (d c : Addr) (n : Nat) : Prop := ∃ ns t l, PenAt H d c ns t l ∧ t ≤ n
theorem k1 : ¬ (("cells" : Str) = "at") := by decide +kernel
theorem k2 : ¬ (("cells" : Str) = "left") := by decide +kernel
theorem k3 : ¬ (("at" : Str) = "left") := by decide +kernel
theorem kk {x y : Str} (h : ¬ x = y) : ¬ ((Sum.inr x : Key) = Sum.inr y) := fun z => h (Sum.inr.inj z)
theorem pen_valC {c : Addr} {t l : Int} : valV [((.inr "cells" : Key), V.ref c), ((.inr "at" : Key), V.int t), ((.inr "left" : Key), V.int l)] (.inr "cells") = some (.ref c) := by
  simp [valV, List.find?]
theorem pen_valA {c : Addr} {t l : Int} : valV [((.inr "cells" : Key), V.ref c), ((.inr "at" : Key), V.int t), ((.inr "left" : Key), V.int l)] (.inr "at") = some (.int t) := by
  simp [valV, List.find?, k1]
theorem pen_valL {c : Addr} {t l : Int} : valV [((.inr "cells" : Key), V.ref c), ((.inr "at" : Key), V.int t), ((.inr "left" : Key), V.int l)] (.inr "left") = some (.int l) := by
  simp [valV, List.find?, k2, k3]
theorem pen_C {H : Hp} {d c : Addr} {t l : Int} (h : H d = some (penD c t l)) : DGet H d (.str "cells") (some (.ref c)) := by
  have e := DGet.k (k := Sum.inr "cells") h
  rw [pen_valC] at e
  exact e
theorem pen_A {H : Hp} {d c : Addr} {t l : Int} (h : H d = some (penD c t l)) : DGet H d (.str "at") (some (.int t)) := by
  have e := DGet.k (k := Sum.inr "at") h
  rw [pen_valA] at e
  exact e
theorem pen_L {H : Hp} {d c : Addr} {t l : Int} (h : H d = some (penD c t l)) : DGet H d (.str "left") (some (.int l)) := by
  have e := DGet.k (k := Sum.inr "left") h
  rw [pen_valL] at e
  exact e
theorem pen_putA {c : Addr} {t l u : Int} : putK [((.inr "cells" : Key), V.ref c), ((.inr "at" : Key), V.int t), ((.inr "left" : Key), V.int l)] (.inr "at") (.int u) = [((.inr "cells" : Key), V.ref c), ((.inr "at" : Key), V.int u), ((.inr "left" : Key), V.int l)] := by
  simp [putK, k1, k3, show ¬ (("left" : Str) = "at") from fun h => k3 h.symm]
theorem pen_putL {c : Addr} {t l u : Int} : putK [((.inr "cells" : Key), V.ref c), ((.inr "at" : Key), V.int t), ((.inr "left" : Key), V.int l)] (.inr "left") (.int u) = [((.inr "cells" : Key), V.ref c), ((.inr "at" : Key), V.int t), ((.inr "left" : Key), V.int u)] := by
  simp [putK, k2, k3]
theorem pen_setA {H : Hp} {d c : Addr} {t l u : Int} (h : H d = some (penD c t l)) : DPut H d (.str "at") (.int u) (upd H d (penD c u l)) := by
  have e := DPut.k (k := Sum.inr "at") (v := .int u) h (by show 3 < sizeLine; exact szlt (by decide))
  rw [pen_putA] at e
  exact e
theorem pen_setL {H : Hp} {d c : Addr} {t l u : Int} (h : H d = some (penD c t l)) : DPut H d (.str "left") (.int u) (upd H d (penD c t u)) := by
  have e := DPut.k (k := Sum.inr "left") (v := .int u) h (by show 3 < sizeLine; exact szlt (by decide))
  rw [pen_putL] at e
  exact e
theorem pen_mk {l : Addr} : mergeK [] [((.inr "cells" : Key), V.ref l), ((.inr "at" : Key), V.int 0), ((.inr "left" : Key), V.int 0)] = [((.inr "cells" : Key), V.ref l), ((.inr "at" : Key), V.int 0), ((.inr "left" : Key), V.int 0)] := by
  simp [mergeK, putK, k1, k2, k3]
theorem Pen.same {H H' : Hp} {d c : Addr} {n : Nat} (p : Pen H d c n) (h : Same H H') : Pen H' d c n := by
  obtain ⟨ns, t, l, q, e⟩ := p
  exact ⟨ns, t, l, ⟨h _ _ q.dc, h _ _ q.cs, q.len, q.t0⟩, e⟩
theorem Pen.up {H : Hp} {d c : Addr} {n m : Nat} (p : Pen H d c n) (h : n ≤ m) : Pen H d c m := by
  obtain ⟨ns, t, l, q, e⟩ := p
  exact ⟨ns, t, l, q, by omega⟩
theorem Pen.dict {H : Hp} {d c : Addr} {n : Nat} (p : Pen H d c n) : ∃ kvs, H d = some (.dK kvs) := by
  obtain ⟨ns, t, l, q, e⟩ := p
  exact ⟨_, q.dc⟩
theorem Pen.cells {H : Hp} {d c : Addr} {n : Nat} (p : Pen H d c n) : ∃ o, H c = some o := by
  obtain ⟨ns, t, l, q, e⟩ := p
  exact ⟨_, q.cs⟩
/-- a list that is not the pen's changes -/
theorem Pen.mut {H : Hp} {d c l : Addr} {n : Nat} {o : HO} (p : Pen H d c n) (hd : d ≠ l) (hc : c ≠ l) : Pen (upd H l o) d c n := by
  obtain ⟨ns, t, u, q, e⟩ := p
  exact ⟨ns, t, u, ⟨by rw [upd_ne hd]; exact q.dc, by rw [upd_ne hc]; exact q.cs, q.len, q.t0⟩, e⟩
/-- what stands where nothing stood may change -/
theorem But.mut {d l : Addr} {H H' : Hp} {o : HO} (b : But d H H') (h : H l = none) : But d H (upd H' l o) := fun x u e n => by
  rw [upd_ne (ne_of_none e h)]
  exact b x u e n
theorem cut63 (ns : List Int) : cutV (ns.map V.int) none (some 63) = (ns.take 63).map V.int := by
  unfold cutV
  rw [show HT.sIx (ns.map V.int).length (ns.map V.int).length (some 63) = min 63 (ns.map V.int).length from HT.sIx_nat _ _ 63, HT.sIx_none, List.drop_zero, Nat.sub_zero, List.map_take, List.take_eq_take_iff]
  omega
section
variable {P : Program} {w : World} {K : PySem.W.Frag} {mg : Str → Option Value} {base : Heap} {a : Ad}
def spPen (K : PySem.W.Frag) : Sp := fun vs H Q _ => ∃ (s : Addr) (ns : List Int), vs = [.ref s] ∧ SqL K H s (ns.map V.int) ∧ ns.length ≤ 63 ∧
  ∀ d c H', H d = none → H c = none → Pen H' d c 0 → Same H H' → Q (.ref d) H'
theorem ok__law_pen (T : Tx w K mg a) : FnOk P w K mg base CX0 1 a.f__law_pen a.d__law_pen ["script"] (spPen K) := by
  refine T.F__law_pen.ok sc__law_pen (fun vs H Q E h => ?_) (fun cdv A outer s H vs Q E hr h => ?_)
  · obtain ⟨s, ns, rfl, _⟩ := h
    rfl
  · obtain ⟨x, ns, rfl, hS, hlen, q⟩ := h
    have hu := hu_of hr
    refine ⟨_, 
(pss_one (ps_ret (pe_disp (pps_cons pe_str (pe_callTy call_list_of (by rfl) T.z_list (by decide +kernel) (pa_cons (pe_slice sl_list (pv 0) po_none (po_some pe_int)) pa_nil)) (pps_cons pe_str pe_int (pps_cons pe_str pe_int pps_nil))) (by rfl) (by rfl) (fun z => by cases z) (by decide)))), ?_⟩
    intro d hd
    have s1 : Same H (upd H d (.dK [])) := same_upd hd
    refine ⟨.ref x, rfl, 63, rfl, x, ns.map V.int, rfl, s1.seq hS, fun p hp => ?_⟩
    have s2 : Same (upd H d (.dK [])) (upd (upd H d (.dK [])) p (.lst (cutV (ns.map V.int) none (some 63)))) := same_upd hp
    refine ⟨p, _, rfl, .inl (SqL.at upd_same), fun l hl => ?_⟩
    have s3 := same_upd (o := .lst (cutV (ns.map V.int) none (some 63))) hl
    have hd3 := s3 _ _ (s2 _ _ (upd_same (H := H) (a := d) (o := .dK [])))
    have hl3 : (upd (upd (upd H d (.dK [])) p (.lst (cutV (ns.map V.int) none (some 63)))) l (.lst (cutV (ns.map V.int) none (some 63)))) l = _ := upd_same
    have ndl : l ≠ d := ne_of hl3 hd3 (by intro z; cases z)
    refine ⟨hd3, [((.inr "cells" : Key), V.ref l), ((.inr "at" : Key), V.int 0), ((.inr "left" : Key), V.int 0)], rfl, (by show 3 ≤ 15; decide), ?_⟩
    rw [pen_mk]
    refine q d l _ hd (s1.free (s2.free hl)) ⟨ns.take 63, 0, 0, ⟨upd_same, ?_, ?_, by decide⟩, by decide⟩ ?_
    · rw [upd_ne ndl, hl3, cut63]
    · rw [List.length_take]
      omega
    · intro b o e
      rw [upd_ne (ne_of_none e hd)]
      exact s3 _ _ (s2 _ _ (s1 _ _ e))
/-- a draw: any int from 0 on that is less than the second argument; the pen alone changes -/
def spDraw : Sp := fun vs H Q _ => ∃ (d c : Addr) (n : Nat) (m : Int), vs = [.ref d, .int m] ∧ Pen H d c n ∧ n < 2 ^ 40 ∧ 0 < m ∧ m < 2 ^ 200 ∧
  ∀ v H', 0 ≤ v → v < m → Pen H' d c (n + 1) → But d H H' → Q (.int v) H'
theorem ok__law_draw (T : Tx w K mg a) : FnOk P w K mg base CX0 1 a.f__law_draw a.d__law_draw ["pen", "many"] spDraw := by
  refine T.F__law_draw.ok sc__law_draw (fun vs H Q E h => ?_) (fun cdv A outer s H vs Q E hr h => ?_)
  · obtain ⟨d, c, n, m, rfl, _⟩ := h
    rfl
  · obtain ⟨d, c, n, m, rfl, ⟨ns, t, l, ⟨hd, hc, hlen, t0⟩, htn⟩, hn, m0, mb, q⟩ := h
    have hu := hu_of hr
    have hmne : m ≠ 0 := by omega
    have hdiv : ∀ x : Int, CDivW x m := fun x => wide_div m0 (b := 200) (by omega) (by decide) (by decide)
    have f0 : ∀ x : Int, 0 ≤ Int.fmod x m := fun x => Int.fmod_nonneg_of_pos x m0
    have f1 : ∀ x : Int, Int.fmod x m < m := fun x => Int.fmod_lt_of_pos x m0
    refine ⟨_, 
(pss_cons (ps_if (pt_cmpR op_ge (pe_dget hu (pv 0) pe_str (fun _ _ => rfl)) (pv 1) (nomark _))
  (pss_cons (ps_set (i := 2) sc__law_draw.nd rfl (.inl rfl) (pe_op op_modN (pe_callTy call_int1 (by rfl) T.z_int (by decide +kernel) (pa_cons (pe_dget hu (pv 0) pe_str (fun _ _ => rfl)) pa_nil)) (pv 1)))
  (pss_cons (ps_dput hu (pv 0) pe_str (pe_op op_fdivW (pe_dget hu (pv 0) pe_str (fun _ _ => rfl)) (pv 1)) rfl)
  (pss_one (ps_ret (pv 2)))))
  pss_nil)
  (pss_cons (ps_set (i := 3) sc__law_draw.nd rfl (.inl rfl) (pe_dget hu (pv 0) pe_str (fun _ _ => rfl)))
  (pss_cons (ps_dput hu (pv 0) pe_str (pe_op op_add (pv 3) pe_int) rfl)
  (pss_cons (ps_set (i := 4) sc__law_draw.nd rfl (.inl rfl) (pe_op op_add (pe_op op_mul pe_int (pv 3)) pe_int))
  (C8.pss_cut (ps_if (pt_cmpR (op_neD hr.units) (pe_dget hu (pv 0) pe_str (fun _ _ => rfl)) (pe_lst pa_nil) (nomark _))
  (pss_one (ps_set (i := 4) sc__law_draw.nd rfl (.inl rfl) (pe_ix ix_list (pe_dget hu (pv 0) pe_str (fun _ _ => rfl)) (pe_op op_modN (pe_callTy call_int1 (by rfl) T.z_int (by decide +kernel) (pa_cons (pv 3) pa_nil)) (pe_callB call_len_seq (by rfl) T.z_len PySem.boot_len (pa_cons (pe_dget hu (pv 0) pe_str (fun _ _ => rfl)) pa_nil))) (fun _ _ => rfl))))
  pss_nil)
  (C8.pss_cut (ps_if (PW.pt (pw_and (pt_cmpR op_lt (pv 3) (pe_callB call_len_seq (by rfl) T.z_len PySem.boot_len (pa_cons (pe_dget hu (pv 0) pe_str (fun _ _ => rfl)) pa_nil)) (nomark _)) (pw_and1 (pt_cmpR op_ge (pv 4) (pe_op op_pow pe_int pe_int) (nomark _)))))
  (pss_cons (ps_dput hu (pv 0) pe_str (pe_op op_fdivW (pe_op op_sub (pv 4) (pe_op op_pow pe_int pe_int)) (pv 1)) rfl)
  (pss_one (ps_ret (pe_op op_modN (pe_callTy call_int1 (by rfl) T.z_int (by decide +kernel) (pa_cons (pe_op op_sub (pv 4) (pe_op op_pow pe_int pe_int)) pa_nil)) (pv 1)))))
  pss_nil)
  (pss_cons (ps_set (i := 5) sc__law_draw.nd rfl (.inl rfl) (pe_op op_add (pe_op op_add (pe_op op_add (pe_op op_mul (pe_op op_modN (pe_callTy call_int1 (by rfl) T.z_int (by decide +kernel) (pa_cons (pv 4) pa_nil)) pe_int) pe_int) (pe_op op_mul (pe_op op_mul pe_int (pv 3)) (pv 3))) (pe_op op_mul pe_int (pv 3))) pe_int))
  (pss_cons (ps_set (i := 5) sc__law_draw.nd rfl (.inl rfl) (pe_op op_modN (pe_callTy call_int1 (by rfl) T.z_int (by decide +kernel) (pa_cons (pv 5) pa_nil)) pe_int))
  (pss_cons (ps_set (i := 5) sc__law_draw.nd rfl (.inl rfl) (pe_op op_modN (pe_callTy call_int1 (by rfl) T.z_int (by decide +kernel) (pa_cons (pe_op op_mul (pv 5) (pe_op op_add (pv 5) pe_int)) pa_nil)) pe_int))
  (pss_one (ps_ret (pe_op op_modN (pe_callTy call_int1 (by rfl) T.z_int (by decide +kernel) (pa_cons (pe_op op_fdivN (pe_op op_modN (pe_callTy call_int1 (by rfl) T.z_int (by decide +kernel) (pa_cons (pe_op op_mul (pv 5) (pv 5)) pa_nil)) pe_int) pe_int) pa_nil)) (pv 1))))))))))))), ?_⟩
    -- if pen['left'] >= many
    refine ⟨.ref d, rfl, d, .int l, rfl, pen_L hd, .int m, rfl, l, m, rfl, rfl, _, rfl, ite2 (fun e => ?_) (fun e => ?_)⟩
    · -- digit = int(pen['left']) % many; pen['left'] = pen['left'] // many; return digit
      refine ⟨.ref d, rfl, d, .int l, rfl, pen_L hd, .inl ⟨l, rfl, .int m, rfl, l, m, rfl, rfl, hmne, ?_⟩⟩
      refine ⟨.ref d, rfl, d, .int l, rfl, pen_L hd, .int m, rfl, l, m, rfl, rfl, hdiv l, .ref d, rfl, d, _, rfl, pen_setL hd, ?_⟩
      exact ⟨_, rfl, q _ _ (f0 l) (f1 l) ⟨ns, t, _, ⟨upd_same, by rw [upd_ne (ne_of hc hd (by intro z; cases z))]; exact hc, hlen, t0⟩, by omega⟩ but_upd⟩
    · -- at = pen['at']; pen['at'] = at + 1; cell = 41 * at + 13
      refine ⟨.ref d, rfl, d, .int t, rfl, pen_A hd, ?_⟩
      refine ⟨.int t, rfl, t, 1, rfl, rfl, .ref d, rfl, d, _, rfl, pen_setA hd, ?_⟩
      refine ⟨.int t, rfl, 41, t, rfl, rfl, .inl ⟨by decide, by decide⟩, 41 * t, 13, rfl, rfl, ?_⟩
      have hd1 : (upd H d (penD c (t + 1) l)) d = some (penD c (t + 1) l) := upd_same
      have hc1 : (upd H d (penD c (t + 1) l)) c = some (.lst (ns.map V.int)) := by
        rw [upd_ne (ne_of hc hd (by intro z; cases z))]
        exact hc
      have b1 : But d H (upd H d (penD c (t + 1) l)) := but_upd
      generalize upd H d (penD c (t + 1) l) = H1 at hd1 hc1 b1 ⊢
      -- if pen['cells'] != []: cell = pen['cells'][int(at) % len(pen['cells'])]
      refine ⟨fun σ' H' => ∃ cell : Int, σ' = [some (.ref d), some (.int m), none, some (.int t), some (.int cell), none] ∧ H' d = some (penD c (t + 1) l) ∧ H' c = some (.lst (ns.map V.int)) ∧ But d H H', ?_, fun σ'' H'' hM => ?_⟩
      · refine ⟨.ref d, rfl, d, .ref c, rfl, pen_C hd1, Nat.zero_le _, fun p hp => ?_⟩
        have s2 : Same H1 (upd H1 p (.lst [])) := same_upd hp
        have hp2 : (upd H1 p (.lst [])) p = some (.lst []) := upd_same
        have hd2 := s2 _ _ hd1
        have hc2 := s2 _ _ hc1
        have b2 : But d H (upd H1 p (.lst [])) := b1.trans (but_same s2)
        generalize upd H1 p (.lst []) = H2 at hd2 hc2 hp2 b2 ⊢
        refine ⟨_, _, dp_ints (SqL.at hc2), dp_ints (ns := []) (SqL.at hp2), shaped_ints, shaped_ints, _, rfl, ?_⟩
        rw [eqv_ints]
        refine ite2 (fun e => ?_) (fun e => ?_)
        · have hns : ns ≠ [] := by
            intro z
            subst z
            simp at e
          have hpos : 0 < ns.length := List.length_pos_iff.mpr hns
          have g0 : (0 : Int) ≤ Int.fmod t (ns.length : Int) := Int.fmod_nonneg_of_pos _ (by omega)
          have g1 : Int.fmod t (ns.length : Int) < (ns.length : Int) := Int.fmod_lt_of_pos _ (by omega)
          refine ⟨.ref d, rfl, d, .ref c, rfl, pen_C hd2, .int t, rfl, .inl ⟨t, rfl, .ref d, rfl, d, .ref c, rfl, pen_C hd2, c, _, rfl, .inl (SqL.at hc2), t, _, rfl, rfl, ?_, c, _, _, .int (ns[(Int.fmod t (ns.length : Int)).toNat]'(by omega)), rfl, rfl, SqL.at hc2, ?_, ?_⟩⟩
          · rw [List.length_map]
            omega
          · rw [List.length_map]
            exact atI_ints g0 (by omega)
          · exact ⟨_, rfl, hd2, hc2, b2⟩
        · exact ⟨_, rfl, hd2, hc2, b2⟩
      · obtain ⟨cell, rfl, hd3, hc3, b3⟩ := hM
        have hlen' : (ns.map V.int).length ≤ 63 := by
          rw [List.length_map]
          exact hlen
        -- if at < len(pen['cells']) and cell >= 10 ** 18
        refine ⟨fun σ' H' => σ' = [some (.ref d), some (.int m), none, some (.int t), some (.int cell), none] ∧ H' = H'', ?_, fun σ' H' hM => ?_⟩
        · refine ⟨.int t, rfl, .ref d, rfl, d, .ref c, rfl, pen_C hd3, c, _, rfl, .inl (SqL.at hc3), t, _, rfl, rfl, _, rfl, ite2 (fun e1 => ?_) (fun e1 => iteF ⟨rfl, rfl⟩)⟩
          refine ⟨.int cell, rfl, 10, 18, rfl, rfl, ⟨by decide, by decide, by decide⟩, cell, _, rfl, rfl, _, rfl, ite2 (fun e2 => ?_) (fun e2 => ⟨rfl, rfl⟩)⟩
          refine ⟨.int cell, rfl, 10, 18, rfl, rfl, ⟨by decide, by decide, by decide⟩, cell, _, rfl, rfl, .int m, rfl, _, m, rfl, rfl, hdiv _, .ref d, rfl, d, _, rfl, pen_setL hd3, ?_⟩
          refine ⟨.int cell, rfl, 10, 18, rfl, rfl, ⟨by decide, by decide, by decide⟩, cell, _, rfl, rfl, .inl ⟨_, rfl, .int m, rfl, _, m, rfl, rfl, hmne, ?_⟩⟩
          exact q _ _ (f0 _) (f1 _) ⟨ns, t + 1, _, ⟨upd_same, by rw [upd_ne (ne_of hc3 hd3 (by intro z; cases z))]; exact hc3, hlen, by omega⟩, by omega⟩ (b3.trans but_upd)
        · obtain ⟨rfl, rfl⟩ := hM
          have g : ∀ x y : Int, 0 < y → 0 ≤ Int.fmod x y ∧ Int.fmod x y < y := fun x y hy => ⟨Int.fmod_nonneg_of_pos x hy, Int.fmod_lt_of_pos x hy⟩
          have g1 := g cell 2147483629 (by decide)
          have z1 : (2147483629 : Int) ≠ 0 := by decide
          have z2 : (2147483647 : Int) ≠ 0 := by decide
          have z3 : (2147483587 : Int) ≠ 0 := by decide
          have z4 : (2147483563 : Int) ≠ 0 := by decide
          have y1 : -(2 ^ 64) < Int.fmod cell 2147483629 ∧ Int.fmod cell 2147483629 < 2 ^ 64 := by omega
          have y2 : -(2 ^ 64) < t ∧ t < 2 ^ 64 := by omega
          refine ⟨.int cell, rfl, .inl ⟨cell, rfl, cell, 2147483629, rfl, rfl, z1, _, 48271, rfl, rfl, .inl y1, .int t, rfl, 69621, t, rfl, rfl, .inr y2, .int t, rfl, _, t, rfl, rfl, .inr y2, _, _, rfl, rfl, .int t, rfl, 59, t, rfl, rfl, .inr y2, _, _, rfl, rfl, _, 11, rfl, rfl, ?_⟩⟩
          have g2 := g (Int.fmod cell 2147483629 * 48271 + 69621 * t * t + 59 * t + 11) 2147483647 (by decide)
          refine ⟨_, rfl, .inl ⟨_, rfl, _, 2147483647, rfl, rfl, z2, ?_⟩⟩
          have y3 : -(2 ^ 64) < Int.fmod (Int.fmod cell 2147483629 * 48271 + 69621 * t * t + 59 * t + 11) 2147483647 ∧ Int.fmod (Int.fmod cell 2147483629 * 48271 + 69621 * t * t + 59 * t + 11) 2147483647 < 2 ^ 64 := by omega
          refine ⟨_, rfl, _, rfl, _, 40014, rfl, rfl, _, _, rfl, rfl, .inl y3, .inl ⟨_, rfl, _, 2147483587, rfl, rfl, z3, ?_⟩⟩
          have g3 := fun x => g x 2147483587 (by decide)
          have y4 : ∀ x, -(2 ^ 64) < Int.fmod x 2147483587 ∧ Int.fmod x 2147483587 < 2 ^ 64 := fun x => by
            have := g3 x
            omega
          refine ⟨_, rfl, _, rfl, _, _, rfl, rfl, .inl (y4 _), .inl ⟨_, rfl, _, 2147483563, rfl, rfl, z4, _, 64, rfl, rfl, ⟨by decide, by decide⟩, .inl ⟨_, rfl, .int m, rfl, _, m, rfl, rfl, hmne, ?_⟩⟩⟩
          exact q _ _ (f0 _) (f1 _) ⟨ns, t + 1, l, ⟨hd3, hc3, hlen, by omega⟩, by omega⟩ b3
end

section
variable {P : Program} {w : World} {K : PySem.W.Frag} {mg : Str → Option Value} {base : Heap} {a : Ad}
/-- a pick: some item of the list -/
def spPick (K : PySem.W.Frag) : Sp := fun vs H Q _ => ∃ (d c s : Addr) (n : Nat) (xs : List V), vs = [.ref d, .ref s] ∧ Pen H d c n ∧ n < 2 ^ 40 ∧ SqL K H s xs ∧ 0 < xs.length ∧ xs.length ≤ 100000 ∧
  ∀ v H', v ∈ xs → Pen H' d c (n + 1) → But d H H' → Q v H'
theorem ok__law_pick (T : Tx w K mg a) : FnOk P w K mg base CX0 2 a.f__law_pick a.d__law_pick ["pen", "some"] (spPick K) := by
  refine T.F__law_pick.ok sc__law_pick (fun vs H Q E h => ?_) (fun cdv A outer s H vs Q E hr h => ?_)
  · obtain ⟨d, c, s, n, xs, rfl, _⟩ := h
    rfl
  · obtain ⟨d, c, s, n, xs, rfl, hp, hn, hs, h0, h1, q⟩ := h
    obtain ⟨kvs, hd⟩ := hp.dict
    refine ⟨_, 
(pss_one (ps_ret (pe_ix ix_list (pv 1) (pe_call (ok__law_draw T) hr (by rfl) T.m__law_draw T.F__law_draw.kp T.b__law_draw .nil pass0 (pa_cons (pv 0) (pa_cons (pe_callB call_len_seq (by rfl) T.z_len PySem.boot_len (pa_cons (pv 1) pa_nil)) pa_nil))) (fun _ _ => rfl)))), ?_⟩
    refine ⟨.ref s, rfl, .ref d, rfl, .ref s, rfl, s, _, rfl, .inl hs, d, c, n, _, rfl, hp, hn, by omega, ?_, fun v H' v0 v1 hp' hb => ?_⟩
    · have : ((100000 : Nat) : Int) < 2 ^ 200 := by decide
      omega
    · refine ⟨s, xs, v, xs[v.toNat]'(by omega), rfl, rfl, hb.seq hd hs, ?_, q _ _ (List.getElem_mem _) hp' hb⟩
      have e : (v.toNat : Int) = v := by omega
      have z : atI xs (v.toNat : Int) = some (xs[v.toNat]'(by omega)) := atI_nat (List.getElem?_eq_getElem (by omega))
      rw [e] at z
      exact z
/-- the same items in another order, as a new list -/
def spShuf (K : PySem.W.Frag) : Sp := fun vs H Q _ => ∃ (d c s : Addr) (n : Nat) (xs : List V), vs = [.ref d, .ref s] ∧ Pen H d c n ∧ n + xs.length < 2 ^ 40 ∧ SqL K H s xs ∧ xs.length ≤ 100000 ∧
  ∀ p ys H', ys.Perm xs → H p = none → H' p = some (.lst ys) → Pen H' d c (n + xs.length) → But d H H' → Q (.ref p) H'
theorem perm_erase : ∀ (xs : List V) (k : Nat) (h : k < xs.length), (xs[k] :: xs.eraseIdx k).Perm xs
  | x :: r, 0, _ => List.Perm.refl _
  | x :: r, k + 1, h => by
    have h' : k < r.length := by
      simp only [List.length_cons] at h
      omega
    refine (List.Perm.swap x r[k] (r.eraseIdx k)).trans ?_
    exact (perm_erase r k h').cons x
theorem seqIx {v : Int} {n : Nat} (h0 : 0 ≤ v) (h1 : v < n) : seqIndex? v n = some v.toNat := by
  unfold seqIndex?
  have e : ¬ v < 0 := by omega
  simp only [e, if_false]
  simp [h0, h1]
theorem ok__law_shuffled (T : Tx w K mg a) : FnOk P w K mg base CX0 2 a.f__law_shuffled a.d__law_shuffled ["pen", "some"] (spShuf K) := by
  refine T.F__law_shuffled.ok sc__law_shuffled (fun vs H Q E h => ?_) (fun cdv A outer s H vs Q E hr h => ?_)
  · obtain ⟨d, c, s, n, xs, rfl, _⟩ := h
    rfl
  · obtain ⟨d, c, s, n, xs, rfl, hp, hn, hs, h1, q⟩ := h
    obtain ⟨kvs, hd⟩ := hp.dict
    refine ⟨_, 
(pss_cons (ps_par (i := 2) (j := 3) (by rfl) sc__law_shuffled.nd rfl rfl (by decide) rfl rfl (pa_cons (pe_callTy call_list_of (by rfl) T.z_list (by decide +kernel) (pa_cons (pv 1) pa_nil)) (pa_cons (pe_lst pa_nil) pa_nil)) (by rfl))
  (pss_cons (ps_for PassesOwn.never rfl (pi_range1 (by rfl) T.z_range (pa_cons (pe_callB call_len_seq (by rfl) T.z_len PySem.boot_len (pa_cons (pv 2) pa_nil)) pa_nil)) (pg_name (i := 4) sc__law_shuffled.nd rfl (.inl rfl))
  (pss_one (ps_expr (pe_bm PySem.F.plainAttrs_list PySem.F.slot_list_append PySem.F.type_list_append mt_append (pv 3) (pa_cons (pe_bm PySem.F.plainAttrs_list PySem.F.slot_list_pop PySem.F.type_list_pop mt_popAt (pv 2) (pa_cons (pe_call (ok__law_draw T) hr (by rfl) T.m__law_draw T.F__law_draw.kp T.b__law_draw .nil pass0 (pa_cons (pv 0) (pa_cons (pe_callB call_len_seq (by rfl) T.z_len PySem.boot_len (pa_cons (pv 2) pa_nil)) pa_nil))) pa_nil)) pa_nil)))))
  (pss_one (ps_ret (pv 3))))), ?_⟩
    -- left, found = list(some), []
    refine ⟨.ref s, rfl, s, xs, rfl, .inl hs, fun l hl => ⟨Nat.zero_le _, fun f hf => ⟨.ref l, .ref f, rfl, ?_⟩⟩⟩
    have s1 : Same H (upd H l (.lst xs)) := same_upd hl
    have s2 : Same (upd H l (.lst xs)) (upd (upd H l (.lst xs)) f (.lst [])) := same_upd hf
    have nfl : l ≠ f := ne_of_none upd_same hf
    have hl2 : (upd (upd H l (.lst xs)) f (.lst [])) l = some (.lst xs) := s2 _ _ upd_same
    have hf2 : (upd (upd H l (.lst xs)) f (.lst [])) f = some (.lst []) := upd_same
    have fnew : H f = none := s1.free hf
    have lnew : H l = none := hl
    obtain ⟨oc, hcc⟩ := hp.cells
    have hp2 := hp.same (s1.trans s2)
    have b2 : But d H (upd (upd H l (.lst xs)) f (.lst [])) := but_same (s1.trans s2)
    -- for k in range(len(left))
    refine ⟨.ref l, rfl, l, xs, rfl, .inl (SqL.at hl2), _, rfl, by omega, by omega, ?_⟩
    refine for_range (lo := 0) (n := xs.length) (fun i σ H3 => ∃ y4 ls fs, σ = [some (.ref d), some (.ref s), some (.ref l), some (.ref f), y4] ∧ H3 l = some (.lst ls) ∧ H3 f = some (.lst fs) ∧ (fs ++ ls).Perm xs ∧ fs.length = i ∧ Pen H3 d c (n + i) ∧ But d H H3) ?_ ?_ ?_
    · exact ⟨none, xs, [], rfl, hl2, hf2, List.Perm.refl _, rfl, hp2, b2⟩
    · rintro i σ H3 hi ⟨y4, ls, fs, rfl, hl3, hf3, pm, fl, hp3, b3⟩
      obtain ⟨kvs3, hd3⟩ := hp3.dict
      have hlen : fs.length + ls.length = xs.length := by
        have := pm.length_eq
        rw [List.length_append] at this
        exact this
      refine ⟨.ref f, rfl, .inl ⟨rfl, _, SqL.at hf3⟩, .ref l, rfl, .inl ⟨rfl, _, SqL.at hl3⟩, .ref d, rfl, .ref l, rfl, l, ls, rfl, .inl (SqL.at hl3), d, c, n + i, _, rfl, hp3, by omega, by omega, ?_, fun v H4 v0 v1 hp4 hb => ?_⟩
      · have : ((100000 : Nat) : Int) < 2 ^ 200 := by decide
        omega
      · have hl4 := hb.list hd3 hl3
        have hf4 := hb.list hd3 hf3
        have hv : v.toNat < ls.length := by omega
        refine ⟨l, ls, v, v.toNat, ls[v.toNat], rfl, rfl, hl4, by omega, by omega, seqIx v0 v1, List.getElem?_eq_getElem hv, f, fs, _, rfl, rfl, by rw [upd_ne nfl.symm]; exact hf4, szlt (by omega), ?_⟩
        refine ⟨_, ls.eraseIdx v.toNat, fs ++ [ls[v.toNat]], rfl, by rw [upd_ne nfl]; exact upd_same, upd_same, ?_, by rw [List.length_append, fl]; rfl, ?_, ?_⟩
        · refine List.Perm.trans ?_ pm
          rw [List.append_assoc]
          exact (perm_erase ls v.toNat hv).append_left fs
        · have hp5 := (hp4.mut (l := l) (o := .lst (ls.eraseIdx v.toNat)) (ne_of_none hd lnew) (ne_of_none hcc lnew)).mut (l := f) (o := .lst (fs ++ [ls[v.toNat]])) (ne_of_none hd fnew) (ne_of_none hcc fnew)
          exact hp5
        · exact ((b3.trans hb).mut lnew).mut fnew
    · rintro σ H3 ⟨y4, ls, fs, rfl, hl3, hf3, pm, fl, hp3, b3⟩
      have hlen := pm.length_eq
      rw [List.length_append] at hlen
      have e : ls = [] := List.eq_nil_of_length_eq_zero (by omega)
      subst e
      rw [List.append_nil] at pm
      exact ⟨_, rfl, q f fs H3 pm fnew hf3 hp3 b3⟩
end

/-! ### a list or a tuple: walked, enumerated -/
def SqA (K : PySem.W.Frag) (H : Hp) (p : Addr) (xs : List V) : Prop := SqL K H p xs ∨ SqT K H p xs
theorem SqA.len {K : PySem.W.Frag} {H : Hp} {p : Addr} {xs : List V} (h : SqA K H p xs) : SqL K H p xs ∨ SqT K H p xs := h
theorem Same.seqT {K : PySem.W.Frag} {H H' : Hp} {p : Addr} {xs : List V} (e : Same H H') (h : SqT K H p xs) : SqT K H' p xs := by
  rcases h with (h | ⟨o, h⟩) | h
  · exact .inl (.inl (e _ _ h))
  · exact .inl (.inr ⟨o, e _ _ h⟩)
  · exact .inr h
theorem SqA.same {K : PySem.W.Frag} {H H' : Hp} {p : Addr} {xs : List V} (h : SqA K H p xs) (e : Same H H') : SqA K H' p xs := h.elim (fun q => .inl (e.seq q)) fun q => .inr (Same.seqT e q)
def iSeq (K : PySem.W.Frag) (tl : TE) : TI := fun σ H R => tl σ H fun x H1 => ∃ p xs, x = .ref p ∧ ((SqL K H1 p xs ∧ R (Itl K p) H1) ∨ (SqT K H1 p xs ∧ R (Itt K p) H1))
theorem pi_seq {X : Cx} {tg l : Expr} {tl : TE} (hl : PE X l tl) : PI X tg l (iSeq X.K tl) := by
  constructor
  intro pins s σ H R I h
  apply thn (hl.run pins s σ H _ I h)
  rintro v s1 ⟨x, H1, I1, r1, p, xs, rfl, hq⟩
  cases r1
  rcases hq with ⟨hq, q⟩ | ⟨hq, q⟩
  · obtain ⟨its, _, z, _⟩ := I1.list hq
    exact wpAny_pyIter_list z.isList (pi_one (tk := s1.toks) I1 _ (turn_list p _) ⟨_, Heap.get?_push_size _ rfl, rfl, rfl⟩ q)
  · obtain ⟨its, _, z, _⟩ := I1.tuple hq
    exact wpAny_pyIter_tuple (show s1.heap.IsTuple p its.toArray from z) (pi_one (tk := s1.toks) I1 _ (turn_tuple p _) ⟨_, Heap.get?_push_size _ rfl, rfl, rfl⟩ q)
/-- enumerate over a tuple -/
def IteT (K : PySem.W.Frag) (p : Addr) : It where
  go := fun i H => ∃ (xs : List V) (x : V), SqT K H p xs ∧ xs[i]? = some x
  yld := fun i H v H' => ∃ q x, v = .ref q ∧ H q = none ∧ H' = upd H q (.tup [.int (i : Nat), x]) ∧ ∀ xs, SqT K H p xs → xs[i]? = some x
  stop := fun i H => ∃ xs : List V, SqT K H p xs ∧ xs.length = i
theorem turn_enumT {P : Program} {w : World} {K : PySem.W.Frag} {elts : List Expr} {kk : Nat} {tpos : Pos} (p e it : Addr) :
    Turn P w K (.Tuple elts kk tpos) (IteT K p) [e, it] e (fun i h => (∃ old, IsEnum h e it ((i : Nat) : Int) old) ∧ h.IsTupleIter it p i ∧ e ≠ it) where
  mem := List.mem_cons_self ..
  obj := by
    rintro i h ⟨⟨old, he⟩, ⟨o, ho, hc, hd⟩, _⟩ b hb
    simp only [List.mem_cons, List.not_mem_nil, or_false] at hb
    rcases hb with rfl | rfl
    · exact ⟨_, he, fun v q => nomatch q⟩
    · exact ⟨o, ho, fun v q => by rw [hd] at q; cases q⟩
  keep := by
    rintro i h h' ⟨⟨old, he⟩, hi, hne⟩ k
    exact ⟨⟨old, k e (by simp) _ he⟩, hi.at fun o q => k it (by simp) o q, hne⟩
  item := by
    rintro X rfl rfl rfl hc i pins s σ H E I hf ⟨⟨old, he⟩, hit, hne⟩ ⟨xs, x, hq, hx⟩
    obtain ⟨its, rv, z, hz⟩ := I.tuple hq
    obtain ⟨u, hu, ru⟩ := rv.get hx
    have hel : e < s.heap.objs.size := Heap.lt_size he
    have hil : it < s.heap.objs.size := by
      obtain ⟨_, q, _⟩ := hit
      exact Heap.lt_size q
    have hpe : e ≠ p := fun q => by
      obtain ⟨o, ho, hc1, _⟩ := (show s.heap.IsTuple p its.toArray from z)
      rw [← q] at ho
      rw [Option.some.inj (ho.symm.trans he)] at hc1
      injection hc1 with hc1
      exact absurd hc1 (by decide)
    have hpi : p ≠ it := fun q => by
      obtain ⟨o, ho, hc1, _⟩ := (show s.heap.IsTuple p its.toArray from z)
      obtain ⟨o2, ho2, hc2, _⟩ := hit
      rw [q] at ho
      rw [Option.some.inj (ho.symm.trans ho2), hc2] at hc1
      injection hc1 with hc1
      exact absurd hc1 (by decide)
    have D := Draws.tuple (prog := X.prog) (w := X.w) (A := X.A.in1) (I.ok.hd hc) it p hpi its.toArray
    have hlt : i < its.toArray.size := by
      have := (List.getElem?_eq_some_iff.mp hu).1
      simpa using this
    refine wpAny_pyNext_enum_itemD (i := i) D he ⟨hit, z⟩ hlt hne (by simp [hne, hpe]) ?_
    intro v h' tk hv ho hst' hT hsz hk
    have ev : v = u := by
      have h1 : its[i]? = some v := by simpa using hv
      exact Option.some.inj (h1.symm.trans hu)
    subst ev
    refine ⟨_, rfl, wpAny_letOwnedTupleGo_enum (s := { s with heap := h', toks := tk + 1 }) ho ?_⟩
    intro h'' he' sb
    have hT2 : h''.get? s.heap.objs.size = some { cls := .type "tuple", data := .seq #[.int i tk, v] } := (sb.2 _ (Nat.ne_of_gt hel)).trans hT
    have new : ObjOk X.prog X.w (upd H s.heap.objs.size (.tup [.int (i : Nat), x])) h'' s.heap.objs.size (.tup [.int (i : Nat), x]) :=
      ⟨(by decide : 2 ≤ sizeLine), [.int i tk, v], .cons ⟨_, rfl⟩ (.cons ru .nil), _, hT2, rfl, _, rfl⟩
    have I1 : Inv X pins σ (upd H s.heap.objs.size (.tup [.int (i : Nat), x])) { s with heap := h'', toks := tk + 1 } := by
      refine I.turnedNew (ch := [e, it]) (fun b ob hb q => ?_) hf (Nat.le_refl _) new
      have n1 : b ≠ e := fun y => hb (by simp [y])
      have n2 : b ≠ it := fun y => hb (by simp [y])
      exact (sb.2 b n1).trans (hk b ob n1 n2 q)
    refine ⟨.ref s.heap.objs.size, _, I1, rfl, ⟨_, x, rfl, I.hok.fresh (Nat.le_refl _), rfl, fun ys hy => ?_⟩, ⟨⟨v, ?_⟩, hst'.1.at fun o q => (sb.2 it hne.symm).trans q, hne⟩, fun b hb => ?_⟩
    · rw [I.tuple_inj hy hq]
      exact hx
    · rw [show ((i + 1 : Nat) : Int) = (i : Int) + 1 by omega]
      exact he'
    · have hb' : b < s.heap.objs.size := by
        simp only [List.mem_cons, List.not_mem_nil, or_false] at hb
        rcases hb with rfl | rfl
        · exact hel
        · exact hil
      rw [upd_ne (Nat.ne_of_lt hb')]
      exact (hf b hb).1
  done := by
    rintro X rfl rfl rfl hc i pins s σ H E I hf ⟨⟨old, he⟩, hit, hne⟩ ⟨xs, hq, hx⟩
    obtain ⟨its, rv, z, hz⟩ := I.tuple hq
    obtain ⟨f0, f1, f2, f3, f4, f5⟩ := hf it (by simp)
    have hl := rv.length
    have hpi : p ≠ it := fun q => by
      obtain ⟨o, ho, hc1, _⟩ := (show s.heap.IsTuple p its.toArray from z)
      obtain ⟨o2, ho2, hc2, _⟩ := hit
      rw [q] at ho
      rw [Option.some.inj (ho.symm.trans ho2), hc2] at hc1
      injection hc1 with hc1
      exact absurd hc1 (by decide)
    have D := Draws.tuple (prog := X.prog) (w := X.w) (A := X.A.in1) (I.ok.hd hc) it p hpi its.toArray
    have ei : i = its.toArray.size := by
      simp only [List.size_toArray]
      omega
    subst ei
    exact wpAny_pyNext_enum_endD D he ⟨hit, z⟩ fun h' eb => ⟨rfl, I.turned (t' := s.toks) (fun b o hb e => eb b o hb e) f0 f1 f3 f4 f5⟩
  self := by
    rintro A i s Q E ⟨⟨_, he⟩, _⟩ h
    exact wpAny_pyIter_enum he h
theorem meets_enum0 {v : Value} {o : Obj} {Hh : Heap → Prop} (B : Begins v o Hh) :
    Meets (Builtin.«enumerate.__new__» ⟨[.type "enumerate", v], []⟩) (fun _ R s => Hh s.heap ∧
      R (.ok (.ret (.ref (s.heap.push o).objs.size))) { s with heap := (s.heap.push o).push { cls := .type "enumerate", data := .fields #[.none, .bool false, .ref s.heap.objs.size, rawInt 0, .none, .none] } }) := by
  refine .of_wp ?_
  rintro prog w A R ⟨hp, g, d, tk, os⟩ ⟨h1, h⟩
  have hsb := sub_enumerate
  have q1 : ∀ {A' : Around} {E : Value → Shared → Prop} {Q : Value → Shared → Prop}, Q (.ref hp.objs.size) ⟨hp.push o, g, d, tk, os⟩ → wpAny (model prog w) A' (pyIter v) Q E ⟨hp, g, d, tk, os⟩ := by
    intro A' E Q q
    exact B.iter prog w _ _ ⟨hp, g, d, tk, os⟩ _ h1 q
  wp_walk using q1
  refine wpAny_stack_any fun st => wpAny_pure ?_
  split
  · rename_i c _ _ _ _ _
    cases (c == Value.type "enumerate") <;> (wp_walk using q1; exact ⟨_, rfl, h⟩)
  · wp_walk using q1
    exact ⟨_, rfl, h⟩
theorem call_enum0 {prog : Program} {w : World} {A : Around} {E : Value → Shared → Prop} {s : Shared} {v : Value} {o : Obj} {Hh : Heap → Prop} {Q : Value → Shared → Prop} (B : Begins v o Hh) (h1 : Hh s.heap)
    (h : ∀ h', IsEnum h' (s.heap.objs.size + 1) s.heap.objs.size 0 .none → h'.get? s.heap.objs.size = some o → h'.objs.size = s.heap.objs.size + 2 → (∀ b u, s.heap.get? b = some u → h'.get? b = some u) → Q (.ref (s.heap.objs.size + 1)) { s with heap := h' }) :
    wpAny (model prog w) A (call (.type "enumerate") [v]) Q E s := by
  have hz : (s.heap.push o).objs.size = s.heap.objs.size + 1 := by rw [Heap.size_push]
  refine callType_new F.called_enumerate (by decide) (F.typeCall_enumerate_1 _) (F.newCall_enumerate_1 _) (fun obj => F.args_object_init_2 obj _) F.entry_enumerate_new (meets_enum0 B) ⟨h1, ?_⟩
  have key : IsEnum ((s.heap.push o).push { cls := .type "enumerate", data := .fields #[.none, .bool false, .ref s.heap.objs.size, rawInt 0, .none, .none] }) (s.heap.push o).objs.size s.heap.objs.size 0 .none := Heap.get?_push_size _ rfl
  show _ ∧ _
  rw [hz] at key ⊢
  exact ⟨⟨_, key, rfl⟩, h _ key (Heap.get?_push_of_some _ (Heap.get?_push_size _ B.free)) (by rw [Heap.size_push, hz]) fun b u x => Heap.get?_push_of_some _ (Heap.get?_push_of_some _ x)⟩
def iEnS (K : PySem.W.Frag) (ta : TA) : TI := fun σ H R => ta σ H fun vs H1 => ∃ p xs, vs = [.ref p] ∧ ((SqL K H1 p xs ∧ R (Ite K p) H1) ∨ (SqT K H1 p xs ∧ R (IteT K p) H1))
theorem pi_enumS {X : Cx} {e : Expr} {ta : TA} {p pos tpos : Pos} {elts : List Expr} {kk : Nat} (hg : Gl X "enumerate") (hm : X.mg "enumerate" = none) (ha : PA X [e] ta) (hs : starEach [e] X.env = [(false, eval e X.env)] := by rfl) :
    PI X (.Tuple elts kk tpos) (.Call (.Name "enumerate" p) [e] [] pos) (iEnS X.K ta) := by
  constructor
  intro pins s σ H R I h
  refine Call_ (ld_blt I hg hm boot_enumerate (PyProof.Rows.callWith_type1 (thn (ha.run pos pins s σ H _ I h) ?_) hs rfl))
  rintro us s1 ⟨vs, H1, I1, r1, q0, xs, rfl, hq⟩
  cases r1 with
  | cons r rr =>
    cases rr
    cases r
    have fp : ∀ b ∈ [s1.heap.objs.size + 1, s1.heap.objs.size], FpOk X pins H1 b := by
      intro b hb
      simp only [List.mem_cons, List.not_mem_nil, or_false] at hb
      have hle : s1.heap.objs.size ≤ b := by
        rcases hb with rfl | rfl
        · exact Nat.le_add_right _ _
        · exact Nat.le_refl _
      exact I1.fpOk hle (I1.hok.fresh hle)
    rcases hq with ⟨hq, q⟩ | ⟨hq, q⟩
    · obtain ⟨its, _, z, _⟩ := I1.list hq
      refine call_enumerate_list z.isList ?_
      intro h' he hit hsz hk
      exact wpAny_pyIter_enum he ⟨s1.heap.objs.size + 1, [s1.heap.objs.size + 1, s1.heap.objs.size], _, _, H1, rfl, I1.kept (t' := s1.toks) hk, turn_enum q0 (s1.heap.objs.size + 1) s1.heap.objs.size, ⟨⟨.none, he⟩, hit, Nat.succ_ne_self _⟩, fp, q⟩
    · obtain ⟨its, _, z, _⟩ := I1.tuple hq
      refine call_enum0 (begins_tuple q0 its.toArray) z ?_
      intro h' he hit hsz hk
      exact wpAny_pyIter_enum he ⟨s1.heap.objs.size + 1, [s1.heap.objs.size + 1, s1.heap.objs.size], _, _, H1, rfl, I1.kept (t' := s1.toks) hk, turn_enumT q0 (s1.heap.objs.size + 1) s1.heap.objs.size, ⟨⟨.none, he⟩, ⟨_, hit, rfl, rfl⟩, Nat.succ_ne_self _⟩, fp, q⟩
theorem walk_enumT {K : PySem.W.Frag} {p : Addr} {xs : List V} : Walk (IteT K p) xs.length (fun H => SqT K H p xs) (YPair (fun i => some (.int (i : Nat))) (fun i => xs[i]?)) where
  goes := fun i H hi h => ⟨xs, xs[i], h, List.getElem?_eq_getElem hi⟩
  stops := fun H h => ⟨xs, h, rfl⟩
  yields := by
    rintro i H v H' hi h ⟨q, x, rfl, hn, rfl, hx⟩
    exact ⟨q, _, x, rfl, hn, rfl, rfl, hx xs h⟩

/-! ### questions about values -/
/-- whether a value is an int that is no bool, as isinstance tells it -/
inductive IsI (H : Hp) : V → Bool → Prop where
  | int (i : Int) : IsI H (.int i) true
  | non : IsI H .non false
  | bl (b : Bool) : IsI H (.bl b) false
  | str (z : Str) : IsI H (.str z) false
  | tup {p : Addr} {xs : List V} (e : H p = some (.tup xs)) : IsI H (.ref p) false
  | lst {p : Addr} {xs : List V} (e : H p = some (.lst xs)) : IsI H (.ref p) false
theorem IsI.same {H H' : Hp} {x : V} {b : Bool} (h : IsI H x b) (e : Same H H') : IsI H' x b := by
  cases h with
  | int i => exact .int i
  | non => exact .non
  | bl b => exact .bl b
  | str z => exact .str z
  | tup q => exact .tup (e _ _ q)
  | lst q => exact .lst (e _ _ q)
section
variable {P : Program} {w : World} {K : PySem.W.Frag} {mg : Str → Option Value} {base : Heap} {a : Ad}
def spIsInteger : Sp := fun vs H Q _ => ∃ x b, vs = [x] ∧ IsI H x b ∧ Q (.bl b) H
theorem ok_is_integer (T : Tx w K mg a) : FnOk P w K mg base CX0 1 a.f_is_integer a.d_is_integer ["value"] spIsInteger := by
  refine T.F_is_integer.ok sc_is_integer (fun vs H Q E h => ?_) (fun cdv A outer s H vs Q E hr h => ?_)
  · obtain ⟨x, b, rfl, _⟩ := h
    rfl
  · obtain ⟨x, b, rfl, hb, q⟩ := h
    refine ⟨_, 
(pss_one (ps_ret (pe_and (pe_callB call_isi (by rfl) T.z_isinstance (by decide +kernel) (pa_cons (pv 0) (pa_cons (pe_bltn (v := .ty "int") (by rfl) T.z_int (by decide +kernel) rfl) pa_nil))) (pe_one (pe_not (pe_callB call_isi (by rfl) T.z_isinstance (by decide +kernel) (pa_cons (pv 0) (pa_cons (pe_bltn (v := .ty "bool") (by rfl) T.z_bool (by decide +kernel) rfl) pa_nil)))))))), ?_⟩
    refine ⟨x, rfl, ?_⟩
    cases hb with
    | int i => exact ⟨_, _, _, _, true, rfl, .ty "int", .base (.int i), kit_ty (by decide +kernel), true, rfl, iteT ⟨_, rfl, _, _, _, _, false, rfl, .ty "bool", .base (.int i), kit_ty (by decide +kernel), _, rfl, q⟩⟩
    | non => exact ⟨_, _, _, _, false, rfl, .ty "int", .base .non, kit_ty (by decide +kernel), false, rfl, iteF q⟩
    | str z => exact ⟨_, _, _, _, false, rfl, .ty "int", .base (.str z), kit_ty (by decide +kernel), false, rfl, iteF q⟩
    | tup e => exact ⟨_, _, _, _, false, rfl, .ty "int", .base (.tup e), kit_ty (by decide +kernel), false, rfl, iteF q⟩
    | lst e => exact ⟨_, _, _, _, false, rfl, .ty "int", .base (.lst e), kit_ty (by decide +kernel), false, rfl, iteF q⟩
    | bl b => exact ⟨_, _, _, _, true, rfl, .ty "int", .base (.bl b), kit_ty (by decide +kernel), true, rfl, iteT ⟨_, rfl, _, _, _, _, true, rfl, .ty "bool", .base (.bl b), kit_ty (by decide +kernel), _, rfl, q⟩⟩
def frM (lo : Int) : V → Bool
  | .int i => decide (lo ≤ i)
  | _ => false
def spIsFrom : Sp := fun vs H Q _ => ∃ x b lo, vs = [x, .int lo] ∧ IsI H x b ∧ Q (.bl (frM lo x)) H
theorem ok_is_from (T : Tx w K mg a) : FnOk P w K mg base CX0 2 a.f_is_from a.d_is_from ["value", "low"] spIsFrom := by
  refine T.F_is_from.ok sc_is_from (fun vs H Q E h => ?_) (fun cdv A outer s H vs Q E hr h => ?_)
  · obtain ⟨x, b, lo, rfl, _⟩ := h
    rfl
  · obtain ⟨x, b, lo, rfl, hb, q⟩ := h
    refine ⟨_, 
(pss_one (ps_ret (pe_and (pe_call (ok_is_integer T) hr (by rfl) T.m_is_integer T.F_is_integer.kp T.b_is_integer .nil pass0 (pa_cons (pv 0) pa_nil)) (pe_one (pe_cmpR op_le (pv 1) (pv 0) (nomark _)))))), ?_⟩
    refine ⟨x, rfl, x, b, rfl, hb, b, rfl, ?_⟩
    cases hb with
    | int i => exact iteT ⟨_, rfl, _, rfl, lo, i, rfl, rfl, q⟩
    | non => exact iteF q
    | str z => exact iteF q
    | tup e => exact iteF q
    | lst e => exact iteF q
    | bl b => exact iteF q
end

/-! ### place words -/
def figs : List V := [.str "1", .str "2", .str "3", .str "4", .str "5", .str "6", .str "7", .str "8", .str "9"]
def fronts4 : List V := [.str "", .str "-", .str "half-", .str "half+"]
def figM (fr : List V) (z : Str) : Bool := inV (.str (cutS z none (some (-1)))) fr && inV (.str (cutS z (some (-1)) none)) figs
def ipM (z : Str) : Bool := inV (.str z) [.str "0", .str "half"] || figM fronts4 z
/-- the 38 place words, by their numbers -/
def wt : List Str := (["0", "1", "2", "3", "4", "5", "6", "7", "8", "9", "-1", "-2", "-3", "-4", "-5", "-6", "-7", "-8", "-9", "half", "half+1", "half+2", "half+3", "half+4", "half+5", "half+6", "half+7", "half+8", "half+9", "half-1", "half-2", "half-3", "half-4", "half-5", "half-6", "half-7", "half-8", "half-9"] : List String).map Str.ofString
/-- from where a place word counts (0: the front, 1: the end, 2: the middle), and how far -/
def poM (z : Str) : Option (Nat × Int) :=
  if z = "half" then some (2, 0)
  else if Txt.startswith z "half" then (PySem.intText? (Txt.removeprefix z "half")).map fun n => (2, n)
  else if Txt.startswith z "-" then (PySem.intText? z).map fun n => (1, n)
  else (PySem.intText? z).map fun n => (0, n)
def plB (b : Nat) (k : Int) : Int := if b = 2 then k.fdiv 2 else if b = 1 then k else 0
def plV (z : Str) (k : Int) : Int := match poM z with
  | some (b, n) => plB b k + n
  | none => 0
/-- what a law reckons of a place word -/
def loM (z : Str) : Option (Nat × Int) :=
  if cutS z none (some 4) = "half" then (if z = "half" then some (2, 0) else (PySem.intText? (cutS z (some 4) none)).map fun n => (2, n))
  else if cutS z none (some 1) = "-" then (PySem.intText? z).map fun n => (1, n)
  else (PySem.intText? z).map fun n => (0, n)
def chkW (z : Str) : Bool := (poM z).isSome && decide (z.length ≤ 100) && decide ((Txt.removeprefix z "half").length ≤ 100) && ipM z && decide (loM z = poM z) && decide ((cutS z (some 4) none).length ≤ 100) && decide (32 ∉ z.cps.toList) && PyData.strOk z
theorem wt_all : wt.all chkW = true := by decide +kernel
theorem wt_chk {z : Str} (h : z ∈ wt) : (poM z).isSome = true ∧ z.length ≤ 100 ∧ (Txt.removeprefix z "half").length ≤ 100 ∧ ipM z = true ∧ loM z = poM z ∧ (cutS z (some 4) none).length ≤ 100 ∧ 32 ∉ z.cps.toList ∧ PyData.strOk z = true := by
  have e := List.all_eq_true.mp wt_all z h
  simp only [chkW, Bool.and_eq_true, decide_eq_true_eq] at e
  obtain ⟨⟨⟨⟨⟨⟨⟨h1, h2⟩, h3⟩, h4⟩, h5⟩, h6⟩, h7⟩, h8⟩ := e
  exact ⟨h1, h2, h3, h4, h5, h6, h7, h8⟩
section
variable {P : Program} {w : World} {K : PySem.W.Frag} {mg : Str → Option Value} {base : Heap} {a : Ad}
def spFig (K : PySem.W.Frag) : Sp := fun vs H Q _ => ∃ p fr z, vs = [.ref p, .str z] ∧ SqT K H p fr ∧ fr.all flatV = true ∧ z.length ≤ sizeLine ∧ Q (.bl (figM fr z)) H
theorem ok_is_figure_behind (T : Tx w K mg a) : FnOk P w K mg base CX0 1 a.f_is_figure_behind a.d_is_figure_behind ["fronts", "text"] (spFig K) := by
  refine T.F_is_figure_behind.ok sc_is_figure_behind (fun vs H Q E h => ?_) (fun cdv A outer s H vs Q E hr h => ?_)
  · obtain ⟨p, fr, z, rfl, _⟩ := h
    rfl
  · obtain ⟨p, fr, z, rfl, hp, hf, hz, q⟩ := h
    refine ⟨_, 
(pss_one (ps_ret (pe_and (pe_cmpR op_in_seq (pe_slice sl_str (pv 1) po_none (po_some (pe_un un_neg pe_int))) (pv 0) (by rfl)) (pe_one (pe_cmpR op_in_seq (pe_slice sl_str (pv 1) (po_some (pe_un un_neg pe_int)) po_none) (pe_glob (v := .ref a.a_FIGURES) (by rfl) T.m_FIGURES rfl) (by rfl)))))), ?_⟩
    refine ⟨.str z, rfl, 1, rfl, -1, rfl, z, rfl, hz, .ref p, rfl, p, fr, rfl, .inr hp, rfl, hf, _, rfl, ?_⟩
    show if (inV (.str (cutS z none (some (-1)))) fr) = true then _ else _
    unfold figM at q
    by_cases h1 : inV (.str (cutS z none (some (-1)))) fr = true
    · rw [h1] at q ⊢
      exact ⟨.str z, rfl, 1, rfl, -1, rfl, z, rfl, hz, a.a_FIGURES, figs, rfl, .inr (T.q_FIGURES H), rfl, rfl, q⟩
    · rw [Bool.not_eq_true] at h1
      rw [h1] at q ⊢
      exact q
def spIsPlaceWord : Sp := fun vs H Q _ => ∃ z : Str, vs = [.str z] ∧ z.length ≤ sizeLine ∧ ∀ H', Same H H' → Q (.bl (ipM z)) H'
theorem ok_is_place_word (T : Tx w K mg a) : FnOk P w K mg base CX0 2 a.f_is_place_word a.d_is_place_word ["text"] spIsPlaceWord := by
  refine T.F_is_place_word.ok sc_is_place_word (fun vs H Q E h => ?_) (fun cdv A outer s H vs Q E hr h => ?_)
  · obtain ⟨z, rfl, _⟩ := h
    rfl
  · obtain ⟨z, rfl, hz, q⟩ := h
    refine ⟨_, 
(pss_one (ps_ret (pe_or (pe_cmpR op_in_seq (pv 0) (pe_tup (pa_cons pe_str (pa_cons pe_str pa_nil))) (by rfl)) (pe_one (pe_call (ok_is_figure_behind T) hr (by rfl) T.m_is_figure_behind T.F_is_figure_behind.kp T.b_is_figure_behind .nil pass0 (pa_cons (pe_glob (v := .ref a.a_PLACE_FRONTS) (by rfl) T.m_PLACE_FRONTS rfl) (pa_cons (pv 0) pa_nil))))))), ?_⟩
    refine ⟨.str z, rfl, (show 2 ≤ sizeLine by decide), fun p hp => ?_⟩
    have s1 : Same H (upd H p (.tup [.str "0", .str "half"])) := same_upd hp
    refine ⟨p, [.str "0", .str "half"], rfl, .inr (SqT.at upd_same), rfl, rfl, _, rfl, ?_⟩
    show if (inV (.str z) [.str "0", .str "half"]) = true then _ else _
    unfold ipM at q
    by_cases h1 : inV (.str z) [.str "0", .str "half"] = true
    · rw [h1] at q ⊢
      exact q _ s1
    · rw [Bool.not_eq_true] at h1
      rw [h1] at q ⊢
      exact ⟨.str z, rfl, a.a_PLACE_FRONTS, fronts4, z, rfl, T.q_PLACE_FRONTS _, rfl, hz, q _ s1⟩
def spPlaceOf : Sp := fun vs H Q _ => ∃ (z : Str) (k : Int), vs = [.str z, .int k] ∧ z ∈ wt ∧ Q (.int (plV z k)) H
theorem ok_place_of (T : Tx w K mg a) : FnOk P w K mg base CX0 1 a.f_place_of a.d_place_of ["word", "size"] spPlaceOf := by
  refine T.F_place_of.ok sc_place_of (fun vs H Q E h => ?_) (fun cdv A outer s H vs Q E hr h => ?_)
  · obtain ⟨z, k, rfl, _⟩ := h
    rfl
  · obtain ⟨z, k, rfl, hw, q⟩ := h
    obtain ⟨hp, hz, hrp, _⟩ := wt_chk hw
    refine ⟨_, 
(pss_cons (ps_if (pt_cmpR op_eq (pv 0) pe_str (nomark _))
  (pss_one (ps_ret (pe_op op_fdivN (pv 1) pe_int)))
  pss_nil)
  (pss_cons (ps_if (pt_val (pe_bm PySem.F.plainAttrs_str PySem.F.slot_str_startswith PySem.F.type_str_startswith mt_startswith (pv 0) (pa_cons pe_str pa_nil)))
  (pss_one (ps_ret (pe_op op_add (pe_op op_fdivN (pv 1) pe_int) (pe_callTy call_int_str (by rfl) T.z_int (by decide +kernel) (pa_cons (pe_bm PySem.F.plainAttrs_str PySem.F.slot_str_removeprefix PySem.F.type_str_removeprefix mt_removeprefix (pv 0) (pa_cons pe_str pa_nil)) pa_nil)))))
  pss_nil)
  (pss_cons (ps_if (pt_val (pe_bm PySem.F.plainAttrs_str PySem.F.slot_str_startswith PySem.F.type_str_startswith mt_startswith (pv 0) (pa_cons pe_str pa_nil)))
  (pss_one (ps_ret (pe_op op_add (pv 1) (pe_callTy call_int_str (by rfl) T.z_int (by decide +kernel) (pa_cons (pv 0) pa_nil)))))
  pss_nil)
  (pss_one (ps_ret (pe_callTy call_int_str (by rfl) T.z_int (by decide +kernel) (pa_cons (pv 0) pa_nil))))))), ?_⟩
    unfold plV at q
    unfold poM at q hp
    refine ⟨.str z, rfl, rfl, _, rfl, ?_⟩
    by_cases h1 : z = "half"
    · rw [if_pos h1] at q
      rw [decide_eq_true (show V.str z = V.str "half" by rw [h1])]
      refine ⟨.int k, rfl, k, 2, rfl, rfl, ⟨by decide, by decide⟩, ?_⟩
      simpa [plB] using q
    · rw [if_neg h1] at q hp
      rw [decide_eq_false (show ¬ V.str z = V.str "half" from fun e => h1 (V.str.inj e))]
      refine ⟨.str z, rfl, rfl, z, "half", rfl, rfl, _, rfl, ?_⟩
      by_cases h2 : Txt.startswith z "half" = true
      · rw [if_pos h2] at q hp
        rw [h2]
        cases hn : PySem.intText? (Txt.removeprefix z "half") with
        | none =>
          rw [hn] at hp
          cases hp
        | some n =>
          rw [hn] at q
          refine ⟨.int k, rfl, k, 2, rfl, rfl, ⟨by decide, by decide⟩, .str z, rfl, rfl, z, "half", rfl, rfl, sz (by omega), _, n, rfl, hn, by omega, _, n, rfl, rfl, q⟩
      · rw [if_neg h2] at q hp
        rw [Bool.not_eq_true] at h2
        rw [h2]
        refine ⟨.str z, rfl, rfl, z, "-", rfl, rfl, _, rfl, ?_⟩
        cases hn : PySem.intText? z with
        | none =>
          rw [hn] at hp
          simp at hp
        | some n =>
          rw [hn] at q
          by_cases h3 : Txt.startswith z "-" = true
          · rw [if_pos h3] at q
            rw [h3]
            exact ⟨.int k, rfl, .str z, rfl, z, n, rfl, hn, by omega, k, n, rfl, rfl, q⟩
          · rw [if_neg h3] at q
            rw [Bool.not_eq_true] at h3
            rw [h3]
            refine ⟨.str z, rfl, z, n, rfl, hn, by omega, ?_⟩
            simpa [plB] using q
def spLawValue : Sp := fun vs H Q _ => ∃ (z : Str) (k : Int), vs = [.str z, .int k] ∧ z ∈ wt ∧ Q (.int (plV z k)) H
theorem ok__law_value (T : Tx w K mg a) : FnOk P w K mg base CX0 1 a.f__law_value a.d__law_value ["word", "k"] spLawValue := by
  refine T.F__law_value.ok sc__law_value (fun vs H Q E h => ?_) (fun cdv A outer s H vs Q E hr h => ?_)
  · obtain ⟨z, k, rfl, _⟩ := h
    rfl
  · obtain ⟨z, k, rfl, hw, q⟩ := h
    obtain ⟨hp, hz, hrp, _, hlo, hc, _⟩ := wt_chk hw
    refine ⟨_, 
(pss_cons (ps_if (pt_cmpR op_eq (pe_slice sl_str (pv 0) po_none (po_some pe_int)) pe_str (nomark _))
  (pss_one (ps_ret (pe_op op_add (pe_op op_fdivN (pv 1) pe_int) (pe_ifExp (pt_cmpR op_eq (pv 0) pe_str (nomark _)) pe_int (pe_callTy call_int_str (by rfl) T.z_int (by decide +kernel) (pa_cons (pe_slice sl_str (pv 0) (po_some pe_int) po_none) pa_nil))))))
  pss_nil)
  (pss_one (ps_ret (pe_ifExp (pt_cmpR op_ne (pe_slice sl_str (pv 0) po_none (po_some pe_int)) pe_str (nomark _)) (pe_callTy call_int_str (by rfl) T.z_int (by decide +kernel) (pa_cons (pv 0) pa_nil)) (pe_op op_add (pv 1) (pe_callTy call_int_str (by rfl) T.z_int (by decide +kernel) (pa_cons (pv 0) pa_nil))))))), ?_⟩
    unfold plV at q
    rw [← hlo] at q hp
    unfold loM at q hp
    have hz' : z.length ≤ sizeLine := sz (by omega)
    refine ⟨.str z, rfl, 4, rfl, z, rfl, hz', rfl, _, rfl, ?_⟩
    by_cases h1 : cutS z none (some 4) = "half"
    · rw [if_pos h1] at q hp
      rw [decide_eq_true (show V.str (cutS z none (some 4)) = V.str "half" by rw [h1])]
      refine ⟨.int k, rfl, k, 2, rfl, rfl, ⟨by decide, by decide⟩, .str z, rfl, rfl, _, rfl, ?_⟩
      by_cases h2 : z = "half"
      · rw [if_pos h2] at q
        rw [decide_eq_true (show V.str z = V.str "half" by rw [h2])]
        exact ⟨_, 0, rfl, rfl, by simpa [plB] using q⟩
      · rw [if_neg h2] at q hp
        rw [decide_eq_false (show ¬ V.str z = V.str "half" from fun e => h2 (V.str.inj e))]
        cases hn : PySem.intText? (cutS z (some 4) none) with
        | none =>
          rw [hn] at hp
          cases hp
        | some n =>
          rw [hn] at q
          exact ⟨.str z, rfl, 4, rfl, z, rfl, hz', _, n, rfl, hn, by omega, _, n, rfl, rfl, q⟩
    · rw [if_neg h1] at q hp
      rw [decide_eq_false (show ¬ V.str (cutS z none (some 4)) = V.str "half" from fun e => h1 (V.str.inj e))]
      cases hn : PySem.intText? z with
      | none =>
        rw [hn] at hp
        simp at hp
      | some n =>
        rw [hn] at q
        refine ⟨.str z, rfl, 1, rfl, z, rfl, hz', rfl, _, rfl, ?_⟩
        by_cases h2 : cutS z none (some 1) = "-"
        · rw [if_pos h2] at q
          rw [decide_eq_true (show V.str (cutS z none (some 1)) = V.str "-" by rw [h2])]
          exact ⟨.int k, rfl, .str z, rfl, z, n, rfl, hn, by omega, k, n, rfl, rfl, q⟩
        · rw [if_neg h2] at q
          rw [decide_eq_false (show ¬ V.str (cutS z none (some 1)) = V.str "-" from fun e => h2 (V.str.inj e))]
          refine ⟨.str z, rfl, z, n, rfl, hn, by omega, ?_⟩
          simpa [plB] using q
def spLawPlaceWord : Sp := fun vs H Q _ => ∃ (d c : Addr) (n : Nat), vs = [.ref d] ∧ Pen H d c n ∧ n < 2 ^ 40 ∧ ∀ z H', z ∈ wt → Pen H' d c (n + 1) → But d H H' → Q (.str z) H'
def lwM (k : Int) : Str := if k < 10 then toString k else if k < 19 then Str.append "-" (toString (k - 9)) else if k = 19 then "half" else if k < 29 then Str.append "half+" (toString (k - 19)) else Str.append "half-" (toString (k - 28))
theorem lw_wt : ∀ k : Fin 38, lwM ((k.val : Nat) : Int) ∈ wt := by decide +kernel
theorem num_len : ∀ i : Fin 40, (Str.ofString (toString ((i.val : Nat) : Int))).length ≤ 20 := by decide +kernel
theorem lg (i : Int) (h0 : 0 ≤ i) (h1 : i < 40) : i.natAbs.log2 < 1920 := by
  have : i.natAbs < 2 ^ 6 := by omega
  exact Nat.lt_of_lt_of_le (PySem.Flt.log2_lt_of (by decide) this) (by decide)
theorem ln (x : Str) (i : Int) (hx : x.length ≤ 20) (h0 : 0 ≤ i) (h1 : i < 40) : x.length + (Str.ofString (toString i)).length ≤ 100000 := by
  have e := num_len ⟨i.toNat, by omega⟩
  have e2 : ((i.toNat : Nat) : Int) = i := by omega
  rw [show (((⟨i.toNat, by omega⟩ : Fin 40).val : Nat) : Int) = i from e2] at e
  omega
theorem ok__law_place_word (T : Tx w K mg a) : FnOk P w K mg base CX0 2 a.f__law_place_word a.d__law_place_word ["pen"] spLawPlaceWord := by
  refine T.F__law_place_word.ok sc__law_place_word (fun vs H Q E h => ?_) (fun cdv A outer s H vs Q E hr h => ?_)
  · obtain ⟨d, c, n, rfl, _⟩ := h
    rfl
  · obtain ⟨d, c, n, rfl, hp, hn, q⟩ := h
    refine ⟨_, 
(pss_cons (ps_set (i := 1) sc__law_place_word.nd rfl (.inl rfl) (pe_call (ok__law_draw T) hr (by rfl) T.m__law_draw T.F__law_draw.kp T.b__law_draw .nil pass0 (pa_cons (pv 0) (pa_cons pe_int pa_nil))))
  (pss_cons (ps_if (pt_cmpR op_lt (pv 1) pe_int (nomark _))
  (pss_one (ps_ret (pe_callTy call_str_int (by rfl) T.z_str (by decide +kernel) (pa_cons (pv 1) pa_nil))))
  pss_nil)
  (pss_cons (ps_if (pt_cmpR op_lt (pv 1) pe_int (nomark _))
  (pss_one (ps_ret (pe_op op_add_str pe_str (pe_callTy call_str_int (by rfl) T.z_str (by decide +kernel) (pa_cons (pe_op op_sub (pv 1) pe_int) pa_nil)))))
  pss_nil)
  (pss_cons (ps_if (pt_cmpR op_eq (pv 1) pe_int (nomark _))
  (pss_one (ps_ret pe_str))
  pss_nil)
  (pss_one (ps_ret (pe_ifExp (pt_cmpR op_lt (pv 1) pe_int (nomark _)) (pe_op op_add_str pe_str (pe_callTy call_str_int (by rfl) T.z_str (by decide +kernel) (pa_cons (pe_op op_sub (pv 1) pe_int) pa_nil))) (pe_op op_add_str pe_str (pe_callTy call_str_int (by rfl) T.z_str (by decide +kernel) (pa_cons (pe_op op_sub (pv 1) pe_int) pa_nil)))))))))), ?_⟩
    refine ⟨.ref d, rfl, d, c, n, 38, rfl, hp, hn, by decide, by decide, fun k H1 k0 k1 hp1 hb => ?_⟩
    have q1 := fun z hz => q z H1 hz hp1 hb
    have hw : lwM k ∈ wt := by
      have e := lw_wt ⟨k.toNat, by omega⟩
      have e2 : ((k.toNat : Nat) : Int) = k := by omega
      rw [show (((⟨k.toNat, by omega⟩ : Fin 38).val : Nat) : Int) = k from e2] at e
      exact e
    have hq := q1 _ hw
    unfold lwM at hq
    refine ⟨.int k, rfl, k, 10, rfl, rfl, _, rfl, ite2 (fun e1 => ?_) (fun e1 => ?_)⟩
    · rw [if_pos (of_decide_eq_true e1)] at hq
      exact ⟨.int k, rfl, k, rfl, lg k k0 (by omega), hq⟩
    have e1' : ¬ k < 10 := fun z => e1 (decide_eq_true z)
    rw [if_neg e1'] at hq
    refine ⟨.int k, rfl, k, 19, rfl, rfl, _, rfl, ite2 (fun e2 => ?_) (fun e2 => ?_)⟩
    · rw [if_pos (of_decide_eq_true e2)] at hq
      have := of_decide_eq_true e2
      exact ⟨.int k, rfl, k, 9, rfl, rfl, k - 9, rfl, lg _ (by omega) (by omega), _, _, rfl, rfl, sz (ln _ _ (by decide) (by omega) (by omega)), hq⟩
    have e2' : ¬ k < 19 := fun z => e2 (decide_eq_true z)
    rw [if_neg e2'] at hq
    refine ⟨.int k, rfl, rfl, _, rfl, ite2 (fun e3 => ?_) (fun e3 => ?_)⟩
    · rw [if_pos (V.int.inj (of_decide_eq_true e3))] at hq
      exact hq
    have e3' : ¬ k = 19 := fun z => e3 (decide_eq_true (by rw [z]))
    rw [if_neg e3'] at hq
    refine ⟨.int k, rfl, k, 29, rfl, rfl, _, rfl, ite2 (fun e4 => ?_) (fun e4 => ?_)⟩
    · rw [if_pos (of_decide_eq_true e4)] at hq
      have := of_decide_eq_true e4
      exact ⟨.int k, rfl, k, 19, rfl, rfl, k - 19, rfl, lg _ (by omega) (by omega), _, _, rfl, rfl, sz (ln _ _ (by decide) (by omega) (by omega)), hq⟩
    have e4' : ¬ k < 29 := fun z => e4 (decide_eq_true z)
    rw [if_neg e4'] at hq
    exact ⟨.int k, rfl, k, 28, rfl, rfl, k - 28, rfl, lg _ (by omega) (by omega), _, _, rfl, rfl, sz (ln _ _ (by decide) (by omega) (by omega)), hq⟩
end

section
variable {P : Program} {w : World} {K : PySem.W.Frag} {mg : Str → Option Value} {base : Heap} {a : Ad}
def spErrInit (C : Addr) (f : Str) : Sp := fun vs H Q _ => ∃ (x : Addr) (v : V), vs = [.ref x, v] ∧ H x = some (exo x C none) ∧ ∀ dx, H dx = none → dx ≠ x → Q .non (upd (upd H dx (exd dx [(f, v)])) x (exo x C (some dx)))
theorem ok_BadWord_init (T : Tx w K mg a) : FnOk P w K mg base CX0 1 a.f_BadWord_init a.d_BadWord_init ["self", "index"] (spErrInit a.C_BadWord "index") := by
  refine T.F_BadWord_init.ok sc_BadWord_init (fun vs H Q E h => ?_) (fun cdv A outer s H vs Q E hr h => ?_)
  · obtain ⟨x, v, rfl, _⟩ := h
    rfl
  · obtain ⟨x, v, rfl, hx, q⟩ := h
    refine ⟨_, 
(pss_one (ps_ost (pv 0) (pv 1))), ?_⟩
    exact ⟨v, rfl, .ref x, rfl, x, a.C_BadWord, rfl, T.ox_BadWord.o, T.ox_BadWord.no, .inl ⟨hx, fun dx n ne => q dx n ne⟩⟩
theorem ok_BadSize_init (T : Tx w K mg a) : FnOk P w K mg base CX0 1 a.f_BadSize_init a.d_BadSize_init ["self", "size"] (spErrInit a.C_BadSize "size") := by
  refine T.F_BadSize_init.ok sc_BadSize_init (fun vs H Q E h => ?_) (fun cdv A outer s H vs Q E hr h => ?_)
  · obtain ⟨x, v, rfl, _⟩ := h
    rfl
  · obtain ⟨x, v, rfl, hx, q⟩ := h
    refine ⟨_, 
(pss_one (ps_ost (pv 0) (pv 1))), ?_⟩
    exact ⟨v, rfl, .ref x, rfl, x, a.C_BadSize, rfl, T.ox_BadSize.o, T.ox_BadSize.no, .inl ⟨hx, fun dx n ne => q dx n ne⟩⟩
theorem made_same {H H1 : Hp} {x dx C : Addr} {f : Str} {v : V} (s : Same H H1) (hx : H1 x = none) (hd : H1 dx = none) : Same H (upd (del (upd (upd (upd H1 x (exo x C none)) dx (exd dx [(f, v)])) x (exo x C (some dx))) x) dx (.xd [(f, v)])) := fun b o e => by
  have e1 := s b o e
  have nx := ne_of_none e1 hx
  have nd := ne_of_none e1 hd
  rw [upd_ne nd, del_ne nx, upd_ne nx, upd_ne nd, upd_ne nx]
  exact e1
def spPlaceValue (CW CS : Addr) : Sp := fun vs H Q E => ∃ (z : Str) (y : V) (b : Bool), vs = [.str z, y] ∧ z.length ≤ sizeLine ∧ IsI H y b ∧
  ((z ∈ wt ∧ ∃ k : Int, y = .int k ∧ 1 ≤ k ∧ ∀ H', Same H H' → Q (.int (plV z k)) H') ∨
   (ipM z = false ∧ ∀ H' d, Same H H' → H' d = some (.xd [("index", .int 0)]) → E (.ref CW) (some d) H') ∨
   (z ∈ wt ∧ frM 1 y = false ∧ ∀ H' d, Same H H' → H' d = some (.xd [("size", y)]) → E (.ref CS) (some d) H'))
theorem err_end {H H1 : Hp} {C : Addr} {f : Str} {v : V} {E : XK} (s1 : Same H H1) (hE : ∀ H' d, Same H H' → H' d = some (.xd [(f, v)]) → E (.ref C) (some d) H') : ∀ x, H1 x = none →
    spErrInit C f [.ref x, v] (upd H1 x (exo x C none)) (fun u H2 => u = .non ∧ ∃ (d : Addr) (fs : List (Str × V)), H2 x = some (exo x C (some d)) ∧ H2 d = some (exd d fs) ∧ H1 d = none ∧ E (.ref C) (some d) (upd (del H2 x) d (.xd fs))) (fun _ _ _ => False) := by
  intro x hx
  refine ⟨x, v, rfl, upd_same, fun dx hd ne => ⟨rfl, dx, [(f, v)], upd_same, ?_, ?_, ?_⟩⟩
  · rw [upd_ne ne]
    exact upd_same
  · rw [upd_ne ne] at hd
    exact hd
  · have hd1 : H1 dx = none := by
      rw [upd_ne ne] at hd
      exact hd
    exact hE _ dx (made_same s1 hx hd1) upd_same
theorem ok_place_value (T : Tx w K mg a) : FnOk P w K mg base (L2.CX P w) 3 a.f_place_value a.d_place_value ["word", "size"] (spPlaceValue a.C_BadWord a.C_BadSize) := by
  refine T.F_place_value.okX sc_place_value (fun vs H Q E h => ?_) (fun cdv A outer s H vs Q E hr h => ?_)
  · obtain ⟨z, y, b, rfl, _⟩ := h
    rfl
  · obtain ⟨z, y, b, rfl, hz, hI, h⟩ := h
    refine ⟨_, 
(pss_cons (ps_if (pt_not (pt_val (pe_call (ok_is_place_word T) hr (by rfl) T.m_is_place_word T.F_is_place_word.kp T.b_is_place_word .nil pass0 (pa_cons (pv 0) pa_nil))))
  (pss_one (ps_raise rfl (takes_of rfl rfl rfl rfl) (pmk_oex T.ox_BadWord.o T.ox_BadWord.ini T.ox_BadWord.tin (ok_BadWord_init T) hr T.b_BadWord_init .nil pass0 (by rfl) T.c_BadWord (pa_cons pe_int pa_nil))))
  pss_nil)
  (pss_cons (ps_if (pt_not (pt_val (pe_call (ok_is_from T) hr (by rfl) T.m_is_from T.F_is_from.kp T.b_is_from .nil pass0 (pa_cons (pv 1) (pa_cons pe_int pa_nil)))))
  (pss_one (ps_raise rfl (takes_of rfl rfl rfl rfl) (pmk_oex T.ox_BadSize.o T.ox_BadSize.ini T.ox_BadSize.tin (ok_BadSize_init T) hr T.b_BadSize_init .nil pass0 (by rfl) T.c_BadSize (pa_cons (pv 1) pa_nil))))
  pss_nil)
  (pss_one (ps_ret (pe_call (ok_place_of T) (hr.mono (by decide)) (by rfl) T.m_place_of T.F_place_of.kp T.b_place_of .nil pass0 (pa_cons (pv 0) (pa_cons (pv 1) pa_nil))))))), ?_⟩
    refine ⟨.str z, rfl, z, rfl, hz, fun H1 s1 => ⟨_, rfl, ?_⟩⟩
    rcases h with ⟨hw, k, rfl, hk, q⟩ | ⟨hw, hE⟩ | ⟨hw, hy, hE⟩
    · rw [(wt_chk hw).2.2.2.1]
      refine ⟨.int k, rfl, .int k, true, 1, rfl, .int k, _, rfl, ?_⟩
      rw [show frM 1 (.int k) = true from decide_eq_true hk]
      exact ⟨.str z, rfl, .int k, rfl, z, k, rfl, hw, q _ s1⟩
    · rw [hw]
      exact ⟨(by decide : 1 ≤ 1000), err_end s1 hE⟩
    · rw [(wt_chk hw).2.2.2.1]
      refine ⟨y, rfl, y, b, 1, rfl, hI.same s1, _, rfl, ?_⟩
      rw [hy]
      exact ⟨y, rfl, (by decide : 1 ≤ 1000), err_end s1 hE⟩
def spLawMet : Sp := fun vs H Q _ => ∃ (z : Str) (y : V) (b : Bool), vs = [.str z, y] ∧ z.length ≤ sizeLine ∧ IsI H y b ∧
  ((z ∈ wt ∧ ∃ k : Int, y = .int k ∧ 1 ≤ k ∧ ∀ H', Same H H' → Q (.int (plV z k)) H') ∨
   (ipM z = false ∧ ∀ o H', Same H H' → H' o = some (.tup [.str "word", .int 0, .bl true]) → Q (.ref o) H') ∨
   (z ∈ wt ∧ frM 1 y = false ∧ ∀ o H', Same H H' → H' o = some (.tup [.str "size", y, .bl true]) → Q (.ref o) H'))
theorem ok__law_met (T : Tx w K mg a) : FnOk P w K mg base CX0 4 a.f__law_met a.d__law_met ["word", "size"] spLawMet := by
  refine T.F__law_met.ok sc__law_met (fun vs H Q E h => ?_) (fun cdv A outer s H vs Q E hr h => ?_)
  · obtain ⟨z, y, b, rfl, _⟩ := h
    rfl
  · obtain ⟨z, y, b, rfl, hz, hI, h⟩ := h
    refine ⟨_, 
(pss_one (ps_try_manyAs rfl rfl sc__law_met.nd takes0 (fun W pn xe tk _ => (pss_one (ps_ret (pe_callS (ok_place_value T) hr (by rfl) T.m_place_value T.F_place_value.kp T.b_place_value (fun σ => passAt tk σ) (pa_cons (pv 0) (pa_cons (pv 1) pa_nil))))))
  (.cons (i := 2) rfl rfl ⟨rfl, by decide, .inl T.c_BadWord⟩ (fun x oe cls d pn hz hf => (pss_one (ps_ret (pe_tup (pa_cons pe_str (pa_cons (pe_xf T.ox_BadWord.x T.ox_BadWord.no hz hf (pv 2)) (pa_cons (pe_callB (call_isD T.ox_BadWord.i hz hf) (by rfl) T.z_isinstance (by decide +kernel) (pa_cons (pv 2) (pa_cons (pe_glob (v := .ref a.C_EveryError) (by rfl) T.c_EveryError rfl) pa_nil))) pa_nil)))))))
  (.cons (i := 2) rfl rfl ⟨rfl, by decide, .inl T.c_BadSize⟩ (fun x oe cls d pn hz hf => (pss_one (ps_ret (pe_tup (pa_cons pe_str (pa_cons (pe_xf T.ox_BadSize.x T.ox_BadSize.no hz hf (pv 2)) (pa_cons (pe_callB (call_isD T.ox_BadSize.i hz hf) (by rfl) T.z_isinstance (by decide +kernel) (pa_cons (pv 2) (pa_cons (pe_glob (v := .ref a.C_EveryError) (by rfl) T.c_EveryError rfl) pa_nil))) pa_nil)))))))
  .nil)))), ?_⟩
    refine ⟨.str z, rfl, y, rfl, z, y, b, rfl, hz, hI, ?_⟩
    rcases h with ⟨hw, k, rfl, hk, q⟩ | ⟨hw, q⟩ | ⟨hw, hy, q⟩
    · exact .inl ⟨hw, k, rfl, hk, fun H' s' => q H' s'⟩
    · refine .inr (.inl ⟨hw, fun H' d s' ed => ?_⟩)
      refine ⟨true, T.em_BadWord_BadWord, fun _ x hx => ?_, fun q => Bool.noConfusion q⟩
      refine ⟨.ref x, rfl, rfl, rfl, d, _, .int 0, rfl, ed, rfl, .ref x, rfl, d, _, .ref a.C_EveryError, .ref a.C_EveryError, true, rfl, rfl, ed, rfl, fun u r => r, T.kt_BadWord_EveryError, ?_⟩
      exact ⟨sz (show 3 ≤ 100000 by decide), fun o no => q o _ (s'.trans (same_upd no)) upd_same⟩
    · refine .inr (.inr ⟨hw, hy, fun H' d s' ed => ?_⟩)
      refine ⟨false, T.em_BadSize_BadWord, fun q => Bool.noConfusion q, fun _ => ⟨true, T.em_BadSize_BadSize, fun _ x hx => ?_, fun q => Bool.noConfusion q⟩⟩
      refine ⟨.ref x, rfl, rfl, rfl, d, _, y, rfl, ed, rfl, .ref x, rfl, d, _, .ref a.C_EveryError, .ref a.C_EveryError, true, rfl, rfl, ed, rfl, fun u r => r, T.kt_BadSize_EveryError, ?_⟩
      exact ⟨sz (show 3 ≤ 100000 by decide), fun o no => q o _ (s'.trans (same_upd no)) upd_same⟩
end

section
variable {P : Program} {w : World} {K : PySem.W.Frag} {mg : Str → Option Value} {base : Heap} {a : Ad}
def toStr (i : Int) : Str := Str.ofString (toString i)
def nsA (f : Str) (i : Nat) : Str := Str.append f (toStr ((1 : Int) + (i : Nat)))
def nums : List Str := (List.range 9).map (fun i => toStr ((1 : Int) + (i : Nat))) ++ (List.range 9).map (nsA "-")
def places : List Str := ([Str.ofString "0", Str.ofString "half"] ++ nums) ++ (List.range 9).map (nsA "half+") ++ (List.range 9).map (nsA "half-")
theorem places_wt : ∀ z ∈ places, z ∈ wt := by decide +kernel
theorem ok__law_numbers (T : Tx w K mg a) : FnOk P w K mg base CX0 1 a.f__law_numbers a.d__law_numbers [] (fun vs H Q _ => vs = [] ∧ ∀ o H', H o = none → H' o = some (.lst (nums.map V.str)) → Same H H' → Q (.ref o) H') := by
  refine T.F__law_numbers.ok sc__law_numbers (fun vs H Q E h => ?_) (fun cdv A outer s H vs Q E hr h => ?_)
  · obtain ⟨rfl, _⟩ := h
    rfl
  · obtain ⟨rfl, q⟩ := h
    refine ⟨_, 
(pss_one (ps_ret (pe_op op_cat (pe_lc (own := [("k", 0)]) (g := gName 0) rfl sc__law_numbers.nd (pi_range2 (by rfl) T.z_range (pa_cons pe_int (pa_cons pe_int pa_nil))) (blkOk_by (own := [("k", 0)]) (N := ["k"]) (sc := defScope s__law_numbers) (by decide +kernel)) (fun _ _ _ _ _ => pg_name (i := 0) sc__law_numbers.nd rfl (Or.inl rfl)) (fun _ _ _ _ _ => pts_nil) (fun _ _ _ _ _ => (pe_callTy call_str_int (by rfl) T.z_str (by decide +kernel) (pa_cons (pv 0) pa_nil)))) (pe_lc (own := [("k", 0)]) (g := gName 0) rfl sc__law_numbers.nd (pi_range2 (by rfl) T.z_range (pa_cons pe_int (pa_cons pe_int pa_nil))) (blkOk_by (own := [("k", 0)]) (N := ["k"]) (sc := defScope s__law_numbers) (by decide +kernel)) (fun _ _ _ _ _ => pg_name (i := 0) sc__law_numbers.nd rfl (Or.inl rfl)) (fun _ _ _ _ _ => pts_nil) (fun _ _ _ _ _ => (pe_op op_add_str pe_str (pe_callTy call_str_int (by rfl) T.z_str (by decide +kernel) (pa_cons (pv 0) pa_nil)))))))), ?_⟩
    refine ⟨1, 10, rfl, ⟨by decide, by decide, by decide, by decide⟩, fun o1 no1 => ?_⟩
    refine lc_range (lo := 1) (n := 9) (fun l H' => Same H H' ∧ H' o1 = some (.lst (((List.range l).map (fun i => toStr ((1 : Int) + (i : Nat)))).map V.str))) ?c0 ?cs ?cd
    case c0 => exact ⟨same_upd no1, upd_same⟩
    case cs =>
      rintro l H' hl ⟨sm, e⟩
      refine ⟨rfl, _, rfl, _, rfl, lg _ (by omega) (by omega), _, e, ?_, keep_upd sm no1, ?_⟩
      · rw [List.length_map, List.length_map, List.length_range]
        exact szlt (by omega)
      · rw [upd_same, List.range_succ, List.map_append, List.map_append]
        rfl
    rintro H1 ⟨s1, e1⟩
    refine ⟨1, 10, rfl, ⟨by decide, by decide, by decide, by decide⟩, fun o2 no2 => ?_⟩
    refine lc_range (lo := 1) (n := 9) (fun l H' => Same H1 H' ∧ H' o2 = some (.lst (((List.range l).map (nsA "-")).map V.str))) ?d0 ?ds ?dd
    case d0 => exact ⟨same_upd no2, upd_same⟩
    case ds =>
      rintro l H' hl ⟨sm, e⟩
      refine ⟨rfl, _, rfl, _, rfl, lg _ (by omega) (by omega), _, _, rfl, rfl, sz (ln _ _ (by decide) (by omega) (by omega)), _, e, ?_, keep_upd sm no2, ?_⟩
      · rw [List.length_map, List.length_map, List.length_range]
        exact szlt (by omega)
      · rw [upd_same, List.range_succ, List.map_append, List.map_append]
        rfl
    rintro H2 ⟨s2, e2⟩
    refine ⟨o1, o2, _, _, rfl, rfl, s2 _ _ e1, e2, sz (show 18 ≤ 100000 by decide), fun o no => ?_⟩
    refine q o _ (s1.free (s2.free no)) ?_ ((s1.trans s2).trans (same_upd no))
    rw [upd_same, ← List.map_append]
    rfl
theorem ok__law_places (T : Tx w K mg a) : FnOk P w K mg base CX0 2 a.f__law_places a.d__law_places [] (fun vs H Q _ => vs = [] ∧ ∀ o H', H o = none → H' o = some (.lst (places.map V.str)) → Same H H' → Q (.ref o) H') := by
  refine T.F__law_places.ok sc__law_places (fun vs H Q E h => ?_) (fun cdv A outer s H vs Q E hr h => ?_)
  · obtain ⟨rfl, _⟩ := h
    rfl
  · obtain ⟨rfl, q⟩ := h
    refine ⟨_, 
(pss_cons (ps_set (i := 0) sc__law_places.nd rfl (.inl rfl) (pe_op op_cat (pe_lst (pa_cons pe_str (pa_cons pe_str pa_nil))) (pe_call0 (ok__law_numbers T) hr (by rfl) T.m__law_numbers T.F__law_numbers.kp T.b__law_numbers .nil pass0)))
  (pss_one (ps_ret (pe_op op_cat (pe_op op_cat (pv 0) (pe_lc (own := [("k", 1)]) (g := gName 1) rfl sc__law_places.nd (pi_range2 (by rfl) T.z_range (pa_cons pe_int (pa_cons pe_int pa_nil))) (blkOk_by (own := [("k", 1)]) (N := ["found", "k"]) (sc := defScope s__law_places) (by decide +kernel)) (fun _ _ _ _ _ => pg_name (i := 1) sc__law_places.nd rfl (Or.inl rfl)) (fun _ _ _ _ _ => pts_nil) (fun _ _ _ _ _ => (pe_op op_add_str pe_str (pe_callTy call_str_int (by rfl) T.z_str (by decide +kernel) (pa_cons (pv 1) pa_nil)))))) (pe_lc (own := [("k", 1)]) (g := gName 1) rfl sc__law_places.nd (pi_range2 (by rfl) T.z_range (pa_cons pe_int (pa_cons pe_int pa_nil))) (blkOk_by (own := [("k", 1)]) (N := ["found", "k"]) (sc := defScope s__law_places) (by decide +kernel)) (fun _ _ _ _ _ => pg_name (i := 1) sc__law_places.nd rfl (Or.inl rfl)) (fun _ _ _ _ _ => pts_nil) (fun _ _ _ _ _ => (pe_op op_add_str pe_str (pe_callTy call_str_int (by rfl) T.z_str (by decide +kernel) (pa_cons (pv 1) pa_nil))))))))), ?_⟩
    refine ⟨sz (show 2 ≤ 100000 by decide), fun p0 np0 => ?_⟩
    have t0 := same_upd (o := .lst [V.str "0", V.str "half"]) np0
    have q0 : (upd H p0 (.lst [V.str "0", V.str "half"])) p0 = some (.lst [V.str "0", V.str "half"]) := upd_same
    generalize upd H p0 (.lst [V.str "0", V.str "half"]) = H0 at t0 q0 ⊢
    refine ⟨rfl, fun o1 H1 no1 e1 s1 => ?_⟩
    refine ⟨p0, o1, _, _, rfl, rfl, s1 _ _ q0, e1, sz (show 20 ≤ 100000 by decide), fun o2 no2 => ?_⟩
    have s2 := same_upd (o := .lst ([V.str "0", V.str "half"] ++ nums.map V.str)) no2
    have e2 : (upd H1 o2 (.lst ([V.str "0", V.str "half"] ++ nums.map V.str))) o2 = some (.lst ([V.str "0", V.str "half"] ++ nums.map V.str)) := upd_same
    generalize upd H1 o2 (.lst ([V.str "0", V.str "half"] ++ nums.map V.str)) = H2 at s2 e2 ⊢
    refine ⟨.ref o2, rfl, 1, 10, rfl, ⟨by decide, by decide, by decide, by decide⟩, fun o3 no3 => ?_⟩
    refine lc_range (lo := 1) (n := 9) (fun l H' => Same H2 H' ∧ H' o3 = some (.lst (((List.range l).map (nsA "half+")).map V.str))) ?c0 ?cs ?cd
    case c0 => exact ⟨same_upd no3, upd_same⟩
    case cs =>
      rintro l H' hl ⟨sm, e⟩
      refine ⟨rfl, _, rfl, _, rfl, lg _ (by omega) (by omega), _, _, rfl, rfl, sz (ln _ _ (by decide) (by omega) (by omega)), _, e, ?_, keep_upd sm no3, ?_⟩
      · rw [List.length_map, List.length_map, List.length_range]
        exact szlt (by omega)
      · rw [upd_same, List.range_succ, List.map_append, List.map_append]
        rfl
    rintro H3 ⟨s3, e3⟩
    refine ⟨o2, o3, _, _, rfl, rfl, s3 _ _ e2, e3, sz (show 29 ≤ 100000 by decide), fun o4 no4 => ?_⟩
    generalize eV : [V.str "0", V.str "half"] ++ nums.map V.str ++ ((List.range 9).map (nsA "half+")).map V.str = vs4
    have s4 := same_upd (o := .lst vs4) no4
    have e4 : (upd H3 o4 (.lst vs4)) o4 = some (.lst vs4) := upd_same
    generalize upd H3 o4 (.lst vs4) = H4 at s4 e4 ⊢
    refine ⟨1, 10, rfl, ⟨by decide, by decide, by decide, by decide⟩, fun o5 no5 => ?_⟩
    refine lc_range (lo := 1) (n := 9) (fun l H' => Same H4 H' ∧ H' o5 = some (.lst (((List.range l).map (nsA "half-")).map V.str))) ?d0 ?ds ?dd
    case d0 => exact ⟨same_upd no5, upd_same⟩
    case ds =>
      rintro l H' hl ⟨sm, e⟩
      refine ⟨rfl, _, rfl, _, rfl, lg _ (by omega) (by omega), _, _, rfl, rfl, sz (ln _ _ (by decide) (by omega) (by omega)), _, e, ?_, keep_upd sm no5, ?_⟩
      · rw [List.length_map, List.length_map, List.length_range]
        exact szlt (by omega)
      · rw [upd_same, List.range_succ, List.map_append, List.map_append]
        rfl
    rintro H5 ⟨s5, e5⟩
    refine ⟨o4, o5, _, _, rfl, rfl, s5 _ _ e4, e5, ?_, fun o no => ?_⟩
    · rw [← eV]
      exact sz (show 38 ≤ 100000 by decide)
    have sA := t0.trans (s1.trans (s2.trans (s3.trans (s4.trans s5))))
    refine q o _ (sA.free no) ?_ (sA.trans (same_upd no))
    rw [upd_same, ← eV]
    rfl
def wrong1 : List Str := ["", "10", "-0", "+1", "01", "-10", "half+0", "half-0", "half+10", "half 1", "Half", "--1", "half+"]
def wrong2 : List Str := ["half1", "-", "1 ", " 1", "half+-1", "x", "halff", "half--1", "00", "1-", "-half", "half+01"]
def wrong3 : List Str := ["first", "5.0", "0x1"]
def wrongs : List Str := wrong1 ++ wrong2 ++ wrong3
theorem wrongs_no : wrongs.all (fun z => decide (ipM z = false) && (decide (z.length ≤ 100) && PyData.strOk z)) = true := by decide +kernel
theorem wrong_chk {z : Str} (h : z ∈ wrongs) : ipM z = false ∧ z.length ≤ 100 ∧ PyData.strOk z = true := by
  have e := List.all_eq_true.mp wrongs_no z h
  simp only [Bool.and_eq_true, decide_eq_true_eq] at e
  exact ⟨e.1, e.2.1, e.2.2⟩
def odds : List V := [.int 0, .int (-1), .non, .bl true, .str "4", .int (-(10 ^ 30))]
theorem odd_ok {K : PySem.W.Frag} {y : V} (h : y ∈ odds) : (∃ b, ∀ H, IsI H y b) ∧ frM 1 y = false ∧ ∃ d, (∀ H, Dp K H y d) ∧ SeqAt.shaped (.tuple [.str "size", d, .bool true]) = true ∧ PyData.eqv (.tuple [.str "size", d, .bool true]) (.tuple [.str "size", d, .bool true]) = true := by
  simp only [odds, List.mem_cons, List.not_mem_nil, or_false] at h
  rcases h with rfl | rfl | rfl | rfl | rfl | rfl
  · exact ⟨⟨_, fun _ => .int _⟩, by decide, _, fun _ => .int _, by decide +kernel, by decide +kernel⟩
  · exact ⟨⟨_, fun _ => .int _⟩, by decide, _, fun _ => .int _, by decide +kernel, by decide +kernel⟩
  · exact ⟨⟨_, fun _ => .non⟩, rfl, _, fun _ => .non, by decide +kernel, by decide +kernel⟩
  · exact ⟨⟨_, fun _ => .bl _⟩, rfl, _, fun _ => .bl _, by decide +kernel, by decide +kernel⟩
  · exact ⟨⟨_, fun _ => .str _⟩, rfl, _, fun _ => .str _, by decide +kernel, by decide +kernel⟩
  · exact ⟨⟨_, fun _ => .int _⟩, by decide, _, fun _ => .int _, by decide +kernel, by decide +kernel⟩
theorem keep_list {d c : Addr} {n : Nat} {H H0 H' : Hp} (hp : Pen H d c n) (s : Same H H0) (b : But d H0 H') {p : Addr} {xs : List V} (e : H p = some (.lst xs)) : H' p = some (.lst xs) := by
  obtain ⟨kvs, hd⟩ := (hp.same s).dict
  exact b.list hd (s _ _ e)
def dWord : PyData := .tuple [.str "word", .int 0, .bool true]
theorem dWord_ok : SeqAt.shaped dWord = true ∧ PyData.eqv dWord dWord = true := by decide +kernel
theorem ne_self {d : PyData} {A B : Prop} (h : PyData.eqv d d = true) (q : B) : if (!PyData.eqv d d) = true then A else B := by
  rw [h]
  exact q
theorem cut_mem {xs : List V} {lo hi : Option Int} {v : V} (h : v ∈ cutV xs lo hi) : v ∈ xs := by
  unfold cutV at h
  exact List.mem_of_mem_drop (List.mem_of_mem_take h)
def spLaw (K : PySem.W.Frag) : Sp := fun vs H Q _ => ∃ (s : Addr) (ns : List Int), vs = [.ref s] ∧ SqL K H s (ns.map V.int) ∧ ns.length ≤ 63 ∧ ∀ H', Q (.bl true) H'
theorem ok_law (T : Tx w K mg a) : FnOk P w K mg base CX0 5 a.f_law a.d_law ["script"] (spLaw K) := by
  refine T.F_law.ok sc_law (fun vs H Q E h => ?_) (fun cdv A outer s H vs Q E hr h => ?_)
  · obtain ⟨x, ns, rfl, _⟩ := h
    rfl
  · obtain ⟨x, ns, rfl, hS, hlen, q⟩ := h
    refine ⟨_, 
(pss_cons (ps_set (i := 1) sc_law.nd rfl (.inl rfl) (pe_call (ok__law_pen T) (hr.mono (by decide)) (by rfl) T.m__law_pen T.F__law_pen.kp T.b__law_pen .nil pass0 (pa_cons (pv 0) pa_nil)))
  (pss_cons (ps_set (i := 2) sc_law.nd rfl (.inl rfl) (pe_lst (pa_cons pe_str (pa_cons pe_str (pa_cons pe_str (pa_cons pe_str (pa_cons pe_str (pa_cons pe_str (pa_cons pe_str (pa_cons pe_str (pa_cons pe_str (pa_cons pe_str (pa_cons pe_str (pa_cons pe_str (pa_cons pe_str pa_nil)))))))))))))))
  (pss_cons (ps_set (i := 2) sc_law.nd rfl (.inl rfl) (pe_op op_cat (pv 2) (pe_lst (pa_cons pe_str (pa_cons pe_str (pa_cons pe_str (pa_cons pe_str (pa_cons pe_str (pa_cons pe_str (pa_cons pe_str (pa_cons pe_str (pa_cons pe_str (pa_cons pe_str (pa_cons pe_str (pa_cons pe_str pa_nil)))))))))))))))
  (pss_cons (ps_set (i := 2) sc_law.nd rfl (.inl rfl) (pe_op op_cat (pv 2) (pe_lst (pa_cons pe_str (pa_cons pe_str (pa_cons pe_str pa_nil))))))
  (pss_cons (ps_for PassesOwn.never rfl (pi_range1 (by rfl) T.z_range (pa_cons pe_int pa_nil)) (pg_name (i := 3) sc_law.nd rfl (.inl rfl))
  (pss_cons (ps_set (i := 4) sc_law.nd rfl (.inl rfl) (pe_call (ok__law_pick T) (hr.mono (by decide)) (by rfl) T.m__law_pick T.F__law_pick.kp T.b__law_pick .nil pass0 (pa_cons (pv 1) (pa_cons (pe_lst (pa_cons (pe_op op_add pe_int (pe_call (ok__law_draw T) (hr.mono (by decide)) (by rfl) T.m__law_draw T.F__law_draw.kp T.b__law_draw .nil pass0 (pa_cons (pv 1) (pa_cons pe_int pa_nil)))) (pa_cons (pe_op op_add pe_int (pe_call (ok__law_draw T) (hr.mono (by decide)) (by rfl) T.m__law_draw T.F__law_draw.kp T.b__law_draw .nil pass0 (pa_cons (pv 1) (pa_cons pe_int pa_nil)))) (pa_cons (pe_op op_add (pe_op op_pow pe_int pe_int) (pe_call (ok__law_draw T) (hr.mono (by decide)) (by rfl) T.m__law_draw T.F__law_draw.kp T.b__law_draw .nil pass0 (pa_cons (pv 1) (pa_cons (pe_op op_pow pe_int pe_int) pa_nil)))) pa_nil)))) pa_nil))))
  (pss_cons (ps_for PassesOwn.never rfl (pi_list (pe_call0 (ok__law_places T) (hr.mono (by decide)) (by rfl) T.m__law_places T.F__law_places.kp T.b__law_places .nil pass0)) (pg_name (i := 5) sc_law.nd rfl (.inl rfl))
  (pss_one (ps_if (pt_cmpR op_ne (pe_call (ok__law_met T) hr (by rfl) T.m__law_met T.F__law_met.kp T.b__law_met .nil pass0 (pa_cons (pv 5) (pa_cons (pv 4) pa_nil))) (pe_call (ok__law_value T) (hr.mono (by decide)) (by rfl) T.m__law_value T.F__law_value.kp T.b__law_value .nil pass0 (pa_cons (pv 5) (pa_cons (pv 4) pa_nil))) (nomark _))
  (pss_one (ps_ret pe_bl))
  pss_nil)))
  (pss_cons (ps_set (i := 6) sc_law.nd rfl (.inl rfl) (pe_call (ok__law_pick T) (hr.mono (by decide)) (by rfl) T.m__law_pick T.F__law_pick.kp T.b__law_pick .nil pass0 (pa_cons (pv 1) (pa_cons (pe_lst (pa_cons pe_int (pa_cons (pe_un un_neg pe_int) (pa_cons pe_non (pa_cons pe_bl (pa_cons pe_str (pa_cons (pe_un un_neg (pe_op op_pow pe_int pe_int)) pa_nil))))))) pa_nil))))
  (pss_cons (ps_for PassesOwn.never rfl (pi_list (pe_slice sl_list (pe_call (ok__law_shuffled T) (hr.mono (by decide)) (by rfl) T.m__law_shuffled T.F__law_shuffled.kp T.b__law_shuffled .nil pass0 (pa_cons (pv 1) (pa_cons (pv 2) pa_nil))) po_none (po_some pe_int))) (pg_name (i := 5) sc_law.nd rfl (.inl rfl))
  (pss_one (ps_if (PW.pt (pw_or (pt_cmpR (op_neD hr.units) (pe_call (ok__law_met T) hr (by rfl) T.m__law_met T.F__law_met.kp T.b__law_met .nil pass0 (pa_cons (pv 5) (pa_cons (pv 4) pa_nil))) (pe_tup (pa_cons pe_str (pa_cons pe_int (pa_cons pe_bl pa_nil)))) (nomark _)) (pw_or1 (pt_cmpR (op_neD hr.units) (pe_call (ok__law_met T) hr (by rfl) T.m__law_met T.F__law_met.kp T.b__law_met .nil pass0 (pa_cons (pv 5) (pa_cons (pv 6) pa_nil))) (pe_tup (pa_cons pe_str (pa_cons pe_int (pa_cons pe_bl pa_nil)))) (nomark _)))))
  (pss_one (ps_ret pe_bl))
  pss_nil)))
  (pss_cons (ps_set (i := 5) sc_law.nd rfl (.inl rfl) (pe_call (ok__law_place_word T) (hr.mono (by decide)) (by rfl) T.m__law_place_word T.F__law_place_word.kp T.b__law_place_word .nil pass0 (pa_cons (pv 1) pa_nil)))
  (pss_one (ps_if (PW.pt (pw_or (pt_cmpR (op_neD hr.units) (pe_call (ok__law_met T) hr (by rfl) T.m__law_met T.F__law_met.kp T.b__law_met .nil pass0 (pa_cons (pv 5) (pa_cons (pv 6) pa_nil))) (pe_tup (pa_cons pe_str (pa_cons (pv 6) (pa_cons pe_bl pa_nil)))) (nomark _)) (pw_or1 (pt_cmpR op_ne (pe_call (ok__law_met T) hr (by rfl) T.m__law_met T.F__law_met.kp T.b__law_met .nil pass0 (pa_cons (pv 5) (pa_cons (pv 4) pa_nil))) (pe_call (ok__law_value T) (hr.mono (by decide)) (by rfl) T.m__law_value T.F__law_value.kp T.b__law_value .nil pass0 (pa_cons (pv 5) (pa_cons (pv 4) pa_nil))) (nomark _)))))
  (pss_one (ps_ret pe_bl))
  pss_nil))))))))
  (pss_one (ps_ret pe_bl))))))), ?_⟩
    refine ⟨.ref x, rfl, x, ns, rfl, hS, hlen, fun d c H1 hd hc hp s1 => ?_⟩
    refine ⟨sz (show 13 ≤ 100000 by decide), fun p1 np1 => ?_⟩
    have t1 := same_upd (o := .lst ([V.str "", V.str "10", V.str "-0", V.str "+1", V.str "01", V.str "-10", V.str "half+0", V.str "half-0", V.str "half+10", V.str "half 1", V.str "Half", V.str "--1", V.str "half+"] : List V)) np1
    have e1 : (upd H1 p1 (.lst ([V.str "", V.str "10", V.str "-0", V.str "+1", V.str "01", V.str "-10", V.str "half+0", V.str "half-0", V.str "half+10", V.str "half 1", V.str "Half", V.str "--1", V.str "half+"] : List V))) p1 = some (.lst ([V.str "", V.str "10", V.str "-0", V.str "+1", V.str "01", V.str "-10", V.str "half+0", V.str "half-0", V.str "half+10", V.str "half 1", V.str "Half", V.str "--1", V.str "half+"] : List V)) := upd_same
    generalize upd H1 p1 (.lst ([V.str "", V.str "10", V.str "-0", V.str "+1", V.str "01", V.str "-10", V.str "half+0", V.str "half-0", V.str "half+10", V.str "half 1", V.str "Half", V.str "--1", V.str "half+"] : List V)) = Ha at t1 e1 ⊢
    have hpa := hp.same t1
    -- wrong = wrong + ..
    refine ⟨.ref p1, rfl, sz (show 12 ≤ 100000 by decide), fun p2 np2 => ?_⟩
    have t2 := same_upd (o := .lst ([V.str "half1", V.str "-", V.str "1 ", V.str " 1", V.str "half+-1", V.str "x", V.str "halff", V.str "half--1", V.str "00", V.str "1-", V.str "-half", V.str "half+01"] : List V)) np2
    have e2 : (upd Ha p2 (.lst ([V.str "half1", V.str "-", V.str "1 ", V.str " 1", V.str "half+-1", V.str "x", V.str "halff", V.str "half--1", V.str "00", V.str "1-", V.str "-half", V.str "half+01"] : List V))) p2 = some (.lst ([V.str "half1", V.str "-", V.str "1 ", V.str " 1", V.str "half+-1", V.str "x", V.str "halff", V.str "half--1", V.str "00", V.str "1-", V.str "-half", V.str "half+01"] : List V)) := upd_same
    generalize upd Ha p2 (.lst ([V.str "half1", V.str "-", V.str "1 ", V.str " 1", V.str "half+-1", V.str "x", V.str "halff", V.str "half--1", V.str "00", V.str "1-", V.str "-half", V.str "half+01"] : List V)) = Hb at t2 e2 ⊢
    refine ⟨p1, p2, _, _, rfl, rfl, t2 _ _ e1, e2, sz (show 25 ≤ 100000 by decide), fun p3 np3 => ?_⟩
    have t3 := same_upd (o := .lst (([V.str "", V.str "10", V.str "-0", V.str "+1", V.str "01", V.str "-10", V.str "half+0", V.str "half-0", V.str "half+10", V.str "half 1", V.str "Half", V.str "--1", V.str "half+"] : List V) ++ ([V.str "half1", V.str "-", V.str "1 ", V.str " 1", V.str "half+-1", V.str "x", V.str "halff", V.str "half--1", V.str "00", V.str "1-", V.str "-half", V.str "half+01"] : List V))) np3
    have e3 : (upd Hb p3 (.lst (([V.str "", V.str "10", V.str "-0", V.str "+1", V.str "01", V.str "-10", V.str "half+0", V.str "half-0", V.str "half+10", V.str "half 1", V.str "Half", V.str "--1", V.str "half+"] : List V) ++ ([V.str "half1", V.str "-", V.str "1 ", V.str " 1", V.str "half+-1", V.str "x", V.str "halff", V.str "half--1", V.str "00", V.str "1-", V.str "-half", V.str "half+01"] : List V)))) p3 = some (.lst (([V.str "", V.str "10", V.str "-0", V.str "+1", V.str "01", V.str "-10", V.str "half+0", V.str "half-0", V.str "half+10", V.str "half 1", V.str "Half", V.str "--1", V.str "half+"] : List V) ++ ([V.str "half1", V.str "-", V.str "1 ", V.str " 1", V.str "half+-1", V.str "x", V.str "halff", V.str "half--1", V.str "00", V.str "1-", V.str "-half", V.str "half+01"] : List V))) := upd_same
    generalize upd Hb p3 (.lst (([V.str "", V.str "10", V.str "-0", V.str "+1", V.str "01", V.str "-10", V.str "half+0", V.str "half-0", V.str "half+10", V.str "half 1", V.str "Half", V.str "--1", V.str "half+"] : List V) ++ ([V.str "half1", V.str "-", V.str "1 ", V.str " 1", V.str "half+-1", V.str "x", V.str "halff", V.str "half--1", V.str "00", V.str "1-", V.str "-half", V.str "half+01"] : List V))) = Hc at t3 e3 ⊢
    refine ⟨.ref p3, rfl, sz (show 3 ≤ 100000 by decide), fun p4 np4 => ?_⟩
    have t4 := same_upd (o := .lst ([V.str "first", V.str "5.0", V.str "0x1"] : List V)) np4
    have e4 : (upd Hc p4 (.lst ([V.str "first", V.str "5.0", V.str "0x1"] : List V))) p4 = some (.lst ([V.str "first", V.str "5.0", V.str "0x1"] : List V)) := upd_same
    generalize upd Hc p4 (.lst ([V.str "first", V.str "5.0", V.str "0x1"] : List V)) = Hd at t4 e4 ⊢
    refine ⟨p3, p4, _, _, rfl, rfl, t4 _ _ e3, e4, sz (show 28 ≤ 100000 by decide), fun p5 np5 => ?_⟩
    have t5 := same_upd (o := .lst (([V.str "", V.str "10", V.str "-0", V.str "+1", V.str "01", V.str "-10", V.str "half+0", V.str "half-0", V.str "half+10", V.str "half 1", V.str "Half", V.str "--1", V.str "half+"] : List V) ++ ([V.str "half1", V.str "-", V.str "1 ", V.str " 1", V.str "half+-1", V.str "x", V.str "halff", V.str "half--1", V.str "00", V.str "1-", V.str "-half", V.str "half+01"] : List V) ++ ([V.str "first", V.str "5.0", V.str "0x1"] : List V))) np5
    have e5 : (upd Hd p5 (.lst (([V.str "", V.str "10", V.str "-0", V.str "+1", V.str "01", V.str "-10", V.str "half+0", V.str "half-0", V.str "half+10", V.str "half 1", V.str "Half", V.str "--1", V.str "half+"] : List V) ++ ([V.str "half1", V.str "-", V.str "1 ", V.str " 1", V.str "half+-1", V.str "x", V.str "halff", V.str "half--1", V.str "00", V.str "1-", V.str "-half", V.str "half+01"] : List V) ++ ([V.str "first", V.str "5.0", V.str "0x1"] : List V)))) p5 = some (.lst (wrongs.map V.str)) := upd_same
    generalize upd Hd p5 (.lst (([V.str "", V.str "10", V.str "-0", V.str "+1", V.str "01", V.str "-10", V.str "half+0", V.str "half-0", V.str "half+10", V.str "half 1", V.str "Half", V.str "--1", V.str "half+"] : List V) ++ ([V.str "half1", V.str "-", V.str "1 ", V.str " 1", V.str "half+-1", V.str "x", V.str "halff", V.str "half--1", V.str "00", V.str "1-", V.str "-half", V.str "half+01"] : List V) ++ ([V.str "first", V.str "5.0", V.str "0x1"] : List V))) = He at t5 e5 ⊢
    have hpe := hpa.same (t2.trans (t3.trans (t4.trans t5)))
    refine ⟨3, rfl, by decide, by decide, ?_⟩
    refine for_range (lo := 0) (n := 3) (fun i σ H2 => (∃ y3 y4 y5 y6 : Option V, σ = [some (.ref x), some (.ref d), some (.ref p5), y3, y4, y5, y6]) ∧ H2 p5 = some (.lst (wrongs.map V.str)) ∧ Pen H2 d c (i * 60)) ?_ ?_ ?_
    · exact ⟨⟨none, none, none, none, rfl⟩, e5, hpe⟩
    rotate_left
    · rintro σ H2 _
      exact q _
    rintro i σ H2 hi ⟨⟨y3, y4, y5, y6, rfl⟩, ew, hp2⟩
    -- size
    have cp : ∀ n : Int, 0 ≤ n → n ≤ 1000000 → CPow 10 n := fun n h1 h2 => ⟨h1, h2, by decide⟩
    refine ⟨.ref d, rfl, .ref d, rfl, d, c, _, 4, rfl, hp2, by omega, by decide, by decide, fun v1 H3 v10 v11 hp3 b3 => ⟨1, v1, rfl, rfl, .ref d, rfl, d, c, _, 40, rfl, hp3, by omega, by decide, by decide, fun v2 H4 v20 v21 hp4 b4 => ⟨1, v2, rfl, rfl, 10, 30, rfl, rfl, cp 30 (by decide) (by decide), .ref d, rfl, 10, 6, rfl, rfl, cp 6 (by decide) (by decide), d, c, _, _, rfl, hp4, by omega, by decide, by decide, fun v3 H5 v30 v31 hp5 b5 => ⟨_, v3, rfl, rfl, sz (show 3 ≤ 100000 by decide), fun p6 np6 => ?_⟩⟩⟩⟩
    obtain ⟨kv2, hd2⟩ := hp2.dict
    obtain ⟨kv3, hd3⟩ := hp3.dict
    obtain ⟨kv4, hd4⟩ := hp4.dict
    have ew5 := b5.list hd4 (b4.list hd3 (b3.list hd2 ew))
    refine ⟨d, c, p6, _, _, rfl, hp5.same (same_upd np6), by omega, SqL.at upd_same, (show 0 < 3 by decide), (show 3 ≤ 100000 by decide), fun sv H6 hsv hp6 b6 => ?_⟩
    have ew6 := keep_list hp5 (same_upd np6) b6 ew5
    obtain ⟨k, rfl, hk⟩ : ∃ k : Int, sv = .int k ∧ 1 ≤ k := by
      simp only [List.mem_cons, List.not_mem_nil, or_false] at hsv
      rcases hsv with rfl | rfl | rfl
      · exact ⟨_, rfl, by omega⟩
      · exact ⟨_, rfl, by omega⟩
      · exact ⟨_, rfl, by
          have : (1 : Int) ≤ 10 ^ Int.toNat 30 := by decide
          omega⟩
    clear hsv hp5 hp4 hp3 hp2 b3 b4 b5 b6 ew5 ew hd2 hd3 hd4 np6
    -- for word in _law_places()
    refine ⟨rfl, fun o7 H7 no7 eo7 s7 => ⟨o7, rfl, ⟨_, SqL.at eo7⟩, ?_⟩⟩
    have ew7 := s7 _ _ ew6
    have hp7 := hp6.same s7
    refine for_it (walk_list (xs := places.map V.str)) (fun j σ H3 => ∃ y5, σ = [some (.ref x), some (.ref d), some (.ref p5), some (.int (0 + (i : Int))), some (.int k), y5, y6] ∧ Same H7 H3) ?h0 ?hG ?hs ?hd
    case h0 => exact ⟨_, rfl, Same.refl _⟩
    case hG =>
      rintro j σ H3 hj ⟨_, rfl, s3⟩
      exact s3.seq (SqL.at eo7)
    case hs =>
      rintro j v σ H8 H9 hj ⟨z5, rfl, s3⟩ ⟨rfl, ev⟩
      obtain ⟨z, hz, rfl⟩ := List.mem_map.mp (List.mem_of_getElem? ev)
      have hw := places_wt z hz
      refine ⟨_, rfl, _, rfl, z, .int k, true, rfl, Nat.le_trans (wt_chk hw).2.1 (by decide), .int k, .inl ⟨hw, k, rfl, hk, fun Ha' sa => ?_⟩⟩
      refine ⟨_, rfl, _, rfl, z, k, rfl, hw, rfl, _, rfl, ?_⟩
      refine iteNS rfl ?_
      exact ⟨_, rfl, s3.trans sa⟩
    case hd =>
      rintro σ H8 ⟨y5', rfl, s8⟩
      have ew8 := s8 _ _ ew7
      have hp8 := hp7.same s8
      clear ew7 hp7 s8
      -- odd
      refine ⟨.ref d, rfl, 1, rfl, 10, 30, rfl, rfl, cp 30 (by decide) (by decide), _, rfl, sz (show 6 ≤ 100000 by decide), fun p9 np9 => ?_⟩
      refine ⟨d, c, p9, _, _, rfl, hp8.same (same_upd np9), by omega, SqL.at upd_same, (show 0 < 6 by decide), (show 6 ≤ 100000 by decide), fun od Hf hod hpf bf => ?_⟩
      have ewf := keep_list hp8 (same_upd np9) bf ew8
      replace hod : od ∈ odds := hod
      obtain ⟨⟨ob, hoi⟩, hof, od', hodp, hosh, hoeq⟩ := odd_ok (K := K) hod
      clear hp8 ew8 bf np9
      -- for word in _law_shuffled(pen, wrong)[:9]
      refine ⟨.ref d, rfl, .ref p5, rfl, d, c, p5, _, _, rfl, hpf, ?_, SqL.at ewf, (show 28 ≤ 100000 by decide), fun pg ys Hg hperm npg eg hpg bg => ?_⟩
      · show i * 60 + 1 + 1 + 1 + 1 + 1 + 28 < 2 ^ 40
        omega
      have ewg := keep_list hpf (Same.refl _) bg ewf
      refine ⟨9, rfl, pg, ys, rfl, SqL.at eg, fun ph nph => ⟨ph, rfl, ⟨_, SqL.at upd_same⟩, ?_⟩⟩
      have sh := same_upd (o := .lst (cutV ys none (some 9))) nph
      have eh : (upd Hg ph (.lst (cutV ys none (some 9)))) ph = some (.lst (cutV ys none (some 9))) := upd_same
      generalize upd Hg ph (.lst (cutV ys none (some 9))) = Hh at sh eh ⊢
      have ewh := sh _ _ ewg
      have hph := hpg.same sh
      refine for_it (walk_list (xs := cutV ys none (some 9))) (fun j σ H3 => ∃ y5, σ = [some (.ref x), some (.ref d), some (.ref p5), some (.int (0 + (i : Int))), some (.int k), y5, some od] ∧ Same Hh H3) ?g0 ?gG ?gs ?gd
      case g0 => exact ⟨_, rfl, Same.refl _⟩
      case gG =>
        rintro j σ H3 hj ⟨_, rfl, s3⟩
        exact s3.seq (SqL.at eh)
      case gs =>
        rintro j v σ H8' H9 hj ⟨z5, rfl, s3⟩ ⟨rfl, ev⟩
        obtain ⟨z, hz, rfl⟩ := List.mem_map.mp (hperm.mem_iff.mp (cut_mem (List.mem_of_getElem? ev)))
        obtain ⟨hno, hzl, hzo⟩ := wrong_chk hz
        have hzs : z.length ≤ sizeLine := Nat.le_trans hzl (by decide)
        refine ⟨_, rfl, _, rfl, z, .int k, true, rfl, hzs, .int k, .inr (.inl ⟨hno, fun o1 Hi si ei => ⟨sz (show 3 ≤ 100000 by decide), fun o2 no2 => ?_⟩⟩)⟩
        have u1 := same_upd (o := .tup [.str "word", .int 0, .bl true]) no2
        refine ⟨dWord, dWord, .tup (SqT.at (u1 _ _ ei)) (.cons (.str _) (.cons (.int _) (.cons (.bl _) .nil))), .tup (SqT.at upd_same) (.cons (.str _) (.cons (.int _) (.cons (.bl _) .nil))), dWord_ok.1, dWord_ok.1, _, rfl, ?_⟩
        refine ne_self dWord_ok.2 ?_
        generalize upd Hi o2 (.tup [.str "word", .int 0, .bl true]) = Hj at u1 ⊢
        refine ⟨_, rfl, od, rfl, z, od, ob, rfl, hzs, hoi _, .inr (.inl ⟨hno, fun o3 Hk sk ek => ⟨sz (show 3 ≤ 100000 by decide), fun o4 no4 => ?_⟩⟩)⟩
        have u2 := same_upd (o := .tup [.str "word", .int 0, .bl true]) no4
        refine ⟨dWord, dWord, .tup (SqT.at (u2 _ _ ek)) (.cons (.str _) (.cons (.int _) (.cons (.bl _) .nil))), .tup (SqT.at upd_same) (.cons (.str _) (.cons (.int _) (.cons (.bl _) .nil))), dWord_ok.1, dWord_ok.1, _, rfl, ?_⟩
        refine ne_self dWord_ok.2 ?_
        exact ⟨_, rfl, s3.trans (si.trans (u1.trans (sk.trans u2)))⟩
      case gd =>
        rintro σ Hl ⟨z5, rfl, sl⟩
        have ewl := sl _ _ ewh
        have hpl := hph.same sl
        -- word = _law_place_word(pen)
        refine ⟨.ref d, rfl, d, c, _, rfl, hpl, ?_, fun z Hm hw hpm bm => ?_⟩
        · show i * 60 + 1 + 1 + 1 + 1 + 1 + 28 < 2 ^ 40
          omega
        have ewm := keep_list hpl (Same.refl _) bm ewl
        have hzs : z.length ≤ sizeLine := Nat.le_trans (wt_chk hw).2.1 (by decide)
        refine ⟨_, rfl, od, rfl, z, od, ob, rfl, hzs, hoi _, .inr (.inr ⟨hw, hof, fun o1 Hi si ei => ⟨od, rfl, sz (show 3 ≤ 100000 by decide), fun o2 no2 => ?_⟩⟩)⟩
        have u1 := same_upd (o := .tup [.str "size", od, .bl true]) no2
        refine ⟨.tuple [.str "size", od', .bool true], .tuple [.str "size", od', .bool true], .tup (SqT.at (u1 _ _ ei)) (.cons (.str _) (.cons (hodp _) (.cons (.bl _) .nil))), .tup (SqT.at upd_same) (.cons (.str _) (.cons (hodp _) (.cons (.bl _) .nil))), hosh, hosh, _, rfl, ?_⟩
        refine ne_self hoeq ?_
        generalize upd Hi o2 (.tup [.str "size", od, .bl true]) = Hj at u1 ⊢
        refine ⟨_, rfl, _, rfl, z, .int k, true, rfl, hzs, .int k, .inl ⟨hw, k, rfl, hk, fun Ha' sa => ?_⟩⟩
        refine ⟨_, rfl, _, rfl, z, k, rfl, hw, rfl, _, rfl, ?_⟩
        refine iteNS rfl ?_
        have sA := si.trans (u1.trans sa)
        refine ⟨⟨_, _, _, _, rfl⟩, sA _ _ ewm, (hpm.same sA).up ?_⟩
        show i * 60 + 1 + 1 + 1 + 1 + 1 + 28 + 1 ≤ (i + 1) * 60
        omega
end


theorem all_mk {l : PySem.W.OpenLaw} {w : World} {K : PySem.W.Frag} {h : Heap} {mg : Str → Option Value} {fa : Addr} (X : K.In h) (G : h.Ns mainGlobals mg) (hfa : mg "law" = some (.ref fa))
    {f0 : Addr} {od0 an0 : Option Addr} {sl0 : Array (Option Value)} {oc0 kV0 dc0 pm0 cd0 ct0 : Value}
    {f1 : Addr} {od1 an1 : Option Addr} {sl1 : Array (Option Value)} {oc1 kV1 dc1 pm1 cd1 ct1 : Value}
    {f2 : Addr} {od2 an2 : Option Addr} {sl2 : Array (Option Value)} {oc2 kV2 dc2 pm2 cd2 ct2 : Value}
    {f3 : Addr} {od3 an3 : Option Addr} {sl3 : Array (Option Value)} {oc3 kV3 dc3 pm3 cd3 ct3 : Value}
    {f4 : Addr} {od4 an4 : Option Addr} {sl4 : Array (Option Value)} {oc4 kV4 dc4 pm4 cd4 ct4 : Value}
    {f5 : Addr} {od5 an5 : Option Addr} {sl5 : Array (Option Value)} {oc5 kV5 dc5 pm5 cd5 ct5 : Value}
    {f6 : Addr} {od6 an6 : Option Addr} {sl6 : Array (Option Value)} {oc6 kV6 dc6 pm6 cd6 ct6 : Value}
    {f7 : Addr} {od7 an7 : Option Addr} {sl7 : Array (Option Value)} {oc7 kV7 dc7 pm7 cd7 ct7 : Value}
    {f8 : Addr} {od8 an8 : Option Addr} {sl8 : Array (Option Value)} {oc8 kV8 dc8 pm8 cd8 ct8 : Value}
    {f9 : Addr} {od9 an9 : Option Addr} {sl9 : Array (Option Value)} {oc9 kV9 dc9 pm9 cd9 ct9 : Value}
    {f10 : Addr} {od10 an10 : Option Addr} {sl10 : Array (Option Value)} {oc10 kV10 dc10 pm10 cd10 ct10 : Value}
    {f11 : Addr} {od11 an11 : Option Addr} {sl11 : Array (Option Value)} {oc11 kV11 dc11 pm11 cd11 ct11 : Value}
    {f12 : Addr} {od12 an12 : Option Addr} {sl12 : Array (Option Value)} {oc12 kV12 dc12 pm12 cd12 ct12 : Value}
    {f13 : Addr} {od13 an13 : Option Addr} {sl13 : Array (Option Value)} {oc13 kV13 dc13 pm13 cd13 ct13 : Value}
    {f14 : Addr} {od14 an14 : Option Addr} {sl14 : Array (Option Value)} {oc14 kV14 dc14 pm14 cd14 ct14 : Value}
    {f15 : Addr} {od15 an15 : Option Addr} {sl15 : Array (Option Value)} {oc15 kV15 dc15 pm15 cd15 ct15 : Value}
    {f16 : Addr} {od16 an16 : Option Addr} {sl16 : Array (Option Value)} {oc16 kV16 dc16 pm16 cd16 ct16 : Value}
    {f17 : Addr} {od17 an17 : Option Addr} {sl17 : Array (Option Value)} {oc17 kV17 dc17 pm17 cd17 ct17 : Value}
    {C_EveryError : Addr}
    {C_BadWord : Addr}
    {C_BadSize : Addr}
    {en_BadWord eq_BadWord : Str} {eN_BadWord : Addr} {eb_BadWord em_BadWord : List Value} {es_BadWord : List Str} {eu_BadWord : List Value} {ea_BadWord : Bool} {eo_BadWord : Option Bool} {ed_BadWord : Option Addr} {e0_BadWord e1_BadWord e2_BadWord e3_BadWord e5_BadWord : Option Value}
    {en_BadSize eq_BadSize : Str} {eN_BadSize : Addr} {eb_BadSize em_BadSize : List Value} {es_BadSize : List Str} {eu_BadSize : List Value} {ea_BadSize : Bool} {eo_BadSize : Option Bool} {ed_BadSize : Option Addr} {e0_BadSize e1_BadSize e2_BadSize e3_BadSize e5_BadSize : Option Value}
    {a_FIGURES : Addr} {o_FIGURES : Obj}
    {a_PLACE_FRONTS : Addr} {o_PLACE_FRONTS : Obj}
    (c_EveryError : PySem.W.nsIn K mainGlobals "EveryError" = some (some (.ref C_EveryError)))
    (c_BadWord : PySem.W.nsIn K mainGlobals "BadWord" = some (some (.ref C_BadWord)))
    (c_BadSize : PySem.W.nsIn K mainGlobals "BadSize" = some (some (.ref C_BadSize)))
    (a0 : PySem.W.nsIn K mainGlobals "is_integer" = some (some (.ref f0)))
    (l0 : K.lookup f0 = some ⟨oc0, od0, .func (PySem.W.fnOf "is_integer" "is_integer" (defArgs s_is_integer) (defBody s_is_integer) (defScope s_is_integer) .none kV0 dc0 pm0 an0 cd0 ct0), sl0⟩)
    (e0 : PySem.W.codeIn K cd0 "is_integer" = true)
    (k0 : PySem.W.keepIn K (.ref f0) = true)
    (a1 : PySem.W.nsIn K mainGlobals "is_from" = some (some (.ref f1)))
    (l1 : K.lookup f1 = some ⟨oc1, od1, .func (PySem.W.fnOf "is_from" "is_from" (defArgs s_is_from) (defBody s_is_from) (defScope s_is_from) .none kV1 dc1 pm1 an1 cd1 ct1), sl1⟩)
    (e1 : PySem.W.codeIn K cd1 "is_from" = true)
    (k1 : PySem.W.keepIn K (.ref f1) = true)
    (a2 : PySem.W.findIn K (.ref C_BadWord) "__init__" = some (some (.ref f2)))
    (l2 : K.lookup f2 = some ⟨oc2, od2, .func (PySem.W.fnOf "__init__" "BadWord.__init__" (defArgs s_BadWord_init) (defBody s_BadWord_init) (defScope s_BadWord_init) .none kV2 dc2 pm2 an2 cd2 ct2), sl2⟩)
    (e2 : PySem.W.codeIn K cd2 "BadWord.__init__" = true)
    (k2 : PySem.W.keepIn K (.ref f2) = true)
    (a3 : PySem.W.findIn K (.ref C_BadSize) "__init__" = some (some (.ref f3)))
    (l3 : K.lookup f3 = some ⟨oc3, od3, .func (PySem.W.fnOf "__init__" "BadSize.__init__" (defArgs s_BadSize_init) (defBody s_BadSize_init) (defScope s_BadSize_init) .none kV3 dc3 pm3 an3 cd3 ct3), sl3⟩)
    (e3 : PySem.W.codeIn K cd3 "BadSize.__init__" = true)
    (k3 : PySem.W.keepIn K (.ref f3) = true)
    (a4 : PySem.W.nsIn K mainGlobals "is_figure_behind" = some (some (.ref f4)))
    (l4 : K.lookup f4 = some ⟨oc4, od4, .func (PySem.W.fnOf "is_figure_behind" "is_figure_behind" (defArgs s_is_figure_behind) (defBody s_is_figure_behind) (defScope s_is_figure_behind) .none kV4 dc4 pm4 an4 cd4 ct4), sl4⟩)
    (e4 : PySem.W.codeIn K cd4 "is_figure_behind" = true)
    (k4 : PySem.W.keepIn K (.ref f4) = true)
    (a5 : PySem.W.nsIn K mainGlobals "is_place_word" = some (some (.ref f5)))
    (l5 : K.lookup f5 = some ⟨oc5, od5, .func (PySem.W.fnOf "is_place_word" "is_place_word" (defArgs s_is_place_word) (defBody s_is_place_word) (defScope s_is_place_word) .none kV5 dc5 pm5 an5 cd5 ct5), sl5⟩)
    (e5 : PySem.W.codeIn K cd5 "is_place_word" = true)
    (k5 : PySem.W.keepIn K (.ref f5) = true)
    (a6 : PySem.W.nsIn K mainGlobals "place_value" = some (some (.ref f6)))
    (l6 : K.lookup f6 = some ⟨oc6, od6, .func (PySem.W.fnOf "place_value" "place_value" (defArgs s_place_value) (defBody s_place_value) (defScope s_place_value) .none kV6 dc6 pm6 an6 cd6 ct6), sl6⟩)
    (e6 : PySem.W.codeIn K cd6 "place_value" = true)
    (k6 : PySem.W.keepIn K (.ref f6) = true)
    (a7 : PySem.W.nsIn K mainGlobals "place_of" = some (some (.ref f7)))
    (l7 : K.lookup f7 = some ⟨oc7, od7, .func (PySem.W.fnOf "place_of" "place_of" (defArgs s_place_of) (defBody s_place_of) (defScope s_place_of) .none kV7 dc7 pm7 an7 cd7 ct7), sl7⟩)
    (e7 : PySem.W.codeIn K cd7 "place_of" = true)
    (k7 : PySem.W.keepIn K (.ref f7) = true)
    (a8 : PySem.W.nsIn K mainGlobals "_law_pen" = some (some (.ref f8)))
    (l8 : K.lookup f8 = some ⟨oc8, od8, .func (PySem.W.fnOf "_law_pen" "_law_pen" (defArgs s__law_pen) (defBody s__law_pen) (defScope s__law_pen) .none kV8 dc8 pm8 an8 cd8 ct8), sl8⟩)
    (e8 : PySem.W.codeIn K cd8 "_law_pen" = true)
    (k8 : PySem.W.keepIn K (.ref f8) = true)
    (a9 : PySem.W.nsIn K mainGlobals "_law_draw" = some (some (.ref f9)))
    (l9 : K.lookup f9 = some ⟨oc9, od9, .func (PySem.W.fnOf "_law_draw" "_law_draw" (defArgs s__law_draw) (defBody s__law_draw) (defScope s__law_draw) .none kV9 dc9 pm9 an9 cd9 ct9), sl9⟩)
    (e9 : PySem.W.codeIn K cd9 "_law_draw" = true)
    (k9 : PySem.W.keepIn K (.ref f9) = true)
    (a10 : PySem.W.nsIn K mainGlobals "_law_pick" = some (some (.ref f10)))
    (l10 : K.lookup f10 = some ⟨oc10, od10, .func (PySem.W.fnOf "_law_pick" "_law_pick" (defArgs s__law_pick) (defBody s__law_pick) (defScope s__law_pick) .none kV10 dc10 pm10 an10 cd10 ct10), sl10⟩)
    (e10 : PySem.W.codeIn K cd10 "_law_pick" = true)
    (k10 : PySem.W.keepIn K (.ref f10) = true)
    (a11 : PySem.W.nsIn K mainGlobals "_law_shuffled" = some (some (.ref f11)))
    (l11 : K.lookup f11 = some ⟨oc11, od11, .func (PySem.W.fnOf "_law_shuffled" "_law_shuffled" (defArgs s__law_shuffled) (defBody s__law_shuffled) (defScope s__law_shuffled) .none kV11 dc11 pm11 an11 cd11 ct11), sl11⟩)
    (e11 : PySem.W.codeIn K cd11 "_law_shuffled" = true)
    (k11 : PySem.W.keepIn K (.ref f11) = true)
    (a12 : PySem.W.nsIn K mainGlobals "_law_place_word" = some (some (.ref f12)))
    (l12 : K.lookup f12 = some ⟨oc12, od12, .func (PySem.W.fnOf "_law_place_word" "_law_place_word" (defArgs s__law_place_word) (defBody s__law_place_word) (defScope s__law_place_word) .none kV12 dc12 pm12 an12 cd12 ct12), sl12⟩)
    (e12 : PySem.W.codeIn K cd12 "_law_place_word" = true)
    (k12 : PySem.W.keepIn K (.ref f12) = true)
    (a13 : PySem.W.nsIn K mainGlobals "_law_value" = some (some (.ref f13)))
    (l13 : K.lookup f13 = some ⟨oc13, od13, .func (PySem.W.fnOf "_law_value" "_law_value" (defArgs s__law_value) (defBody s__law_value) (defScope s__law_value) .none kV13 dc13 pm13 an13 cd13 ct13), sl13⟩)
    (e13 : PySem.W.codeIn K cd13 "_law_value" = true)
    (k13 : PySem.W.keepIn K (.ref f13) = true)
    (a14 : PySem.W.nsIn K mainGlobals "_law_numbers" = some (some (.ref f14)))
    (l14 : K.lookup f14 = some ⟨oc14, od14, .func (PySem.W.fnOf "_law_numbers" "_law_numbers" (defArgs s__law_numbers) (defBody s__law_numbers) (defScope s__law_numbers) .none kV14 dc14 pm14 an14 cd14 ct14), sl14⟩)
    (e14 : PySem.W.codeIn K cd14 "_law_numbers" = true)
    (k14 : PySem.W.keepIn K (.ref f14) = true)
    (a15 : PySem.W.nsIn K mainGlobals "_law_places" = some (some (.ref f15)))
    (l15 : K.lookup f15 = some ⟨oc15, od15, .func (PySem.W.fnOf "_law_places" "_law_places" (defArgs s__law_places) (defBody s__law_places) (defScope s__law_places) .none kV15 dc15 pm15 an15 cd15 ct15), sl15⟩)
    (e15 : PySem.W.codeIn K cd15 "_law_places" = true)
    (k15 : PySem.W.keepIn K (.ref f15) = true)
    (a16 : PySem.W.nsIn K mainGlobals "_law_met" = some (some (.ref f16)))
    (l16 : K.lookup f16 = some ⟨oc16, od16, .func (PySem.W.fnOf "_law_met" "_law_met" (defArgs s__law_met) (defBody s__law_met) (defScope s__law_met) .none kV16 dc16 pm16 an16 cd16 ct16), sl16⟩)
    (e16 : PySem.W.codeIn K cd16 "_law_met" = true)
    (k16 : PySem.W.keepIn K (.ref f16) = true)
    (a17 : PySem.W.nsIn K mainGlobals "law" = some (some (.ref f17)))
    (l17 : K.lookup f17 = some ⟨oc17, od17, .func (PySem.W.fnOf "law" "law" (defArgs s_law) (defBody s_law) (defScope s_law) .none kV17 dc17 pm17 an17 cd17 ct17), sl17⟩)
    (e17 : PySem.W.codeIn K cd17 "law" = true)
    (k17 : PySem.W.keepIn K (.ref f17) = true)
    (xl_BadWord : K.lookup C_BadWord = some (excClassObj en_BadWord eq_BadWord C_BadWord eN_BadWord eb_BadWord em_BadWord true es_BadWord eu_BadWord ea_BadWord eo_BadWord ed_BadWord e0_BadWord e1_BadWord e2_BadWord e3_BadWord e5_BadWord "ValueError.__new__"))
    (xr_BadWord : PySem.HandSPX.refsVE em_BadWord = true)
    (xsa_BadWord : PySem.W.findIn K (.ref C_BadWord) "__setattr__" = some (some (.builtin "object.__setattr__")))
    (xex_BadWord : PySem.W.subIn K (.ref C_BadWord) (.type "BaseException") = some true)
    (xty_BadWord : PySem.W.typeIn K (.ref C_BadWord) = some (.type "type"))
    (xkc_BadWord : PySem.W.keepIn K (.ref C_BadWord) = true)
    (xga_BadWord : PySem.W.findIn K (.ref C_BadWord) "__getattribute__" = some (some (.builtin "BaseException.__getattribute__")))
    (xgg_BadWord : PySem.W.findIn K (.ref C_BadWord) "__getattr__" = some none)
    (xhd_BadWord : PySem.W.hasDictIn K C_BadWord = true)
    (xha_BadWord : PySem.W.findIn K (.ref C_BadWord) "__class__" = some (some (.builtin "object.__class__")))
    (xhm_BadWord : PySem.W.mroIn K C_BadWord (.type "object") = some true)
    (xno_BadWord : PySem.W.findIn K (.ref C_BadWord) "index" = some none)
    (xhn_BadWord : PySem.W.specialIn K (.builtin "object.__class__") "__get__" = some (some (.builtin "getset_descriptor.__get__")))
    (xht_BadWord : PySem.W.takesIn K (.builtin "object.__class__") = some true)
    (xti_BadWord : PySem.W.typeIn K (.ref f2) = some (.type "function"))
    (xs_BadWord_BadSize : PySem.W.subIn K (.ref C_BadWord) (.ref C_BadSize) = some false)
    (xs_BadWord_BadWord : PySem.W.subIn K (.ref C_BadWord) (.ref C_BadWord) = some true)
    (ok_BadWord_EveryError : PySem.W.kitOne K (.ref C_BadWord) (.ref C_EveryError) = some true)
    (xl_BadSize : K.lookup C_BadSize = some (excClassObj en_BadSize eq_BadSize C_BadSize eN_BadSize eb_BadSize em_BadSize true es_BadSize eu_BadSize ea_BadSize eo_BadSize ed_BadSize e0_BadSize e1_BadSize e2_BadSize e3_BadSize e5_BadSize "ValueError.__new__"))
    (xr_BadSize : PySem.HandSPX.refsVE em_BadSize = true)
    (xsa_BadSize : PySem.W.findIn K (.ref C_BadSize) "__setattr__" = some (some (.builtin "object.__setattr__")))
    (xex_BadSize : PySem.W.subIn K (.ref C_BadSize) (.type "BaseException") = some true)
    (xty_BadSize : PySem.W.typeIn K (.ref C_BadSize) = some (.type "type"))
    (xkc_BadSize : PySem.W.keepIn K (.ref C_BadSize) = true)
    (xga_BadSize : PySem.W.findIn K (.ref C_BadSize) "__getattribute__" = some (some (.builtin "BaseException.__getattribute__")))
    (xgg_BadSize : PySem.W.findIn K (.ref C_BadSize) "__getattr__" = some none)
    (xhd_BadSize : PySem.W.hasDictIn K C_BadSize = true)
    (xha_BadSize : PySem.W.findIn K (.ref C_BadSize) "__class__" = some (some (.builtin "object.__class__")))
    (xhm_BadSize : PySem.W.mroIn K C_BadSize (.type "object") = some true)
    (xno_BadSize : PySem.W.findIn K (.ref C_BadSize) "size" = some none)
    (xhn_BadSize : PySem.W.specialIn K (.builtin "object.__class__") "__get__" = some (some (.builtin "getset_descriptor.__get__")))
    (xht_BadSize : PySem.W.takesIn K (.builtin "object.__class__") = some true)
    (xti_BadSize : PySem.W.typeIn K (.ref f3) = some (.type "function"))
    (xs_BadSize_BadSize : PySem.W.subIn K (.ref C_BadSize) (.ref C_BadSize) = some true)
    (xs_BadSize_BadWord : PySem.W.subIn K (.ref C_BadSize) (.ref C_BadWord) = some false)
    (ok_BadSize_EveryError : PySem.W.kitOne K (.ref C_BadSize) (.ref C_EveryError) = some true)
    (z_bool : PySem.W.nsIn K mainGlobals "bool" = some none)
    (z_int : PySem.W.nsIn K mainGlobals "int" = some none)
    (z_isinstance : PySem.W.nsIn K mainGlobals "isinstance" = some none)
    (z_len : PySem.W.nsIn K mainGlobals "len" = some none)
    (z_list : PySem.W.nsIn K mainGlobals "list" = some none)
    (z_range : PySem.W.nsIn K mainGlobals "range" = some none)
    (z_str : PySem.W.nsIn K mainGlobals "str" = some none)
    (m_FIGURES : PySem.W.nsIn K mainGlobals "FIGURES" = some (some (.ref a_FIGURES)))
    (l_FIGURES : K.lookup a_FIGURES = some o_FIGURES)
    (h_FIGURES : tupB o_FIGURES [.str "1", .str "2", .str "3", .str "4", .str "5", .str "6", .str "7", .str "8", .str "9"] = true)
    (m_PLACE_FRONTS : PySem.W.nsIn K mainGlobals "PLACE_FRONTS" = some (some (.ref a_PLACE_FRONTS)))
    (l_PLACE_FRONTS : K.lookup a_PLACE_FRONTS = some o_PLACE_FRONTS)
    (h_PLACE_FRONTS : tupB o_PLACE_FRONTS [.str "", .str "-", .str "half-", .str "half+"] = true)
    : ∃ fd : FuncData, (∀ (s : Shared) (v : Value), BindsTo s fd ⟨[v], []⟩ [("script", v)]) ∧ ∀ base : Heap, K.In base → base.Ns mainGlobals mg → FnOk l.prog w K mg base CX0 5 fa fd ["script"] (spLaw K) := by
  have e := hfa.symm.trans (PySem.W.mg_of X G a17)
  cases e
  let a : Ad := ⟨f0, PySem.W.fnOf "is_integer" "is_integer" (defArgs s_is_integer) (defBody s_is_integer) (defScope s_is_integer) .none kV0 dc0 pm0 an0 cd0 ct0, f1, PySem.W.fnOf "is_from" "is_from" (defArgs s_is_from) (defBody s_is_from) (defScope s_is_from) .none kV1 dc1 pm1 an1 cd1 ct1, f2, PySem.W.fnOf "__init__" "BadWord.__init__" (defArgs s_BadWord_init) (defBody s_BadWord_init) (defScope s_BadWord_init) .none kV2 dc2 pm2 an2 cd2 ct2, f3, PySem.W.fnOf "__init__" "BadSize.__init__" (defArgs s_BadSize_init) (defBody s_BadSize_init) (defScope s_BadSize_init) .none kV3 dc3 pm3 an3 cd3 ct3, f4, PySem.W.fnOf "is_figure_behind" "is_figure_behind" (defArgs s_is_figure_behind) (defBody s_is_figure_behind) (defScope s_is_figure_behind) .none kV4 dc4 pm4 an4 cd4 ct4, f5, PySem.W.fnOf "is_place_word" "is_place_word" (defArgs s_is_place_word) (defBody s_is_place_word) (defScope s_is_place_word) .none kV5 dc5 pm5 an5 cd5 ct5, f6, PySem.W.fnOf "place_value" "place_value" (defArgs s_place_value) (defBody s_place_value) (defScope s_place_value) .none kV6 dc6 pm6 an6 cd6 ct6, f7, PySem.W.fnOf "place_of" "place_of" (defArgs s_place_of) (defBody s_place_of) (defScope s_place_of) .none kV7 dc7 pm7 an7 cd7 ct7, f8, PySem.W.fnOf "_law_pen" "_law_pen" (defArgs s__law_pen) (defBody s__law_pen) (defScope s__law_pen) .none kV8 dc8 pm8 an8 cd8 ct8, f9, PySem.W.fnOf "_law_draw" "_law_draw" (defArgs s__law_draw) (defBody s__law_draw) (defScope s__law_draw) .none kV9 dc9 pm9 an9 cd9 ct9, f10, PySem.W.fnOf "_law_pick" "_law_pick" (defArgs s__law_pick) (defBody s__law_pick) (defScope s__law_pick) .none kV10 dc10 pm10 an10 cd10 ct10, f11, PySem.W.fnOf "_law_shuffled" "_law_shuffled" (defArgs s__law_shuffled) (defBody s__law_shuffled) (defScope s__law_shuffled) .none kV11 dc11 pm11 an11 cd11 ct11, f12, PySem.W.fnOf "_law_place_word" "_law_place_word" (defArgs s__law_place_word) (defBody s__law_place_word) (defScope s__law_place_word) .none kV12 dc12 pm12 an12 cd12 ct12, f13, PySem.W.fnOf "_law_value" "_law_value" (defArgs s__law_value) (defBody s__law_value) (defScope s__law_value) .none kV13 dc13 pm13 an13 cd13 ct13, f14, PySem.W.fnOf "_law_numbers" "_law_numbers" (defArgs s__law_numbers) (defBody s__law_numbers) (defScope s__law_numbers) .none kV14 dc14 pm14 an14 cd14 ct14, f15, PySem.W.fnOf "_law_places" "_law_places" (defArgs s__law_places) (defBody s__law_places) (defScope s__law_places) .none kV15 dc15 pm15 an15 cd15 ct15, f16, PySem.W.fnOf "_law_met" "_law_met" (defArgs s__law_met) (defBody s__law_met) (defScope s__law_met) .none kV16 dc16 pm16 an16 cd16 ct16, fa, PySem.W.fnOf "law" "law" (defArgs s_law) (defBody s_law) (defScope s_law) .none kV17 dc17 pm17 an17 cd17 ct17, C_EveryError, C_BadWord, C_BadSize, a_FIGURES, a_PLACE_FRONTS⟩
  have F0 : Fun K "is_integer" "is_integer" s_is_integer a.f_is_integer a.d_is_integer := fun_mk (st := s_is_integer) l0 e0 k0
  have F1 : Fun K "is_from" "is_from" s_is_from a.f_is_from a.d_is_from := fun_mk (st := s_is_from) l1 e1 k1
  have F2 : Fun K "__init__" "BadWord.__init__" s_BadWord_init a.f_BadWord_init a.d_BadWord_init := fun_mk (st := s_BadWord_init) l2 e2 k2
  have F3 : Fun K "__init__" "BadSize.__init__" s_BadSize_init a.f_BadSize_init a.d_BadSize_init := fun_mk (st := s_BadSize_init) l3 e3 k3
  have F4 : Fun K "is_figure_behind" "is_figure_behind" s_is_figure_behind a.f_is_figure_behind a.d_is_figure_behind := fun_mk (st := s_is_figure_behind) l4 e4 k4
  have F5 : Fun K "is_place_word" "is_place_word" s_is_place_word a.f_is_place_word a.d_is_place_word := fun_mk (st := s_is_place_word) l5 e5 k5
  have F6 : Fun K "place_value" "place_value" s_place_value a.f_place_value a.d_place_value := fun_mk (st := s_place_value) l6 e6 k6
  have F7 : Fun K "place_of" "place_of" s_place_of a.f_place_of a.d_place_of := fun_mk (st := s_place_of) l7 e7 k7
  have F8 : Fun K "_law_pen" "_law_pen" s__law_pen a.f__law_pen a.d__law_pen := fun_mk (st := s__law_pen) l8 e8 k8
  have F9 : Fun K "_law_draw" "_law_draw" s__law_draw a.f__law_draw a.d__law_draw := fun_mk (st := s__law_draw) l9 e9 k9
  have F10 : Fun K "_law_pick" "_law_pick" s__law_pick a.f__law_pick a.d__law_pick := fun_mk (st := s__law_pick) l10 e10 k10
  have F11 : Fun K "_law_shuffled" "_law_shuffled" s__law_shuffled a.f__law_shuffled a.d__law_shuffled := fun_mk (st := s__law_shuffled) l11 e11 k11
  have F12 : Fun K "_law_place_word" "_law_place_word" s__law_place_word a.f__law_place_word a.d__law_place_word := fun_mk (st := s__law_place_word) l12 e12 k12
  have F13 : Fun K "_law_value" "_law_value" s__law_value a.f__law_value a.d__law_value := fun_mk (st := s__law_value) l13 e13 k13
  have F14 : Fun K "_law_numbers" "_law_numbers" s__law_numbers a.f__law_numbers a.d__law_numbers := fun_mk (st := s__law_numbers) l14 e14 k14
  have F15 : Fun K "_law_places" "_law_places" s__law_places a.f__law_places a.d__law_places := fun_mk (st := s__law_places) l15 e15 k15
  have F16 : Fun K "_law_met" "_law_met" s__law_met a.f__law_met a.d__law_met := fun_mk (st := s__law_met) l16 e16 k16
  have F17 : Fun K "law" "law" s_law a.f_law a.d_law := fun_mk (st := s_law) l17 e17 k17
  have T : Tx w K mg a := ⟨(F0),
    (F0.binds (ps := ["value"]) fun _ _ _ _ _ _ us hl => match us, hl with | [_], _ => rfl),
    (PySem.W.mg_of X G a0),
    (F1),
    (F1.binds (ps := ["value", "low"]) fun _ _ _ _ _ _ us hl => match us, hl with | [_, _], _ => rfl),
    (PySem.W.mg_of X G a1),
    (F2),
    (F2.binds (ps := ["self", "index"]) fun _ _ _ _ _ _ us hl => match us, hl with | [_, _], _ => rfl),
    (F3),
    (F3.binds (ps := ["self", "size"]) fun _ _ _ _ _ _ us hl => match us, hl with | [_, _], _ => rfl),
    (F4),
    (F4.binds (ps := ["fronts", "text"]) fun _ _ _ _ _ _ us hl => match us, hl with | [_, _], _ => rfl),
    (PySem.W.mg_of X G a4),
    (F5),
    (F5.binds (ps := ["text"]) fun _ _ _ _ _ _ us hl => match us, hl with | [_], _ => rfl),
    (PySem.W.mg_of X G a5),
    (F6),
    (F6.binds (ps := ["word", "size"]) fun _ _ _ _ _ _ us hl => match us, hl with | [_, _], _ => rfl),
    (PySem.W.mg_of X G a6),
    (F7),
    (F7.binds (ps := ["word", "size"]) fun _ _ _ _ _ _ us hl => match us, hl with | [_, _], _ => rfl),
    (PySem.W.mg_of X G a7),
    (F8),
    (F8.binds (ps := ["script"]) fun _ _ _ _ _ _ us hl => match us, hl with | [_], _ => rfl),
    (PySem.W.mg_of X G a8),
    (F9),
    (F9.binds (ps := ["pen", "many"]) fun _ _ _ _ _ _ us hl => match us, hl with | [_, _], _ => rfl),
    (PySem.W.mg_of X G a9),
    (F10),
    (F10.binds (ps := ["pen", "some"]) fun _ _ _ _ _ _ us hl => match us, hl with | [_, _], _ => rfl),
    (PySem.W.mg_of X G a10),
    (F11),
    (F11.binds (ps := ["pen", "some"]) fun _ _ _ _ _ _ us hl => match us, hl with | [_, _], _ => rfl),
    (PySem.W.mg_of X G a11),
    (F12),
    (F12.binds (ps := ["pen"]) fun _ _ _ _ _ _ us hl => match us, hl with | [_], _ => rfl),
    (PySem.W.mg_of X G a12),
    (F13),
    (F13.binds (ps := ["word", "k"]) fun _ _ _ _ _ _ us hl => match us, hl with | [_, _], _ => rfl),
    (PySem.W.mg_of X G a13),
    (F14),
    (F14.binds (ps := []) fun _ _ _ _ _ _ us hl => match us, hl with | [], _ => rfl),
    (PySem.W.mg_of X G a14),
    (F15),
    (F15.binds (ps := []) fun _ _ _ _ _ _ us hl => match us, hl with | [], _ => rfl),
    (PySem.W.mg_of X G a15),
    (F16),
    (F16.binds (ps := ["word", "size"]) fun _ _ _ _ _ _ us hl => match us, hl with | [_, _], _ => rfl),
    (PySem.W.mg_of X G a16),
    (F17),
    (F17.binds (ps := ["script"]) fun _ _ _ _ _ _ us hl => match us, hl with | [_], _ => rfl),
    (PySem.W.mg_of X G a17),
    (PySem.W.mg_of X G c_EveryError),
    (PySem.W.mg_of X G c_BadWord),
    (PySem.W.mg_of X G c_BadSize),
    (⟨⟨⟨en_BadWord, eq_BadWord, eN_BadWord, eb_BadWord, em_BadWord, es_BadWord, eu_BadWord, ea_BadWord, eo_BadWord, ed_BadWord, e0_BadWord, e1_BadWord, e2_BadWord, e3_BadWord, e5_BadWord, xl_BadWord, xr_BadWord⟩, xsa_BadWord, xex_BadWord, xty_BadWord, xkc_BadWord⟩, a2, xti_BadWord, xno_BadWord, ⟨xga_BadWord, xgg_BadWord, xex_BadWord, xhd_BadWord⟩, ⟨xga_BadWord, xgg_BadWord, xex_BadWord, xhd_BadWord, xha_BadWord, xhn_BadWord, xht_BadWord, xhm_BadWord⟩⟩),
    (exm_ofHd xex_BadSize xhd_BadSize xty_BadSize xs_BadWord_BadSize),
    (exm_ofHd xex_BadWord xhd_BadWord xty_BadWord xs_BadWord_BadWord),
    (ok_BadWord_EveryError),
    (⟨⟨⟨en_BadSize, eq_BadSize, eN_BadSize, eb_BadSize, em_BadSize, es_BadSize, eu_BadSize, ea_BadSize, eo_BadSize, ed_BadSize, e0_BadSize, e1_BadSize, e2_BadSize, e3_BadSize, e5_BadSize, xl_BadSize, xr_BadSize⟩, xsa_BadSize, xex_BadSize, xty_BadSize, xkc_BadSize⟩, a3, xti_BadSize, xno_BadSize, ⟨xga_BadSize, xgg_BadSize, xex_BadSize, xhd_BadSize⟩, ⟨xga_BadSize, xgg_BadSize, xex_BadSize, xhd_BadSize, xha_BadSize, xhn_BadSize, xht_BadSize, xhm_BadSize⟩⟩),
    (exm_ofHd xex_BadSize xhd_BadSize xty_BadSize xs_BadSize_BadSize),
    (exm_ofHd xex_BadWord xhd_BadWord xty_BadWord xs_BadSize_BadWord),
    (ok_BadSize_EveryError),
    (PySem.W.mg_none_of X G z_bool),
    (PySem.W.mg_none_of X G z_int),
    (PySem.W.mg_none_of X G z_isinstance),
    (PySem.W.mg_none_of X G z_len),
    (PySem.W.mg_none_of X G z_list),
    (PySem.W.mg_none_of X G z_range),
    (PySem.W.mg_none_of X G z_str),
    (PySem.W.mg_of X G m_FIGURES),
    (fun H => tupB_ok l_FIGURES h_FIGURES),
    (PySem.W.mg_of X G m_PLACE_FRONTS),
    (fun H => tupB_ok l_PLACE_FRONTS h_PLACE_FRONTS)⟩
  exact ⟨a.d_law, fun s v => .of_eq rfl, fun base _ _ => ok_law T⟩
end Pf05
open PySem PySem.W PyProof.Rows
set_option maxRecDepth 100000 in
set_option maxHeartbeats 0 in
theorem PySem.Challenge.cw_everyorder_k05_place_words_and_their_val_holds : PySem.Challenge.rw_everyorder_k05_place_words_and_their_val.Holds := by
  w_on; o_law; k_head; (case hw => w_witness2)
  k_fill
  refine L2.walk_of (l := PySem.Challenge.rw_everyorder_k05_place_words_and_their_val) (n := 63) (k := 5) (x := "script") (CX := fun _ => L2.CX0) (sp := fun w => Pf05.spLaw _) rfl (by decide) rfl ⟨rfl, by decide, by decide⟩ (fun w h Y => PySem.W.kIn_of Y) ?F (fun _ _ a ns hl _ hS => ⟨a, ns, rfl, hS, hl, fun _ => rfl⟩) (fun _ _ _ _ _ h => h)
  case F =>
    intro w mg fa h KX G hmg
    refine' Pf05.all_mk KX G hmg ?c_EveryError ?c_BadWord ?c_BadSize ?a0 ?l0 ?e0 ?k0 ?a1 ?l1 ?e1 ?k1 ?a2 ?l2 ?e2 ?k2 ?a3 ?l3 ?e3 ?k3 ?a4 ?l4 ?e4 ?k4 ?a5 ?l5 ?e5 ?k5 ?a6 ?l6 ?e6 ?k6 ?a7 ?l7 ?e7 ?k7 ?a8 ?l8 ?e8 ?k8 ?a9 ?l9 ?e9 ?k9 ?a10 ?l10 ?e10 ?k10 ?a11 ?l11 ?e11 ?k11 ?a12 ?l12 ?e12 ?k12 ?a13 ?l13 ?e13 ?k13 ?a14 ?l14 ?e14 ?k14 ?a15 ?l15 ?e15 ?k15 ?a16 ?l16 ?e16 ?k16 ?a17 ?l17 ?e17 ?k17 ?xl_BadWord ?xr_BadWord ?xsa_BadWord ?xex_BadWord ?xty_BadWord ?xkc_BadWord ?xga_BadWord ?xgg_BadWord ?xhd_BadWord ?xha_BadWord ?xhm_BadWord ?xno_BadWord ?xhn_BadWord ?xht_BadWord ?xti_BadWord ?xs_BadWord_BadSize ?xs_BadWord_BadWord ?ok_BadWord_EveryError ?xl_BadSize ?xr_BadSize ?xsa_BadSize ?xex_BadSize ?xty_BadSize ?xkc_BadSize ?xga_BadSize ?xgg_BadSize ?xhd_BadSize ?xha_BadSize ?xhm_BadSize ?xno_BadSize ?xhn_BadSize ?xht_BadSize ?xti_BadSize ?xs_BadSize_BadSize ?xs_BadSize_BadWord ?ok_BadSize_EveryError ?z_bool ?z_int ?z_isinstance ?z_len ?z_list ?z_range ?z_str ?m_FIGURES ?l_FIGURES ?h_FIGURES ?m_PLACE_FRONTS ?l_PLACE_FRONTS ?h_PLACE_FRONTS
    (case c_EveryError => k_is)
    (case c_BadWord => k_is)
    (case c_BadSize => k_is)
    (case a0 => k_is)
    (case l0 => k_is)
    (case e0 => k_is)
    (case k0 => k_is)
    (case a1 => k_is)
    (case l1 => k_is)
    (case e1 => k_is)
    (case k1 => k_is)
    (case a2 => k_is)
    (case l2 => k_is)
    (case e2 => k_is)
    (case k2 => k_is)
    (case a3 => k_is)
    (case l3 => k_is)
    (case e3 => k_is)
    (case k3 => k_is)
    (case a4 => k_is)
    (case l4 => k_is)
    (case e4 => k_is)
    (case k4 => k_is)
    (case a5 => k_is)
    (case l5 => k_is)
    (case e5 => k_is)
    (case k5 => k_is)
    (case a6 => k_is)
    (case l6 => k_is)
    (case e6 => k_is)
    (case k6 => k_is)
    (case a7 => k_is)
    (case l7 => k_is)
    (case e7 => k_is)
    (case k7 => k_is)
    (case a8 => k_is)
    (case l8 => k_is)
    (case e8 => k_is)
    (case k8 => k_is)
    (case a9 => k_is)
    (case l9 => k_is)
    (case e9 => k_is)
    (case k9 => k_is)
    (case a10 => k_is)
    (case l10 => k_is)
    (case e10 => k_is)
    (case k10 => k_is)
    (case a11 => k_is)
    (case l11 => k_is)
    (case e11 => k_is)
    (case k11 => k_is)
    (case a12 => k_is)
    (case l12 => k_is)
    (case e12 => k_is)
    (case k12 => k_is)
    (case a13 => k_is)
    (case l13 => k_is)
    (case e13 => k_is)
    (case k13 => k_is)
    (case a14 => k_is)
    (case l14 => k_is)
    (case e14 => k_is)
    (case k14 => k_is)
    (case a15 => k_is)
    (case l15 => k_is)
    (case e15 => k_is)
    (case k15 => k_is)
    (case a16 => k_is)
    (case l16 => k_is)
    (case e16 => k_is)
    (case k16 => k_is)
    (case a17 => k_is)
    (case l17 => k_is)
    (case e17 => k_is)
    (case k17 => k_is)
    (case xl_BadWord => k_is)
    (case xr_BadWord => first | rfl | decide +kernel)
    (case xsa_BadWord => k_is)
    (case xex_BadWord => k_is)
    (case xty_BadWord => k_is)
    (case xkc_BadWord => k_is)
    (case xga_BadWord => k_is)
    (case xgg_BadWord => k_is)
    (case xhd_BadWord => k_is)
    (case xha_BadWord => k_is)
    (case xhm_BadWord => k_is)
    (case xno_BadWord => k_is)
    (case xhn_BadWord => k_is)
    (case xht_BadWord => k_is)
    (case xti_BadWord => k_is)
    (case xs_BadWord_BadSize => k_is)
    (case xs_BadWord_BadWord => k_is)
    (case ok_BadWord_EveryError => kit_is)
    (case xl_BadSize => k_is)
    (case xr_BadSize => first | rfl | decide +kernel)
    (case xsa_BadSize => k_is)
    (case xex_BadSize => k_is)
    (case xty_BadSize => k_is)
    (case xkc_BadSize => k_is)
    (case xga_BadSize => k_is)
    (case xgg_BadSize => k_is)
    (case xhd_BadSize => k_is)
    (case xha_BadSize => k_is)
    (case xhm_BadSize => k_is)
    (case xno_BadSize => k_is)
    (case xhn_BadSize => k_is)
    (case xht_BadSize => k_is)
    (case xti_BadSize => k_is)
    (case xs_BadSize_BadSize => k_is)
    (case xs_BadSize_BadWord => k_is)
    (case ok_BadSize_EveryError => kit_is)
    (case z_bool => k_is)
    (case z_int => k_is)
    (case z_isinstance => k_is)
    (case z_len => k_is)
    (case z_list => k_is)
    (case z_range => k_is)
    (case z_str => k_is)
    (case m_FIGURES => k_is)
    (case l_FIGURES => k_is)
    (case h_FIGURES => first | rfl | decide +kernel)
    (case m_PLACE_FRONTS => k_is)
    (case l_PLACE_FRONTS => k_is)
    (case h_PLACE_FRONTS => first | rfl | decide +kernel)
