import PyProof.Rows.All
import Wide.All
import OpenK.AllK
import Wide.FinOn
import HandS.ForMost
import HandS.Exc
import HandS.ExcOwn
import HandS.ExcField
import HandS.ExcIs
import HandS.ExcInit
import HandS.WordsExc
import HandS.TryMany
import KE.KExcIs
import KE.KIsAll
import KE.RegKIsAll
import HandS.Codes
import HandS.Conv
import HandS.IsInst
import HandS.Style
import HandS.Walk
import HandS.Wide
import KE.GoesEnum
import KE.GoesMore
import HandS.More
import HandS.StrMore
import KE.GoesEnumKw
import PyProof.Rows.CallKwBuiltin
import HandS.Deep
import HandS.Star
import HandS.Text
import HandS.SortInts
import KE.KSortedM
import HandS.ExcValue
import HandS.ForMost
import PySem.Challenge.RW_everyorder_k00_errors_made_from_their_fi
set_option Elab.async false
set_option linter.all false
set_option maxRecDepth 100000
set_option maxHeartbeats 4000000
namespace Pf00
open PySem PySem.Spec PyProof.Rows L2
/-! ### the text by places -/
def topS (i : Nat) : Stmt := PySem.Challenge.pw_everyorder_k00_errors_made_from_their_fi.main.body.getD i (.Pass ⟨0, 0, 0, 0⟩)
abbrev s_BadWord_init : Stmt := inClass (topS 2) 0
abbrev s_BadText_init : Stmt := inClass (topS 3) 0
abbrev s_BadSize_init : Stmt := inClass (topS 4) 0
abbrev s_BadCall_init : Stmt := inClass (topS 5) 0
abbrev s_BadNumber_init : Stmt := inClass (topS 6) 0
abbrev s_BadPlace_init : Stmt := inClass (topS 7) 0
abbrev s_BadThing_init : Stmt := inClass (topS 8) 0
abbrev s_BadRow_init : Stmt := inClass (topS 9) 0
abbrev s_NotWhole_init : Stmt := inClass (topS 10) 0
abbrev s_NotClosed_init : Stmt := inClass (topS 11) 0
abbrev s_NoLevel_init : Stmt := inClass (topS 12) 0
abbrev s_NoList_init : Stmt := inClass (topS 13) 0
abbrev s__law_pen : Stmt := topS 17
abbrev s__law_draw : Stmt := topS 18
abbrev s__law_pick : Stmt := topS 19
abbrev s__law_made : Stmt := topS 20
abbrev s__law_kinds : Stmt := topS 21
abbrev s_law : Stmt := topS 22
theorem sc_BadWord_init : FnScope ["self", "index"] ["self", "index"] (defScope s_BadWord_init) := ⟨rfl, rfl, rfl, by decide +kernel, rfl, by decide +kernel, by decide +kernel⟩
theorem sc_BadText_init : FnScope ["self", "line"] ["self", "line"] (defScope s_BadText_init) := ⟨rfl, rfl, rfl, by decide +kernel, rfl, by decide +kernel, by decide +kernel⟩
theorem sc_BadSize_init : FnScope ["self", "size"] ["self", "size"] (defScope s_BadSize_init) := ⟨rfl, rfl, rfl, by decide +kernel, rfl, by decide +kernel, by decide +kernel⟩
theorem sc_BadCall_init : FnScope ["self", "call"] ["self", "call"] (defScope s_BadCall_init) := ⟨rfl, rfl, rfl, by decide +kernel, rfl, by decide +kernel, by decide +kernel⟩
theorem sc_BadNumber_init : FnScope ["self", "number"] ["self", "number"] (defScope s_BadNumber_init) := ⟨rfl, rfl, rfl, by decide +kernel, rfl, by decide +kernel, by decide +kernel⟩
theorem sc_BadPlace_init : FnScope ["self", "place"] ["self", "place"] (defScope s_BadPlace_init) := ⟨rfl, rfl, rfl, by decide +kernel, rfl, by decide +kernel, by decide +kernel⟩
theorem sc_BadThing_init : FnScope ["self", "thing"] ["self", "thing"] (defScope s_BadThing_init) := ⟨rfl, rfl, rfl, by decide +kernel, rfl, by decide +kernel, by decide +kernel⟩
theorem sc_BadRow_init : FnScope ["self", "index"] ["self", "index"] (defScope s_BadRow_init) := ⟨rfl, rfl, rfl, by decide +kernel, rfl, by decide +kernel, by decide +kernel⟩
theorem sc_NotWhole_init : FnScope ["self", "size"] ["self", "size"] (defScope s_NotWhole_init) := ⟨rfl, rfl, rfl, by decide +kernel, rfl, by decide +kernel, by decide +kernel⟩
theorem sc_NotClosed_init : FnScope ["self", "size"] ["self", "size"] (defScope s_NotClosed_init) := ⟨rfl, rfl, rfl, by decide +kernel, rfl, by decide +kernel, by decide +kernel⟩
theorem sc_NoLevel_init : FnScope ["self", "size"] ["self", "size"] (defScope s_NoLevel_init) := ⟨rfl, rfl, rfl, by decide +kernel, rfl, by decide +kernel, by decide +kernel⟩
theorem sc_NoList_init : FnScope ["self", "size"] ["self", "size"] (defScope s_NoList_init) := ⟨rfl, rfl, rfl, by decide +kernel, rfl, by decide +kernel, by decide +kernel⟩
theorem sc__law_pen : FnScope ["script"] ["script"] (defScope s__law_pen) := ⟨rfl, rfl, rfl, by decide +kernel, rfl, by decide +kernel, by decide +kernel⟩
theorem sc__law_draw : FnScope ["pen", "many", "digit", "at", "cell", "mixed"] ["pen", "many"] (defScope s__law_draw) := ⟨rfl, rfl, rfl, by decide +kernel, rfl, by decide +kernel, by decide +kernel⟩
theorem sc__law_pick : FnScope ["pen", "some"] ["pen", "some"] (defScope s__law_pick) := ⟨rfl, rfl, rfl, by decide +kernel, rfl, by decide +kernel, by decide +kernel⟩
theorem sc__law_made : FnScope ["k", "worth", "e"] ["k", "worth"] (defScope s__law_made) := ⟨rfl, rfl, rfl, by decide +kernel, rfl, by decide +kernel, by decide +kernel⟩
theorem sc__law_kinds : FnScope ["e", "found"] ["e"] (defScope s__law_kinds) := ⟨rfl, rfl, rfl, by decide +kernel, rfl, by decide +kernel, by decide +kernel⟩
theorem sc_law : FnScope ["script", "pen", "k", "worth", "error", "kept", "j"] ["script"] (defScope s_law) := ⟨rfl, rfl, rfl, by decide +kernel, rfl, by decide +kernel, by decide +kernel⟩
/-- where the defs and classes stand -/
structure Ad where
  f_BadWord_init : Addr
  d_BadWord_init : FuncData
  f_BadText_init : Addr
  d_BadText_init : FuncData
  f_BadSize_init : Addr
  d_BadSize_init : FuncData
  f_BadCall_init : Addr
  d_BadCall_init : FuncData
  f_BadNumber_init : Addr
  d_BadNumber_init : FuncData
  f_BadPlace_init : Addr
  d_BadPlace_init : FuncData
  f_BadThing_init : Addr
  d_BadThing_init : FuncData
  f_BadRow_init : Addr
  d_BadRow_init : FuncData
  f_NotWhole_init : Addr
  d_NotWhole_init : FuncData
  f_NotClosed_init : Addr
  d_NotClosed_init : FuncData
  f_NoLevel_init : Addr
  d_NoLevel_init : FuncData
  f_NoList_init : Addr
  d_NoList_init : FuncData
  f__law_pen : Addr
  d__law_pen : FuncData
  f__law_draw : Addr
  d__law_draw : FuncData
  f__law_pick : Addr
  d__law_pick : FuncData
  f__law_made : Addr
  d__law_made : FuncData
  f__law_kinds : Addr
  d__law_kinds : FuncData
  f_law : Addr
  d_law : FuncData
  C_EveryError : Addr
  C_BadWord : Addr
  C_BadText : Addr
  C_BadSize : Addr
  C_BadCall : Addr
  C_BadNumber : Addr
  C_BadPlace : Addr
  C_BadThing : Addr
  C_BadRow : Addr
  C_NotWhole : Addr
  C_NotClosed : Addr
  C_NoLevel : Addr
  C_NoList : Addr
  C_Mixed : Addr
  C_NothingToUndo : Addr
/-- isinstance of a caught error that has its own dict -/
structure ExcD (K : PySem.W.Frag) (D : Addr) : Prop where
  hg : PySem.W.findIn K (.ref D) "__getattribute__" = some (some (.builtin "BaseException.__getattribute__"))
  hk : PySem.W.findIn K (.ref D) "__getattr__" = some none
  hs : PySem.W.subIn K (.ref D) (.type "BaseException") = some true
  hd : PySem.W.hasDictIn K D = true
  ha : PySem.W.findIn K (.ref D) "__class__" = some (some (.builtin "object.__class__"))
  hn : PySem.W.specialIn K (.builtin "object.__class__") "__get__" = some (some (.builtin "getset_descriptor.__get__"))
  ht : PySem.W.takesIn K (.builtin "object.__class__") = some true
  hm : PySem.W.mroIn K D (.type "object") = some true
/-- an own error class: made, its field read, asked by isinstance -/
structure ErrC (K : PySem.W.Frag) (C fI : Addr) (f : Str) : Prop where
  o : OexC K C
  ini : PySem.W.findIn K (.ref C) "__init__" = some (some (.ref fI))
  tin : PySem.W.typeIn K (.ref fI) = some (.type "function")
  no : PySem.W.findIn K (.ref C) f = some none
  x : XfC K C
  i : ExcD K C
/-- an own error class without own __init__ -/
structure ErrZ (K : PySem.W.Frag) (C : Addr) : Prop where
  x : PySem.W.excIn K C [.type "ValueError", .type "Exception", .type "BaseException", .type "object"] "ValueError.__new__" = true
  k : PySem.W.keepIn K (.ref C) = true
  i : ExcD K C
/-- what the top has written -/
structure Tx (w : World) (K : PySem.W.Frag) (mg : Str → Option Value) (a : Ad) : Prop where
  F_BadWord_init : Fun K "__init__" "BadWord.__init__" s_BadWord_init a.f_BadWord_init a.d_BadWord_init
  b_BadWord_init : Binds K a.d_BadWord_init ["self", "index"] []
  F_BadText_init : Fun K "__init__" "BadText.__init__" s_BadText_init a.f_BadText_init a.d_BadText_init
  b_BadText_init : Binds K a.d_BadText_init ["self", "line"] []
  F_BadSize_init : Fun K "__init__" "BadSize.__init__" s_BadSize_init a.f_BadSize_init a.d_BadSize_init
  b_BadSize_init : Binds K a.d_BadSize_init ["self", "size"] []
  F_BadCall_init : Fun K "__init__" "BadCall.__init__" s_BadCall_init a.f_BadCall_init a.d_BadCall_init
  b_BadCall_init : Binds K a.d_BadCall_init ["self", "call"] []
  F_BadNumber_init : Fun K "__init__" "BadNumber.__init__" s_BadNumber_init a.f_BadNumber_init a.d_BadNumber_init
  b_BadNumber_init : Binds K a.d_BadNumber_init ["self", "number"] []
  F_BadPlace_init : Fun K "__init__" "BadPlace.__init__" s_BadPlace_init a.f_BadPlace_init a.d_BadPlace_init
  b_BadPlace_init : Binds K a.d_BadPlace_init ["self", "place"] []
  F_BadThing_init : Fun K "__init__" "BadThing.__init__" s_BadThing_init a.f_BadThing_init a.d_BadThing_init
  b_BadThing_init : Binds K a.d_BadThing_init ["self", "thing"] []
  F_BadRow_init : Fun K "__init__" "BadRow.__init__" s_BadRow_init a.f_BadRow_init a.d_BadRow_init
  b_BadRow_init : Binds K a.d_BadRow_init ["self", "index"] []
  F_NotWhole_init : Fun K "__init__" "NotWhole.__init__" s_NotWhole_init a.f_NotWhole_init a.d_NotWhole_init
  b_NotWhole_init : Binds K a.d_NotWhole_init ["self", "size"] []
  F_NotClosed_init : Fun K "__init__" "NotClosed.__init__" s_NotClosed_init a.f_NotClosed_init a.d_NotClosed_init
  b_NotClosed_init : Binds K a.d_NotClosed_init ["self", "size"] []
  F_NoLevel_init : Fun K "__init__" "NoLevel.__init__" s_NoLevel_init a.f_NoLevel_init a.d_NoLevel_init
  b_NoLevel_init : Binds K a.d_NoLevel_init ["self", "size"] []
  F_NoList_init : Fun K "__init__" "NoList.__init__" s_NoList_init a.f_NoList_init a.d_NoList_init
  b_NoList_init : Binds K a.d_NoList_init ["self", "size"] []
  F__law_pen : Fun K "_law_pen" "_law_pen" s__law_pen a.f__law_pen a.d__law_pen
  b__law_pen : Binds K a.d__law_pen ["script"] []
  m__law_pen : mg "_law_pen" = some (.ref a.f__law_pen)
  F__law_draw : Fun K "_law_draw" "_law_draw" s__law_draw a.f__law_draw a.d__law_draw
  b__law_draw : Binds K a.d__law_draw ["pen", "many"] []
  m__law_draw : mg "_law_draw" = some (.ref a.f__law_draw)
  F__law_pick : Fun K "_law_pick" "_law_pick" s__law_pick a.f__law_pick a.d__law_pick
  b__law_pick : Binds K a.d__law_pick ["pen", "some"] []
  m__law_pick : mg "_law_pick" = some (.ref a.f__law_pick)
  F__law_made : Fun K "_law_made" "_law_made" s__law_made a.f__law_made a.d__law_made
  b__law_made : Binds K a.d__law_made ["k", "worth"] []
  m__law_made : mg "_law_made" = some (.ref a.f__law_made)
  F__law_kinds : Fun K "_law_kinds" "_law_kinds" s__law_kinds a.f__law_kinds a.d__law_kinds
  b__law_kinds : Binds K a.d__law_kinds ["e"] []
  m__law_kinds : mg "_law_kinds" = some (.ref a.f__law_kinds)
  F_law : Fun K "law" "law" s_law a.f_law a.d_law
  b_law : Binds K a.d_law ["script"] []
  m_law : mg "law" = some (.ref a.f_law)
  c_EveryError : mg "EveryError" = some (.ref a.C_EveryError)
  c_BadWord : mg "BadWord" = some (.ref a.C_BadWord)
  c_BadText : mg "BadText" = some (.ref a.C_BadText)
  c_BadSize : mg "BadSize" = some (.ref a.C_BadSize)
  c_BadCall : mg "BadCall" = some (.ref a.C_BadCall)
  c_BadNumber : mg "BadNumber" = some (.ref a.C_BadNumber)
  c_BadPlace : mg "BadPlace" = some (.ref a.C_BadPlace)
  c_BadThing : mg "BadThing" = some (.ref a.C_BadThing)
  c_BadRow : mg "BadRow" = some (.ref a.C_BadRow)
  c_NotWhole : mg "NotWhole" = some (.ref a.C_NotWhole)
  c_NotClosed : mg "NotClosed" = some (.ref a.C_NotClosed)
  c_NoLevel : mg "NoLevel" = some (.ref a.C_NoLevel)
  c_NoList : mg "NoList" = some (.ref a.C_NoList)
  c_Mixed : mg "Mixed" = some (.ref a.C_Mixed)
  c_NothingToUndo : mg "NothingToUndo" = some (.ref a.C_NothingToUndo)
  ox_BadWord : ErrC K a.C_BadWord a.f_BadWord_init "index"
  kt_BadWord_BadCall : PySem.W.kitOne K (.ref a.C_BadWord) (.ref a.C_BadCall) = some false
  kt_BadWord_BadNumber : PySem.W.kitOne K (.ref a.C_BadWord) (.ref a.C_BadNumber) = some false
  kt_BadWord_BadPlace : PySem.W.kitOne K (.ref a.C_BadWord) (.ref a.C_BadPlace) = some false
  kt_BadWord_BadRow : PySem.W.kitOne K (.ref a.C_BadWord) (.ref a.C_BadRow) = some false
  kt_BadWord_BadSize : PySem.W.kitOne K (.ref a.C_BadWord) (.ref a.C_BadSize) = some false
  kt_BadWord_BadText : PySem.W.kitOne K (.ref a.C_BadWord) (.ref a.C_BadText) = some false
  kt_BadWord_BadThing : PySem.W.kitOne K (.ref a.C_BadWord) (.ref a.C_BadThing) = some false
  kt_BadWord_BadWord : PySem.W.kitOne K (.ref a.C_BadWord) (.ref a.C_BadWord) = some true
  kt_BadWord_EveryError : PySem.W.kitOne K (.ref a.C_BadWord) (.ref a.C_EveryError) = some true
  kt_BadWord_Mixed : PySem.W.kitOne K (.ref a.C_BadWord) (.ref a.C_Mixed) = some false
  kt_BadWord_NoLevel : PySem.W.kitOne K (.ref a.C_BadWord) (.ref a.C_NoLevel) = some false
  kt_BadWord_NoList : PySem.W.kitOne K (.ref a.C_BadWord) (.ref a.C_NoList) = some false
  kt_BadWord_NotClosed : PySem.W.kitOne K (.ref a.C_BadWord) (.ref a.C_NotClosed) = some false
  kt_BadWord_NotWhole : PySem.W.kitOne K (.ref a.C_BadWord) (.ref a.C_NotWhole) = some false
  kt_BadWord_NothingToUndo : PySem.W.kitOne K (.ref a.C_BadWord) (.ref a.C_NothingToUndo) = some false
  ox_BadText : ErrC K a.C_BadText a.f_BadText_init "line"
  kt_BadText_BadCall : PySem.W.kitOne K (.ref a.C_BadText) (.ref a.C_BadCall) = some false
  kt_BadText_BadNumber : PySem.W.kitOne K (.ref a.C_BadText) (.ref a.C_BadNumber) = some false
  kt_BadText_BadPlace : PySem.W.kitOne K (.ref a.C_BadText) (.ref a.C_BadPlace) = some false
  kt_BadText_BadRow : PySem.W.kitOne K (.ref a.C_BadText) (.ref a.C_BadRow) = some false
  kt_BadText_BadSize : PySem.W.kitOne K (.ref a.C_BadText) (.ref a.C_BadSize) = some false
  kt_BadText_BadText : PySem.W.kitOne K (.ref a.C_BadText) (.ref a.C_BadText) = some true
  kt_BadText_BadThing : PySem.W.kitOne K (.ref a.C_BadText) (.ref a.C_BadThing) = some false
  kt_BadText_BadWord : PySem.W.kitOne K (.ref a.C_BadText) (.ref a.C_BadWord) = some false
  kt_BadText_EveryError : PySem.W.kitOne K (.ref a.C_BadText) (.ref a.C_EveryError) = some true
  kt_BadText_Mixed : PySem.W.kitOne K (.ref a.C_BadText) (.ref a.C_Mixed) = some false
  kt_BadText_NoLevel : PySem.W.kitOne K (.ref a.C_BadText) (.ref a.C_NoLevel) = some false
  kt_BadText_NoList : PySem.W.kitOne K (.ref a.C_BadText) (.ref a.C_NoList) = some false
  kt_BadText_NotClosed : PySem.W.kitOne K (.ref a.C_BadText) (.ref a.C_NotClosed) = some false
  kt_BadText_NotWhole : PySem.W.kitOne K (.ref a.C_BadText) (.ref a.C_NotWhole) = some false
  kt_BadText_NothingToUndo : PySem.W.kitOne K (.ref a.C_BadText) (.ref a.C_NothingToUndo) = some false
  ox_BadSize : ErrC K a.C_BadSize a.f_BadSize_init "size"
  kt_BadSize_BadCall : PySem.W.kitOne K (.ref a.C_BadSize) (.ref a.C_BadCall) = some false
  kt_BadSize_BadNumber : PySem.W.kitOne K (.ref a.C_BadSize) (.ref a.C_BadNumber) = some false
  kt_BadSize_BadPlace : PySem.W.kitOne K (.ref a.C_BadSize) (.ref a.C_BadPlace) = some false
  kt_BadSize_BadRow : PySem.W.kitOne K (.ref a.C_BadSize) (.ref a.C_BadRow) = some false
  kt_BadSize_BadSize : PySem.W.kitOne K (.ref a.C_BadSize) (.ref a.C_BadSize) = some true
  kt_BadSize_BadText : PySem.W.kitOne K (.ref a.C_BadSize) (.ref a.C_BadText) = some false
  kt_BadSize_BadThing : PySem.W.kitOne K (.ref a.C_BadSize) (.ref a.C_BadThing) = some false
  kt_BadSize_BadWord : PySem.W.kitOne K (.ref a.C_BadSize) (.ref a.C_BadWord) = some false
  kt_BadSize_EveryError : PySem.W.kitOne K (.ref a.C_BadSize) (.ref a.C_EveryError) = some true
  kt_BadSize_Mixed : PySem.W.kitOne K (.ref a.C_BadSize) (.ref a.C_Mixed) = some false
  kt_BadSize_NoLevel : PySem.W.kitOne K (.ref a.C_BadSize) (.ref a.C_NoLevel) = some false
  kt_BadSize_NoList : PySem.W.kitOne K (.ref a.C_BadSize) (.ref a.C_NoList) = some false
  kt_BadSize_NotClosed : PySem.W.kitOne K (.ref a.C_BadSize) (.ref a.C_NotClosed) = some false
  kt_BadSize_NotWhole : PySem.W.kitOne K (.ref a.C_BadSize) (.ref a.C_NotWhole) = some false
  kt_BadSize_NothingToUndo : PySem.W.kitOne K (.ref a.C_BadSize) (.ref a.C_NothingToUndo) = some false
  ox_BadCall : ErrC K a.C_BadCall a.f_BadCall_init "call"
  kt_BadCall_BadCall : PySem.W.kitOne K (.ref a.C_BadCall) (.ref a.C_BadCall) = some true
  kt_BadCall_BadNumber : PySem.W.kitOne K (.ref a.C_BadCall) (.ref a.C_BadNumber) = some false
  kt_BadCall_BadPlace : PySem.W.kitOne K (.ref a.C_BadCall) (.ref a.C_BadPlace) = some false
  kt_BadCall_BadRow : PySem.W.kitOne K (.ref a.C_BadCall) (.ref a.C_BadRow) = some false
  kt_BadCall_BadSize : PySem.W.kitOne K (.ref a.C_BadCall) (.ref a.C_BadSize) = some false
  kt_BadCall_BadText : PySem.W.kitOne K (.ref a.C_BadCall) (.ref a.C_BadText) = some false
  kt_BadCall_BadThing : PySem.W.kitOne K (.ref a.C_BadCall) (.ref a.C_BadThing) = some false
  kt_BadCall_BadWord : PySem.W.kitOne K (.ref a.C_BadCall) (.ref a.C_BadWord) = some false
  kt_BadCall_EveryError : PySem.W.kitOne K (.ref a.C_BadCall) (.ref a.C_EveryError) = some true
  kt_BadCall_Mixed : PySem.W.kitOne K (.ref a.C_BadCall) (.ref a.C_Mixed) = some false
  kt_BadCall_NoLevel : PySem.W.kitOne K (.ref a.C_BadCall) (.ref a.C_NoLevel) = some false
  kt_BadCall_NoList : PySem.W.kitOne K (.ref a.C_BadCall) (.ref a.C_NoList) = some false
  kt_BadCall_NotClosed : PySem.W.kitOne K (.ref a.C_BadCall) (.ref a.C_NotClosed) = some false
  kt_BadCall_NotWhole : PySem.W.kitOne K (.ref a.C_BadCall) (.ref a.C_NotWhole) = some false
  kt_BadCall_NothingToUndo : PySem.W.kitOne K (.ref a.C_BadCall) (.ref a.C_NothingToUndo) = some false
  ox_BadNumber : ErrC K a.C_BadNumber a.f_BadNumber_init "number"
  kt_BadNumber_BadCall : PySem.W.kitOne K (.ref a.C_BadNumber) (.ref a.C_BadCall) = some false
  kt_BadNumber_BadNumber : PySem.W.kitOne K (.ref a.C_BadNumber) (.ref a.C_BadNumber) = some true
  kt_BadNumber_BadPlace : PySem.W.kitOne K (.ref a.C_BadNumber) (.ref a.C_BadPlace) = some false
  kt_BadNumber_BadRow : PySem.W.kitOne K (.ref a.C_BadNumber) (.ref a.C_BadRow) = some false
  kt_BadNumber_BadSize : PySem.W.kitOne K (.ref a.C_BadNumber) (.ref a.C_BadSize) = some false
  kt_BadNumber_BadText : PySem.W.kitOne K (.ref a.C_BadNumber) (.ref a.C_BadText) = some false
  kt_BadNumber_BadThing : PySem.W.kitOne K (.ref a.C_BadNumber) (.ref a.C_BadThing) = some false
  kt_BadNumber_BadWord : PySem.W.kitOne K (.ref a.C_BadNumber) (.ref a.C_BadWord) = some false
  kt_BadNumber_EveryError : PySem.W.kitOne K (.ref a.C_BadNumber) (.ref a.C_EveryError) = some true
  kt_BadNumber_Mixed : PySem.W.kitOne K (.ref a.C_BadNumber) (.ref a.C_Mixed) = some false
  kt_BadNumber_NoLevel : PySem.W.kitOne K (.ref a.C_BadNumber) (.ref a.C_NoLevel) = some false
  kt_BadNumber_NoList : PySem.W.kitOne K (.ref a.C_BadNumber) (.ref a.C_NoList) = some false
  kt_BadNumber_NotClosed : PySem.W.kitOne K (.ref a.C_BadNumber) (.ref a.C_NotClosed) = some false
  kt_BadNumber_NotWhole : PySem.W.kitOne K (.ref a.C_BadNumber) (.ref a.C_NotWhole) = some false
  kt_BadNumber_NothingToUndo : PySem.W.kitOne K (.ref a.C_BadNumber) (.ref a.C_NothingToUndo) = some false
  ox_BadPlace : ErrC K a.C_BadPlace a.f_BadPlace_init "place"
  kt_BadPlace_BadCall : PySem.W.kitOne K (.ref a.C_BadPlace) (.ref a.C_BadCall) = some false
  kt_BadPlace_BadNumber : PySem.W.kitOne K (.ref a.C_BadPlace) (.ref a.C_BadNumber) = some false
  kt_BadPlace_BadPlace : PySem.W.kitOne K (.ref a.C_BadPlace) (.ref a.C_BadPlace) = some true
  kt_BadPlace_BadRow : PySem.W.kitOne K (.ref a.C_BadPlace) (.ref a.C_BadRow) = some false
  kt_BadPlace_BadSize : PySem.W.kitOne K (.ref a.C_BadPlace) (.ref a.C_BadSize) = some false
  kt_BadPlace_BadText : PySem.W.kitOne K (.ref a.C_BadPlace) (.ref a.C_BadText) = some false
  kt_BadPlace_BadThing : PySem.W.kitOne K (.ref a.C_BadPlace) (.ref a.C_BadThing) = some false
  kt_BadPlace_BadWord : PySem.W.kitOne K (.ref a.C_BadPlace) (.ref a.C_BadWord) = some false
  kt_BadPlace_EveryError : PySem.W.kitOne K (.ref a.C_BadPlace) (.ref a.C_EveryError) = some true
  kt_BadPlace_Mixed : PySem.W.kitOne K (.ref a.C_BadPlace) (.ref a.C_Mixed) = some false
  kt_BadPlace_NoLevel : PySem.W.kitOne K (.ref a.C_BadPlace) (.ref a.C_NoLevel) = some false
  kt_BadPlace_NoList : PySem.W.kitOne K (.ref a.C_BadPlace) (.ref a.C_NoList) = some false
  kt_BadPlace_NotClosed : PySem.W.kitOne K (.ref a.C_BadPlace) (.ref a.C_NotClosed) = some false
  kt_BadPlace_NotWhole : PySem.W.kitOne K (.ref a.C_BadPlace) (.ref a.C_NotWhole) = some false
  kt_BadPlace_NothingToUndo : PySem.W.kitOne K (.ref a.C_BadPlace) (.ref a.C_NothingToUndo) = some false
  ox_BadThing : ErrC K a.C_BadThing a.f_BadThing_init "thing"
  kt_BadThing_BadCall : PySem.W.kitOne K (.ref a.C_BadThing) (.ref a.C_BadCall) = some false
  kt_BadThing_BadNumber : PySem.W.kitOne K (.ref a.C_BadThing) (.ref a.C_BadNumber) = some false
  kt_BadThing_BadPlace : PySem.W.kitOne K (.ref a.C_BadThing) (.ref a.C_BadPlace) = some false
  kt_BadThing_BadRow : PySem.W.kitOne K (.ref a.C_BadThing) (.ref a.C_BadRow) = some false
  kt_BadThing_BadSize : PySem.W.kitOne K (.ref a.C_BadThing) (.ref a.C_BadSize) = some false
  kt_BadThing_BadText : PySem.W.kitOne K (.ref a.C_BadThing) (.ref a.C_BadText) = some false
  kt_BadThing_BadThing : PySem.W.kitOne K (.ref a.C_BadThing) (.ref a.C_BadThing) = some true
  kt_BadThing_BadWord : PySem.W.kitOne K (.ref a.C_BadThing) (.ref a.C_BadWord) = some false
  kt_BadThing_EveryError : PySem.W.kitOne K (.ref a.C_BadThing) (.ref a.C_EveryError) = some true
  kt_BadThing_Mixed : PySem.W.kitOne K (.ref a.C_BadThing) (.ref a.C_Mixed) = some false
  kt_BadThing_NoLevel : PySem.W.kitOne K (.ref a.C_BadThing) (.ref a.C_NoLevel) = some false
  kt_BadThing_NoList : PySem.W.kitOne K (.ref a.C_BadThing) (.ref a.C_NoList) = some false
  kt_BadThing_NotClosed : PySem.W.kitOne K (.ref a.C_BadThing) (.ref a.C_NotClosed) = some false
  kt_BadThing_NotWhole : PySem.W.kitOne K (.ref a.C_BadThing) (.ref a.C_NotWhole) = some false
  kt_BadThing_NothingToUndo : PySem.W.kitOne K (.ref a.C_BadThing) (.ref a.C_NothingToUndo) = some false
  ox_BadRow : ErrC K a.C_BadRow a.f_BadRow_init "index"
  kt_BadRow_BadCall : PySem.W.kitOne K (.ref a.C_BadRow) (.ref a.C_BadCall) = some false
  kt_BadRow_BadNumber : PySem.W.kitOne K (.ref a.C_BadRow) (.ref a.C_BadNumber) = some false
  kt_BadRow_BadPlace : PySem.W.kitOne K (.ref a.C_BadRow) (.ref a.C_BadPlace) = some false
  kt_BadRow_BadRow : PySem.W.kitOne K (.ref a.C_BadRow) (.ref a.C_BadRow) = some true
  kt_BadRow_BadSize : PySem.W.kitOne K (.ref a.C_BadRow) (.ref a.C_BadSize) = some false
  kt_BadRow_BadText : PySem.W.kitOne K (.ref a.C_BadRow) (.ref a.C_BadText) = some false
  kt_BadRow_BadThing : PySem.W.kitOne K (.ref a.C_BadRow) (.ref a.C_BadThing) = some false
  kt_BadRow_BadWord : PySem.W.kitOne K (.ref a.C_BadRow) (.ref a.C_BadWord) = some false
  kt_BadRow_EveryError : PySem.W.kitOne K (.ref a.C_BadRow) (.ref a.C_EveryError) = some true
  kt_BadRow_Mixed : PySem.W.kitOne K (.ref a.C_BadRow) (.ref a.C_Mixed) = some false
  kt_BadRow_NoLevel : PySem.W.kitOne K (.ref a.C_BadRow) (.ref a.C_NoLevel) = some false
  kt_BadRow_NoList : PySem.W.kitOne K (.ref a.C_BadRow) (.ref a.C_NoList) = some false
  kt_BadRow_NotClosed : PySem.W.kitOne K (.ref a.C_BadRow) (.ref a.C_NotClosed) = some false
  kt_BadRow_NotWhole : PySem.W.kitOne K (.ref a.C_BadRow) (.ref a.C_NotWhole) = some false
  kt_BadRow_NothingToUndo : PySem.W.kitOne K (.ref a.C_BadRow) (.ref a.C_NothingToUndo) = some false
  ox_NotWhole : ErrC K a.C_NotWhole a.f_NotWhole_init "size"
  kt_NotWhole_BadCall : PySem.W.kitOne K (.ref a.C_NotWhole) (.ref a.C_BadCall) = some false
  kt_NotWhole_BadNumber : PySem.W.kitOne K (.ref a.C_NotWhole) (.ref a.C_BadNumber) = some false
  kt_NotWhole_BadPlace : PySem.W.kitOne K (.ref a.C_NotWhole) (.ref a.C_BadPlace) = some false
  kt_NotWhole_BadRow : PySem.W.kitOne K (.ref a.C_NotWhole) (.ref a.C_BadRow) = some false
  kt_NotWhole_BadSize : PySem.W.kitOne K (.ref a.C_NotWhole) (.ref a.C_BadSize) = some false
  kt_NotWhole_BadText : PySem.W.kitOne K (.ref a.C_NotWhole) (.ref a.C_BadText) = some false
  kt_NotWhole_BadThing : PySem.W.kitOne K (.ref a.C_NotWhole) (.ref a.C_BadThing) = some false
  kt_NotWhole_BadWord : PySem.W.kitOne K (.ref a.C_NotWhole) (.ref a.C_BadWord) = some false
  kt_NotWhole_EveryError : PySem.W.kitOne K (.ref a.C_NotWhole) (.ref a.C_EveryError) = some true
  kt_NotWhole_Mixed : PySem.W.kitOne K (.ref a.C_NotWhole) (.ref a.C_Mixed) = some false
  kt_NotWhole_NoLevel : PySem.W.kitOne K (.ref a.C_NotWhole) (.ref a.C_NoLevel) = some false
  kt_NotWhole_NoList : PySem.W.kitOne K (.ref a.C_NotWhole) (.ref a.C_NoList) = some false
  kt_NotWhole_NotClosed : PySem.W.kitOne K (.ref a.C_NotWhole) (.ref a.C_NotClosed) = some false
  kt_NotWhole_NotWhole : PySem.W.kitOne K (.ref a.C_NotWhole) (.ref a.C_NotWhole) = some true
  kt_NotWhole_NothingToUndo : PySem.W.kitOne K (.ref a.C_NotWhole) (.ref a.C_NothingToUndo) = some false
  ox_NotClosed : ErrC K a.C_NotClosed a.f_NotClosed_init "size"
  kt_NotClosed_BadCall : PySem.W.kitOne K (.ref a.C_NotClosed) (.ref a.C_BadCall) = some false
  kt_NotClosed_BadNumber : PySem.W.kitOne K (.ref a.C_NotClosed) (.ref a.C_BadNumber) = some false
  kt_NotClosed_BadPlace : PySem.W.kitOne K (.ref a.C_NotClosed) (.ref a.C_BadPlace) = some false
  kt_NotClosed_BadRow : PySem.W.kitOne K (.ref a.C_NotClosed) (.ref a.C_BadRow) = some false
  kt_NotClosed_BadSize : PySem.W.kitOne K (.ref a.C_NotClosed) (.ref a.C_BadSize) = some false
  kt_NotClosed_BadText : PySem.W.kitOne K (.ref a.C_NotClosed) (.ref a.C_BadText) = some false
  kt_NotClosed_BadThing : PySem.W.kitOne K (.ref a.C_NotClosed) (.ref a.C_BadThing) = some false
  kt_NotClosed_BadWord : PySem.W.kitOne K (.ref a.C_NotClosed) (.ref a.C_BadWord) = some false
  kt_NotClosed_EveryError : PySem.W.kitOne K (.ref a.C_NotClosed) (.ref a.C_EveryError) = some true
  kt_NotClosed_Mixed : PySem.W.kitOne K (.ref a.C_NotClosed) (.ref a.C_Mixed) = some false
  kt_NotClosed_NoLevel : PySem.W.kitOne K (.ref a.C_NotClosed) (.ref a.C_NoLevel) = some false
  kt_NotClosed_NoList : PySem.W.kitOne K (.ref a.C_NotClosed) (.ref a.C_NoList) = some false
  kt_NotClosed_NotClosed : PySem.W.kitOne K (.ref a.C_NotClosed) (.ref a.C_NotClosed) = some true
  kt_NotClosed_NotWhole : PySem.W.kitOne K (.ref a.C_NotClosed) (.ref a.C_NotWhole) = some false
  kt_NotClosed_NothingToUndo : PySem.W.kitOne K (.ref a.C_NotClosed) (.ref a.C_NothingToUndo) = some false
  ox_NoLevel : ErrC K a.C_NoLevel a.f_NoLevel_init "size"
  kt_NoLevel_BadCall : PySem.W.kitOne K (.ref a.C_NoLevel) (.ref a.C_BadCall) = some false
  kt_NoLevel_BadNumber : PySem.W.kitOne K (.ref a.C_NoLevel) (.ref a.C_BadNumber) = some false
  kt_NoLevel_BadPlace : PySem.W.kitOne K (.ref a.C_NoLevel) (.ref a.C_BadPlace) = some false
  kt_NoLevel_BadRow : PySem.W.kitOne K (.ref a.C_NoLevel) (.ref a.C_BadRow) = some false
  kt_NoLevel_BadSize : PySem.W.kitOne K (.ref a.C_NoLevel) (.ref a.C_BadSize) = some false
  kt_NoLevel_BadText : PySem.W.kitOne K (.ref a.C_NoLevel) (.ref a.C_BadText) = some false
  kt_NoLevel_BadThing : PySem.W.kitOne K (.ref a.C_NoLevel) (.ref a.C_BadThing) = some false
  kt_NoLevel_BadWord : PySem.W.kitOne K (.ref a.C_NoLevel) (.ref a.C_BadWord) = some false
  kt_NoLevel_EveryError : PySem.W.kitOne K (.ref a.C_NoLevel) (.ref a.C_EveryError) = some true
  kt_NoLevel_Mixed : PySem.W.kitOne K (.ref a.C_NoLevel) (.ref a.C_Mixed) = some false
  kt_NoLevel_NoLevel : PySem.W.kitOne K (.ref a.C_NoLevel) (.ref a.C_NoLevel) = some true
  kt_NoLevel_NoList : PySem.W.kitOne K (.ref a.C_NoLevel) (.ref a.C_NoList) = some false
  kt_NoLevel_NotClosed : PySem.W.kitOne K (.ref a.C_NoLevel) (.ref a.C_NotClosed) = some false
  kt_NoLevel_NotWhole : PySem.W.kitOne K (.ref a.C_NoLevel) (.ref a.C_NotWhole) = some false
  kt_NoLevel_NothingToUndo : PySem.W.kitOne K (.ref a.C_NoLevel) (.ref a.C_NothingToUndo) = some false
  ox_NoList : ErrC K a.C_NoList a.f_NoList_init "size"
  kt_NoList_BadCall : PySem.W.kitOne K (.ref a.C_NoList) (.ref a.C_BadCall) = some false
  kt_NoList_BadNumber : PySem.W.kitOne K (.ref a.C_NoList) (.ref a.C_BadNumber) = some false
  kt_NoList_BadPlace : PySem.W.kitOne K (.ref a.C_NoList) (.ref a.C_BadPlace) = some false
  kt_NoList_BadRow : PySem.W.kitOne K (.ref a.C_NoList) (.ref a.C_BadRow) = some false
  kt_NoList_BadSize : PySem.W.kitOne K (.ref a.C_NoList) (.ref a.C_BadSize) = some false
  kt_NoList_BadText : PySem.W.kitOne K (.ref a.C_NoList) (.ref a.C_BadText) = some false
  kt_NoList_BadThing : PySem.W.kitOne K (.ref a.C_NoList) (.ref a.C_BadThing) = some false
  kt_NoList_BadWord : PySem.W.kitOne K (.ref a.C_NoList) (.ref a.C_BadWord) = some false
  kt_NoList_EveryError : PySem.W.kitOne K (.ref a.C_NoList) (.ref a.C_EveryError) = some true
  kt_NoList_Mixed : PySem.W.kitOne K (.ref a.C_NoList) (.ref a.C_Mixed) = some false
  kt_NoList_NoLevel : PySem.W.kitOne K (.ref a.C_NoList) (.ref a.C_NoLevel) = some false
  kt_NoList_NoList : PySem.W.kitOne K (.ref a.C_NoList) (.ref a.C_NoList) = some true
  kt_NoList_NotClosed : PySem.W.kitOne K (.ref a.C_NoList) (.ref a.C_NotClosed) = some false
  kt_NoList_NotWhole : PySem.W.kitOne K (.ref a.C_NoList) (.ref a.C_NotWhole) = some false
  kt_NoList_NothingToUndo : PySem.W.kitOne K (.ref a.C_NoList) (.ref a.C_NothingToUndo) = some false
  ez_Mixed : ErrZ K a.C_Mixed
  kt_Mixed_BadCall : PySem.W.kitOne K (.ref a.C_Mixed) (.ref a.C_BadCall) = some false
  kt_Mixed_BadNumber : PySem.W.kitOne K (.ref a.C_Mixed) (.ref a.C_BadNumber) = some false
  kt_Mixed_BadPlace : PySem.W.kitOne K (.ref a.C_Mixed) (.ref a.C_BadPlace) = some false
  kt_Mixed_BadRow : PySem.W.kitOne K (.ref a.C_Mixed) (.ref a.C_BadRow) = some false
  kt_Mixed_BadSize : PySem.W.kitOne K (.ref a.C_Mixed) (.ref a.C_BadSize) = some false
  kt_Mixed_BadText : PySem.W.kitOne K (.ref a.C_Mixed) (.ref a.C_BadText) = some false
  kt_Mixed_BadThing : PySem.W.kitOne K (.ref a.C_Mixed) (.ref a.C_BadThing) = some false
  kt_Mixed_BadWord : PySem.W.kitOne K (.ref a.C_Mixed) (.ref a.C_BadWord) = some false
  kt_Mixed_EveryError : PySem.W.kitOne K (.ref a.C_Mixed) (.ref a.C_EveryError) = some true
  kt_Mixed_Mixed : PySem.W.kitOne K (.ref a.C_Mixed) (.ref a.C_Mixed) = some true
  kt_Mixed_NoLevel : PySem.W.kitOne K (.ref a.C_Mixed) (.ref a.C_NoLevel) = some false
  kt_Mixed_NoList : PySem.W.kitOne K (.ref a.C_Mixed) (.ref a.C_NoList) = some false
  kt_Mixed_NotClosed : PySem.W.kitOne K (.ref a.C_Mixed) (.ref a.C_NotClosed) = some false
  kt_Mixed_NotWhole : PySem.W.kitOne K (.ref a.C_Mixed) (.ref a.C_NotWhole) = some false
  kt_Mixed_NothingToUndo : PySem.W.kitOne K (.ref a.C_Mixed) (.ref a.C_NothingToUndo) = some false
  ez_NothingToUndo : ErrZ K a.C_NothingToUndo
  kt_NothingToUndo_BadCall : PySem.W.kitOne K (.ref a.C_NothingToUndo) (.ref a.C_BadCall) = some false
  kt_NothingToUndo_BadNumber : PySem.W.kitOne K (.ref a.C_NothingToUndo) (.ref a.C_BadNumber) = some false
  kt_NothingToUndo_BadPlace : PySem.W.kitOne K (.ref a.C_NothingToUndo) (.ref a.C_BadPlace) = some false
  kt_NothingToUndo_BadRow : PySem.W.kitOne K (.ref a.C_NothingToUndo) (.ref a.C_BadRow) = some false
  kt_NothingToUndo_BadSize : PySem.W.kitOne K (.ref a.C_NothingToUndo) (.ref a.C_BadSize) = some false
  kt_NothingToUndo_BadText : PySem.W.kitOne K (.ref a.C_NothingToUndo) (.ref a.C_BadText) = some false
  kt_NothingToUndo_BadThing : PySem.W.kitOne K (.ref a.C_NothingToUndo) (.ref a.C_BadThing) = some false
  kt_NothingToUndo_BadWord : PySem.W.kitOne K (.ref a.C_NothingToUndo) (.ref a.C_BadWord) = some false
  kt_NothingToUndo_EveryError : PySem.W.kitOne K (.ref a.C_NothingToUndo) (.ref a.C_EveryError) = some true
  kt_NothingToUndo_Mixed : PySem.W.kitOne K (.ref a.C_NothingToUndo) (.ref a.C_Mixed) = some false
  kt_NothingToUndo_NoLevel : PySem.W.kitOne K (.ref a.C_NothingToUndo) (.ref a.C_NoLevel) = some false
  kt_NothingToUndo_NoList : PySem.W.kitOne K (.ref a.C_NothingToUndo) (.ref a.C_NoList) = some false
  kt_NothingToUndo_NotClosed : PySem.W.kitOne K (.ref a.C_NothingToUndo) (.ref a.C_NotClosed) = some false
  kt_NothingToUndo_NotWhole : PySem.W.kitOne K (.ref a.C_NothingToUndo) (.ref a.C_NotWhole) = some false
  kt_NothingToUndo_NothingToUndo : PySem.W.kitOne K (.ref a.C_NothingToUndo) (.ref a.C_NothingToUndo) = some true
  kv_BadWord : PySem.W.kitOne K (.ref a.C_BadWord) (.type "ValueError") = some true
  kv_BadText : PySem.W.kitOne K (.ref a.C_BadText) (.type "ValueError") = some true
  kv_BadSize : PySem.W.kitOne K (.ref a.C_BadSize) (.type "ValueError") = some true
  kv_BadCall : PySem.W.kitOne K (.ref a.C_BadCall) (.type "ValueError") = some true
  kv_BadNumber : PySem.W.kitOne K (.ref a.C_BadNumber) (.type "ValueError") = some true
  kv_BadPlace : PySem.W.kitOne K (.ref a.C_BadPlace) (.type "ValueError") = some true
  kv_BadThing : PySem.W.kitOne K (.ref a.C_BadThing) (.type "ValueError") = some true
  kv_BadRow : PySem.W.kitOne K (.ref a.C_BadRow) (.type "ValueError") = some true
  kv_NotWhole : PySem.W.kitOne K (.ref a.C_NotWhole) (.type "ValueError") = some true
  kv_NotClosed : PySem.W.kitOne K (.ref a.C_NotClosed) (.type "ValueError") = some true
  kv_NoLevel : PySem.W.kitOne K (.ref a.C_NoLevel) (.type "ValueError") = some true
  kv_NoList : PySem.W.kitOne K (.ref a.C_NoList) (.type "ValueError") = some true
  kv_Mixed : PySem.W.kitOne K (.ref a.C_Mixed) (.type "ValueError") = some true
  kv_NothingToUndo : PySem.W.kitOne K (.ref a.C_NothingToUndo) (.type "ValueError") = some true
  z_ValueError : mg "ValueError" = none
  z_int : mg "int" = none
  z_isinstance : mg "isinstance" = none
  z_len : mg "len" = none
  z_list : mg "list" = none
  z_range : mg "range" = none


/-! ### several clauses `except X as n` -/
/-- what such clauses wish of an exception of the body, one after the other: class, slot of the name, suite -/
def wManyAs (K : PySem.W.Frag) (Wout : WX) (D : Ends) : List (Value × Nat × (Addr → Value → Option Addr → TS)) → WX
  | [] => Wout
  | (c, i, ts) :: r => fun cls d σ H => ∃ b, PySem.W.exmOne K cls c = some b ∧
      (b = true → ∀ a, H a = none → ts a cls d { nx := fun σ' H' => D.nx (σ'.set i none) H', rt := D.rt, bk := fun σ' H' => D.bk (σ'.set i none) H', ct := fun σ' H' => D.ct (σ'.set i none) H' } (σ.set i (some (.ref a))) H) ∧
      (b = false → wManyAs K Wout D r cls d σ H)
inductive HdsAs (X : Cx) : List ExceptHandler → List (Value × Nat × (Addr → Value → Option Addr → TS)) → Prop
  | nil : HdsAs X [] []
  | cons {x n : Str} {c : Value} {i : Nat} {ts : Addr → Value → Option Addr → TS} {b₀ : Stmt} {suite : List Stmt} {np pos' : Pos} {hds : List ExceptHandler} {l : List (Value × Nat × (Addr → Value → Option Addr → TS))}
      (hi : X.N[i]? = some n) (hln : X.env.kindOf n = some .local) (hc : Names X x c)
      (hsu : ∀ (a : Addr) (oe : Obj) (cls : Value) (d : Option Addr) (pn : List (Addr × Obj)), Zc cls d oe → (∃ vs, oe.data = .fields vs) → PSs (X.suite a ((a, oe) :: pn)) (b₀ :: suite) (ts a cls d)) (r : HdsAs X hds l) :
      HdsAs X (.ExceptHandler (some (.Name x np)) (some n) (b₀ :: suite) pos' :: hds) ((c, i, ts) :: l)
section
variable {X : Cx} {body : List Stmt} {h₀ : ExceptHandler} {hds : List ExceptHandler} {l : List (Value × Nat × (Addr → Value → Option Addr → TS))} {pos : Pos} {tb : WX → TS} {Wout : WX}
theorem ps_try_manyAs (hs : X.stack = X.env :: X.outer) (hf : X.env.frame = some X.env.locals) (hN : X.N.Nodup) (tk : Takes X Wout)
    (hb : ∀ (W : WX) (pn : List (Addr × Obj)) (xe : Value → Shared → Prop), Takes (X.tr pn xe) W → PassesOwn (model X.prog X.w) X.A X.env xe → PSs (X.tr pn xe) body (tb W))
    (hh : HdsAs X (h₀ :: hds) l) : PS X (.Try body (h₀ :: hds) [] [] pos) (fun D σ H => tb (wManyAs X.K Wout D l) D σ H) := by
  refine ⟨fun pins s σ H D I h => ?_⟩
  have ok := I.ok
  have hfr : X.A.frames = some (X.env :: X.outer) := by rw [ok.frames, hs]
  refine wpAny_Try_except ?_
  refine wpAny_mono ((hb (wManyAs X.K Wout D l) (X.pn ++ pins) (fun e s₁ => wpAny (model X.prog X.w) X.A (noteFrame e X.env) (fun _ s₂ => wpAny (model X.prog X.w) X.A (setFlight e none) (fun _ s₃ =>
    wpAny (model X.prog X.w) X.A (handleBy e X.env (h₀ :: hds)) (SP X pins D) X.xe s₃) X.xe s₂) X.xe s₁) (fun u s' xx => ?_) PassesOwn.looking).run [] s σ H D (I.toTry _) h) (fun f s1 hsp => ?_) (fun e s1 he => he)
  · -- an exception arrives
    obtain ⟨a, B, sI, pins', σ', H', cls, d, rfl, J', nb, up, sky, na, os, ag, want⟩ := xx
    have J : Inv X pins σ' H' sI := J'.ofTry ok
    show wpAny (model X.prog X.w) X.A (noteFrame (.ref a) X.env) _ _ _
    refine Sky.land Zc.steady hfr hf (show Sky B (X.env :: X.outer) a (Zc cls d) X.env.locals s'.heap by rw [← hs]; exact sky) fun h3 fl3 up3 => ?_
    have J3 : Inv X pins σ' H' { s' with heap := h3 } := J.landed nb fl3.1 (up.trans up3) os ag
    obtain ⟨oe3, vs3, he3, hz3, hd3⟩ := fl3.there
    have nfr : a ∉ frs (X.env :: X.outer) := fun hm => by
      obtain ⟨_, o', e', hnf⟩ := fl3.2.2.1.mem hm
      rw [he3] at e'
      cases e'
      exact hnf _ hd3
    have nL : a ≠ X.env.locals := fun z => nfr (List.mem_filterMap.mpr ⟨X.env, List.mem_cons_self, by rw [hf, z]⟩)
    have nF : a ∉ X.fs := fun hm => by
      obtain ⟨e, he, q⟩ := List.mem_filterMap.mp hm
      exact nfr (List.mem_filterMap.mpr ⟨e, List.mem_cons_of_mem _ he, q⟩)
    have S3 := J3.suite he3 hd3 na nL nF
    have LT : PySem.W.Looks (model X.prog X.w) h3 (typeOf (.ref a)) cls := fun A Q E s k q => wpAny_typeOf_ref (k _ _ he3) (by rw [hz3.1]; exact q)
    have each : ∀ {hds' : List ExceptHandler} {l' : List (Value × Nat × (Addr → Value → Option Addr → TS))}, HdsAs X hds' l' → wManyAs X.K Wout D l' cls d σ' H' →
        wpAny (model X.prog X.w) X.A (handleBy (.ref a) X.env hds') (SP X pins D) X.xe { s' with heap := h3 } := by
      intro hds' l' hk
      induction hk with
      | nil =>
        intro w
        refine wpAny_handleBy_nil ?_
        obtain ⟨_, _, _, oe, vs, T, oT, ts', he, hz, hd, h1, hr⟩ := id fl3
        unfold PySem.passOn
        refine wpAny_bind (wpAny_field he hd h1 ?_)
        rw [if_neg (show ¬ ((Value.ref T == Value.none) = true) from by simp)]
        have fin : wpAny (model X.prog X.w) X.A (setFlight (.ref a) X.env.frame) (fun _ s4 => wpAny (model X.prog X.w) X.A (throw (.ref a) : Sem Flow) (SP X pins D) X.xe s4) X.xe { s' with heap := h3 } := by
          rw [hf]
          exact HandSPX.setFlight_upZ fl3 fun h4 hh4 up4 => wpAny_throw (tk _ _ ⟨a, B, sI, pins, σ', H', cls, d, rfl, J, nb, (up.trans up3).trans up4, .inr (.inr (by rw [hs]; exact hh4)), na, os, ag, w⟩)
        first
          | exact wpAny_bind (wpAny_pure (wpAny_bind fin))
          | exact wpAny_bind fin
      | @cons x n c i ts b₀ suite np pos' hds2 l2 hi hln hc hsu r ih =>
        rintro ⟨b, hb1, hyes, hno⟩
        refine wpAny_handleBy_cons (codeAny_handlers_test ?_) (by intro q; cases q)
        have named : ∀ {Q : Value → Shared → Prop} {E : Value → Shared → Prop}, Q c { s' with heap := h3 } → wpAny (model X.prog X.w) (X.A.mark (some (.ref a))) (eval (.Name x np) X.env) Q E { s' with heap := h3 } := fun {Q E} q => by
          obtain ⟨hg, hdbg, hm | ⟨hm, hv, hnn⟩⟩ := hc
          · exact ld_glob (X := X.suite a ((a, oe3) :: (X.pn ++ pins))) S3 hg hm q hdbg
          · exact ld_blt (X := X.suite a ((a, oe3) :: (X.pn ++ pins))) S3 hg hm hv q hnn hdbg
        refine named ((PySem.W.exm_one (M := model X.prog X.w) (J3.kIn) LT hb1).here ?_)
        cases b with
        | false =>
          show wpAny _ X.A (handleBy (.ref a) X.env hds2) _ _ _
          exact ih (hno rfl)
        | true =>
          refine codeAny_handlers_suite_as ?_
          refine HandSPX.lands_againZ fl3 fun h4 fl4 up4 => ?_
          have J4 : Inv X pins σ' H' { s' with heap := h4 } := J.landed nb fl4.1 ((up.trans up3).trans up4) os ag
          obtain ⟨oe4, vs4, he4, hz4, hd4⟩ := fl4.there
          refine store_ok (X := X.suite a ((a, oe4) :: (X.pn ++ pins))) (v := .ref a) (J4.suite he4 hd4 na nL nF) hN hi (.inl hln) rfl (fun s5 S5 => ?_) (.inr hln)
          refine wpAny_mono ((hsu a oe4 cls d (X.pn ++ pins) hz4 ⟨_, hd4⟩).run [] s5 _ H' _ S5 (hyes rfl a na)) (fun f s6 hsp => ?_) (fun _ _ z => False.elim z)
          have gone : ∀ {σ6 : L2.St} {H6 : Hp} {Q : Shared → Prop}, Inv (X.suite a ((a, oe4) :: (X.pn ++ pins))) [] σ6 H6 s6 → (∀ s7, Inv X pins (σ6.set i none) H6 s7 → Q s7) →
              wpAny (model X.prog X.w) X.A (do bindName X.env n .none; unbindBehindTheSuite X.env n pos') (fun _ s7 => Q s7) X.xe s6 := fun {σ6 H6 Q} S6 hq => gone_ok (S6.unsuite ok) hN hi hln hq
          cases f with
          | next =>
            obtain ⟨σ6, H6, S6, q6⟩ := hsp
            exact gone S6 fun s7 J7 => ⟨_, _, J7, q6⟩
          | brk =>
            obtain ⟨σ6, H6, S6, q6⟩ := hsp
            exact gone S6 fun s7 J7 => ⟨_, _, J7, q6⟩
          | cont =>
            obtain ⟨σ6, H6, S6, q6⟩ := hsp
            exact gone S6 fun s7 J7 => ⟨_, _, J7, q6⟩
          | ret u =>
            obtain ⟨v6, σ6, H6, S6, r6, q6⟩ := hsp
            exact gone S6 fun s7 J7 => ⟨_, _, _, J7, r6, q6⟩
    exact each hh want
  · cases f with
    | next =>
      obtain ⟨σ', H', J', q⟩ := hsp
      exact wpAny_execs_nil ⟨σ', H', J'.ofTry ok, q⟩
    | brk =>
      obtain ⟨σ', H', J', q⟩ := hsp
      exact ⟨σ', H', J'.ofTry ok, q⟩
    | cont =>
      obtain ⟨σ', H', J', q⟩ := hsp
      exact ⟨σ', H', J'.ofTry ok, q⟩
    | ret u =>
      obtain ⟨v, σ', H', J', r, q⟩ := hsp
      exact ⟨v, σ', H', J'.ofTry ok, r, q⟩
end
/-! ### isinstance of a caught error with fields -/
theorem clsIn_of {K : PySem.W.Frag} {D : Addr} (h : PySem.W.hasDictIn K D = true) : (PySem.W.clsIn K D).isSome = true := by
  obtain ⟨cd, hc, _⟩ := PySem.W.any_some h
  rw [hc]
  rfl
theorem exm_ofHd {K : PySem.W.Frag} {C : Addr} {cls : Value} {b : Bool} (h1 : PySem.W.subIn K (.ref C) (.type "BaseException") = some true) (hd : PySem.W.hasDictIn K C = true) (ht : PySem.W.typeIn K (.ref C) = some (.type "type")) (h4 : PySem.W.subIn K cls (.ref C) = some b) :
    PySem.W.exmOne K cls (.ref C) = some b := PySem.W.exm_ref h1 hd ht h4
def rIsD (K : PySem.W.Frag) (D a : Addr) (cls : Value) (d : Option Addr) : List V → Hp → VK → Prop := fun xs H Q => ∃ (dd : Addr) (fs : List (Str × V)) (c : V) (cv : Value) (b : Bool), cls = .ref D ∧ d = some dd ∧ H dd = some (.xd fs) ∧ xs = [.ref a, c] ∧ (∀ u, RelV c u → u = cv) ∧ PySem.W.kitOne K (.ref D) cv = some b ∧ Q (.bl b) H
theorem call_isD {X : Cx} {a D : Addr} {oe : Obj} {cls : Value} {d : Option Addr} {pn : List (Addr × Obj)} (C : ExcD X.K D) (hz : Zc cls d oe) (hf : ∃ vs, oe.data = .fields vs) : CallR (X.suite a ((a, oe) :: pn)) (.builtin "isinstance") (rIsD X.K D a cls d) := by
  intro pins s σ H xs us Q I r h
  obtain ⟨dd, fs, c, cv, b, rfl, rfl, ea, rfl, hcv, e, q⟩ := h
  obtain ⟨u1, u2, rfl, r1, r2⟩ := vals2 r
  cases (show u1 = Value.ref a from r1)
  obtain rfl := hcv _ r2
  obtain ⟨hget, _⟩ := I.pin (a, oe) (List.mem_append.mpr (.inl List.mem_cons_self))
  obtain ⟨vs, hv⟩ := hf
  obtain ⟨mA, hns, hr⟩ := (show ObjOk X.prog X.w H s.heap dd (.xd fs) from I.hok dd _ ea)
  obtain ⟨od, ho, hl⟩ := lookIn_ns hns
  have J : PySem.W.InstAt s.heap a oe D (some od) := ⟨hget, hz.1, by unfold PySem.W.notCls; rw [hv] <;> rfl, by rw [hz.2]; exact ho⟩
  exact PySem.W.kia_one (PySem.W.kitx_exc (clsIn_of C.hd) C.hg C.hk C.hs C.ha C.hn C.ht C.hm) I.kIn J e (fun z => nomatch z) fun tk => ⟨.bl b, H, I.tok tk, rfl, q⟩

/-! ### own errors as values: made, their fields read, asked by isinstance -/
section
variable {X : Cx} {e : Expr} {es : List Expr} {ta : TA} {te : TE} {p pos : Pos}
/-- C(e, ..) as a value, C's own __init__ keeping sp -/
def tMkV (C : Addr) (sp : Sp) (ta : TA) : TE := fun σ H Q => ta σ H fun vs H1 => vs.length ≤ 1000 ∧ ∀ a, H1 a = none → sp (.ref a :: vs) (upd H1 a (exo a C none)) (fun v H2 => v = .non ∧ Q (.ref a) H2) (fun _ _ _ => False)
theorem pe_oex {CX : CXT} {x : Str} {C fI : Addr} {k : Nat} {fd : FuncData} {ps : List Str} {sp : Sp} (T : OexC X.K C) (iC : PySem.W.findIn X.K (.ref C) "__init__" = some (some (.ref fI))) (tI : PySem.W.typeIn X.K (.ref fI) = some (.type "function"))
    (F1 : FnOk X.prog X.w X.K X.mg X.base CX k fI fd ps sp) (hr : Room (k + 1) X.A) (hb : Binds X.K fd ps []) (hx : Passes CX X (fun _ _ _ => False)) (hg : Gl X x) (hm : X.mg x = some (.ref C)) (ha : PA X (e :: es) ta)
    (hdb : (x == ("__debug__" : Str)) = false := by decide) (he : starEach (e :: es) X.env = (false, eval e X.env) :: starEach es X.env := by rfl) (hpl : (backTo pos (starEach es X.env)).any (·.1) = false := by rfl) :
    PE X (.Call (.Name x p) (e :: es) [] pos) (tMkV C sp ta) := by
  refine ⟨fun pins s σ H Q I h => ?_⟩
  obtain ⟨nm, q, N, bs, bm, sn, sub, ab, col, dd, k0, k1, k2, k3, k5, hC, hbm⟩ := T.cls
  refine wpAny_Call_Name_kw (ld_glob I hg hm ?_ hdb)
  refine PySem.W.callWith_K (h₀ := X.base) I.ok.mod.kin T.kC (thn (ha.run pos pins s σ H _ I h) fun us s1 ⟨vs, H1, I1, r1, hz, q1⟩ => ⟨I1.kIn, ?_⟩) he hpl
  show wpAny _ _ (call (.ref C) us) _ _ _
  obtain ⟨hp, g, dr, tk, os⟩ := s1
  have hq := q1 (hp.objs.size + 1) (I1.hok.fresh (Nat.le_succ _))
  have hget : ((hp.push (PySem.W.kdv_tup us)).push (PySem.HandSPX.excO C hp.objs.size)).get? (hp.objs.size + 1) = some (PySem.HandSPX.excO C hp.objs.size) := by heap_get
  have I2 : Inv X pins σ (upd H1 (hp.objs.size + 1) (exo (hp.objs.size + 1) C none)) ⟨(hp.push (PySem.W.kdv_tup us)).push (PySem.HandSPX.excO C hp.objs.size), g, dr, tk, os⟩ :=
    I1.laid (t' := tk) (a := hp.objs.size + 1) (o := exo (hp.objs.size + 1) C none) (h' := (hp.push (PySem.W.kdv_tup us)).push (PySem.HandSPX.excO C hp.objs.size)) (fun b o e => Heap.get?_push_of_some _ (Heap.get?_push_of_some _ e)) (Nat.le_succ _) (exo_ok hget)
  have r2 : Vals (V.ref (hp.objs.size + 1) :: vs) (Value.ref (hp.objs.size + 1) :: us) := .cons rfl r1
  have hl : (Value.ref (hp.objs.size + 1) :: us).length = ps.length := by
    rw [← r2.length]
    exact F1.len _ _ _ _ hq
  have hus : us.length ≤ sizeLine := by
    rw [← Paired.length r1, sizeLine_eq]
    omega
  have b0 := hb ⟨(hp.push (PySem.W.kdv_tup us)).push (PySem.HandSPX.excO C hp.objs.size), g, dr, tk, os⟩ (Value.ref (hp.objs.size + 1) :: us) I2.kIn (by rw [List.append_nil]; exact hl)
  rw [List.append_nil] at b0
  refine wpAny_call (PySem.HandSPX.call_own F.excBase_ValueError (fun Y => PySem.HandSPX.refsVE_contains Y bm hbm) (I1.kIn _ _ hC) (PySem.W.looks_findIn I1.kIn iC) (fun self => PySem.W.bind_fn I1.kIn self tI) hus
    (codeAny_mono (F1.run _ X.stack _ _ ⟨Value.ref (hp.objs.size + 1) :: us, []⟩ (Value.ref (hp.objs.size + 1) :: us) _ _ (fun _ _ _ => False) (hr.make C us []) (I2.env0.make C us []) b0 r2 hq) fun r s' hq' => ?_))
  cases r with
  | error er => exact hx pins σ _ _ er s' I2 hq'
  | ok fl =>
    cases fl with
    | ret u =>
      obtain ⟨v, H2, I3, rv, ev, q2⟩ := I2.after hq'
      subst ev
      exact ⟨rv, .ref (hp.objs.size + 1), H2, I3, rfl, q2⟩
    | next => exact False.elim hq'
    | brk => exact False.elim hq'
    | cont => exact False.elim hq'
/-- C(), an own error class without own __init__, as a value -/
theorem pe_exc0 {C : Addr} {bmB : List Value} {B newId initId : String} {x : Str} (F : ExcBaseFacts B newId initId bmB) (q : PySem.W.excIn X.K C bmB newId = true) (gC : X.mg x = some (.ref C)) (kC : PySem.W.keepIn X.K (.ref C) = true) (hg : Gl X x) (hdb : (x == ("__debug__" : Str)) = false := by decide) :
    PE X (.Call (.Name x p) [] [] pos) (fun _ H Q => ∀ a, H a = none → Q (.ref a) (upd H a (ExO (.ref C) a))) := by
  refine ⟨fun pins s σ H Q I h => ?_⟩
  refine wpAny_Call_Name_kw (ld_glob I hg gC ?_ hdb)
  refine PySem.W.callWith_K0 I.kIn kC ?_
  show wpAny _ _ (call (.ref C) []) _ _ _
  obtain ⟨bm, N, nm, qn, bs, hdct, sn, sub, ab, col, dd, k0, k1, k2, k3, k5, mN, hC, hN, hni, T⟩ := exc_obj I.kIn q
  refine wpAny_call_exc_subT F T hC hN hni (fun h' a hm => ?_) (Nat.zero_le _)
  have hn : H a = none := I.hok.gone hm.new
  obtain ⟨t, ht, _, _⟩ := hm.there
  exact ⟨.ref a, upd H a (ExO (.ref C) a), I.laidN hm.keeps hm.new hn (exO_ok ht ⟨rfl, rfl⟩ rfl rfl rfl (show 4 < 6 by decide)), rfl, h a hn⟩
/-- e.n of such an error -/
def tXv (K : PySem.W.Frag) (n : Str) (te : TE) : TE := fun σ H Q => te σ H fun x H1 => ∃ (a C d : Addr) (fs : List (Str × V)) (v : V), x = .ref a ∧ XfC K C ∧ PySem.W.findIn K (.ref C) n = some none ∧ H1 a = some (exo a C (some d)) ∧ H1 d = some (exd d fs) ∧ fs.lookup n = some v ∧ Q v H1
theorem inst_exo {pins : List (Addr × Obj)} {σ : L2.St} {H : Hp} {s : Shared} {a C d : Addr} {fs : List (Str × V)} (I : Inv X pins σ H s) (ea : H a = some (exo a C (some d))) (ed : H d = some (exd d fs)) :
    ∃ (oe od : Obj) (mA : Str → Option Value), PySem.W.InstAt s.heap a oe C (some od) ∧ (∀ y, PySem.W.lookIn y od = some (mA y)) ∧ ∀ f, RelO (fs.lookup f) (mA f) := by
  obtain ⟨t1, ho⟩ := exo_at I.hok ea
  obtain ⟨mA, hns, hr⟩ := exd_at I.hok ed
  obtain ⟨od, ho2, hl⟩ := lookIn_ns hns
  exact ⟨_, od, mA, ⟨ho, rfl, rfl, ho2⟩, hl, hr⟩
theorem pe_xv {n : Str} (he : PE X e te) (hb : attributeBase e n X.env (eval e X.env) = eval e X.env := by rfl) : PE X (.Attribute e n pos) (tXv X.K n te) := by
  refine ⟨fun pins s σ H Q I h => ?_⟩
  refine attr_of hb (thn (he.run pins s σ H _ I h) fun u s1 hh => ?_)
  obtain ⟨x, H1, I1, rx, a, C, d, fs, v, rfl, T, hno, ea, ed, l, q⟩ := hh
  obtain rfl : u = Value.ref a := rx
  obtain ⟨oe, od, mA, J, hl, hr⟩ := inst_exo I1 ea ed
  obtain ⟨u, hu, ru⟩ := RelO.some_of (v := v) (o := mA n) (by rw [← l]; exact hr n)
  exact HandSPX.exc_get I1.kIn J T.ga T.gg T.exC (PySem.W.findObj_own T.hdC hno rfl (by rw [hl, hu])) (handed_of ru) ⟨v, H1, I1.tok _, ru, q⟩
/-- isinstance of such an error, with fields or without -/
def rIsV (K : PySem.W.Frag) : List V → Hp → VK → Prop := fun xs H Q => ∃ (a D : Addr) (c : V) (cv : Value) (b : Bool), xs = [.ref a, c] ∧ ExcD K D ∧ (∀ u, RelV c u → u = cv) ∧ PySem.W.kitOne K (.ref D) cv = some b ∧
  ((∃ (d : Addr) (fs : List (Str × V)), H a = some (exo a D (some d)) ∧ H d = some (exd d fs)) ∨ H a = some (ExO (.ref D) a)) ∧ Q (.bl b) H
theorem call_isV : CallR X (.builtin "isinstance") (rIsV X.K) := by
  intro pins s σ H xs us Q I r h
  obtain ⟨a, D, c, cv, b, rfl, C, hcv, e, hk, q⟩ := h
  obtain ⟨u1, u2, rfl, r1, r2⟩ := vals2 r
  cases (show u1 = Value.ref a from r1)
  obtain rfl := hcv _ r2
  rcases hk with ⟨d, fs, ea, ed⟩ | ea
  · obtain ⟨oe, od, mA, J, _, _⟩ := inst_exo I ea ed
    exact PySem.W.kia_one (PySem.W.kitx_exc (clsIn_of C.hd) C.hg C.hk C.hs C.ha C.hn C.ht C.hm) I.kIn J e (fun z => nomatch z) fun tk => ⟨.bl b, H, I.tok tk, rfl, q⟩
  · obtain ⟨⟨oe, vs, ho, hz, hd, _⟩, _, _⟩ := I.hok a _ ea
    have J : PySem.W.InstAt s.heap a oe D none := ⟨ho, hz.1, by unfold PySem.W.notCls; rw [hd] <;> rfl, by rw [hz.2]; trivial⟩
    exact PySem.W.kia_one (PySem.W.kitx_exc (clsIn_of C.hd) C.hg C.hk C.hs C.ha C.hn C.ht C.hm) I.kIn J e (fun z => nomatch z) fun tk => ⟨.bl b, H, I.tok tk, rfl, q⟩
end

/-! ### heaps -/
/-- all but what stands at d is as it was -/
def But (d : Addr) (H H' : Hp) : Prop := ∀ b o, H b = some o → b ≠ d → H' b = some o
theorem But.refl {d : Addr} {H : Hp} : But d H H := fun _ _ h _ => h
theorem But.trans {d : Addr} {H H1 H2 : Hp} (x : But d H H1) (y : But d H1 H2) : But d H H2 := fun b o h n => y b o (x b o h n) n
theorem but_same {d : Addr} {H H' : Hp} (h : Same H H') : But d H H' := fun b o e _ => h b o e
theorem same_upd {H : Hp} {p : Addr} {o : HO} (h : H p = none) : Same H (upd H p o) := fun b x e => by
  rw [upd_ne (ne_of_none e h)]
  exact e
theorem but_upd {d : Addr} {H : Hp} {o : HO} : But d H (upd H d o) := fun b x e n => by
  rw [upd_ne n]
  exact e
theorem But.list {d : Addr} {H H' : Hp} {kvs : List (Key × V)} {l : Addr} {xs : List V} (x : But d H H') (hd : H d = some (.dK kvs)) (h : H l = some (.lst xs)) : H' l = some (.lst xs) :=
  x l _ h (ne_of h hd (by intro z; cases z))
theorem But.tup {d : Addr} {H H' : Hp} {kvs : List (Key × V)} {l : Addr} {xs : List V} (x : But d H H') (hd : H d = some (.dK kvs)) (h : H l = some (.tup xs)) : H' l = some (.tup xs) :=
  x l _ h (ne_of h hd (by intro z; cases z))
theorem But.seq {K : PySem.W.Frag} {d : Addr} {H H' : Hp} {kvs : List (Key × V)} {l : Addr} {xs : List V} (x : But d H H') (hd : H d = some (.dK kvs)) (h : SqL K H l xs) : SqL K H' l xs := by
  rcases h with (h | ⟨o, h⟩) | h
  · exact .inl (.inl (x l _ h (ne_of h hd (by intro z; cases z))))
  · exact .inl (.inr ⟨o, x l _ h (ne_of h hd (by intro z; cases z))⟩)
  · exact .inr h
/-- a list changes where none of what is known stood -/
theorem keep_upd {H H' : Hp} {l : Addr} {o : HO} (h : Same H H') (n : H l = none) : Same H (upd H' l o) := fun b u e => by
  rw [upd_ne (ne_of_none e n)]
  exact h b u e
theorem free_of {H H' : Hp} {p : Addr} (e : Same H H') (h : H' p = none) : H p = none := e.free h
theorem SqL.at {K : PySem.W.Frag} {H : Hp} {a : Addr} {xs : List V} (h : H a = some (.lst xs)) : SqL K H a xs := .inl (.inl h)
theorem SqT.at {K : PySem.W.Frag} {H : Hp} {a : Addr} {xs : List V} (h : H a = some (.tup xs)) : SqT K H a xs := .inl (.inl h)
theorem sz {n : Nat} (h : n ≤ 100000) : n ≤ sizeLine := Nat.le_trans h (by decide)
theorem szlt {n : Nat} (h : n ≤ 100000) : n < sizeLine := Nat.lt_of_le_of_lt h (by decide)
/-! ### data: lists of ints -/
def iD (ns : List Int) : PyData := .list (ns.map PyData.int)
theorem dp_all {K : PySem.W.Frag} {H : Hp} : ∀ ns : List Int, DpAll K H (ns.map V.int) (ns.map PyData.int)
  | [] => .nil
  | _ :: r => .cons (.int _) (dp_all r)
theorem dp_ints {K : PySem.W.Frag} {H : Hp} {p : Addr} {ns : List Int} (h : SqL K H p (ns.map V.int)) : Dp K H (.ref p) (iD ns) := .lst h (dp_all ns)
theorem dp_tints {K : PySem.W.Frag} {H : Hp} {p : Addr} {ns : List Int} (h : SqT K H p (ns.map V.int)) : Dp K H (.ref p) (.tuple (ns.map PyData.int)) := .tup h (dp_all ns)
theorem lay_ints : ∀ ns : List Int, PyData.canLayAll0 (ns.map PyData.int) = true
  | [] => by simp [PyData.canLayAll0]
  | _ :: r => by simp [PyData.canLayAll0, PyData.canLay0, lay_ints r]
theorem eqv_all_ints : ∀ ns ms : List Int, PyData.eqvAll (ns.map PyData.int) (ms.map PyData.int) = decide (ns = ms)
  | [], [] => by simp [PyData.eqvAll]
  | [], _ :: _ => by simp [PyData.eqvAll]
  | _ :: _, [] => by simp [PyData.eqvAll]
  | x :: r, y :: u => by
    simp only [List.map_cons, PyData.eqvAll, PyData.eqv, eqv_all_ints r u, List.cons.injEq]
    by_cases h1 : x = y <;> by_cases h2 : r = u <;> simp [h1, h2]
theorem eqv_ints (ns ms : List Int) : PyData.eqv (iD ns) (iD ms) = decide (ns = ms) := by
  unfold iD
  rw [PyData.eqv]
  exact eqv_all_ints ns ms
theorem deep_ints : ∀ ns : List Int, PyData.depthAll (ns.map PyData.int) ≤ 1
  | [] => by simp [PyData.depthAll]
  | _ :: r => by
    have := deep_ints r
    simp only [List.map_cons, PyData.depthAll, PyData.depth]
    omega
theorem shaped_ints {ns : List Int} : SeqAt.shaped (iD ns) = true := by
  unfold SeqAt.shaped iD
  rw [Bool.and_eq_true, decide_eq_true_eq]
  refine ⟨by rw [PyData.canLay0]; exact lay_ints ns, ?_⟩
  have := deep_ints ns
  rw [PyData.depth]
  omega
theorem atI_ints {ns : List Int} {i : Int} (h0 : 0 ≤ i) (h1 : i.toNat < ns.length) : atI (ns.map V.int) i = some (.int (ns[i.toNat]'h1)) := by
  have e : (i.toNat : Int) = i := by omega
  have z : atI (ns.map V.int) (i.toNat : Int) = some (.int (ns[i.toNat]'h1)) := by
    refine atI_nat ?_
    rw [List.getElem?_map, List.getElem?_eq_getElem h1]
    rfl
  rw [e] at z
  exact z
theorem ixN_nat {n : Nat} {i : Int} (h0 : 0 ≤ i) (h1 : i < (n : Int)) : ixN n i = some i.toNat := by
  unfold ixN
  rw [if_pos h0, if_pos h1]
theorem getD_get {ts : List Int} {i : Nat} (h : i < ts.length) : ts.getD i 0 = ts[i] := by
  rw [List.getD_eq_getElem?_getD, List.getElem?_eq_getElem h]
  rfl

/-! ### the pen: a dict of the script's cells and two ints -/
def penD (c : Addr) (t l : Int) : HO := .dK [((.inr "cells" : Key), V.ref c), ((.inr "at" : Key), V.int t), ((.inr "left" : Key), V.int l)]
structure PenAt (H : Hp) (d c : Addr) (ns : List Int) (t l : Int) : Prop where
  dc : H d = some (penD c t l)
  cs : H c = some (.lst (ns.map V.int))
  len : ns.length ≤ 63
  t0 : 0 ≤ t
/-- a pen with which at most n draws were made -/
def Pen (H : Hp) (d c : Addr) (n : Nat) : Prop := ∃ ns t l, PenAt H d c ns t l ∧ t ≤ n
theorem k1 : ¬ (("cells" : Str) = "at") := by decide +kernel
theorem k2 : ¬ (("cells" : Str) = "left") := by decide +kernel
theorem k3 : ¬ (("at" : Str) = "left") := by decide +kernel
theorem kk {x y : Str} (h : ¬ x = y) : ¬ ((Sum.inr x : Key) = Sum.inr y) := fun z => h (Sum.inr.inj z)
theorem pen_valC {c : Addr} {t l : Int} : valV [((.inr "cells" : Key), V.ref c), ((.inr "at" : Key), V.int t), ((.inr "left" : Key), V.int l)] (.inr "cells") = some (.ref c) := by
  simp [valV, List.find?]
theorem pen_valA {c : Addr} {t l : Int} : valV [((.inr "cells" : Key), V.ref c), ((.inr "at" : Key), V.int t), ((.inr "left" : Key), V.int l)] (.inr "at") = some (.int t) := by
  simp [valV, List.find?, k1]
theorem pen_valL {c : Addr} {t l : Int} : valV [((.inr "cells" : Key), V.ref c), ((.inr "at" : Key), V.int t), ((.inr "left" : Key), V.int l)] (.inr "left") = some (.int l) := by
  simp [valV, List.find?, k2, k3]
theorem pen_C {H : Hp} {d c : Addr} {t l : Int} (h : H d = some (penD c t l)) : DGet H d (.str "cells") (some (.ref c)) := by
  have e := DGet.k (k := Sum.inr "cells") h
  rw [pen_valC] at e
  exact e
theorem pen_A {H : Hp} {d c : Addr} {t l : Int} (h : H d = some (penD c t l)) : DGet H d (.str "at") (some (.int t)) := by
  have e := DGet.k (k := Sum.inr "at") h
  rw [pen_valA] at e
  exact e
theorem pen_L {H : Hp} {d c : Addr} {t l : Int} (h : H d = some (penD c t l)) : DGet H d (.str "left") (some (.int l)) := by
  have e := DGet.k (k := Sum.inr "left") h
  rw [pen_valL] at e
  exact e
theorem pen_putA {c : Addr} {t l u : Int} : putK [((.inr "cells" : Key), V.ref c), ((.inr "at" : Key), V.int t), ((.inr "left" : Key), V.int l)] (.inr "at") (.int u) = [((.inr "cells" : Key), V.ref c), ((.inr "at" : Key), V.int u), ((.inr "left" : Key), V.int l)] := by
  simp [putK, k1, k3, show ¬ (("left" : Str) = "at") from fun h => k3 h.symm]
theorem pen_putL {c : Addr} {t l u : Int} : putK [((.inr "cells" : Key), V.ref c), ((.inr "at" : Key), V.int t), ((.inr "left" : Key), V.int l)] (.inr "left") (.int u) = [((.inr "cells" : Key), V.ref c), ((.inr "at" : Key), V.int t), ((.inr "left" : Key), V.int u)] := by
  simp [putK, k2, k3]
theorem pen_setA {H : Hp} {d c : Addr} {t l u : Int} (h : H d = some (penD c t l)) : DPut H d (.str "at") (.int u) (upd H d (penD c u l)) := by
  have e := DPut.k (k := Sum.inr "at") (v := .int u) h (by show 3 < sizeLine; exact szlt (by decide))
  rw [pen_putA] at e
  exact e
theorem pen_setL {H : Hp} {d c : Addr} {t l u : Int} (h : H d = some (penD c t l)) : DPut H d (.str "left") (.int u) (upd H d (penD c t u)) := by
  have e := DPut.k (k := Sum.inr "left") (v := .int u) h (by show 3 < sizeLine; exact szlt (by decide))
  rw [pen_putL] at e
  exact e
theorem pen_mk {l : Addr} : mergeK [] [((.inr "cells" : Key), V.ref l), ((.inr "at" : Key), V.int 0), ((.inr "left" : Key), V.int 0)] = [((.inr "cells" : Key), V.ref l), ((.inr "at" : Key), V.int 0), ((.inr "left" : Key), V.int 0)] := by
  simp [mergeK, putK, k1, k2, k3]
theorem Pen.same {H H' : Hp} {d c : Addr} {n : Nat} (p : Pen H d c n) (h : Same H H') : Pen H' d c n := by
  obtain ⟨ns, t, l, q, e⟩ := p
  exact ⟨ns, t, l, ⟨h _ _ q.dc, h _ _ q.cs, q.len, q.t0⟩, e⟩
theorem Pen.up {H : Hp} {d c : Addr} {n m : Nat} (p : Pen H d c n) (h : n ≤ m) : Pen H d c m := by
  obtain ⟨ns, t, l, q, e⟩ := p
  exact ⟨ns, t, l, q, by omega⟩
theorem Pen.dict {H : Hp} {d c : Addr} {n : Nat} (p : Pen H d c n) : ∃ kvs, H d = some (.dK kvs) := by
  obtain ⟨ns, t, l, q, e⟩ := p
  exact ⟨_, q.dc⟩
theorem Pen.cells {H : Hp} {d c : Addr} {n : Nat} (p : Pen H d c n) : ∃ o, H c = some o := by
  obtain ⟨ns, t, l, q, e⟩ := p
  exact ⟨_, q.cs⟩
/-- a list that is not the pen's changes -/
theorem Pen.mut {H : Hp} {d c l : Addr} {n : Nat} {o : HO} (p : Pen H d c n) (hd : d ≠ l) (hc : c ≠ l) : Pen (upd H l o) d c n := by
  obtain ⟨ns, t, u, q, e⟩ := p
  exact ⟨ns, t, u, ⟨by rw [upd_ne hd]; exact q.dc, by rw [upd_ne hc]; exact q.cs, q.len, q.t0⟩, e⟩
/-- what stands where nothing stood may change -/
theorem But.mut {d l : Addr} {H H' : Hp} {o : HO} (b : But d H H') (h : H l = none) : But d H (upd H' l o) := fun x u e n => by
  rw [upd_ne (ne_of_none e h)]
  exact b x u e n
theorem cut63 (ns : List Int) : cutV (ns.map V.int) none (some 63) = (ns.take 63).map V.int := by
  unfold cutV
  rw [show HT.sIx (ns.map V.int).length (ns.map V.int).length (some 63) = min 63 (ns.map V.int).length from HT.sIx_nat _ _ 63, HT.sIx_none, List.drop_zero, Nat.sub_zero, List.map_take, List.take_eq_take_iff]
  omega
section
variable {P : Program} {w : World} {K : PySem.W.Frag} {mg : Str → Option Value} {base : Heap} {a : Ad}
def spPen (K : PySem.W.Frag) : Sp := fun vs H Q _ => ∃ (s : Addr) (ns : List Int), vs = [.ref s] ∧ SqL K H s (ns.map V.int) ∧ ns.length ≤ 63 ∧
  ∀ d c H', H d = none → H c = none → Pen H' d c 0 → Same H H' → Q (.ref d) H'
theorem ok__law_pen (T : Tx w K mg a) : FnOk P w K mg base CX0 1 a.f__law_pen a.d__law_pen ["script"] (spPen K) := by
  refine T.F__law_pen.ok sc__law_pen (fun vs H Q E h => ?_) (fun cdv A outer s H vs Q E hr h => ?_)
  · obtain ⟨s, ns, rfl, _⟩ := h
    rfl
  · obtain ⟨x, ns, rfl, hS, hlen, q⟩ := h
    have hu := hu_of hr
    refine ⟨_, 
(pss_one (ps_ret (pe_disp (pps_cons pe_str (pe_callTy call_list_of (by rfl) T.z_list (by decide +kernel) (pa_cons (pe_slice sl_list (pv 0) po_none (po_some pe_int)) pa_nil)) (pps_cons pe_str pe_int (pps_cons pe_str pe_int pps_nil))) (by rfl) (by rfl) (fun z => by cases z) (by decide)))), ?_⟩
    intro d hd
    have s1 : Same H (upd H d (.dK [])) := same_upd hd
    refine ⟨.ref x, rfl, 63, rfl, x, ns.map V.int, rfl, s1.seq hS, fun p hp => ?_⟩
    have s2 : Same (upd H d (.dK [])) (upd (upd H d (.dK [])) p (.lst (cutV (ns.map V.int) none (some 63)))) := same_upd hp
    refine ⟨p, _, rfl, .inl (SqL.at upd_same), fun l hl => ?_⟩
    have s3 := same_upd (o := .lst (cutV (ns.map V.int) none (some 63))) hl
    have hd3 := s3 _ _ (s2 _ _ (upd_same (H := H) (a := d) (o := .dK [])))
    have hl3 : (upd (upd (upd H d (.dK [])) p (.lst (cutV (ns.map V.int) none (some 63)))) l (.lst (cutV (ns.map V.int) none (some 63)))) l = _ := upd_same
    have ndl : l ≠ d := ne_of hl3 hd3 (by intro z; cases z)
    refine ⟨hd3, [((.inr "cells" : Key), V.ref l), ((.inr "at" : Key), V.int 0), ((.inr "left" : Key), V.int 0)], rfl, (by show 3 ≤ 15; decide), ?_⟩
    rw [pen_mk]
    refine q d l _ hd (s1.free (s2.free hl)) ⟨ns.take 63, 0, 0, ⟨upd_same, ?_, ?_, by decide⟩, by decide⟩ ?_
    · rw [upd_ne ndl, hl3, cut63]
    · rw [List.length_take]
      omega
    · intro b o e
      rw [upd_ne (ne_of_none e hd)]
      exact s3 _ _ (s2 _ _ (s1 _ _ e))
/-- a draw: any int from 0 on that is less than the second argument; the pen alone changes -/
def spDraw : Sp := fun vs H Q _ => ∃ (d c : Addr) (n : Nat) (m : Int), vs = [.ref d, .int m] ∧ Pen H d c n ∧ n < 2 ^ 40 ∧ 0 < m ∧ m < 2 ^ 200 ∧
  ∀ v H', 0 ≤ v → v < m → Pen H' d c (n + 1) → But d H H' → Q (.int v) H'
theorem ok__law_draw (T : Tx w K mg a) : FnOk P w K mg base CX0 1 a.f__law_draw a.d__law_draw ["pen", "many"] spDraw := by
  refine T.F__law_draw.ok sc__law_draw (fun vs H Q E h => ?_) (fun cdv A outer s H vs Q E hr h => ?_)
  · obtain ⟨d, c, n, m, rfl, _⟩ := h
    rfl
  · obtain ⟨d, c, n, m, rfl, ⟨ns, t, l, ⟨hd, hc, hlen, t0⟩, htn⟩, hn, m0, mb, q⟩ := h
    have hu := hu_of hr
    have hmne : m ≠ 0 := by omega
    have hdiv : ∀ x : Int, CDivW x m := fun x => wide_div m0 (b := 200) (by omega) (by decide) (by decide)
    have f0 : ∀ x : Int, 0 ≤ Int.fmod x m := fun x => Int.fmod_nonneg_of_pos x m0
    have f1 : ∀ x : Int, Int.fmod x m < m := fun x => Int.fmod_lt_of_pos x m0
    refine ⟨_, 
(pss_cons (ps_if (pt_cmpR op_ge (pe_dget hu (pv 0) pe_str (fun _ _ => rfl)) (pv 1) (nomark _))
  (pss_cons (ps_set (i := 2) sc__law_draw.nd rfl (.inl rfl) (pe_op op_modN (pe_callTy call_int1 (by rfl) T.z_int (by decide +kernel) (pa_cons (pe_dget hu (pv 0) pe_str (fun _ _ => rfl)) pa_nil)) (pv 1)))
  (pss_cons (ps_dput hu (pv 0) pe_str (pe_op op_fdivW (pe_dget hu (pv 0) pe_str (fun _ _ => rfl)) (pv 1)) rfl)
  (pss_one (ps_ret (pv 2)))))
  pss_nil)
  (pss_cons (ps_set (i := 3) sc__law_draw.nd rfl (.inl rfl) (pe_dget hu (pv 0) pe_str (fun _ _ => rfl)))
  (pss_cons (ps_dput hu (pv 0) pe_str (pe_op op_add (pv 3) pe_int) rfl)
  (pss_cons (ps_set (i := 4) sc__law_draw.nd rfl (.inl rfl) (pe_op op_add (pe_op op_mul pe_int (pv 3)) pe_int))
  (C8.pss_cut (ps_if (pt_cmpR (op_neD hr.units) (pe_dget hu (pv 0) pe_str (fun _ _ => rfl)) (pe_lst pa_nil) (nomark _))
  (pss_one (ps_set (i := 4) sc__law_draw.nd rfl (.inl rfl) (pe_ix ix_list (pe_dget hu (pv 0) pe_str (fun _ _ => rfl)) (pe_op op_modN (pe_callTy call_int1 (by rfl) T.z_int (by decide +kernel) (pa_cons (pv 3) pa_nil)) (pe_callB call_len_seq (by rfl) T.z_len PySem.boot_len (pa_cons (pe_dget hu (pv 0) pe_str (fun _ _ => rfl)) pa_nil))) (fun _ _ => rfl))))
  pss_nil)
  (C8.pss_cut (ps_if (PW.pt (pw_and (pt_cmpR op_lt (pv 3) (pe_callB call_len_seq (by rfl) T.z_len PySem.boot_len (pa_cons (pe_dget hu (pv 0) pe_str (fun _ _ => rfl)) pa_nil)) (nomark _)) (pw_and1 (pt_cmpR op_ge (pv 4) (pe_op op_pow pe_int pe_int) (nomark _)))))
  (pss_cons (ps_dput hu (pv 0) pe_str (pe_op op_fdivW (pe_op op_sub (pv 4) (pe_op op_pow pe_int pe_int)) (pv 1)) rfl)
  (pss_one (ps_ret (pe_op op_modN (pe_callTy call_int1 (by rfl) T.z_int (by decide +kernel) (pa_cons (pe_op op_sub (pv 4) (pe_op op_pow pe_int pe_int)) pa_nil)) (pv 1)))))
  pss_nil)
  (pss_cons (ps_set (i := 5) sc__law_draw.nd rfl (.inl rfl) (pe_op op_add (pe_op op_add (pe_op op_add (pe_op op_mul (pe_op op_modN (pe_callTy call_int1 (by rfl) T.z_int (by decide +kernel) (pa_cons (pv 4) pa_nil)) pe_int) pe_int) (pe_op op_mul (pe_op op_mul pe_int (pv 3)) (pv 3))) (pe_op op_mul pe_int (pv 3))) pe_int))
  (pss_cons (ps_set (i := 5) sc__law_draw.nd rfl (.inl rfl) (pe_op op_modN (pe_callTy call_int1 (by rfl) T.z_int (by decide +kernel) (pa_cons (pv 5) pa_nil)) pe_int))
  (pss_cons (ps_set (i := 5) sc__law_draw.nd rfl (.inl rfl) (pe_op op_modN (pe_callTy call_int1 (by rfl) T.z_int (by decide +kernel) (pa_cons (pe_op op_mul (pv 5) (pe_op op_add (pv 5) pe_int)) pa_nil)) pe_int))
  (pss_one (ps_ret (pe_op op_modN (pe_callTy call_int1 (by rfl) T.z_int (by decide +kernel) (pa_cons (pe_op op_fdivN (pe_op op_modN (pe_callTy call_int1 (by rfl) T.z_int (by decide +kernel) (pa_cons (pe_op op_mul (pv 5) (pv 5)) pa_nil)) pe_int) pe_int) pa_nil)) (pv 1))))))))))))), ?_⟩
    -- if pen['left'] >= many
    refine ⟨.ref d, rfl, d, .int l, rfl, pen_L hd, .int m, rfl, l, m, rfl, rfl, _, rfl, ite2 (fun e => ?_) (fun e => ?_)⟩
    · -- digit = int(pen['left']) % many; pen['left'] = pen['left'] // many; return digit
      refine ⟨.ref d, rfl, d, .int l, rfl, pen_L hd, .inl ⟨l, rfl, .int m, rfl, l, m, rfl, rfl, hmne, ?_⟩⟩
      refine ⟨.ref d, rfl, d, .int l, rfl, pen_L hd, .int m, rfl, l, m, rfl, rfl, hdiv l, .ref d, rfl, d, _, rfl, pen_setL hd, ?_⟩
      exact ⟨_, rfl, q _ _ (f0 l) (f1 l) ⟨ns, t, _, ⟨upd_same, by rw [upd_ne (ne_of hc hd (by intro z; cases z))]; exact hc, hlen, t0⟩, by omega⟩ but_upd⟩
    · -- at = pen['at']; pen['at'] = at + 1; cell = 41 * at + 13
      refine ⟨.ref d, rfl, d, .int t, rfl, pen_A hd, ?_⟩
      refine ⟨.int t, rfl, t, 1, rfl, rfl, .ref d, rfl, d, _, rfl, pen_setA hd, ?_⟩
      refine ⟨.int t, rfl, 41, t, rfl, rfl, .inl ⟨by decide, by decide⟩, 41 * t, 13, rfl, rfl, ?_⟩
      have hd1 : (upd H d (penD c (t + 1) l)) d = some (penD c (t + 1) l) := upd_same
      have hc1 : (upd H d (penD c (t + 1) l)) c = some (.lst (ns.map V.int)) := by
        rw [upd_ne (ne_of hc hd (by intro z; cases z))]
        exact hc
      have b1 : But d H (upd H d (penD c (t + 1) l)) := but_upd
      generalize upd H d (penD c (t + 1) l) = H1 at hd1 hc1 b1 ⊢
      -- if pen['cells'] != []: cell = pen['cells'][int(at) % len(pen['cells'])]
      refine ⟨fun σ' H' => ∃ cell : Int, σ' = [some (.ref d), some (.int m), none, some (.int t), some (.int cell), none] ∧ H' d = some (penD c (t + 1) l) ∧ H' c = some (.lst (ns.map V.int)) ∧ But d H H', ?_, fun σ'' H'' hM => ?_⟩
      · refine ⟨.ref d, rfl, d, .ref c, rfl, pen_C hd1, Nat.zero_le _, fun p hp => ?_⟩
        have s2 : Same H1 (upd H1 p (.lst [])) := same_upd hp
        have hp2 : (upd H1 p (.lst [])) p = some (.lst []) := upd_same
        have hd2 := s2 _ _ hd1
        have hc2 := s2 _ _ hc1
        have b2 : But d H (upd H1 p (.lst [])) := b1.trans (but_same s2)
        generalize upd H1 p (.lst []) = H2 at hd2 hc2 hp2 b2 ⊢
        refine ⟨_, _, dp_ints (SqL.at hc2), dp_ints (ns := []) (SqL.at hp2), shaped_ints, shaped_ints, _, rfl, ?_⟩
        rw [eqv_ints]
        refine ite2 (fun e => ?_) (fun e => ?_)
        · have hns : ns ≠ [] := by
            intro z
            subst z
            simp at e
          have hpos : 0 < ns.length := List.length_pos_iff.mpr hns
          have g0 : (0 : Int) ≤ Int.fmod t (ns.length : Int) := Int.fmod_nonneg_of_pos _ (by omega)
          have g1 : Int.fmod t (ns.length : Int) < (ns.length : Int) := Int.fmod_lt_of_pos _ (by omega)
          refine ⟨.ref d, rfl, d, .ref c, rfl, pen_C hd2, .int t, rfl, .inl ⟨t, rfl, .ref d, rfl, d, .ref c, rfl, pen_C hd2, c, _, rfl, .inl (SqL.at hc2), t, _, rfl, rfl, ?_, c, _, _, .int (ns[(Int.fmod t (ns.length : Int)).toNat]'(by omega)), rfl, rfl, SqL.at hc2, ?_, ?_⟩⟩
          · rw [List.length_map]
            omega
          · rw [List.length_map]
            exact atI_ints g0 (by omega)
          · exact ⟨_, rfl, hd2, hc2, b2⟩
        · exact ⟨_, rfl, hd2, hc2, b2⟩
      · obtain ⟨cell, rfl, hd3, hc3, b3⟩ := hM
        have hlen' : (ns.map V.int).length ≤ 63 := by
          rw [List.length_map]
          exact hlen
        -- if at < len(pen['cells']) and cell >= 10 ** 18
        refine ⟨fun σ' H' => σ' = [some (.ref d), some (.int m), none, some (.int t), some (.int cell), none] ∧ H' = H'', ?_, fun σ' H' hM => ?_⟩
        · refine ⟨.int t, rfl, .ref d, rfl, d, .ref c, rfl, pen_C hd3, c, _, rfl, .inl (SqL.at hc3), t, _, rfl, rfl, _, rfl, ite2 (fun e1 => ?_) (fun e1 => iteF ⟨rfl, rfl⟩)⟩
          refine ⟨.int cell, rfl, 10, 18, rfl, rfl, ⟨by decide, by decide, by decide⟩, cell, _, rfl, rfl, _, rfl, ite2 (fun e2 => ?_) (fun e2 => ⟨rfl, rfl⟩)⟩
          refine ⟨.int cell, rfl, 10, 18, rfl, rfl, ⟨by decide, by decide, by decide⟩, cell, _, rfl, rfl, .int m, rfl, _, m, rfl, rfl, hdiv _, .ref d, rfl, d, _, rfl, pen_setL hd3, ?_⟩
          refine ⟨.int cell, rfl, 10, 18, rfl, rfl, ⟨by decide, by decide, by decide⟩, cell, _, rfl, rfl, .inl ⟨_, rfl, .int m, rfl, _, m, rfl, rfl, hmne, ?_⟩⟩
          exact q _ _ (f0 _) (f1 _) ⟨ns, t + 1, _, ⟨upd_same, by rw [upd_ne (ne_of hc3 hd3 (by intro z; cases z))]; exact hc3, hlen, by omega⟩, by omega⟩ (b3.trans but_upd)
        · obtain ⟨rfl, rfl⟩ := hM
          have g : ∀ x y : Int, 0 < y → 0 ≤ Int.fmod x y ∧ Int.fmod x y < y := fun x y hy => ⟨Int.fmod_nonneg_of_pos x hy, Int.fmod_lt_of_pos x hy⟩
          have g1 := g cell 2147483629 (by decide)
          have z1 : (2147483629 : Int) ≠ 0 := by decide
          have z2 : (2147483647 : Int) ≠ 0 := by decide
          have z3 : (2147483587 : Int) ≠ 0 := by decide
          have z4 : (2147483563 : Int) ≠ 0 := by decide
          have y1 : -(2 ^ 64) < Int.fmod cell 2147483629 ∧ Int.fmod cell 2147483629 < 2 ^ 64 := by omega
          have y2 : -(2 ^ 64) < t ∧ t < 2 ^ 64 := by omega
          refine ⟨.int cell, rfl, .inl ⟨cell, rfl, cell, 2147483629, rfl, rfl, z1, _, 48271, rfl, rfl, .inl y1, .int t, rfl, 69621, t, rfl, rfl, .inr y2, .int t, rfl, _, t, rfl, rfl, .inr y2, _, _, rfl, rfl, .int t, rfl, 59, t, rfl, rfl, .inr y2, _, _, rfl, rfl, _, 11, rfl, rfl, ?_⟩⟩
          have g2 := g (Int.fmod cell 2147483629 * 48271 + 69621 * t * t + 59 * t + 11) 2147483647 (by decide)
          refine ⟨_, rfl, .inl ⟨_, rfl, _, 2147483647, rfl, rfl, z2, ?_⟩⟩
          have y3 : -(2 ^ 64) < Int.fmod (Int.fmod cell 2147483629 * 48271 + 69621 * t * t + 59 * t + 11) 2147483647 ∧ Int.fmod (Int.fmod cell 2147483629 * 48271 + 69621 * t * t + 59 * t + 11) 2147483647 < 2 ^ 64 := by omega
          refine ⟨_, rfl, _, rfl, _, 40014, rfl, rfl, _, _, rfl, rfl, .inl y3, .inl ⟨_, rfl, _, 2147483587, rfl, rfl, z3, ?_⟩⟩
          have g3 := fun x => g x 2147483587 (by decide)
          have y4 : ∀ x, -(2 ^ 64) < Int.fmod x 2147483587 ∧ Int.fmod x 2147483587 < 2 ^ 64 := fun x => by
            have := g3 x
            omega
          refine ⟨_, rfl, _, rfl, _, _, rfl, rfl, .inl (y4 _), .inl ⟨_, rfl, _, 2147483563, rfl, rfl, z4, _, 64, rfl, rfl, ⟨by decide, by decide⟩, .inl ⟨_, rfl, .int m, rfl, _, m, rfl, rfl, hmne, ?_⟩⟩⟩
          exact q _ _ (f0 _) (f1 _) ⟨ns, t + 1, l, ⟨hd3, hc3, hlen, by omega⟩, by omega⟩ b3
end

section
variable {P : Program} {w : World} {K : PySem.W.Frag} {mg : Str → Option Value} {base : Heap} {a : Ad}
/-- a pick: some item of the list -/
def spPick (K : PySem.W.Frag) : Sp := fun vs H Q _ => ∃ (d c s : Addr) (n : Nat) (xs : List V), vs = [.ref d, .ref s] ∧ Pen H d c n ∧ n < 2 ^ 40 ∧ SqL K H s xs ∧ 0 < xs.length ∧ xs.length ≤ 100000 ∧
  ∀ v H', v ∈ xs → Pen H' d c (n + 1) → But d H H' → Q v H'
theorem ok__law_pick (T : Tx w K mg a) : FnOk P w K mg base CX0 2 a.f__law_pick a.d__law_pick ["pen", "some"] (spPick K) := by
  refine T.F__law_pick.ok sc__law_pick (fun vs H Q E h => ?_) (fun cdv A outer s H vs Q E hr h => ?_)
  · obtain ⟨d, c, s, n, xs, rfl, _⟩ := h
    rfl
  · obtain ⟨d, c, s, n, xs, rfl, hp, hn, hs, h0, h1, q⟩ := h
    obtain ⟨kvs, hd⟩ := hp.dict
    refine ⟨_, 
(pss_one (ps_ret (pe_ix ix_list (pv 1) (pe_call (ok__law_draw T) hr (by rfl) T.m__law_draw T.F__law_draw.kp T.b__law_draw .nil pass0 (pa_cons (pv 0) (pa_cons (pe_callB call_len_seq (by rfl) T.z_len PySem.boot_len (pa_cons (pv 1) pa_nil)) pa_nil))) (fun _ _ => rfl)))), ?_⟩
    refine ⟨.ref s, rfl, .ref d, rfl, .ref s, rfl, s, _, rfl, .inl hs, d, c, n, _, rfl, hp, hn, by omega, ?_, fun v H' v0 v1 hp' hb => ?_⟩
    · have : ((100000 : Nat) : Int) < 2 ^ 200 := by decide
      omega
    · refine ⟨s, xs, v, xs[v.toNat]'(by omega), rfl, rfl, hb.seq hd hs, ?_, q _ _ (List.getElem_mem _) hp' hb⟩
      have e : (v.toNat : Int) = v := by omega
      have z : atI xs (v.toNat : Int) = some (xs[v.toNat]'(by omega)) := atI_nat (List.getElem?_eq_getElem (by omega))
      rw [e] at z
      exact z
end

/-! ### the fourteen errors by their numbers -/
section
variable {P : Program} {w : World} {K : PySem.W.Frag} {mg : Str → Option Value} {base : Heap} {a : Ad}
def spErrInit (C : Addr) (f : Str) : Sp := fun vs H Q _ => ∃ (x : Addr) (v : V), vs = [.ref x, v] ∧ H x = some (exo x C none) ∧ ∀ dx, H dx = none → dx ≠ x → Q .non (upd (upd H dx (exd dx [(f, v)])) x (exo x C (some dx)))
theorem ok_BadWord_init (T : Tx w K mg a) : FnOk P w K mg base CX0 1 a.f_BadWord_init a.d_BadWord_init ["self", "index"] (spErrInit a.C_BadWord "index") := by
  refine T.F_BadWord_init.ok sc_BadWord_init (fun vs H Q E h => ?_) (fun cdv A outer s H vs Q E hr h => ?_)
  · obtain ⟨x, v, rfl, _⟩ := h
    rfl
  · obtain ⟨x, v, rfl, hx, q⟩ := h
    refine ⟨_, 
(pss_one (ps_ost (pv 0) (pv 1))), ?_⟩
    exact ⟨v, rfl, .ref x, rfl, x, a.C_BadWord, rfl, T.ox_BadWord.o, T.ox_BadWord.no, .inl ⟨hx, fun dx n ne => q dx n ne⟩⟩
theorem ok_BadText_init (T : Tx w K mg a) : FnOk P w K mg base CX0 1 a.f_BadText_init a.d_BadText_init ["self", "line"] (spErrInit a.C_BadText "line") := by
  refine T.F_BadText_init.ok sc_BadText_init (fun vs H Q E h => ?_) (fun cdv A outer s H vs Q E hr h => ?_)
  · obtain ⟨x, v, rfl, _⟩ := h
    rfl
  · obtain ⟨x, v, rfl, hx, q⟩ := h
    refine ⟨_, 
(pss_one (ps_ost (pv 0) (pv 1))), ?_⟩
    exact ⟨v, rfl, .ref x, rfl, x, a.C_BadText, rfl, T.ox_BadText.o, T.ox_BadText.no, .inl ⟨hx, fun dx n ne => q dx n ne⟩⟩
theorem ok_BadSize_init (T : Tx w K mg a) : FnOk P w K mg base CX0 1 a.f_BadSize_init a.d_BadSize_init ["self", "size"] (spErrInit a.C_BadSize "size") := by
  refine T.F_BadSize_init.ok sc_BadSize_init (fun vs H Q E h => ?_) (fun cdv A outer s H vs Q E hr h => ?_)
  · obtain ⟨x, v, rfl, _⟩ := h
    rfl
  · obtain ⟨x, v, rfl, hx, q⟩ := h
    refine ⟨_, 
(pss_one (ps_ost (pv 0) (pv 1))), ?_⟩
    exact ⟨v, rfl, .ref x, rfl, x, a.C_BadSize, rfl, T.ox_BadSize.o, T.ox_BadSize.no, .inl ⟨hx, fun dx n ne => q dx n ne⟩⟩
theorem ok_BadCall_init (T : Tx w K mg a) : FnOk P w K mg base CX0 1 a.f_BadCall_init a.d_BadCall_init ["self", "call"] (spErrInit a.C_BadCall "call") := by
  refine T.F_BadCall_init.ok sc_BadCall_init (fun vs H Q E h => ?_) (fun cdv A outer s H vs Q E hr h => ?_)
  · obtain ⟨x, v, rfl, _⟩ := h
    rfl
  · obtain ⟨x, v, rfl, hx, q⟩ := h
    refine ⟨_, 
(pss_one (ps_ost (pv 0) (pv 1))), ?_⟩
    exact ⟨v, rfl, .ref x, rfl, x, a.C_BadCall, rfl, T.ox_BadCall.o, T.ox_BadCall.no, .inl ⟨hx, fun dx n ne => q dx n ne⟩⟩
theorem ok_BadNumber_init (T : Tx w K mg a) : FnOk P w K mg base CX0 1 a.f_BadNumber_init a.d_BadNumber_init ["self", "number"] (spErrInit a.C_BadNumber "number") := by
  refine T.F_BadNumber_init.ok sc_BadNumber_init (fun vs H Q E h => ?_) (fun cdv A outer s H vs Q E hr h => ?_)
  · obtain ⟨x, v, rfl, _⟩ := h
    rfl
  · obtain ⟨x, v, rfl, hx, q⟩ := h
    refine ⟨_, 
(pss_one (ps_ost (pv 0) (pv 1))), ?_⟩
    exact ⟨v, rfl, .ref x, rfl, x, a.C_BadNumber, rfl, T.ox_BadNumber.o, T.ox_BadNumber.no, .inl ⟨hx, fun dx n ne => q dx n ne⟩⟩
theorem ok_BadPlace_init (T : Tx w K mg a) : FnOk P w K mg base CX0 1 a.f_BadPlace_init a.d_BadPlace_init ["self", "place"] (spErrInit a.C_BadPlace "place") := by
  refine T.F_BadPlace_init.ok sc_BadPlace_init (fun vs H Q E h => ?_) (fun cdv A outer s H vs Q E hr h => ?_)
  · obtain ⟨x, v, rfl, _⟩ := h
    rfl
  · obtain ⟨x, v, rfl, hx, q⟩ := h
    refine ⟨_, 
(pss_one (ps_ost (pv 0) (pv 1))), ?_⟩
    exact ⟨v, rfl, .ref x, rfl, x, a.C_BadPlace, rfl, T.ox_BadPlace.o, T.ox_BadPlace.no, .inl ⟨hx, fun dx n ne => q dx n ne⟩⟩
theorem ok_BadThing_init (T : Tx w K mg a) : FnOk P w K mg base CX0 1 a.f_BadThing_init a.d_BadThing_init ["self", "thing"] (spErrInit a.C_BadThing "thing") := by
  refine T.F_BadThing_init.ok sc_BadThing_init (fun vs H Q E h => ?_) (fun cdv A outer s H vs Q E hr h => ?_)
  · obtain ⟨x, v, rfl, _⟩ := h
    rfl
  · obtain ⟨x, v, rfl, hx, q⟩ := h
    refine ⟨_, 
(pss_one (ps_ost (pv 0) (pv 1))), ?_⟩
    exact ⟨v, rfl, .ref x, rfl, x, a.C_BadThing, rfl, T.ox_BadThing.o, T.ox_BadThing.no, .inl ⟨hx, fun dx n ne => q dx n ne⟩⟩
theorem ok_BadRow_init (T : Tx w K mg a) : FnOk P w K mg base CX0 1 a.f_BadRow_init a.d_BadRow_init ["self", "index"] (spErrInit a.C_BadRow "index") := by
  refine T.F_BadRow_init.ok sc_BadRow_init (fun vs H Q E h => ?_) (fun cdv A outer s H vs Q E hr h => ?_)
  · obtain ⟨x, v, rfl, _⟩ := h
    rfl
  · obtain ⟨x, v, rfl, hx, q⟩ := h
    refine ⟨_, 
(pss_one (ps_ost (pv 0) (pv 1))), ?_⟩
    exact ⟨v, rfl, .ref x, rfl, x, a.C_BadRow, rfl, T.ox_BadRow.o, T.ox_BadRow.no, .inl ⟨hx, fun dx n ne => q dx n ne⟩⟩
theorem ok_NotWhole_init (T : Tx w K mg a) : FnOk P w K mg base CX0 1 a.f_NotWhole_init a.d_NotWhole_init ["self", "size"] (spErrInit a.C_NotWhole "size") := by
  refine T.F_NotWhole_init.ok sc_NotWhole_init (fun vs H Q E h => ?_) (fun cdv A outer s H vs Q E hr h => ?_)
  · obtain ⟨x, v, rfl, _⟩ := h
    rfl
  · obtain ⟨x, v, rfl, hx, q⟩ := h
    refine ⟨_, 
(pss_one (ps_ost (pv 0) (pv 1))), ?_⟩
    exact ⟨v, rfl, .ref x, rfl, x, a.C_NotWhole, rfl, T.ox_NotWhole.o, T.ox_NotWhole.no, .inl ⟨hx, fun dx n ne => q dx n ne⟩⟩
theorem ok_NotClosed_init (T : Tx w K mg a) : FnOk P w K mg base CX0 1 a.f_NotClosed_init a.d_NotClosed_init ["self", "size"] (spErrInit a.C_NotClosed "size") := by
  refine T.F_NotClosed_init.ok sc_NotClosed_init (fun vs H Q E h => ?_) (fun cdv A outer s H vs Q E hr h => ?_)
  · obtain ⟨x, v, rfl, _⟩ := h
    rfl
  · obtain ⟨x, v, rfl, hx, q⟩ := h
    refine ⟨_, 
(pss_one (ps_ost (pv 0) (pv 1))), ?_⟩
    exact ⟨v, rfl, .ref x, rfl, x, a.C_NotClosed, rfl, T.ox_NotClosed.o, T.ox_NotClosed.no, .inl ⟨hx, fun dx n ne => q dx n ne⟩⟩
theorem ok_NoLevel_init (T : Tx w K mg a) : FnOk P w K mg base CX0 1 a.f_NoLevel_init a.d_NoLevel_init ["self", "size"] (spErrInit a.C_NoLevel "size") := by
  refine T.F_NoLevel_init.ok sc_NoLevel_init (fun vs H Q E h => ?_) (fun cdv A outer s H vs Q E hr h => ?_)
  · obtain ⟨x, v, rfl, _⟩ := h
    rfl
  · obtain ⟨x, v, rfl, hx, q⟩ := h
    refine ⟨_, 
(pss_one (ps_ost (pv 0) (pv 1))), ?_⟩
    exact ⟨v, rfl, .ref x, rfl, x, a.C_NoLevel, rfl, T.ox_NoLevel.o, T.ox_NoLevel.no, .inl ⟨hx, fun dx n ne => q dx n ne⟩⟩
theorem ok_NoList_init (T : Tx w K mg a) : FnOk P w K mg base CX0 1 a.f_NoList_init a.d_NoList_init ["self", "size"] (spErrInit a.C_NoList "size") := by
  refine T.F_NoList_init.ok sc_NoList_init (fun vs H Q E h => ?_) (fun cdv A outer s H vs Q E hr h => ?_)
  · obtain ⟨x, v, rfl, _⟩ := h
    rfl
  · obtain ⟨x, v, rfl, hx, q⟩ := h
    refine ⟨_, 
(pss_one (ps_ost (pv 0) (pv 1))), ?_⟩
    exact ⟨v, rfl, .ref x, rfl, x, a.C_NoList, rfl, T.ox_NoList.o, T.ox_NoList.no, .inl ⟨hx, fun dx n ne => q dx n ne⟩⟩
def eC (a : Ad) : Nat → Addr
  | 0 => a.C_BadWord
  | 1 => a.C_BadText
  | 2 => a.C_BadSize
  | 3 => a.C_BadCall
  | 4 => a.C_BadNumber
  | 5 => a.C_BadPlace
  | 6 => a.C_BadThing
  | 7 => a.C_BadRow
  | 8 => a.C_NotWhole
  | 9 => a.C_NotClosed
  | 10 => a.C_NoLevel
  | 11 => a.C_NoList
  | 12 => a.C_Mixed
  | _ => a.C_NothingToUndo
theorem nat14 {k : Nat} (h : k < 14) : k = 0 ∨ k = 1 ∨ k = 2 ∨ k = 3 ∨ k = 4 ∨ k = 5 ∨ k = 6 ∨ k = 7 ∨ k = 8 ∨ k = 9 ∨ k = 10 ∨ k = 11 ∨ k = 12 ∨ k = 13 := by omega
theorem eC_i (T : Tx w K mg a) {k : Nat} (h : k < 14) : ExcD K (eC a k) := by
  rcases nat14 h with rfl | rfl | rfl | rfl | rfl | rfl | rfl | rfl | rfl | rfl | rfl | rfl | rfl | rfl
  · exact T.ox_BadWord.i
  · exact T.ox_BadText.i
  · exact T.ox_BadSize.i
  · exact T.ox_BadCall.i
  · exact T.ox_BadNumber.i
  · exact T.ox_BadPlace.i
  · exact T.ox_BadThing.i
  · exact T.ox_BadRow.i
  · exact T.ox_NotWhole.i
  · exact T.ox_NotClosed.i
  · exact T.ox_NoLevel.i
  · exact T.ox_NoList.i
  · exact T.ez_Mixed.i
  · exact T.ez_NothingToUndo.i
theorem eC_e (T : Tx w K mg a) {k : Nat} (h : k < 14) : PySem.W.kitOne K (.ref (eC a k)) (.ref a.C_EveryError) = some true ∧ PySem.W.kitOne K (.ref (eC a k)) (.type "ValueError") = some true := by
  rcases nat14 h with rfl | rfl | rfl | rfl | rfl | rfl | rfl | rfl | rfl | rfl | rfl | rfl | rfl | rfl
  · exact ⟨T.kt_BadWord_EveryError, T.kv_BadWord⟩
  · exact ⟨T.kt_BadText_EveryError, T.kv_BadText⟩
  · exact ⟨T.kt_BadSize_EveryError, T.kv_BadSize⟩
  · exact ⟨T.kt_BadCall_EveryError, T.kv_BadCall⟩
  · exact ⟨T.kt_BadNumber_EveryError, T.kv_BadNumber⟩
  · exact ⟨T.kt_BadPlace_EveryError, T.kv_BadPlace⟩
  · exact ⟨T.kt_BadThing_EveryError, T.kv_BadThing⟩
  · exact ⟨T.kt_BadRow_EveryError, T.kv_BadRow⟩
  · exact ⟨T.kt_NotWhole_EveryError, T.kv_NotWhole⟩
  · exact ⟨T.kt_NotClosed_EveryError, T.kv_NotClosed⟩
  · exact ⟨T.kt_NoLevel_EveryError, T.kv_NoLevel⟩
  · exact ⟨T.kt_NoList_EveryError, T.kv_NoList⟩
  · exact ⟨T.kt_Mixed_EveryError, T.kv_Mixed⟩
  · exact ⟨T.kt_NothingToUndo_EveryError, T.kv_NothingToUndo⟩
theorem eC_0 (T : Tx w K mg a) {k : Nat} (h : k < 14) : PySem.W.kitOne K (.ref (eC a k)) (.ref a.C_BadWord) = some (decide (0 = k)) := by
  rcases nat14 h with rfl | rfl | rfl | rfl | rfl | rfl | rfl | rfl | rfl | rfl | rfl | rfl | rfl | rfl
  · exact T.kt_BadWord_BadWord
  · exact T.kt_BadText_BadWord
  · exact T.kt_BadSize_BadWord
  · exact T.kt_BadCall_BadWord
  · exact T.kt_BadNumber_BadWord
  · exact T.kt_BadPlace_BadWord
  · exact T.kt_BadThing_BadWord
  · exact T.kt_BadRow_BadWord
  · exact T.kt_NotWhole_BadWord
  · exact T.kt_NotClosed_BadWord
  · exact T.kt_NoLevel_BadWord
  · exact T.kt_NoList_BadWord
  · exact T.kt_Mixed_BadWord
  · exact T.kt_NothingToUndo_BadWord
theorem eC_1 (T : Tx w K mg a) {k : Nat} (h : k < 14) : PySem.W.kitOne K (.ref (eC a k)) (.ref a.C_BadText) = some (decide (1 = k)) := by
  rcases nat14 h with rfl | rfl | rfl | rfl | rfl | rfl | rfl | rfl | rfl | rfl | rfl | rfl | rfl | rfl
  · exact T.kt_BadWord_BadText
  · exact T.kt_BadText_BadText
  · exact T.kt_BadSize_BadText
  · exact T.kt_BadCall_BadText
  · exact T.kt_BadNumber_BadText
  · exact T.kt_BadPlace_BadText
  · exact T.kt_BadThing_BadText
  · exact T.kt_BadRow_BadText
  · exact T.kt_NotWhole_BadText
  · exact T.kt_NotClosed_BadText
  · exact T.kt_NoLevel_BadText
  · exact T.kt_NoList_BadText
  · exact T.kt_Mixed_BadText
  · exact T.kt_NothingToUndo_BadText
theorem eC_2 (T : Tx w K mg a) {k : Nat} (h : k < 14) : PySem.W.kitOne K (.ref (eC a k)) (.ref a.C_BadSize) = some (decide (2 = k)) := by
  rcases nat14 h with rfl | rfl | rfl | rfl | rfl | rfl | rfl | rfl | rfl | rfl | rfl | rfl | rfl | rfl
  · exact T.kt_BadWord_BadSize
  · exact T.kt_BadText_BadSize
  · exact T.kt_BadSize_BadSize
  · exact T.kt_BadCall_BadSize
  · exact T.kt_BadNumber_BadSize
  · exact T.kt_BadPlace_BadSize
  · exact T.kt_BadThing_BadSize
  · exact T.kt_BadRow_BadSize
  · exact T.kt_NotWhole_BadSize
  · exact T.kt_NotClosed_BadSize
  · exact T.kt_NoLevel_BadSize
  · exact T.kt_NoList_BadSize
  · exact T.kt_Mixed_BadSize
  · exact T.kt_NothingToUndo_BadSize
theorem eC_3 (T : Tx w K mg a) {k : Nat} (h : k < 14) : PySem.W.kitOne K (.ref (eC a k)) (.ref a.C_BadCall) = some (decide (3 = k)) := by
  rcases nat14 h with rfl | rfl | rfl | rfl | rfl | rfl | rfl | rfl | rfl | rfl | rfl | rfl | rfl | rfl
  · exact T.kt_BadWord_BadCall
  · exact T.kt_BadText_BadCall
  · exact T.kt_BadSize_BadCall
  · exact T.kt_BadCall_BadCall
  · exact T.kt_BadNumber_BadCall
  · exact T.kt_BadPlace_BadCall
  · exact T.kt_BadThing_BadCall
  · exact T.kt_BadRow_BadCall
  · exact T.kt_NotWhole_BadCall
  · exact T.kt_NotClosed_BadCall
  · exact T.kt_NoLevel_BadCall
  · exact T.kt_NoList_BadCall
  · exact T.kt_Mixed_BadCall
  · exact T.kt_NothingToUndo_BadCall
theorem eC_4 (T : Tx w K mg a) {k : Nat} (h : k < 14) : PySem.W.kitOne K (.ref (eC a k)) (.ref a.C_BadNumber) = some (decide (4 = k)) := by
  rcases nat14 h with rfl | rfl | rfl | rfl | rfl | rfl | rfl | rfl | rfl | rfl | rfl | rfl | rfl | rfl
  · exact T.kt_BadWord_BadNumber
  · exact T.kt_BadText_BadNumber
  · exact T.kt_BadSize_BadNumber
  · exact T.kt_BadCall_BadNumber
  · exact T.kt_BadNumber_BadNumber
  · exact T.kt_BadPlace_BadNumber
  · exact T.kt_BadThing_BadNumber
  · exact T.kt_BadRow_BadNumber
  · exact T.kt_NotWhole_BadNumber
  · exact T.kt_NotClosed_BadNumber
  · exact T.kt_NoLevel_BadNumber
  · exact T.kt_NoList_BadNumber
  · exact T.kt_Mixed_BadNumber
  · exact T.kt_NothingToUndo_BadNumber
theorem eC_5 (T : Tx w K mg a) {k : Nat} (h : k < 14) : PySem.W.kitOne K (.ref (eC a k)) (.ref a.C_BadPlace) = some (decide (5 = k)) := by
  rcases nat14 h with rfl | rfl | rfl | rfl | rfl | rfl | rfl | rfl | rfl | rfl | rfl | rfl | rfl | rfl
  · exact T.kt_BadWord_BadPlace
  · exact T.kt_BadText_BadPlace
  · exact T.kt_BadSize_BadPlace
  · exact T.kt_BadCall_BadPlace
  · exact T.kt_BadNumber_BadPlace
  · exact T.kt_BadPlace_BadPlace
  · exact T.kt_BadThing_BadPlace
  · exact T.kt_BadRow_BadPlace
  · exact T.kt_NotWhole_BadPlace
  · exact T.kt_NotClosed_BadPlace
  · exact T.kt_NoLevel_BadPlace
  · exact T.kt_NoList_BadPlace
  · exact T.kt_Mixed_BadPlace
  · exact T.kt_NothingToUndo_BadPlace
theorem eC_6 (T : Tx w K mg a) {k : Nat} (h : k < 14) : PySem.W.kitOne K (.ref (eC a k)) (.ref a.C_BadThing) = some (decide (6 = k)) := by
  rcases nat14 h with rfl | rfl | rfl | rfl | rfl | rfl | rfl | rfl | rfl | rfl | rfl | rfl | rfl | rfl
  · exact T.kt_BadWord_BadThing
  · exact T.kt_BadText_BadThing
  · exact T.kt_BadSize_BadThing
  · exact T.kt_BadCall_BadThing
  · exact T.kt_BadNumber_BadThing
  · exact T.kt_BadPlace_BadThing
  · exact T.kt_BadThing_BadThing
  · exact T.kt_BadRow_BadThing
  · exact T.kt_NotWhole_BadThing
  · exact T.kt_NotClosed_BadThing
  · exact T.kt_NoLevel_BadThing
  · exact T.kt_NoList_BadThing
  · exact T.kt_Mixed_BadThing
  · exact T.kt_NothingToUndo_BadThing
theorem eC_7 (T : Tx w K mg a) {k : Nat} (h : k < 14) : PySem.W.kitOne K (.ref (eC a k)) (.ref a.C_BadRow) = some (decide (7 = k)) := by
  rcases nat14 h with rfl | rfl | rfl | rfl | rfl | rfl | rfl | rfl | rfl | rfl | rfl | rfl | rfl | rfl
  · exact T.kt_BadWord_BadRow
  · exact T.kt_BadText_BadRow
  · exact T.kt_BadSize_BadRow
  · exact T.kt_BadCall_BadRow
  · exact T.kt_BadNumber_BadRow
  · exact T.kt_BadPlace_BadRow
  · exact T.kt_BadThing_BadRow
  · exact T.kt_BadRow_BadRow
  · exact T.kt_NotWhole_BadRow
  · exact T.kt_NotClosed_BadRow
  · exact T.kt_NoLevel_BadRow
  · exact T.kt_NoList_BadRow
  · exact T.kt_Mixed_BadRow
  · exact T.kt_NothingToUndo_BadRow
theorem eC_8 (T : Tx w K mg a) {k : Nat} (h : k < 14) : PySem.W.kitOne K (.ref (eC a k)) (.ref a.C_NotWhole) = some (decide (8 = k)) := by
  rcases nat14 h with rfl | rfl | rfl | rfl | rfl | rfl | rfl | rfl | rfl | rfl | rfl | rfl | rfl | rfl
  · exact T.kt_BadWord_NotWhole
  · exact T.kt_BadText_NotWhole
  · exact T.kt_BadSize_NotWhole
  · exact T.kt_BadCall_NotWhole
  · exact T.kt_BadNumber_NotWhole
  · exact T.kt_BadPlace_NotWhole
  · exact T.kt_BadThing_NotWhole
  · exact T.kt_BadRow_NotWhole
  · exact T.kt_NotWhole_NotWhole
  · exact T.kt_NotClosed_NotWhole
  · exact T.kt_NoLevel_NotWhole
  · exact T.kt_NoList_NotWhole
  · exact T.kt_Mixed_NotWhole
  · exact T.kt_NothingToUndo_NotWhole
theorem eC_9 (T : Tx w K mg a) {k : Nat} (h : k < 14) : PySem.W.kitOne K (.ref (eC a k)) (.ref a.C_NotClosed) = some (decide (9 = k)) := by
  rcases nat14 h with rfl | rfl | rfl | rfl | rfl | rfl | rfl | rfl | rfl | rfl | rfl | rfl | rfl | rfl
  · exact T.kt_BadWord_NotClosed
  · exact T.kt_BadText_NotClosed
  · exact T.kt_BadSize_NotClosed
  · exact T.kt_BadCall_NotClosed
  · exact T.kt_BadNumber_NotClosed
  · exact T.kt_BadPlace_NotClosed
  · exact T.kt_BadThing_NotClosed
  · exact T.kt_BadRow_NotClosed
  · exact T.kt_NotWhole_NotClosed
  · exact T.kt_NotClosed_NotClosed
  · exact T.kt_NoLevel_NotClosed
  · exact T.kt_NoList_NotClosed
  · exact T.kt_Mixed_NotClosed
  · exact T.kt_NothingToUndo_NotClosed
theorem eC_10 (T : Tx w K mg a) {k : Nat} (h : k < 14) : PySem.W.kitOne K (.ref (eC a k)) (.ref a.C_NoLevel) = some (decide (10 = k)) := by
  rcases nat14 h with rfl | rfl | rfl | rfl | rfl | rfl | rfl | rfl | rfl | rfl | rfl | rfl | rfl | rfl
  · exact T.kt_BadWord_NoLevel
  · exact T.kt_BadText_NoLevel
  · exact T.kt_BadSize_NoLevel
  · exact T.kt_BadCall_NoLevel
  · exact T.kt_BadNumber_NoLevel
  · exact T.kt_BadPlace_NoLevel
  · exact T.kt_BadThing_NoLevel
  · exact T.kt_BadRow_NoLevel
  · exact T.kt_NotWhole_NoLevel
  · exact T.kt_NotClosed_NoLevel
  · exact T.kt_NoLevel_NoLevel
  · exact T.kt_NoList_NoLevel
  · exact T.kt_Mixed_NoLevel
  · exact T.kt_NothingToUndo_NoLevel
theorem eC_11 (T : Tx w K mg a) {k : Nat} (h : k < 14) : PySem.W.kitOne K (.ref (eC a k)) (.ref a.C_NoList) = some (decide (11 = k)) := by
  rcases nat14 h with rfl | rfl | rfl | rfl | rfl | rfl | rfl | rfl | rfl | rfl | rfl | rfl | rfl | rfl
  · exact T.kt_BadWord_NoList
  · exact T.kt_BadText_NoList
  · exact T.kt_BadSize_NoList
  · exact T.kt_BadCall_NoList
  · exact T.kt_BadNumber_NoList
  · exact T.kt_BadPlace_NoList
  · exact T.kt_BadThing_NoList
  · exact T.kt_BadRow_NoList
  · exact T.kt_NotWhole_NoList
  · exact T.kt_NotClosed_NoList
  · exact T.kt_NoLevel_NoList
  · exact T.kt_NoList_NoList
  · exact T.kt_Mixed_NoList
  · exact T.kt_NothingToUndo_NoList
theorem eC_12 (T : Tx w K mg a) {k : Nat} (h : k < 14) : PySem.W.kitOne K (.ref (eC a k)) (.ref a.C_Mixed) = some (decide (12 = k)) := by
  rcases nat14 h with rfl | rfl | rfl | rfl | rfl | rfl | rfl | rfl | rfl | rfl | rfl | rfl | rfl | rfl
  · exact T.kt_BadWord_Mixed
  · exact T.kt_BadText_Mixed
  · exact T.kt_BadSize_Mixed
  · exact T.kt_BadCall_Mixed
  · exact T.kt_BadNumber_Mixed
  · exact T.kt_BadPlace_Mixed
  · exact T.kt_BadThing_Mixed
  · exact T.kt_BadRow_Mixed
  · exact T.kt_NotWhole_Mixed
  · exact T.kt_NotClosed_Mixed
  · exact T.kt_NoLevel_Mixed
  · exact T.kt_NoList_Mixed
  · exact T.kt_Mixed_Mixed
  · exact T.kt_NothingToUndo_Mixed
theorem eC_13 (T : Tx w K mg a) {k : Nat} (h : k < 14) : PySem.W.kitOne K (.ref (eC a k)) (.ref a.C_NothingToUndo) = some (decide (13 = k)) := by
  rcases nat14 h with rfl | rfl | rfl | rfl | rfl | rfl | rfl | rfl | rfl | rfl | rfl | rfl | rfl | rfl
  · exact T.kt_BadWord_NothingToUndo
  · exact T.kt_BadText_NothingToUndo
  · exact T.kt_BadSize_NothingToUndo
  · exact T.kt_BadCall_NothingToUndo
  · exact T.kt_BadNumber_NothingToUndo
  · exact T.kt_BadPlace_NothingToUndo
  · exact T.kt_BadThing_NothingToUndo
  · exact T.kt_BadRow_NothingToUndo
  · exact T.kt_NotWhole_NothingToUndo
  · exact T.kt_NotClosed_NothingToUndo
  · exact T.kt_NoLevel_NothingToUndo
  · exact T.kt_NoList_NothingToUndo
  · exact T.kt_Mixed_NothingToUndo
  · exact T.kt_NothingToUndo_NothingToUndo
/-- an error of the class with the number k stands at e -/
def IsErr (a : Ad) (H : Hp) (e : Addr) (k : Nat) : Prop := (∃ (d : Addr) (fs : List (Str × V)), H e = some (exo e (eC a k) (some d)) ∧ H d = some (exd d fs)) ∨ H e = some (ExO (.ref (eC a k)) e)
theorem IsErr.same {H H' : Hp} {e : Addr} {k : Nat} (h : IsErr a H e k) (s : Same H H') : IsErr a H' e k := by
  rcases h with ⟨d, fs, h1, h2⟩ | h
  · exact .inl ⟨d, fs, s _ _ h1, s _ _ h2⟩
  · exact .inr (s _ _ h)
def spKinds (a : Ad) : Sp := fun vs H Q _ => ∃ (e : Addr) (k : Nat), vs = [.ref e] ∧ k < 14 ∧ IsErr a H e k ∧ ∀ o H', Same H H' → H' o = some (.lst ((List.range 14).map fun j => V.bl (decide (j = k)))) → Q (.ref o) H'
theorem ok__law_kinds (T : Tx w K mg a) : FnOk P w K mg base CX0 3 a.f__law_kinds a.d__law_kinds ["e"] (spKinds a) := by
  refine T.F__law_kinds.ok sc__law_kinds (fun vs H Q E h => ?_) (fun cdv A outer s H vs Q E hr h => ?_)
  · obtain ⟨e, k, rfl, _⟩ := h
    rfl
  · obtain ⟨e, k, rfl, hk, hE, q⟩ := h
    refine ⟨_, 
(pss_cons (ps_set (i := 1) sc__law_kinds.nd rfl (.inl rfl) (pe_lst (pa_cons (pe_callB call_isV (by rfl) T.z_isinstance (by decide +kernel) (pa_cons (pv 0) (pa_cons (pe_glob (v := .ref a.C_BadWord) (by rfl) T.c_BadWord rfl) pa_nil))) (pa_cons (pe_callB call_isV (by rfl) T.z_isinstance (by decide +kernel) (pa_cons (pv 0) (pa_cons (pe_glob (v := .ref a.C_BadText) (by rfl) T.c_BadText rfl) pa_nil))) (pa_cons (pe_callB call_isV (by rfl) T.z_isinstance (by decide +kernel) (pa_cons (pv 0) (pa_cons (pe_glob (v := .ref a.C_BadSize) (by rfl) T.c_BadSize rfl) pa_nil))) (pa_cons (pe_callB call_isV (by rfl) T.z_isinstance (by decide +kernel) (pa_cons (pv 0) (pa_cons (pe_glob (v := .ref a.C_BadCall) (by rfl) T.c_BadCall rfl) pa_nil))) pa_nil))))))
  (pss_cons (ps_set (i := 1) sc__law_kinds.nd rfl (.inl rfl) (pe_op op_cat (pv 1) (pe_lst (pa_cons (pe_callB call_isV (by rfl) T.z_isinstance (by decide +kernel) (pa_cons (pv 0) (pa_cons (pe_glob (v := .ref a.C_BadNumber) (by rfl) T.c_BadNumber rfl) pa_nil))) (pa_cons (pe_callB call_isV (by rfl) T.z_isinstance (by decide +kernel) (pa_cons (pv 0) (pa_cons (pe_glob (v := .ref a.C_BadPlace) (by rfl) T.c_BadPlace rfl) pa_nil))) (pa_cons (pe_callB call_isV (by rfl) T.z_isinstance (by decide +kernel) (pa_cons (pv 0) (pa_cons (pe_glob (v := .ref a.C_BadThing) (by rfl) T.c_BadThing rfl) pa_nil))) (pa_cons (pe_callB call_isV (by rfl) T.z_isinstance (by decide +kernel) (pa_cons (pv 0) (pa_cons (pe_glob (v := .ref a.C_BadRow) (by rfl) T.c_BadRow rfl) pa_nil))) pa_nil)))))))
  (pss_cons (ps_set (i := 1) sc__law_kinds.nd rfl (.inl rfl) (pe_op op_cat (pv 1) (pe_lst (pa_cons (pe_callB call_isV (by rfl) T.z_isinstance (by decide +kernel) (pa_cons (pv 0) (pa_cons (pe_glob (v := .ref a.C_NotWhole) (by rfl) T.c_NotWhole rfl) pa_nil))) (pa_cons (pe_callB call_isV (by rfl) T.z_isinstance (by decide +kernel) (pa_cons (pv 0) (pa_cons (pe_glob (v := .ref a.C_NotClosed) (by rfl) T.c_NotClosed rfl) pa_nil))) (pa_cons (pe_callB call_isV (by rfl) T.z_isinstance (by decide +kernel) (pa_cons (pv 0) (pa_cons (pe_glob (v := .ref a.C_NoLevel) (by rfl) T.c_NoLevel rfl) pa_nil))) (pa_cons (pe_callB call_isV (by rfl) T.z_isinstance (by decide +kernel) (pa_cons (pv 0) (pa_cons (pe_glob (v := .ref a.C_NoList) (by rfl) T.c_NoList rfl) pa_nil))) pa_nil)))))))
  (pss_one (ps_ret (pe_op op_cat (pv 1) (pe_lst (pa_cons (pe_callB call_isV (by rfl) T.z_isinstance (by decide +kernel) (pa_cons (pv 0) (pa_cons (pe_glob (v := .ref a.C_Mixed) (by rfl) T.c_Mixed rfl) pa_nil))) (pa_cons (pe_callB call_isV (by rfl) T.z_isinstance (by decide +kernel) (pa_cons (pv 0) (pa_cons (pe_glob (v := .ref a.C_NothingToUndo) (by rfl) T.c_NothingToUndo rfl) pa_nil))) pa_nil))))))))), ?_⟩
    have C := eC_i T hk
    refine ⟨.ref e, rfl, e, eC a k, .ref a.C_BadWord, .ref a.C_BadWord, _, rfl, C, fun u r => r, eC_0 T hk, hE, .ref e, rfl, e, eC a k, .ref a.C_BadText, .ref a.C_BadText, _, rfl, C, fun u r => r, eC_1 T hk, hE, .ref e, rfl, e, eC a k, .ref a.C_BadSize, .ref a.C_BadSize, _, rfl, C, fun u r => r, eC_2 T hk, hE, .ref e, rfl, e, eC a k, .ref a.C_BadCall, .ref a.C_BadCall, _, rfl, C, fun u r => r, eC_3 T hk, hE, sz (show 4 ≤ 100000 by decide), fun o1 n1 => ?_⟩
    have s1 := same_upd (o := .lst [V.bl (decide (0 = k)), V.bl (decide (1 = k)), V.bl (decide (2 = k)), V.bl (decide (3 = k))]) n1
    have e1 : (upd H o1 (.lst [V.bl (decide (0 = k)), V.bl (decide (1 = k)), V.bl (decide (2 = k)), V.bl (decide (3 = k))])) o1 = some (.lst [V.bl (decide (0 = k)), V.bl (decide (1 = k)), V.bl (decide (2 = k)), V.bl (decide (3 = k))]) := upd_same
    generalize upd H o1 (.lst [V.bl (decide (0 = k)), V.bl (decide (1 = k)), V.bl (decide (2 = k)), V.bl (decide (3 = k))]) = H1 at s1 e1 ⊢
    have E1 := hE.same s1
    refine ⟨.ref o1, rfl, .ref e, rfl, e, eC a k, .ref a.C_BadNumber, .ref a.C_BadNumber, _, rfl, C, fun u r => r, eC_4 T hk, E1, .ref e, rfl, e, eC a k, .ref a.C_BadPlace, .ref a.C_BadPlace, _, rfl, C, fun u r => r, eC_5 T hk, E1, .ref e, rfl, e, eC a k, .ref a.C_BadThing, .ref a.C_BadThing, _, rfl, C, fun u r => r, eC_6 T hk, E1, .ref e, rfl, e, eC a k, .ref a.C_BadRow, .ref a.C_BadRow, _, rfl, C, fun u r => r, eC_7 T hk, E1, sz (show 4 ≤ 100000 by decide), fun p2 m2 => ?_⟩
    have t2 := same_upd (o := .lst [V.bl (decide (4 = k)), V.bl (decide (5 = k)), V.bl (decide (6 = k)), V.bl (decide (7 = k))]) m2
    have g2 : (upd H1 p2 (.lst [V.bl (decide (4 = k)), V.bl (decide (5 = k)), V.bl (decide (6 = k)), V.bl (decide (7 = k))])) p2 = some (.lst [V.bl (decide (4 = k)), V.bl (decide (5 = k)), V.bl (decide (6 = k)), V.bl (decide (7 = k))]) := upd_same
    generalize upd H1 p2 (.lst [V.bl (decide (4 = k)), V.bl (decide (5 = k)), V.bl (decide (6 = k)), V.bl (decide (7 = k))]) = G2 at t2 g2 ⊢
    refine ⟨o1, p2, _, _, rfl, rfl, t2 _ _ e1, g2, sz (show 8 ≤ 100000 by decide), fun o2 n2 => ?_⟩
    have s2 := same_upd (o := .lst ([V.bl (decide (0 = k)), V.bl (decide (1 = k)), V.bl (decide (2 = k)), V.bl (decide (3 = k))] ++ [V.bl (decide (4 = k)), V.bl (decide (5 = k)), V.bl (decide (6 = k)), V.bl (decide (7 = k))])) n2
    have e2 : (upd G2 o2 (.lst ([V.bl (decide (0 = k)), V.bl (decide (1 = k)), V.bl (decide (2 = k)), V.bl (decide (3 = k))] ++ [V.bl (decide (4 = k)), V.bl (decide (5 = k)), V.bl (decide (6 = k)), V.bl (decide (7 = k))]))) o2 = some (.lst ([V.bl (decide (0 = k)), V.bl (decide (1 = k)), V.bl (decide (2 = k)), V.bl (decide (3 = k))] ++ [V.bl (decide (4 = k)), V.bl (decide (5 = k)), V.bl (decide (6 = k)), V.bl (decide (7 = k))])) := upd_same
    generalize upd G2 o2 (.lst ([V.bl (decide (0 = k)), V.bl (decide (1 = k)), V.bl (decide (2 = k)), V.bl (decide (3 = k))] ++ [V.bl (decide (4 = k)), V.bl (decide (5 = k)), V.bl (decide (6 = k)), V.bl (decide (7 = k))])) = H2 at s2 e2 ⊢
    have E2 := (E1.same t2).same s2
    refine ⟨.ref o2, rfl, .ref e, rfl, e, eC a k, .ref a.C_NotWhole, .ref a.C_NotWhole, _, rfl, C, fun u r => r, eC_8 T hk, E2, .ref e, rfl, e, eC a k, .ref a.C_NotClosed, .ref a.C_NotClosed, _, rfl, C, fun u r => r, eC_9 T hk, E2, .ref e, rfl, e, eC a k, .ref a.C_NoLevel, .ref a.C_NoLevel, _, rfl, C, fun u r => r, eC_10 T hk, E2, .ref e, rfl, e, eC a k, .ref a.C_NoList, .ref a.C_NoList, _, rfl, C, fun u r => r, eC_11 T hk, E2, sz (show 4 ≤ 100000 by decide), fun p3 m3 => ?_⟩
    have t3 := same_upd (o := .lst [V.bl (decide (8 = k)), V.bl (decide (9 = k)), V.bl (decide (10 = k)), V.bl (decide (11 = k))]) m3
    have g3 : (upd H2 p3 (.lst [V.bl (decide (8 = k)), V.bl (decide (9 = k)), V.bl (decide (10 = k)), V.bl (decide (11 = k))])) p3 = some (.lst [V.bl (decide (8 = k)), V.bl (decide (9 = k)), V.bl (decide (10 = k)), V.bl (decide (11 = k))]) := upd_same
    generalize upd H2 p3 (.lst [V.bl (decide (8 = k)), V.bl (decide (9 = k)), V.bl (decide (10 = k)), V.bl (decide (11 = k))]) = G3 at t3 g3 ⊢
    refine ⟨o2, p3, _, _, rfl, rfl, t3 _ _ e2, g3, sz (show 12 ≤ 100000 by decide), fun o3 n3 => ?_⟩
    have s3 := same_upd (o := .lst (([V.bl (decide (0 = k)), V.bl (decide (1 = k)), V.bl (decide (2 = k)), V.bl (decide (3 = k))] ++ [V.bl (decide (4 = k)), V.bl (decide (5 = k)), V.bl (decide (6 = k)), V.bl (decide (7 = k))]) ++ [V.bl (decide (8 = k)), V.bl (decide (9 = k)), V.bl (decide (10 = k)), V.bl (decide (11 = k))])) n3
    have e3 : (upd G3 o3 (.lst (([V.bl (decide (0 = k)), V.bl (decide (1 = k)), V.bl (decide (2 = k)), V.bl (decide (3 = k))] ++ [V.bl (decide (4 = k)), V.bl (decide (5 = k)), V.bl (decide (6 = k)), V.bl (decide (7 = k))]) ++ [V.bl (decide (8 = k)), V.bl (decide (9 = k)), V.bl (decide (10 = k)), V.bl (decide (11 = k))]))) o3 = some (.lst (([V.bl (decide (0 = k)), V.bl (decide (1 = k)), V.bl (decide (2 = k)), V.bl (decide (3 = k))] ++ [V.bl (decide (4 = k)), V.bl (decide (5 = k)), V.bl (decide (6 = k)), V.bl (decide (7 = k))]) ++ [V.bl (decide (8 = k)), V.bl (decide (9 = k)), V.bl (decide (10 = k)), V.bl (decide (11 = k))])) := upd_same
    generalize upd G3 o3 (.lst (([V.bl (decide (0 = k)), V.bl (decide (1 = k)), V.bl (decide (2 = k)), V.bl (decide (3 = k))] ++ [V.bl (decide (4 = k)), V.bl (decide (5 = k)), V.bl (decide (6 = k)), V.bl (decide (7 = k))]) ++ [V.bl (decide (8 = k)), V.bl (decide (9 = k)), V.bl (decide (10 = k)), V.bl (decide (11 = k))])) = H3 at s3 e3 ⊢
    have E3 := (E2.same t3).same s3
    refine ⟨.ref o3, rfl, .ref e, rfl, e, eC a k, .ref a.C_Mixed, .ref a.C_Mixed, _, rfl, C, fun u r => r, eC_12 T hk, E3, .ref e, rfl, e, eC a k, .ref a.C_NothingToUndo, .ref a.C_NothingToUndo, _, rfl, C, fun u r => r, eC_13 T hk, E3, sz (show 2 ≤ 100000 by decide), fun p4 m4 => ?_⟩
    have t4 := same_upd (o := .lst [V.bl (decide (12 = k)), V.bl (decide (13 = k))]) m4
    have g4 : (upd H3 p4 (.lst [V.bl (decide (12 = k)), V.bl (decide (13 = k))])) p4 = some (.lst [V.bl (decide (12 = k)), V.bl (decide (13 = k))]) := upd_same
    generalize upd H3 p4 (.lst [V.bl (decide (12 = k)), V.bl (decide (13 = k))]) = G4 at t4 g4 ⊢
    refine ⟨o3, p4, _, _, rfl, rfl, t4 _ _ e3, g4, sz (show 14 ≤ 100000 by decide), fun o4 n4 => ?_⟩
    refine q o4 _ ((s1.trans (t2.trans (s2.trans (t3.trans (s3.trans t4))))).trans (same_upd n4)) ?_
    rw [upd_same]
    rfl
/-- what such an error is made from, and kept -/
def spMade (a : Ad) : Sp := fun vs H Q _ => ∃ (k : Nat) (v : V), vs = [.int ((k : Nat) : Int), v] ∧ k < 14 ∧ ∀ o e H', Same H H' → IsErr a H' e k → H' o = some (.tup [.ref e, v]) → Q (.ref o) H'
theorem init_heap {H : Hp} {x d C : Addr} {f : Str} {v : V} (hx : H x = none) (hd : (upd H x (exo x C none)) d = none) (ne : d ≠ x) : Same H (upd (upd (upd H x (exo x C none)) d (exd d [(f, v)])) x (exo x C (some d))) ∧
    (upd (upd (upd H x (exo x C none)) d (exd d [(f, v)])) x (exo x C (some d))) x = some (exo x C (some d)) ∧ (upd (upd (upd H x (exo x C none)) d (exd d [(f, v)])) x (exo x C (some d))) d = some (exd d [(f, v)]) := by
  refine ⟨fun b o e => ?_, upd_same, ?_⟩
  · have nx := ne_of_none e hx
    have hd' : H d = none := by
      rw [upd_ne ne] at hd
      exact hd
    rw [upd_ne nx, upd_ne (ne_of_none e hd'), upd_ne nx]
    exact e
  · rw [upd_ne ne]
    exact upd_same
theorem ok__law_made (T : Tx w K mg a) : FnOk P w K mg base CX0 3 a.f__law_made a.d__law_made ["k", "worth"] (spMade a) := by
  refine T.F__law_made.ok sc__law_made (fun vs H Q E h => ?_) (fun cdv A outer s H vs Q E hr h => ?_)
  · obtain ⟨k, v, rfl, _⟩ := h
    rfl
  · obtain ⟨k, v, rfl, hk, q⟩ := h
    refine ⟨_, 
(pss_cons (ps_if (pt_cmpR op_eq (pv 0) pe_int (nomark _))
  (pss_cons (ps_set (i := 2) sc__law_made.nd rfl (.inl rfl) (pe_oex T.ox_BadWord.o T.ox_BadWord.ini T.ox_BadWord.tin (ok_BadWord_init T) hr T.b_BadWord_init pass0 (by rfl) T.c_BadWord (pa_cons (pv 1) pa_nil)))
  (pss_one (ps_ret (pe_tup (pa_cons (pv 2) (pa_cons (pe_xv (pv 2)) pa_nil))))))
  pss_nil)
  (pss_cons (ps_if (pt_cmpR op_eq (pv 0) pe_int (nomark _))
  (pss_cons (ps_set (i := 2) sc__law_made.nd rfl (.inl rfl) (pe_oex T.ox_BadText.o T.ox_BadText.ini T.ox_BadText.tin (ok_BadText_init T) hr T.b_BadText_init pass0 (by rfl) T.c_BadText (pa_cons (pv 1) pa_nil)))
  (pss_one (ps_ret (pe_tup (pa_cons (pv 2) (pa_cons (pe_xv (pv 2)) pa_nil))))))
  pss_nil)
  (pss_cons (ps_if (pt_cmpR op_eq (pv 0) pe_int (nomark _))
  (pss_cons (ps_set (i := 2) sc__law_made.nd rfl (.inl rfl) (pe_oex T.ox_BadSize.o T.ox_BadSize.ini T.ox_BadSize.tin (ok_BadSize_init T) hr T.b_BadSize_init pass0 (by rfl) T.c_BadSize (pa_cons (pv 1) pa_nil)))
  (pss_one (ps_ret (pe_tup (pa_cons (pv 2) (pa_cons (pe_xv (pv 2)) pa_nil))))))
  pss_nil)
  (pss_cons (ps_if (pt_cmpR op_eq (pv 0) pe_int (nomark _))
  (pss_cons (ps_set (i := 2) sc__law_made.nd rfl (.inl rfl) (pe_oex T.ox_BadCall.o T.ox_BadCall.ini T.ox_BadCall.tin (ok_BadCall_init T) hr T.b_BadCall_init pass0 (by rfl) T.c_BadCall (pa_cons (pv 1) pa_nil)))
  (pss_one (ps_ret (pe_tup (pa_cons (pv 2) (pa_cons (pe_xv (pv 2)) pa_nil))))))
  pss_nil)
  (pss_cons (ps_if (pt_cmpR op_eq (pv 0) pe_int (nomark _))
  (pss_cons (ps_set (i := 2) sc__law_made.nd rfl (.inl rfl) (pe_oex T.ox_BadNumber.o T.ox_BadNumber.ini T.ox_BadNumber.tin (ok_BadNumber_init T) hr T.b_BadNumber_init pass0 (by rfl) T.c_BadNumber (pa_cons (pv 1) pa_nil)))
  (pss_one (ps_ret (pe_tup (pa_cons (pv 2) (pa_cons (pe_xv (pv 2)) pa_nil))))))
  pss_nil)
  (pss_cons (ps_if (pt_cmpR op_eq (pv 0) pe_int (nomark _))
  (pss_cons (ps_set (i := 2) sc__law_made.nd rfl (.inl rfl) (pe_oex T.ox_BadPlace.o T.ox_BadPlace.ini T.ox_BadPlace.tin (ok_BadPlace_init T) hr T.b_BadPlace_init pass0 (by rfl) T.c_BadPlace (pa_cons (pv 1) pa_nil)))
  (pss_one (ps_ret (pe_tup (pa_cons (pv 2) (pa_cons (pe_xv (pv 2)) pa_nil))))))
  pss_nil)
  (pss_cons (ps_if (pt_cmpR op_eq (pv 0) pe_int (nomark _))
  (pss_cons (ps_set (i := 2) sc__law_made.nd rfl (.inl rfl) (pe_oex T.ox_BadThing.o T.ox_BadThing.ini T.ox_BadThing.tin (ok_BadThing_init T) hr T.b_BadThing_init pass0 (by rfl) T.c_BadThing (pa_cons (pv 1) pa_nil)))
  (pss_one (ps_ret (pe_tup (pa_cons (pv 2) (pa_cons (pe_xv (pv 2)) pa_nil))))))
  pss_nil)
  (pss_cons (ps_if (pt_cmpR op_eq (pv 0) pe_int (nomark _))
  (pss_cons (ps_set (i := 2) sc__law_made.nd rfl (.inl rfl) (pe_oex T.ox_BadRow.o T.ox_BadRow.ini T.ox_BadRow.tin (ok_BadRow_init T) hr T.b_BadRow_init pass0 (by rfl) T.c_BadRow (pa_cons (pv 1) pa_nil)))
  (pss_one (ps_ret (pe_tup (pa_cons (pv 2) (pa_cons (pe_xv (pv 2)) pa_nil))))))
  pss_nil)
  (pss_cons (ps_if (pt_cmpR op_eq (pv 0) pe_int (nomark _))
  (pss_cons (ps_set (i := 2) sc__law_made.nd rfl (.inl rfl) (pe_oex T.ox_NotWhole.o T.ox_NotWhole.ini T.ox_NotWhole.tin (ok_NotWhole_init T) hr T.b_NotWhole_init pass0 (by rfl) T.c_NotWhole (pa_cons (pv 1) pa_nil)))
  (pss_one (ps_ret (pe_tup (pa_cons (pv 2) (pa_cons (pe_xv (pv 2)) pa_nil))))))
  pss_nil)
  (pss_cons (ps_if (pt_cmpR op_eq (pv 0) pe_int (nomark _))
  (pss_cons (ps_set (i := 2) sc__law_made.nd rfl (.inl rfl) (pe_oex T.ox_NotClosed.o T.ox_NotClosed.ini T.ox_NotClosed.tin (ok_NotClosed_init T) hr T.b_NotClosed_init pass0 (by rfl) T.c_NotClosed (pa_cons (pv 1) pa_nil)))
  (pss_one (ps_ret (pe_tup (pa_cons (pv 2) (pa_cons (pe_xv (pv 2)) pa_nil))))))
  pss_nil)
  (pss_cons (ps_if (pt_cmpR op_eq (pv 0) pe_int (nomark _))
  (pss_cons (ps_set (i := 2) sc__law_made.nd rfl (.inl rfl) (pe_oex T.ox_NoLevel.o T.ox_NoLevel.ini T.ox_NoLevel.tin (ok_NoLevel_init T) hr T.b_NoLevel_init pass0 (by rfl) T.c_NoLevel (pa_cons (pv 1) pa_nil)))
  (pss_one (ps_ret (pe_tup (pa_cons (pv 2) (pa_cons (pe_xv (pv 2)) pa_nil))))))
  pss_nil)
  (pss_cons (ps_if (pt_cmpR op_eq (pv 0) pe_int (nomark _))
  (pss_cons (ps_set (i := 2) sc__law_made.nd rfl (.inl rfl) (pe_oex T.ox_NoList.o T.ox_NoList.ini T.ox_NoList.tin (ok_NoList_init T) hr T.b_NoList_init pass0 (by rfl) T.c_NoList (pa_cons (pv 1) pa_nil)))
  (pss_one (ps_ret (pe_tup (pa_cons (pv 2) (pa_cons (pe_xv (pv 2)) pa_nil))))))
  pss_nil)
  (pss_one (ps_ret (pe_tup (pa_cons (pe_ifExp (pt_cmpR op_eq (pv 0) pe_int (nomark _)) (pe_exc0 PySem.F.excBase_ValueError T.ez_Mixed.x T.c_Mixed T.ez_Mixed.k (by rfl)) (pe_exc0 PySem.F.excBase_ValueError T.ez_NothingToUndo.x T.c_NothingToUndo T.ez_NothingToUndo.k (by rfl))) (pa_cons (pv 1) pa_nil))))))))))))))))), ?_⟩
    rcases nat14 hk with rfl | rfl | rfl | rfl | rfl | rfl | rfl | rfl | rfl | rfl | rfl | rfl | rfl | rfl
    · refine ⟨_, rfl, rfl, _, rfl, ?_⟩
      refine ⟨v, rfl, (by decide : 1 ≤ 1000), fun x nx => ⟨x, v, rfl, upd_same, fun d nd ne => ⟨rfl, ?_⟩⟩⟩
      obtain ⟨s1, hx, hd⟩ := init_heap (f := "index") (v := v) nx nd ne
      generalize upd (upd (upd H x (exo x a.C_BadWord none)) d (exd d [(("index" : Str), v)])) x (exo x a.C_BadWord (some d)) = H1 at s1 hx hd ⊢
      refine ⟨.ref x, rfl, .ref x, rfl, x, a.C_BadWord, d, _, v, rfl, T.ox_BadWord.x, T.ox_BadWord.no, hx, hd, rfl, sz (show 2 ≤ 100000 by decide), fun o no => ?_⟩
      have s2 := same_upd (o := .tup [.ref x, v]) no
      exact q o x _ (s1.trans s2) (.inl ⟨d, _, s2 _ _ hx, s2 _ _ hd⟩) upd_same
    · refine ⟨_, rfl, rfl, _, rfl, ⟨_, rfl, rfl, _, rfl, ?_⟩⟩
      refine ⟨v, rfl, (by decide : 1 ≤ 1000), fun x nx => ⟨x, v, rfl, upd_same, fun d nd ne => ⟨rfl, ?_⟩⟩⟩
      obtain ⟨s1, hx, hd⟩ := init_heap (f := "line") (v := v) nx nd ne
      generalize upd (upd (upd H x (exo x a.C_BadText none)) d (exd d [(("line" : Str), v)])) x (exo x a.C_BadText (some d)) = H1 at s1 hx hd ⊢
      refine ⟨.ref x, rfl, .ref x, rfl, x, a.C_BadText, d, _, v, rfl, T.ox_BadText.x, T.ox_BadText.no, hx, hd, rfl, sz (show 2 ≤ 100000 by decide), fun o no => ?_⟩
      have s2 := same_upd (o := .tup [.ref x, v]) no
      exact q o x _ (s1.trans s2) (.inl ⟨d, _, s2 _ _ hx, s2 _ _ hd⟩) upd_same
    · refine ⟨_, rfl, rfl, _, rfl, ⟨_, rfl, rfl, _, rfl, ⟨_, rfl, rfl, _, rfl, ?_⟩⟩⟩
      refine ⟨v, rfl, (by decide : 1 ≤ 1000), fun x nx => ⟨x, v, rfl, upd_same, fun d nd ne => ⟨rfl, ?_⟩⟩⟩
      obtain ⟨s1, hx, hd⟩ := init_heap (f := "size") (v := v) nx nd ne
      generalize upd (upd (upd H x (exo x a.C_BadSize none)) d (exd d [(("size" : Str), v)])) x (exo x a.C_BadSize (some d)) = H1 at s1 hx hd ⊢
      refine ⟨.ref x, rfl, .ref x, rfl, x, a.C_BadSize, d, _, v, rfl, T.ox_BadSize.x, T.ox_BadSize.no, hx, hd, rfl, sz (show 2 ≤ 100000 by decide), fun o no => ?_⟩
      have s2 := same_upd (o := .tup [.ref x, v]) no
      exact q o x _ (s1.trans s2) (.inl ⟨d, _, s2 _ _ hx, s2 _ _ hd⟩) upd_same
    · refine ⟨_, rfl, rfl, _, rfl, ⟨_, rfl, rfl, _, rfl, ⟨_, rfl, rfl, _, rfl, ⟨_, rfl, rfl, _, rfl, ?_⟩⟩⟩⟩
      refine ⟨v, rfl, (by decide : 1 ≤ 1000), fun x nx => ⟨x, v, rfl, upd_same, fun d nd ne => ⟨rfl, ?_⟩⟩⟩
      obtain ⟨s1, hx, hd⟩ := init_heap (f := "call") (v := v) nx nd ne
      generalize upd (upd (upd H x (exo x a.C_BadCall none)) d (exd d [(("call" : Str), v)])) x (exo x a.C_BadCall (some d)) = H1 at s1 hx hd ⊢
      refine ⟨.ref x, rfl, .ref x, rfl, x, a.C_BadCall, d, _, v, rfl, T.ox_BadCall.x, T.ox_BadCall.no, hx, hd, rfl, sz (show 2 ≤ 100000 by decide), fun o no => ?_⟩
      have s2 := same_upd (o := .tup [.ref x, v]) no
      exact q o x _ (s1.trans s2) (.inl ⟨d, _, s2 _ _ hx, s2 _ _ hd⟩) upd_same
    · refine ⟨_, rfl, rfl, _, rfl, ⟨_, rfl, rfl, _, rfl, ⟨_, rfl, rfl, _, rfl, ⟨_, rfl, rfl, _, rfl, ⟨_, rfl, rfl, _, rfl, ?_⟩⟩⟩⟩⟩
      refine ⟨v, rfl, (by decide : 1 ≤ 1000), fun x nx => ⟨x, v, rfl, upd_same, fun d nd ne => ⟨rfl, ?_⟩⟩⟩
      obtain ⟨s1, hx, hd⟩ := init_heap (f := "number") (v := v) nx nd ne
      generalize upd (upd (upd H x (exo x a.C_BadNumber none)) d (exd d [(("number" : Str), v)])) x (exo x a.C_BadNumber (some d)) = H1 at s1 hx hd ⊢
      refine ⟨.ref x, rfl, .ref x, rfl, x, a.C_BadNumber, d, _, v, rfl, T.ox_BadNumber.x, T.ox_BadNumber.no, hx, hd, rfl, sz (show 2 ≤ 100000 by decide), fun o no => ?_⟩
      have s2 := same_upd (o := .tup [.ref x, v]) no
      exact q o x _ (s1.trans s2) (.inl ⟨d, _, s2 _ _ hx, s2 _ _ hd⟩) upd_same
    · refine ⟨_, rfl, rfl, _, rfl, ⟨_, rfl, rfl, _, rfl, ⟨_, rfl, rfl, _, rfl, ⟨_, rfl, rfl, _, rfl, ⟨_, rfl, rfl, _, rfl, ⟨_, rfl, rfl, _, rfl, ?_⟩⟩⟩⟩⟩⟩
      refine ⟨v, rfl, (by decide : 1 ≤ 1000), fun x nx => ⟨x, v, rfl, upd_same, fun d nd ne => ⟨rfl, ?_⟩⟩⟩
      obtain ⟨s1, hx, hd⟩ := init_heap (f := "place") (v := v) nx nd ne
      generalize upd (upd (upd H x (exo x a.C_BadPlace none)) d (exd d [(("place" : Str), v)])) x (exo x a.C_BadPlace (some d)) = H1 at s1 hx hd ⊢
      refine ⟨.ref x, rfl, .ref x, rfl, x, a.C_BadPlace, d, _, v, rfl, T.ox_BadPlace.x, T.ox_BadPlace.no, hx, hd, rfl, sz (show 2 ≤ 100000 by decide), fun o no => ?_⟩
      have s2 := same_upd (o := .tup [.ref x, v]) no
      exact q o x _ (s1.trans s2) (.inl ⟨d, _, s2 _ _ hx, s2 _ _ hd⟩) upd_same
    · refine ⟨_, rfl, rfl, _, rfl, ⟨_, rfl, rfl, _, rfl, ⟨_, rfl, rfl, _, rfl, ⟨_, rfl, rfl, _, rfl, ⟨_, rfl, rfl, _, rfl, ⟨_, rfl, rfl, _, rfl, ⟨_, rfl, rfl, _, rfl, ?_⟩⟩⟩⟩⟩⟩⟩
      refine ⟨v, rfl, (by decide : 1 ≤ 1000), fun x nx => ⟨x, v, rfl, upd_same, fun d nd ne => ⟨rfl, ?_⟩⟩⟩
      obtain ⟨s1, hx, hd⟩ := init_heap (f := "thing") (v := v) nx nd ne
      generalize upd (upd (upd H x (exo x a.C_BadThing none)) d (exd d [(("thing" : Str), v)])) x (exo x a.C_BadThing (some d)) = H1 at s1 hx hd ⊢
      refine ⟨.ref x, rfl, .ref x, rfl, x, a.C_BadThing, d, _, v, rfl, T.ox_BadThing.x, T.ox_BadThing.no, hx, hd, rfl, sz (show 2 ≤ 100000 by decide), fun o no => ?_⟩
      have s2 := same_upd (o := .tup [.ref x, v]) no
      exact q o x _ (s1.trans s2) (.inl ⟨d, _, s2 _ _ hx, s2 _ _ hd⟩) upd_same
    · refine ⟨_, rfl, rfl, _, rfl, ⟨_, rfl, rfl, _, rfl, ⟨_, rfl, rfl, _, rfl, ⟨_, rfl, rfl, _, rfl, ⟨_, rfl, rfl, _, rfl, ⟨_, rfl, rfl, _, rfl, ⟨_, rfl, rfl, _, rfl, ⟨_, rfl, rfl, _, rfl, ?_⟩⟩⟩⟩⟩⟩⟩⟩
      refine ⟨v, rfl, (by decide : 1 ≤ 1000), fun x nx => ⟨x, v, rfl, upd_same, fun d nd ne => ⟨rfl, ?_⟩⟩⟩
      obtain ⟨s1, hx, hd⟩ := init_heap (f := "index") (v := v) nx nd ne
      generalize upd (upd (upd H x (exo x a.C_BadRow none)) d (exd d [(("index" : Str), v)])) x (exo x a.C_BadRow (some d)) = H1 at s1 hx hd ⊢
      refine ⟨.ref x, rfl, .ref x, rfl, x, a.C_BadRow, d, _, v, rfl, T.ox_BadRow.x, T.ox_BadRow.no, hx, hd, rfl, sz (show 2 ≤ 100000 by decide), fun o no => ?_⟩
      have s2 := same_upd (o := .tup [.ref x, v]) no
      exact q o x _ (s1.trans s2) (.inl ⟨d, _, s2 _ _ hx, s2 _ _ hd⟩) upd_same
    · refine ⟨_, rfl, rfl, _, rfl, ⟨_, rfl, rfl, _, rfl, ⟨_, rfl, rfl, _, rfl, ⟨_, rfl, rfl, _, rfl, ⟨_, rfl, rfl, _, rfl, ⟨_, rfl, rfl, _, rfl, ⟨_, rfl, rfl, _, rfl, ⟨_, rfl, rfl, _, rfl, ⟨_, rfl, rfl, _, rfl, ?_⟩⟩⟩⟩⟩⟩⟩⟩⟩
      refine ⟨v, rfl, (by decide : 1 ≤ 1000), fun x nx => ⟨x, v, rfl, upd_same, fun d nd ne => ⟨rfl, ?_⟩⟩⟩
      obtain ⟨s1, hx, hd⟩ := init_heap (f := "size") (v := v) nx nd ne
      generalize upd (upd (upd H x (exo x a.C_NotWhole none)) d (exd d [(("size" : Str), v)])) x (exo x a.C_NotWhole (some d)) = H1 at s1 hx hd ⊢
      refine ⟨.ref x, rfl, .ref x, rfl, x, a.C_NotWhole, d, _, v, rfl, T.ox_NotWhole.x, T.ox_NotWhole.no, hx, hd, rfl, sz (show 2 ≤ 100000 by decide), fun o no => ?_⟩
      have s2 := same_upd (o := .tup [.ref x, v]) no
      exact q o x _ (s1.trans s2) (.inl ⟨d, _, s2 _ _ hx, s2 _ _ hd⟩) upd_same
    · refine ⟨_, rfl, rfl, _, rfl, ⟨_, rfl, rfl, _, rfl, ⟨_, rfl, rfl, _, rfl, ⟨_, rfl, rfl, _, rfl, ⟨_, rfl, rfl, _, rfl, ⟨_, rfl, rfl, _, rfl, ⟨_, rfl, rfl, _, rfl, ⟨_, rfl, rfl, _, rfl, ⟨_, rfl, rfl, _, rfl, ⟨_, rfl, rfl, _, rfl, ?_⟩⟩⟩⟩⟩⟩⟩⟩⟩⟩
      refine ⟨v, rfl, (by decide : 1 ≤ 1000), fun x nx => ⟨x, v, rfl, upd_same, fun d nd ne => ⟨rfl, ?_⟩⟩⟩
      obtain ⟨s1, hx, hd⟩ := init_heap (f := "size") (v := v) nx nd ne
      generalize upd (upd (upd H x (exo x a.C_NotClosed none)) d (exd d [(("size" : Str), v)])) x (exo x a.C_NotClosed (some d)) = H1 at s1 hx hd ⊢
      refine ⟨.ref x, rfl, .ref x, rfl, x, a.C_NotClosed, d, _, v, rfl, T.ox_NotClosed.x, T.ox_NotClosed.no, hx, hd, rfl, sz (show 2 ≤ 100000 by decide), fun o no => ?_⟩
      have s2 := same_upd (o := .tup [.ref x, v]) no
      exact q o x _ (s1.trans s2) (.inl ⟨d, _, s2 _ _ hx, s2 _ _ hd⟩) upd_same
    · refine ⟨_, rfl, rfl, _, rfl, ⟨_, rfl, rfl, _, rfl, ⟨_, rfl, rfl, _, rfl, ⟨_, rfl, rfl, _, rfl, ⟨_, rfl, rfl, _, rfl, ⟨_, rfl, rfl, _, rfl, ⟨_, rfl, rfl, _, rfl, ⟨_, rfl, rfl, _, rfl, ⟨_, rfl, rfl, _, rfl, ⟨_, rfl, rfl, _, rfl, ⟨_, rfl, rfl, _, rfl, ?_⟩⟩⟩⟩⟩⟩⟩⟩⟩⟩⟩
      refine ⟨v, rfl, (by decide : 1 ≤ 1000), fun x nx => ⟨x, v, rfl, upd_same, fun d nd ne => ⟨rfl, ?_⟩⟩⟩
      obtain ⟨s1, hx, hd⟩ := init_heap (f := "size") (v := v) nx nd ne
      generalize upd (upd (upd H x (exo x a.C_NoLevel none)) d (exd d [(("size" : Str), v)])) x (exo x a.C_NoLevel (some d)) = H1 at s1 hx hd ⊢
      refine ⟨.ref x, rfl, .ref x, rfl, x, a.C_NoLevel, d, _, v, rfl, T.ox_NoLevel.x, T.ox_NoLevel.no, hx, hd, rfl, sz (show 2 ≤ 100000 by decide), fun o no => ?_⟩
      have s2 := same_upd (o := .tup [.ref x, v]) no
      exact q o x _ (s1.trans s2) (.inl ⟨d, _, s2 _ _ hx, s2 _ _ hd⟩) upd_same
    · refine ⟨_, rfl, rfl, _, rfl, ⟨_, rfl, rfl, _, rfl, ⟨_, rfl, rfl, _, rfl, ⟨_, rfl, rfl, _, rfl, ⟨_, rfl, rfl, _, rfl, ⟨_, rfl, rfl, _, rfl, ⟨_, rfl, rfl, _, rfl, ⟨_, rfl, rfl, _, rfl, ⟨_, rfl, rfl, _, rfl, ⟨_, rfl, rfl, _, rfl, ⟨_, rfl, rfl, _, rfl, ⟨_, rfl, rfl, _, rfl, ?_⟩⟩⟩⟩⟩⟩⟩⟩⟩⟩⟩⟩
      refine ⟨v, rfl, (by decide : 1 ≤ 1000), fun x nx => ⟨x, v, rfl, upd_same, fun d nd ne => ⟨rfl, ?_⟩⟩⟩
      obtain ⟨s1, hx, hd⟩ := init_heap (f := "size") (v := v) nx nd ne
      generalize upd (upd (upd H x (exo x a.C_NoList none)) d (exd d [(("size" : Str), v)])) x (exo x a.C_NoList (some d)) = H1 at s1 hx hd ⊢
      refine ⟨.ref x, rfl, .ref x, rfl, x, a.C_NoList, d, _, v, rfl, T.ox_NoList.x, T.ox_NoList.no, hx, hd, rfl, sz (show 2 ≤ 100000 by decide), fun o no => ?_⟩
      have s2 := same_upd (o := .tup [.ref x, v]) no
      exact q o x _ (s1.trans s2) (.inl ⟨d, _, s2 _ _ hx, s2 _ _ hd⟩) upd_same
    · refine ⟨_, rfl, rfl, _, rfl, ⟨_, rfl, rfl, _, rfl, ⟨_, rfl, rfl, _, rfl, ⟨_, rfl, rfl, _, rfl, ⟨_, rfl, rfl, _, rfl, ⟨_, rfl, rfl, _, rfl, ⟨_, rfl, rfl, _, rfl, ⟨_, rfl, rfl, _, rfl, ⟨_, rfl, rfl, _, rfl, ⟨_, rfl, rfl, _, rfl, ⟨_, rfl, rfl, _, rfl, ⟨_, rfl, rfl, _, rfl, ⟨_, rfl, rfl, _, rfl, ?_⟩⟩⟩⟩⟩⟩⟩⟩⟩⟩⟩⟩⟩
      refine fun x nx => ⟨v, rfl, sz (show 2 ≤ 100000 by decide), fun o no => ?_⟩
      have s1 := same_upd (o := ExO (.ref a.C_Mixed) x) nx
      have hx : (upd H x (ExO (.ref a.C_Mixed) x)) x = some (ExO (.ref a.C_Mixed) x) := upd_same
      generalize upd H x (ExO (.ref a.C_Mixed) x) = H1 at s1 hx no ⊢
      have s2 := same_upd (o := .tup [.ref x, v]) no
      exact q o x _ (s1.trans s2) (.inr (s2 _ _ hx)) upd_same
    · refine ⟨_, rfl, rfl, _, rfl, ⟨_, rfl, rfl, _, rfl, ⟨_, rfl, rfl, _, rfl, ⟨_, rfl, rfl, _, rfl, ⟨_, rfl, rfl, _, rfl, ⟨_, rfl, rfl, _, rfl, ⟨_, rfl, rfl, _, rfl, ⟨_, rfl, rfl, _, rfl, ⟨_, rfl, rfl, _, rfl, ⟨_, rfl, rfl, _, rfl, ⟨_, rfl, rfl, _, rfl, ⟨_, rfl, rfl, _, rfl, ⟨_, rfl, rfl, _, rfl, ?_⟩⟩⟩⟩⟩⟩⟩⟩⟩⟩⟩⟩⟩
      refine fun x nx => ⟨v, rfl, sz (show 2 ≤ 100000 by decide), fun o no => ?_⟩
      have s1 := same_upd (o := ExO (.ref a.C_NothingToUndo) x) nx
      have hx : (upd H x (ExO (.ref a.C_NothingToUndo) x)) x = some (ExO (.ref a.C_NothingToUndo) x) := upd_same
      generalize upd H x (ExO (.ref a.C_NothingToUndo) x) = H1 at s1 hx no ⊢
      have s2 := same_upd (o := .tup [.ref x, v]) no
      exact q o x _ (s1.trans s2) (.inr (s2 _ _ hx)) upd_same
end

section
variable {P : Program} {w : World} {K : PySem.W.Frag} {mg : Str → Option Value} {base : Heap} {a : Ad}
/-- what an error is made from -/
def WV (H : Hp) (v : V) : Prop := (∃ n : Int, v = .int n) ∨ v = .non ∨ v = .str "word" ∨ v = .bl true ∨ ∃ p, v = .ref p ∧ H p = some (.tup [.str "a", .int 1])
theorem WV.same {H H' : Hp} {v : V} (h : WV H v) (s : Same H H') : WV H' v := by
  rcases h with h | h | h | h | ⟨p, h, e⟩
  · exact .inl h
  · exact .inr (.inl h)
  · exact .inr (.inr (.inl h))
  · exact .inr (.inr (.inr (.inl h)))
  · exact .inr (.inr (.inr (.inr ⟨p, h, s _ _ e⟩)))
theorem WV.data {H : Hp} {v : V} (h : WV H v) : ∃ d, Dp K H v d ∧ SeqAt.shaped d = true ∧ PyData.eqv d d = true := by
  rcases h with ⟨n, rfl⟩ | rfl | rfl | rfl | ⟨p, rfl, e⟩
  · exact ⟨_, .int n, by simp [SeqAt.shaped, PyData.canLay0, PyData.depth], by simp [PyData.eqv]⟩
  · exact ⟨_, .non, by decide +kernel, by decide +kernel⟩
  · exact ⟨_, .str _, by decide +kernel, by decide +kernel⟩
  · exact ⟨_, .bl _, by decide +kernel, by decide +kernel⟩
  · exact ⟨.tuple [.str "a", .int 1], .tup (SqT.at e) (.cons (.str _) (.cons (.int _) .nil)), by decide +kernel, by decide +kernel⟩
def bools (k : Nat) : List Bool := (List.range 14).map fun j => decide (j = k)
theorem dp_bools {K : PySem.W.Frag} {H : Hp} : ∀ bs : List Bool, DpAll K H (bs.map V.bl) (bs.map PyData.bool)
  | [] => .nil
  | _ :: r => .cons (.bl _) (dp_bools r)
theorem bools_ok {k : Nat} (h : k < 14) : SeqAt.shaped (.list ((bools k).map PyData.bool)) = true ∧ PyData.eqv (.list ((bools k).map PyData.bool)) (.list ((bools k).map PyData.bool)) = true := by
  rcases nat14 h with rfl | rfl | rfl | rfl | rfl | rfl | rfl | rfl | rfl | rfl | rfl | rfl | rfl | rfl <;> decide +kernel
theorem ne_self {d : PyData} {A B : Prop} (h : PyData.eqv d d = true) (q : B) : if (!PyData.eqv d d) = true then A else B := by
  rw [h]
  exact q
def spLaw (K : PySem.W.Frag) : Sp := fun vs H Q _ => ∃ (s : Addr) (ns : List Int), vs = [.ref s] ∧ SqL K H s (ns.map V.int) ∧ ns.length ≤ 63 ∧ ∀ H', Q (.bl true) H'
theorem ok_law (T : Tx w K mg a) : FnOk P w K mg base CX0 4 a.f_law a.d_law ["script"] (spLaw K) := by
  refine T.F_law.ok sc_law (fun vs H Q E h => ?_) (fun cdv A outer s H vs Q E hr h => ?_)
  · obtain ⟨x, ns, rfl, _⟩ := h
    rfl
  · obtain ⟨x, ns, rfl, hS, hlen, q⟩ := h
    refine ⟨_, 
(pss_cons (ps_set (i := 1) sc_law.nd rfl (.inl rfl) (pe_call (ok__law_pen T) (hr.mono (by decide)) (by rfl) T.m__law_pen T.F__law_pen.kp T.b__law_pen .nil pass0 (pa_cons (pv 0) pa_nil)))
  (pss_cons (ps_for PassesOwn.never rfl (pi_range1 (by rfl) T.z_range (pa_cons pe_int pa_nil)) (pg_name (i := 2) sc_law.nd rfl (.inr rfl))
  (pss_cons (ps_set (i := 3) sc_law.nd rfl (.inl rfl) (pe_op op_add pe_int (pe_call (ok__law_draw T) (hr.mono (by decide)) (by rfl) T.m__law_draw T.F__law_draw.kp T.b__law_draw .nil pass0 (pa_cons (pv 1) (pa_cons (pe_op op_pow pe_int pe_int) pa_nil)))))
  (C8.pss_cut (ps_if (PW.pt (pw_and (pt_cmpR op_in_seq (pv 2) (pe_tup (pa_cons pe_int (pa_cons pe_int (pa_cons pe_int (pa_cons pe_int (pa_cons pe_int (pa_cons pe_int pa_nil))))))) (by rfl)) (pw_and1 (pt_cmpR op_eq (pe_call (ok__law_draw T) (hr.mono (by decide)) (by rfl) T.m__law_draw T.F__law_draw.kp T.b__law_draw .nil pass0 (pa_cons (pv 1) (pa_cons pe_int pa_nil))) pe_int (nomark _)))))
  (pss_one (ps_set (i := 3) sc_law.nd rfl (.inl rfl) (pe_call (ok__law_pick T) (hr.mono (by decide)) (by rfl) T.m__law_pick T.F__law_pick.kp T.b__law_pick .nil pass0 (pa_cons (pv 1) (pa_cons (pe_lst (pa_cons pe_non (pa_cons pe_str (pa_cons (pe_un un_neg pe_int) (pa_cons (pe_op op_pow pe_int pe_int) (pa_cons (pe_tup (pa_cons pe_str (pa_cons pe_int pa_nil))) (pa_cons pe_bl pa_nil))))))) pa_nil)))))
  pss_nil)
  (pss_cons (ps_asg (pe_call (ok__law_made T) hr (by rfl) T.m__law_made T.F__law_made.kp T.b__law_made .nil pass0 (pa_cons (pv 2) (pa_cons (pv 3) pa_nil))) (pg_tup rfl (pgs_cons (pg_name (i := 4) sc_law.nd rfl (.inl rfl)) (pgs_cons (pg_name (i := 5) sc_law.nd rfl (.inl rfl)) pgs_nil))))
  (pss_cons (ps_if (PW.pt (pw_or (pt_cmpR (op_neD hr.units) (pv 5) (pv 3) (nomark _)) (pw_or (pt_not (pt_val (pe_callB call_isV (by rfl) T.z_isinstance (by decide +kernel) (pa_cons (pv 4) (pa_cons (pe_glob (v := .ref a.C_EveryError) (by rfl) T.c_EveryError rfl) pa_nil))))) (pw_or1 (pt_not (pt_val (pe_callB call_isV (by rfl) T.z_isinstance (by decide +kernel) (pa_cons (pv 4) (pa_cons (pe_bltn (v := .ty "ValueError") (by rfl) T.z_ValueError (by decide +kernel) rfl) pa_nil)))))))))
  (pss_one (ps_ret pe_bl))
  pss_nil)
  (pss_one (ps_if (pt_cmpR (op_neD hr.units) (pe_call (ok__law_kinds T) hr (by rfl) T.m__law_kinds T.F__law_kinds.kp T.b__law_kinds .nil pass0 (pa_cons (pv 4) pa_nil)) (pe_lc (own := [("j", 6)]) (g := gName 6) rfl sc_law.nd (pi_range1 (by rfl) T.z_range (pa_cons pe_int pa_nil)) (blkOk_by (own := [("j", 6)]) (N := ["script", "pen", "k", "worth", "error", "kept", "j"]) (sc := defScope s_law) (by decide +kernel)) (fun _ _ _ _ _ => pg_name (i := 6) sc_law.nd rfl (Or.inl rfl)) (fun _ _ _ _ _ => pts_nil) (fun _ _ _ _ _ => (pe_cmpR op_eq (pv 6) (pv 2) (nomark _)))) (nomark _))
  (pss_one (ps_ret pe_bl))
  pss_nil)))))))
  (pss_one (ps_ret pe_bl)))), ?_⟩
    refine ⟨.ref x, rfl, x, ns, rfl, hS, hlen, fun d c H1 hd hc hp s1 => ?_⟩
    refine ⟨14, rfl, by decide, by decide, ?_⟩
    have cp : ∀ n : Int, 0 ≤ n → n ≤ 1000000 → CPow 10 n := fun n h1 h2 => ⟨h1, h2, by decide⟩
    refine for_range (lo := 0) (n := 14) (fun i σ H2 => (∃ y2 y3 y4 y5 y6 : Option V, σ = [some (.ref x), some (.ref d), y2, y3, y4, y5, y6]) ∧ Pen H2 d c (i * 5)) ?_ ?_ ?_
    · exact ⟨⟨none, none, none, none, none, rfl⟩, hp⟩
    rotate_left
    · rintro σ H2 _
      exact q _
    rintro i σ H2 hi ⟨⟨y2, y3, y4, y5, y6, rfl⟩, hp2⟩
    rw [show (0 : Int) + (i : Int) = (i : Int) from Int.zero_add _]
    -- worth = 1 + _law_draw(pen, 10 ** 12)
    refine ⟨.ref d, rfl, 10, 12, rfl, rfl, cp 12 (by decide) (by decide), d, c, _, _, rfl, hp2, by omega, by decide, by decide, fun v H3 v0 v1 hp3 b3 => ⟨1, v, rfl, rfl, ?_⟩⟩
    refine ⟨fun σ' H' => ∃ wv, WV H' wv ∧ σ' = [some (.ref x), some (.ref d), some (.int (i : Int)), some wv, y4, y5, y6] ∧ Pen H' d c (i * 5 + 3), ?_, ?_⟩
    · refine ⟨_, rfl, sz (show 6 ≤ 100000 by decide), fun p np => ⟨p, _, rfl, .inr (SqT.at upd_same), rfl, rfl, _, rfl, ?_⟩⟩
      have s4 := same_upd (o := .tup [.int 2, .int 3, .int 4, .int 5, .int 6, .int 10]) np
      have hp4 := hp3.same s4
      generalize upd H3 p (.tup [.int 2, .int 3, .int 4, .int 5, .int 6, .int 10]) = H4 at s4 hp4 ⊢
      refine ite2 (fun _ => ?_) (fun _ => ⟨.int (1 + v), .inl ⟨_, rfl⟩, rfl, hp4.up (by omega)⟩)
      refine ⟨.ref d, rfl, d, c, _, 2, rfl, hp4, by omega, by decide, by decide, fun v2 H5 v20 v21 hp5 b5 => ⟨rfl, _, rfl, ite2 (fun _ => ?_) (fun _ => ⟨.int (1 + v), .inl ⟨_, rfl⟩, rfl, hp5.up (by omega)⟩)⟩⟩
      refine ⟨.ref d, rfl, 3, rfl, 10, 40, rfl, rfl, cp 40 (by decide) (by decide), sz (show 2 ≤ 100000 by decide), fun pt npt => ?_⟩
      have t6 := same_upd (o := .tup [.str "a", .int 1]) npt
      have et : (upd H5 pt (.tup [.str "a", .int 1])) pt = some (.tup [.str "a", .int 1]) := upd_same
      have hp6 := hp5.same t6
      generalize upd H5 pt (.tup [.str "a", .int 1]) = H6 at t6 et hp6 ⊢
      refine ⟨sz (show 6 ≤ 100000 by decide), fun pl npl => ?_⟩
      refine ⟨d, c, pl, _, _, rfl, hp6.same (same_upd npl), by omega, SqL.at upd_same, (show 0 < 6 by decide), (show 6 ≤ 100000 by decide), fun z H7 hz hp7 b7 => ?_⟩
      have et7 : H7 pt = some (.tup [.str "a", .int 1]) := by
        obtain ⟨kvs, hd6⟩ := hp6.dict
        have s7 := fun o => same_upd (o := o) npl
        exact b7.tup (s7 _ _ _ hd6) (s7 _ _ _ et)
      refine ⟨z, ?_, rfl, hp7.up (by omega)⟩
      simp only [List.mem_cons, List.not_mem_nil, or_false] at hz
      rcases hz with rfl | rfl | rfl | rfl | rfl | rfl
      · exact .inr (.inl rfl)
      · exact .inr (.inr (.inl rfl))
      · exact .inl ⟨_, rfl⟩
      · exact .inl ⟨_, rfl⟩
      · exact .inr (.inr (.inr (.inr ⟨pt, rfl, et7⟩)))
      · exact .inr (.inr (.inr (.inl rfl)))
    rintro σ' H4 ⟨wv, hwv, rfl, hp4⟩
    -- error, kept = _law_made(k, worth)
    refine ⟨_, rfl, wv, rfl, i, wv, rfl, hi, fun o e H5 s5 he eo => ?_⟩
    refine ⟨o, [.ref e, wv], rfl, SqT.at eo, rfl, _, [wv], rfl, _, [], rfl, rfl, ?_⟩
    obtain ⟨dw, hdw, hsh, heq⟩ := (hwv.same s5).data (K := K)
    refine ⟨wv, rfl, wv, rfl, dw, dw, hdw, hdw, hsh, hsh, _, rfl, ?_⟩
    refine ne_self heq ?_
    refine ⟨.ref e, rfl, e, eC a i, .ref a.C_EveryError, .ref a.C_EveryError, true, rfl, eC_i T hi, fun u r => r, (eC_e T hi).1, he, true, rfl, ?_⟩
    refine ⟨.ref e, rfl, e, eC a i, .ty "ValueError", .type "ValueError", true, rfl, eC_i T hi, fun u r => r, (eC_e T hi).2, he, true, rfl, ?_⟩
    -- _law_kinds(error) != [j == k for j in range(14)]
    refine ⟨.ref e, rfl, e, i, rfl, hi, he, fun o2 H6 s6 e2 => ?_⟩
    refine ⟨14, rfl, by decide, by decide, fun o3 n3 => ?_⟩
    refine lc_range (lo := 0) (n := 14) (fun l H' => Same H6 H' ∧ H' o3 = some (.lst ((List.range l).map fun (j : Nat) => V.bl (decide (V.int (0 + (j : Int)) = V.int (i : Int)))))) ?c0 ?cs ?cd
    case c0 => exact ⟨same_upd n3, upd_same⟩
    case cs =>
      rintro l H' hl ⟨sm, ee⟩
      refine ⟨rfl, _, rfl, _, rfl, rfl, _, ee, ?_, keep_upd sm n3, ?_⟩
      · rw [List.length_map, List.length_range]
        exact szlt (by omega)
      · rw [upd_same, List.range_succ, List.map_append]
        rfl
    rintro H7 ⟨s7, e7⟩
    have eb : ((List.range 14).map fun (j : Nat) => V.bl (decide (V.int (0 + (j : Int)) = V.int (i : Int)))) = (bools i).map V.bl := by
      unfold bools
      rw [List.map_map]
      refine List.map_congr_left fun j _ => congrArg V.bl (decide_eq_decide.mpr ⟨fun h => ?_, fun h => ?_⟩)
      · have := V.int.inj h
        omega
      · rw [h, Int.zero_add]
    have eb2 : ((List.range 14).map fun j => V.bl (decide (j = i))) = (bools i).map V.bl := by
      unfold bools
      rw [List.map_map]
      rfl
    rw [eb] at e7
    rw [eb2] at e2
    refine ⟨.list ((bools i).map PyData.bool), .list ((bools i).map PyData.bool), .lst (SqL.at (s7 _ _ e2)) (dp_bools _), .lst (SqL.at e7) (dp_bools _), (bools_ok hi).1, (bools_ok hi).1, _, rfl, ?_⟩
    refine ne_self (bools_ok hi).2 ?_
    exact ⟨⟨_, _, _, _, _, rfl⟩, (hp4.same (s5.trans (s6.trans s7))).up (by omega)⟩
end


theorem all_mk {l : PySem.W.OpenLaw} {w : World} {K : PySem.W.Frag} {h : Heap} {mg : Str → Option Value} {fa : Addr} (X : K.In h) (G : h.Ns mainGlobals mg) (hfa : mg "law" = some (.ref fa))
    {f0 : Addr} {od0 an0 : Option Addr} {sl0 : Array (Option Value)} {oc0 kV0 dc0 pm0 cd0 ct0 : Value}
    {f1 : Addr} {od1 an1 : Option Addr} {sl1 : Array (Option Value)} {oc1 kV1 dc1 pm1 cd1 ct1 : Value}
    {f2 : Addr} {od2 an2 : Option Addr} {sl2 : Array (Option Value)} {oc2 kV2 dc2 pm2 cd2 ct2 : Value}
    {f3 : Addr} {od3 an3 : Option Addr} {sl3 : Array (Option Value)} {oc3 kV3 dc3 pm3 cd3 ct3 : Value}
    {f4 : Addr} {od4 an4 : Option Addr} {sl4 : Array (Option Value)} {oc4 kV4 dc4 pm4 cd4 ct4 : Value}
    {f5 : Addr} {od5 an5 : Option Addr} {sl5 : Array (Option Value)} {oc5 kV5 dc5 pm5 cd5 ct5 : Value}
    {f6 : Addr} {od6 an6 : Option Addr} {sl6 : Array (Option Value)} {oc6 kV6 dc6 pm6 cd6 ct6 : Value}
    {f7 : Addr} {od7 an7 : Option Addr} {sl7 : Array (Option Value)} {oc7 kV7 dc7 pm7 cd7 ct7 : Value}
    {f8 : Addr} {od8 an8 : Option Addr} {sl8 : Array (Option Value)} {oc8 kV8 dc8 pm8 cd8 ct8 : Value}
    {f9 : Addr} {od9 an9 : Option Addr} {sl9 : Array (Option Value)} {oc9 kV9 dc9 pm9 cd9 ct9 : Value}
    {f10 : Addr} {od10 an10 : Option Addr} {sl10 : Array (Option Value)} {oc10 kV10 dc10 pm10 cd10 ct10 : Value}
    {f11 : Addr} {od11 an11 : Option Addr} {sl11 : Array (Option Value)} {oc11 kV11 dc11 pm11 cd11 ct11 : Value}
    {f12 : Addr} {od12 an12 : Option Addr} {sl12 : Array (Option Value)} {oc12 kV12 dc12 pm12 cd12 ct12 : Value}
    {f13 : Addr} {od13 an13 : Option Addr} {sl13 : Array (Option Value)} {oc13 kV13 dc13 pm13 cd13 ct13 : Value}
    {f14 : Addr} {od14 an14 : Option Addr} {sl14 : Array (Option Value)} {oc14 kV14 dc14 pm14 cd14 ct14 : Value}
    {f15 : Addr} {od15 an15 : Option Addr} {sl15 : Array (Option Value)} {oc15 kV15 dc15 pm15 cd15 ct15 : Value}
    {f16 : Addr} {od16 an16 : Option Addr} {sl16 : Array (Option Value)} {oc16 kV16 dc16 pm16 cd16 ct16 : Value}
    {f17 : Addr} {od17 an17 : Option Addr} {sl17 : Array (Option Value)} {oc17 kV17 dc17 pm17 cd17 ct17 : Value}
    {C_EveryError : Addr}
    {C_BadWord : Addr}
    {C_BadText : Addr}
    {C_BadSize : Addr}
    {C_BadCall : Addr}
    {C_BadNumber : Addr}
    {C_BadPlace : Addr}
    {C_BadThing : Addr}
    {C_BadRow : Addr}
    {C_NotWhole : Addr}
    {C_NotClosed : Addr}
    {C_NoLevel : Addr}
    {C_NoList : Addr}
    {C_Mixed : Addr}
    {C_NothingToUndo : Addr}
    {en_BadWord eq_BadWord : Str} {eN_BadWord : Addr} {eb_BadWord em_BadWord : List Value} {es_BadWord : List Str} {eu_BadWord : List Value} {ea_BadWord : Bool} {eo_BadWord : Option Bool} {ed_BadWord : Option Addr} {e0_BadWord e1_BadWord e2_BadWord e3_BadWord e5_BadWord : Option Value}
    {en_BadText eq_BadText : Str} {eN_BadText : Addr} {eb_BadText em_BadText : List Value} {es_BadText : List Str} {eu_BadText : List Value} {ea_BadText : Bool} {eo_BadText : Option Bool} {ed_BadText : Option Addr} {e0_BadText e1_BadText e2_BadText e3_BadText e5_BadText : Option Value}
    {en_BadSize eq_BadSize : Str} {eN_BadSize : Addr} {eb_BadSize em_BadSize : List Value} {es_BadSize : List Str} {eu_BadSize : List Value} {ea_BadSize : Bool} {eo_BadSize : Option Bool} {ed_BadSize : Option Addr} {e0_BadSize e1_BadSize e2_BadSize e3_BadSize e5_BadSize : Option Value}
    {en_BadCall eq_BadCall : Str} {eN_BadCall : Addr} {eb_BadCall em_BadCall : List Value} {es_BadCall : List Str} {eu_BadCall : List Value} {ea_BadCall : Bool} {eo_BadCall : Option Bool} {ed_BadCall : Option Addr} {e0_BadCall e1_BadCall e2_BadCall e3_BadCall e5_BadCall : Option Value}
    {en_BadNumber eq_BadNumber : Str} {eN_BadNumber : Addr} {eb_BadNumber em_BadNumber : List Value} {es_BadNumber : List Str} {eu_BadNumber : List Value} {ea_BadNumber : Bool} {eo_BadNumber : Option Bool} {ed_BadNumber : Option Addr} {e0_BadNumber e1_BadNumber e2_BadNumber e3_BadNumber e5_BadNumber : Option Value}
    {en_BadPlace eq_BadPlace : Str} {eN_BadPlace : Addr} {eb_BadPlace em_BadPlace : List Value} {es_BadPlace : List Str} {eu_BadPlace : List Value} {ea_BadPlace : Bool} {eo_BadPlace : Option Bool} {ed_BadPlace : Option Addr} {e0_BadPlace e1_BadPlace e2_BadPlace e3_BadPlace e5_BadPlace : Option Value}
    {en_BadThing eq_BadThing : Str} {eN_BadThing : Addr} {eb_BadThing em_BadThing : List Value} {es_BadThing : List Str} {eu_BadThing : List Value} {ea_BadThing : Bool} {eo_BadThing : Option Bool} {ed_BadThing : Option Addr} {e0_BadThing e1_BadThing e2_BadThing e3_BadThing e5_BadThing : Option Value}
    {en_BadRow eq_BadRow : Str} {eN_BadRow : Addr} {eb_BadRow em_BadRow : List Value} {es_BadRow : List Str} {eu_BadRow : List Value} {ea_BadRow : Bool} {eo_BadRow : Option Bool} {ed_BadRow : Option Addr} {e0_BadRow e1_BadRow e2_BadRow e3_BadRow e5_BadRow : Option Value}
    {en_NotWhole eq_NotWhole : Str} {eN_NotWhole : Addr} {eb_NotWhole em_NotWhole : List Value} {es_NotWhole : List Str} {eu_NotWhole : List Value} {ea_NotWhole : Bool} {eo_NotWhole : Option Bool} {ed_NotWhole : Option Addr} {e0_NotWhole e1_NotWhole e2_NotWhole e3_NotWhole e5_NotWhole : Option Value}
    {en_NotClosed eq_NotClosed : Str} {eN_NotClosed : Addr} {eb_NotClosed em_NotClosed : List Value} {es_NotClosed : List Str} {eu_NotClosed : List Value} {ea_NotClosed : Bool} {eo_NotClosed : Option Bool} {ed_NotClosed : Option Addr} {e0_NotClosed e1_NotClosed e2_NotClosed e3_NotClosed e5_NotClosed : Option Value}
    {en_NoLevel eq_NoLevel : Str} {eN_NoLevel : Addr} {eb_NoLevel em_NoLevel : List Value} {es_NoLevel : List Str} {eu_NoLevel : List Value} {ea_NoLevel : Bool} {eo_NoLevel : Option Bool} {ed_NoLevel : Option Addr} {e0_NoLevel e1_NoLevel e2_NoLevel e3_NoLevel e5_NoLevel : Option Value}
    {en_NoList eq_NoList : Str} {eN_NoList : Addr} {eb_NoList em_NoList : List Value} {es_NoList : List Str} {eu_NoList : List Value} {ea_NoList : Bool} {eo_NoList : Option Bool} {ed_NoList : Option Addr} {e0_NoList e1_NoList e2_NoList e3_NoList e5_NoList : Option Value}
    (c_EveryError : PySem.W.nsIn K mainGlobals "EveryError" = some (some (.ref C_EveryError)))
    (c_BadWord : PySem.W.nsIn K mainGlobals "BadWord" = some (some (.ref C_BadWord)))
    (c_BadText : PySem.W.nsIn K mainGlobals "BadText" = some (some (.ref C_BadText)))
    (c_BadSize : PySem.W.nsIn K mainGlobals "BadSize" = some (some (.ref C_BadSize)))
    (c_BadCall : PySem.W.nsIn K mainGlobals "BadCall" = some (some (.ref C_BadCall)))
    (c_BadNumber : PySem.W.nsIn K mainGlobals "BadNumber" = some (some (.ref C_BadNumber)))
    (c_BadPlace : PySem.W.nsIn K mainGlobals "BadPlace" = some (some (.ref C_BadPlace)))
    (c_BadThing : PySem.W.nsIn K mainGlobals "BadThing" = some (some (.ref C_BadThing)))
    (c_BadRow : PySem.W.nsIn K mainGlobals "BadRow" = some (some (.ref C_BadRow)))
    (c_NotWhole : PySem.W.nsIn K mainGlobals "NotWhole" = some (some (.ref C_NotWhole)))
    (c_NotClosed : PySem.W.nsIn K mainGlobals "NotClosed" = some (some (.ref C_NotClosed)))
    (c_NoLevel : PySem.W.nsIn K mainGlobals "NoLevel" = some (some (.ref C_NoLevel)))
    (c_NoList : PySem.W.nsIn K mainGlobals "NoList" = some (some (.ref C_NoList)))
    (c_Mixed : PySem.W.nsIn K mainGlobals "Mixed" = some (some (.ref C_Mixed)))
    (c_NothingToUndo : PySem.W.nsIn K mainGlobals "NothingToUndo" = some (some (.ref C_NothingToUndo)))
    (a0 : PySem.W.findIn K (.ref C_BadWord) "__init__" = some (some (.ref f0)))
    (l0 : K.lookup f0 = some ⟨oc0, od0, .func (PySem.W.fnOf "__init__" "BadWord.__init__" (defArgs s_BadWord_init) (defBody s_BadWord_init) (defScope s_BadWord_init) .none kV0 dc0 pm0 an0 cd0 ct0), sl0⟩)
    (e0 : PySem.W.codeIn K cd0 "BadWord.__init__" = true)
    (k0 : PySem.W.keepIn K (.ref f0) = true)
    (a1 : PySem.W.findIn K (.ref C_BadText) "__init__" = some (some (.ref f1)))
    (l1 : K.lookup f1 = some ⟨oc1, od1, .func (PySem.W.fnOf "__init__" "BadText.__init__" (defArgs s_BadText_init) (defBody s_BadText_init) (defScope s_BadText_init) .none kV1 dc1 pm1 an1 cd1 ct1), sl1⟩)
    (e1 : PySem.W.codeIn K cd1 "BadText.__init__" = true)
    (k1 : PySem.W.keepIn K (.ref f1) = true)
    (a2 : PySem.W.findIn K (.ref C_BadSize) "__init__" = some (some (.ref f2)))
    (l2 : K.lookup f2 = some ⟨oc2, od2, .func (PySem.W.fnOf "__init__" "BadSize.__init__" (defArgs s_BadSize_init) (defBody s_BadSize_init) (defScope s_BadSize_init) .none kV2 dc2 pm2 an2 cd2 ct2), sl2⟩)
    (e2 : PySem.W.codeIn K cd2 "BadSize.__init__" = true)
    (k2 : PySem.W.keepIn K (.ref f2) = true)
    (a3 : PySem.W.findIn K (.ref C_BadCall) "__init__" = some (some (.ref f3)))
    (l3 : K.lookup f3 = some ⟨oc3, od3, .func (PySem.W.fnOf "__init__" "BadCall.__init__" (defArgs s_BadCall_init) (defBody s_BadCall_init) (defScope s_BadCall_init) .none kV3 dc3 pm3 an3 cd3 ct3), sl3⟩)
    (e3 : PySem.W.codeIn K cd3 "BadCall.__init__" = true)
    (k3 : PySem.W.keepIn K (.ref f3) = true)
    (a4 : PySem.W.findIn K (.ref C_BadNumber) "__init__" = some (some (.ref f4)))
    (l4 : K.lookup f4 = some ⟨oc4, od4, .func (PySem.W.fnOf "__init__" "BadNumber.__init__" (defArgs s_BadNumber_init) (defBody s_BadNumber_init) (defScope s_BadNumber_init) .none kV4 dc4 pm4 an4 cd4 ct4), sl4⟩)
    (e4 : PySem.W.codeIn K cd4 "BadNumber.__init__" = true)
    (k4 : PySem.W.keepIn K (.ref f4) = true)
    (a5 : PySem.W.findIn K (.ref C_BadPlace) "__init__" = some (some (.ref f5)))
    (l5 : K.lookup f5 = some ⟨oc5, od5, .func (PySem.W.fnOf "__init__" "BadPlace.__init__" (defArgs s_BadPlace_init) (defBody s_BadPlace_init) (defScope s_BadPlace_init) .none kV5 dc5 pm5 an5 cd5 ct5), sl5⟩)
    (e5 : PySem.W.codeIn K cd5 "BadPlace.__init__" = true)
    (k5 : PySem.W.keepIn K (.ref f5) = true)
    (a6 : PySem.W.findIn K (.ref C_BadThing) "__init__" = some (some (.ref f6)))
    (l6 : K.lookup f6 = some ⟨oc6, od6, .func (PySem.W.fnOf "__init__" "BadThing.__init__" (defArgs s_BadThing_init) (defBody s_BadThing_init) (defScope s_BadThing_init) .none kV6 dc6 pm6 an6 cd6 ct6), sl6⟩)
    (e6 : PySem.W.codeIn K cd6 "BadThing.__init__" = true)
    (k6 : PySem.W.keepIn K (.ref f6) = true)
    (a7 : PySem.W.findIn K (.ref C_BadRow) "__init__" = some (some (.ref f7)))
    (l7 : K.lookup f7 = some ⟨oc7, od7, .func (PySem.W.fnOf "__init__" "BadRow.__init__" (defArgs s_BadRow_init) (defBody s_BadRow_init) (defScope s_BadRow_init) .none kV7 dc7 pm7 an7 cd7 ct7), sl7⟩)
    (e7 : PySem.W.codeIn K cd7 "BadRow.__init__" = true)
    (k7 : PySem.W.keepIn K (.ref f7) = true)
    (a8 : PySem.W.findIn K (.ref C_NotWhole) "__init__" = some (some (.ref f8)))
    (l8 : K.lookup f8 = some ⟨oc8, od8, .func (PySem.W.fnOf "__init__" "NotWhole.__init__" (defArgs s_NotWhole_init) (defBody s_NotWhole_init) (defScope s_NotWhole_init) .none kV8 dc8 pm8 an8 cd8 ct8), sl8⟩)
    (e8 : PySem.W.codeIn K cd8 "NotWhole.__init__" = true)
    (k8 : PySem.W.keepIn K (.ref f8) = true)
    (a9 : PySem.W.findIn K (.ref C_NotClosed) "__init__" = some (some (.ref f9)))
    (l9 : K.lookup f9 = some ⟨oc9, od9, .func (PySem.W.fnOf "__init__" "NotClosed.__init__" (defArgs s_NotClosed_init) (defBody s_NotClosed_init) (defScope s_NotClosed_init) .none kV9 dc9 pm9 an9 cd9 ct9), sl9⟩)
    (e9 : PySem.W.codeIn K cd9 "NotClosed.__init__" = true)
    (k9 : PySem.W.keepIn K (.ref f9) = true)
    (a10 : PySem.W.findIn K (.ref C_NoLevel) "__init__" = some (some (.ref f10)))
    (l10 : K.lookup f10 = some ⟨oc10, od10, .func (PySem.W.fnOf "__init__" "NoLevel.__init__" (defArgs s_NoLevel_init) (defBody s_NoLevel_init) (defScope s_NoLevel_init) .none kV10 dc10 pm10 an10 cd10 ct10), sl10⟩)
    (e10 : PySem.W.codeIn K cd10 "NoLevel.__init__" = true)
    (k10 : PySem.W.keepIn K (.ref f10) = true)
    (a11 : PySem.W.findIn K (.ref C_NoList) "__init__" = some (some (.ref f11)))
    (l11 : K.lookup f11 = some ⟨oc11, od11, .func (PySem.W.fnOf "__init__" "NoList.__init__" (defArgs s_NoList_init) (defBody s_NoList_init) (defScope s_NoList_init) .none kV11 dc11 pm11 an11 cd11 ct11), sl11⟩)
    (e11 : PySem.W.codeIn K cd11 "NoList.__init__" = true)
    (k11 : PySem.W.keepIn K (.ref f11) = true)
    (a12 : PySem.W.nsIn K mainGlobals "_law_pen" = some (some (.ref f12)))
    (l12 : K.lookup f12 = some ⟨oc12, od12, .func (PySem.W.fnOf "_law_pen" "_law_pen" (defArgs s__law_pen) (defBody s__law_pen) (defScope s__law_pen) .none kV12 dc12 pm12 an12 cd12 ct12), sl12⟩)
    (e12 : PySem.W.codeIn K cd12 "_law_pen" = true)
    (k12 : PySem.W.keepIn K (.ref f12) = true)
    (a13 : PySem.W.nsIn K mainGlobals "_law_draw" = some (some (.ref f13)))
    (l13 : K.lookup f13 = some ⟨oc13, od13, .func (PySem.W.fnOf "_law_draw" "_law_draw" (defArgs s__law_draw) (defBody s__law_draw) (defScope s__law_draw) .none kV13 dc13 pm13 an13 cd13 ct13), sl13⟩)
    (e13 : PySem.W.codeIn K cd13 "_law_draw" = true)
    (k13 : PySem.W.keepIn K (.ref f13) = true)
    (a14 : PySem.W.nsIn K mainGlobals "_law_pick" = some (some (.ref f14)))
    (l14 : K.lookup f14 = some ⟨oc14, od14, .func (PySem.W.fnOf "_law_pick" "_law_pick" (defArgs s__law_pick) (defBody s__law_pick) (defScope s__law_pick) .none kV14 dc14 pm14 an14 cd14 ct14), sl14⟩)
    (e14 : PySem.W.codeIn K cd14 "_law_pick" = true)
    (k14 : PySem.W.keepIn K (.ref f14) = true)
    (a15 : PySem.W.nsIn K mainGlobals "_law_made" = some (some (.ref f15)))
    (l15 : K.lookup f15 = some ⟨oc15, od15, .func (PySem.W.fnOf "_law_made" "_law_made" (defArgs s__law_made) (defBody s__law_made) (defScope s__law_made) .none kV15 dc15 pm15 an15 cd15 ct15), sl15⟩)
    (e15 : PySem.W.codeIn K cd15 "_law_made" = true)
    (k15 : PySem.W.keepIn K (.ref f15) = true)
    (a16 : PySem.W.nsIn K mainGlobals "_law_kinds" = some (some (.ref f16)))
    (l16 : K.lookup f16 = some ⟨oc16, od16, .func (PySem.W.fnOf "_law_kinds" "_law_kinds" (defArgs s__law_kinds) (defBody s__law_kinds) (defScope s__law_kinds) .none kV16 dc16 pm16 an16 cd16 ct16), sl16⟩)
    (e16 : PySem.W.codeIn K cd16 "_law_kinds" = true)
    (k16 : PySem.W.keepIn K (.ref f16) = true)
    (a17 : PySem.W.nsIn K mainGlobals "law" = some (some (.ref f17)))
    (l17 : K.lookup f17 = some ⟨oc17, od17, .func (PySem.W.fnOf "law" "law" (defArgs s_law) (defBody s_law) (defScope s_law) .none kV17 dc17 pm17 an17 cd17 ct17), sl17⟩)
    (e17 : PySem.W.codeIn K cd17 "law" = true)
    (k17 : PySem.W.keepIn K (.ref f17) = true)
    (xl_BadWord : K.lookup C_BadWord = some (excClassObj en_BadWord eq_BadWord C_BadWord eN_BadWord eb_BadWord em_BadWord true es_BadWord eu_BadWord ea_BadWord eo_BadWord ed_BadWord e0_BadWord e1_BadWord e2_BadWord e3_BadWord e5_BadWord "ValueError.__new__"))
    (xr_BadWord : PySem.HandSPX.refsVE em_BadWord = true)
    (xsa_BadWord : PySem.W.findIn K (.ref C_BadWord) "__setattr__" = some (some (.builtin "object.__setattr__")))
    (xex_BadWord : PySem.W.subIn K (.ref C_BadWord) (.type "BaseException") = some true)
    (xty_BadWord : PySem.W.typeIn K (.ref C_BadWord) = some (.type "type"))
    (xkc_BadWord : PySem.W.keepIn K (.ref C_BadWord) = true)
    (xga_BadWord : PySem.W.findIn K (.ref C_BadWord) "__getattribute__" = some (some (.builtin "BaseException.__getattribute__")))
    (xgg_BadWord : PySem.W.findIn K (.ref C_BadWord) "__getattr__" = some none)
    (xhd_BadWord : PySem.W.hasDictIn K C_BadWord = true)
    (xha_BadWord : PySem.W.findIn K (.ref C_BadWord) "__class__" = some (some (.builtin "object.__class__")))
    (xhm_BadWord : PySem.W.mroIn K C_BadWord (.type "object") = some true)
    (xno_BadWord : PySem.W.findIn K (.ref C_BadWord) "index" = some none)
    (xhn_BadWord : PySem.W.specialIn K (.builtin "object.__class__") "__get__" = some (some (.builtin "getset_descriptor.__get__")))
    (xht_BadWord : PySem.W.takesIn K (.builtin "object.__class__") = some true)
    (xti_BadWord : PySem.W.typeIn K (.ref f0) = some (.type "function"))
    (ok_BadWord_BadCall : PySem.W.kitOne K (.ref C_BadWord) (.ref C_BadCall) = some false)
    (ok_BadWord_BadNumber : PySem.W.kitOne K (.ref C_BadWord) (.ref C_BadNumber) = some false)
    (ok_BadWord_BadPlace : PySem.W.kitOne K (.ref C_BadWord) (.ref C_BadPlace) = some false)
    (ok_BadWord_BadRow : PySem.W.kitOne K (.ref C_BadWord) (.ref C_BadRow) = some false)
    (ok_BadWord_BadSize : PySem.W.kitOne K (.ref C_BadWord) (.ref C_BadSize) = some false)
    (ok_BadWord_BadText : PySem.W.kitOne K (.ref C_BadWord) (.ref C_BadText) = some false)
    (ok_BadWord_BadThing : PySem.W.kitOne K (.ref C_BadWord) (.ref C_BadThing) = some false)
    (ok_BadWord_BadWord : PySem.W.kitOne K (.ref C_BadWord) (.ref C_BadWord) = some true)
    (ok_BadWord_EveryError : PySem.W.kitOne K (.ref C_BadWord) (.ref C_EveryError) = some true)
    (ok_BadWord_Mixed : PySem.W.kitOne K (.ref C_BadWord) (.ref C_Mixed) = some false)
    (ok_BadWord_NoLevel : PySem.W.kitOne K (.ref C_BadWord) (.ref C_NoLevel) = some false)
    (ok_BadWord_NoList : PySem.W.kitOne K (.ref C_BadWord) (.ref C_NoList) = some false)
    (ok_BadWord_NotClosed : PySem.W.kitOne K (.ref C_BadWord) (.ref C_NotClosed) = some false)
    (ok_BadWord_NotWhole : PySem.W.kitOne K (.ref C_BadWord) (.ref C_NotWhole) = some false)
    (ok_BadWord_NothingToUndo : PySem.W.kitOne K (.ref C_BadWord) (.ref C_NothingToUndo) = some false)
    (xl_BadText : K.lookup C_BadText = some (excClassObj en_BadText eq_BadText C_BadText eN_BadText eb_BadText em_BadText true es_BadText eu_BadText ea_BadText eo_BadText ed_BadText e0_BadText e1_BadText e2_BadText e3_BadText e5_BadText "ValueError.__new__"))
    (xr_BadText : PySem.HandSPX.refsVE em_BadText = true)
    (xsa_BadText : PySem.W.findIn K (.ref C_BadText) "__setattr__" = some (some (.builtin "object.__setattr__")))
    (xex_BadText : PySem.W.subIn K (.ref C_BadText) (.type "BaseException") = some true)
    (xty_BadText : PySem.W.typeIn K (.ref C_BadText) = some (.type "type"))
    (xkc_BadText : PySem.W.keepIn K (.ref C_BadText) = true)
    (xga_BadText : PySem.W.findIn K (.ref C_BadText) "__getattribute__" = some (some (.builtin "BaseException.__getattribute__")))
    (xgg_BadText : PySem.W.findIn K (.ref C_BadText) "__getattr__" = some none)
    (xhd_BadText : PySem.W.hasDictIn K C_BadText = true)
    (xha_BadText : PySem.W.findIn K (.ref C_BadText) "__class__" = some (some (.builtin "object.__class__")))
    (xhm_BadText : PySem.W.mroIn K C_BadText (.type "object") = some true)
    (xno_BadText : PySem.W.findIn K (.ref C_BadText) "line" = some none)
    (xhn_BadText : PySem.W.specialIn K (.builtin "object.__class__") "__get__" = some (some (.builtin "getset_descriptor.__get__")))
    (xht_BadText : PySem.W.takesIn K (.builtin "object.__class__") = some true)
    (xti_BadText : PySem.W.typeIn K (.ref f1) = some (.type "function"))
    (ok_BadText_BadCall : PySem.W.kitOne K (.ref C_BadText) (.ref C_BadCall) = some false)
    (ok_BadText_BadNumber : PySem.W.kitOne K (.ref C_BadText) (.ref C_BadNumber) = some false)
    (ok_BadText_BadPlace : PySem.W.kitOne K (.ref C_BadText) (.ref C_BadPlace) = some false)
    (ok_BadText_BadRow : PySem.W.kitOne K (.ref C_BadText) (.ref C_BadRow) = some false)
    (ok_BadText_BadSize : PySem.W.kitOne K (.ref C_BadText) (.ref C_BadSize) = some false)
    (ok_BadText_BadText : PySem.W.kitOne K (.ref C_BadText) (.ref C_BadText) = some true)
    (ok_BadText_BadThing : PySem.W.kitOne K (.ref C_BadText) (.ref C_BadThing) = some false)
    (ok_BadText_BadWord : PySem.W.kitOne K (.ref C_BadText) (.ref C_BadWord) = some false)
    (ok_BadText_EveryError : PySem.W.kitOne K (.ref C_BadText) (.ref C_EveryError) = some true)
    (ok_BadText_Mixed : PySem.W.kitOne K (.ref C_BadText) (.ref C_Mixed) = some false)
    (ok_BadText_NoLevel : PySem.W.kitOne K (.ref C_BadText) (.ref C_NoLevel) = some false)
    (ok_BadText_NoList : PySem.W.kitOne K (.ref C_BadText) (.ref C_NoList) = some false)
    (ok_BadText_NotClosed : PySem.W.kitOne K (.ref C_BadText) (.ref C_NotClosed) = some false)
    (ok_BadText_NotWhole : PySem.W.kitOne K (.ref C_BadText) (.ref C_NotWhole) = some false)
    (ok_BadText_NothingToUndo : PySem.W.kitOne K (.ref C_BadText) (.ref C_NothingToUndo) = some false)
    (xl_BadSize : K.lookup C_BadSize = some (excClassObj en_BadSize eq_BadSize C_BadSize eN_BadSize eb_BadSize em_BadSize true es_BadSize eu_BadSize ea_BadSize eo_BadSize ed_BadSize e0_BadSize e1_BadSize e2_BadSize e3_BadSize e5_BadSize "ValueError.__new__"))
    (xr_BadSize : PySem.HandSPX.refsVE em_BadSize = true)
    (xsa_BadSize : PySem.W.findIn K (.ref C_BadSize) "__setattr__" = some (some (.builtin "object.__setattr__")))
    (xex_BadSize : PySem.W.subIn K (.ref C_BadSize) (.type "BaseException") = some true)
    (xty_BadSize : PySem.W.typeIn K (.ref C_BadSize) = some (.type "type"))
    (xkc_BadSize : PySem.W.keepIn K (.ref C_BadSize) = true)
    (xga_BadSize : PySem.W.findIn K (.ref C_BadSize) "__getattribute__" = some (some (.builtin "BaseException.__getattribute__")))
    (xgg_BadSize : PySem.W.findIn K (.ref C_BadSize) "__getattr__" = some none)
    (xhd_BadSize : PySem.W.hasDictIn K C_BadSize = true)
    (xha_BadSize : PySem.W.findIn K (.ref C_BadSize) "__class__" = some (some (.builtin "object.__class__")))
    (xhm_BadSize : PySem.W.mroIn K C_BadSize (.type "object") = some true)
    (xno_BadSize : PySem.W.findIn K (.ref C_BadSize) "size" = some none)
    (xhn_BadSize : PySem.W.specialIn K (.builtin "object.__class__") "__get__" = some (some (.builtin "getset_descriptor.__get__")))
    (xht_BadSize : PySem.W.takesIn K (.builtin "object.__class__") = some true)
    (xti_BadSize : PySem.W.typeIn K (.ref f2) = some (.type "function"))
    (ok_BadSize_BadCall : PySem.W.kitOne K (.ref C_BadSize) (.ref C_BadCall) = some false)
    (ok_BadSize_BadNumber : PySem.W.kitOne K (.ref C_BadSize) (.ref C_BadNumber) = some false)
    (ok_BadSize_BadPlace : PySem.W.kitOne K (.ref C_BadSize) (.ref C_BadPlace) = some false)
    (ok_BadSize_BadRow : PySem.W.kitOne K (.ref C_BadSize) (.ref C_BadRow) = some false)
    (ok_BadSize_BadSize : PySem.W.kitOne K (.ref C_BadSize) (.ref C_BadSize) = some true)
    (ok_BadSize_BadText : PySem.W.kitOne K (.ref C_BadSize) (.ref C_BadText) = some false)
    (ok_BadSize_BadThing : PySem.W.kitOne K (.ref C_BadSize) (.ref C_BadThing) = some false)
    (ok_BadSize_BadWord : PySem.W.kitOne K (.ref C_BadSize) (.ref C_BadWord) = some false)
    (ok_BadSize_EveryError : PySem.W.kitOne K (.ref C_BadSize) (.ref C_EveryError) = some true)
    (ok_BadSize_Mixed : PySem.W.kitOne K (.ref C_BadSize) (.ref C_Mixed) = some false)
    (ok_BadSize_NoLevel : PySem.W.kitOne K (.ref C_BadSize) (.ref C_NoLevel) = some false)
    (ok_BadSize_NoList : PySem.W.kitOne K (.ref C_BadSize) (.ref C_NoList) = some false)
    (ok_BadSize_NotClosed : PySem.W.kitOne K (.ref C_BadSize) (.ref C_NotClosed) = some false)
    (ok_BadSize_NotWhole : PySem.W.kitOne K (.ref C_BadSize) (.ref C_NotWhole) = some false)
    (ok_BadSize_NothingToUndo : PySem.W.kitOne K (.ref C_BadSize) (.ref C_NothingToUndo) = some false)
    (xl_BadCall : K.lookup C_BadCall = some (excClassObj en_BadCall eq_BadCall C_BadCall eN_BadCall eb_BadCall em_BadCall true es_BadCall eu_BadCall ea_BadCall eo_BadCall ed_BadCall e0_BadCall e1_BadCall e2_BadCall e3_BadCall e5_BadCall "ValueError.__new__"))
    (xr_BadCall : PySem.HandSPX.refsVE em_BadCall = true)
    (xsa_BadCall : PySem.W.findIn K (.ref C_BadCall) "__setattr__" = some (some (.builtin "object.__setattr__")))
    (xex_BadCall : PySem.W.subIn K (.ref C_BadCall) (.type "BaseException") = some true)
    (xty_BadCall : PySem.W.typeIn K (.ref C_BadCall) = some (.type "type"))
    (xkc_BadCall : PySem.W.keepIn K (.ref C_BadCall) = true)
    (xga_BadCall : PySem.W.findIn K (.ref C_BadCall) "__getattribute__" = some (some (.builtin "BaseException.__getattribute__")))
    (xgg_BadCall : PySem.W.findIn K (.ref C_BadCall) "__getattr__" = some none)
    (xhd_BadCall : PySem.W.hasDictIn K C_BadCall = true)
    (xha_BadCall : PySem.W.findIn K (.ref C_BadCall) "__class__" = some (some (.builtin "object.__class__")))
    (xhm_BadCall : PySem.W.mroIn K C_BadCall (.type "object") = some true)
    (xno_BadCall : PySem.W.findIn K (.ref C_BadCall) "call" = some none)
    (xhn_BadCall : PySem.W.specialIn K (.builtin "object.__class__") "__get__" = some (some (.builtin "getset_descriptor.__get__")))
    (xht_BadCall : PySem.W.takesIn K (.builtin "object.__class__") = some true)
    (xti_BadCall : PySem.W.typeIn K (.ref f3) = some (.type "function"))
    (ok_BadCall_BadCall : PySem.W.kitOne K (.ref C_BadCall) (.ref C_BadCall) = some true)
    (ok_BadCall_BadNumber : PySem.W.kitOne K (.ref C_BadCall) (.ref C_BadNumber) = some false)
    (ok_BadCall_BadPlace : PySem.W.kitOne K (.ref C_BadCall) (.ref C_BadPlace) = some false)
    (ok_BadCall_BadRow : PySem.W.kitOne K (.ref C_BadCall) (.ref C_BadRow) = some false)
    (ok_BadCall_BadSize : PySem.W.kitOne K (.ref C_BadCall) (.ref C_BadSize) = some false)
    (ok_BadCall_BadText : PySem.W.kitOne K (.ref C_BadCall) (.ref C_BadText) = some false)
    (ok_BadCall_BadThing : PySem.W.kitOne K (.ref C_BadCall) (.ref C_BadThing) = some false)
    (ok_BadCall_BadWord : PySem.W.kitOne K (.ref C_BadCall) (.ref C_BadWord) = some false)
    (ok_BadCall_EveryError : PySem.W.kitOne K (.ref C_BadCall) (.ref C_EveryError) = some true)
    (ok_BadCall_Mixed : PySem.W.kitOne K (.ref C_BadCall) (.ref C_Mixed) = some false)
    (ok_BadCall_NoLevel : PySem.W.kitOne K (.ref C_BadCall) (.ref C_NoLevel) = some false)
    (ok_BadCall_NoList : PySem.W.kitOne K (.ref C_BadCall) (.ref C_NoList) = some false)
    (ok_BadCall_NotClosed : PySem.W.kitOne K (.ref C_BadCall) (.ref C_NotClosed) = some false)
    (ok_BadCall_NotWhole : PySem.W.kitOne K (.ref C_BadCall) (.ref C_NotWhole) = some false)
    (ok_BadCall_NothingToUndo : PySem.W.kitOne K (.ref C_BadCall) (.ref C_NothingToUndo) = some false)
    (xl_BadNumber : K.lookup C_BadNumber = some (excClassObj en_BadNumber eq_BadNumber C_BadNumber eN_BadNumber eb_BadNumber em_BadNumber true es_BadNumber eu_BadNumber ea_BadNumber eo_BadNumber ed_BadNumber e0_BadNumber e1_BadNumber e2_BadNumber e3_BadNumber e5_BadNumber "ValueError.__new__"))
    (xr_BadNumber : PySem.HandSPX.refsVE em_BadNumber = true)
    (xsa_BadNumber : PySem.W.findIn K (.ref C_BadNumber) "__setattr__" = some (some (.builtin "object.__setattr__")))
    (xex_BadNumber : PySem.W.subIn K (.ref C_BadNumber) (.type "BaseException") = some true)
    (xty_BadNumber : PySem.W.typeIn K (.ref C_BadNumber) = some (.type "type"))
    (xkc_BadNumber : PySem.W.keepIn K (.ref C_BadNumber) = true)
    (xga_BadNumber : PySem.W.findIn K (.ref C_BadNumber) "__getattribute__" = some (some (.builtin "BaseException.__getattribute__")))
    (xgg_BadNumber : PySem.W.findIn K (.ref C_BadNumber) "__getattr__" = some none)
    (xhd_BadNumber : PySem.W.hasDictIn K C_BadNumber = true)
    (xha_BadNumber : PySem.W.findIn K (.ref C_BadNumber) "__class__" = some (some (.builtin "object.__class__")))
    (xhm_BadNumber : PySem.W.mroIn K C_BadNumber (.type "object") = some true)
    (xno_BadNumber : PySem.W.findIn K (.ref C_BadNumber) "number" = some none)
    (xhn_BadNumber : PySem.W.specialIn K (.builtin "object.__class__") "__get__" = some (some (.builtin "getset_descriptor.__get__")))
    (xht_BadNumber : PySem.W.takesIn K (.builtin "object.__class__") = some true)
    (xti_BadNumber : PySem.W.typeIn K (.ref f4) = some (.type "function"))
    (ok_BadNumber_BadCall : PySem.W.kitOne K (.ref C_BadNumber) (.ref C_BadCall) = some false)
    (ok_BadNumber_BadNumber : PySem.W.kitOne K (.ref C_BadNumber) (.ref C_BadNumber) = some true)
    (ok_BadNumber_BadPlace : PySem.W.kitOne K (.ref C_BadNumber) (.ref C_BadPlace) = some false)
    (ok_BadNumber_BadRow : PySem.W.kitOne K (.ref C_BadNumber) (.ref C_BadRow) = some false)
    (ok_BadNumber_BadSize : PySem.W.kitOne K (.ref C_BadNumber) (.ref C_BadSize) = some false)
    (ok_BadNumber_BadText : PySem.W.kitOne K (.ref C_BadNumber) (.ref C_BadText) = some false)
    (ok_BadNumber_BadThing : PySem.W.kitOne K (.ref C_BadNumber) (.ref C_BadThing) = some false)
    (ok_BadNumber_BadWord : PySem.W.kitOne K (.ref C_BadNumber) (.ref C_BadWord) = some false)
    (ok_BadNumber_EveryError : PySem.W.kitOne K (.ref C_BadNumber) (.ref C_EveryError) = some true)
    (ok_BadNumber_Mixed : PySem.W.kitOne K (.ref C_BadNumber) (.ref C_Mixed) = some false)
    (ok_BadNumber_NoLevel : PySem.W.kitOne K (.ref C_BadNumber) (.ref C_NoLevel) = some false)
    (ok_BadNumber_NoList : PySem.W.kitOne K (.ref C_BadNumber) (.ref C_NoList) = some false)
    (ok_BadNumber_NotClosed : PySem.W.kitOne K (.ref C_BadNumber) (.ref C_NotClosed) = some false)
    (ok_BadNumber_NotWhole : PySem.W.kitOne K (.ref C_BadNumber) (.ref C_NotWhole) = some false)
    (ok_BadNumber_NothingToUndo : PySem.W.kitOne K (.ref C_BadNumber) (.ref C_NothingToUndo) = some false)
    (xl_BadPlace : K.lookup C_BadPlace = some (excClassObj en_BadPlace eq_BadPlace C_BadPlace eN_BadPlace eb_BadPlace em_BadPlace true es_BadPlace eu_BadPlace ea_BadPlace eo_BadPlace ed_BadPlace e0_BadPlace e1_BadPlace e2_BadPlace e3_BadPlace e5_BadPlace "ValueError.__new__"))
    (xr_BadPlace : PySem.HandSPX.refsVE em_BadPlace = true)
    (xsa_BadPlace : PySem.W.findIn K (.ref C_BadPlace) "__setattr__" = some (some (.builtin "object.__setattr__")))
    (xex_BadPlace : PySem.W.subIn K (.ref C_BadPlace) (.type "BaseException") = some true)
    (xty_BadPlace : PySem.W.typeIn K (.ref C_BadPlace) = some (.type "type"))
    (xkc_BadPlace : PySem.W.keepIn K (.ref C_BadPlace) = true)
    (xga_BadPlace : PySem.W.findIn K (.ref C_BadPlace) "__getattribute__" = some (some (.builtin "BaseException.__getattribute__")))
    (xgg_BadPlace : PySem.W.findIn K (.ref C_BadPlace) "__getattr__" = some none)
    (xhd_BadPlace : PySem.W.hasDictIn K C_BadPlace = true)
    (xha_BadPlace : PySem.W.findIn K (.ref C_BadPlace) "__class__" = some (some (.builtin "object.__class__")))
    (xhm_BadPlace : PySem.W.mroIn K C_BadPlace (.type "object") = some true)
    (xno_BadPlace : PySem.W.findIn K (.ref C_BadPlace) "place" = some none)
    (xhn_BadPlace : PySem.W.specialIn K (.builtin "object.__class__") "__get__" = some (some (.builtin "getset_descriptor.__get__")))
    (xht_BadPlace : PySem.W.takesIn K (.builtin "object.__class__") = some true)
    (xti_BadPlace : PySem.W.typeIn K (.ref f5) = some (.type "function"))
    (ok_BadPlace_BadCall : PySem.W.kitOne K (.ref C_BadPlace) (.ref C_BadCall) = some false)
    (ok_BadPlace_BadNumber : PySem.W.kitOne K (.ref C_BadPlace) (.ref C_BadNumber) = some false)
    (ok_BadPlace_BadPlace : PySem.W.kitOne K (.ref C_BadPlace) (.ref C_BadPlace) = some true)
    (ok_BadPlace_BadRow : PySem.W.kitOne K (.ref C_BadPlace) (.ref C_BadRow) = some false)
    (ok_BadPlace_BadSize : PySem.W.kitOne K (.ref C_BadPlace) (.ref C_BadSize) = some false)
    (ok_BadPlace_BadText : PySem.W.kitOne K (.ref C_BadPlace) (.ref C_BadText) = some false)
    (ok_BadPlace_BadThing : PySem.W.kitOne K (.ref C_BadPlace) (.ref C_BadThing) = some false)
    (ok_BadPlace_BadWord : PySem.W.kitOne K (.ref C_BadPlace) (.ref C_BadWord) = some false)
    (ok_BadPlace_EveryError : PySem.W.kitOne K (.ref C_BadPlace) (.ref C_EveryError) = some true)
    (ok_BadPlace_Mixed : PySem.W.kitOne K (.ref C_BadPlace) (.ref C_Mixed) = some false)
    (ok_BadPlace_NoLevel : PySem.W.kitOne K (.ref C_BadPlace) (.ref C_NoLevel) = some false)
    (ok_BadPlace_NoList : PySem.W.kitOne K (.ref C_BadPlace) (.ref C_NoList) = some false)
    (ok_BadPlace_NotClosed : PySem.W.kitOne K (.ref C_BadPlace) (.ref C_NotClosed) = some false)
    (ok_BadPlace_NotWhole : PySem.W.kitOne K (.ref C_BadPlace) (.ref C_NotWhole) = some false)
    (ok_BadPlace_NothingToUndo : PySem.W.kitOne K (.ref C_BadPlace) (.ref C_NothingToUndo) = some false)
    (xl_BadThing : K.lookup C_BadThing = some (excClassObj en_BadThing eq_BadThing C_BadThing eN_BadThing eb_BadThing em_BadThing true es_BadThing eu_BadThing ea_BadThing eo_BadThing ed_BadThing e0_BadThing e1_BadThing e2_BadThing e3_BadThing e5_BadThing "ValueError.__new__"))
    (xr_BadThing : PySem.HandSPX.refsVE em_BadThing = true)
    (xsa_BadThing : PySem.W.findIn K (.ref C_BadThing) "__setattr__" = some (some (.builtin "object.__setattr__")))
    (xex_BadThing : PySem.W.subIn K (.ref C_BadThing) (.type "BaseException") = some true)
    (xty_BadThing : PySem.W.typeIn K (.ref C_BadThing) = some (.type "type"))
    (xkc_BadThing : PySem.W.keepIn K (.ref C_BadThing) = true)
    (xga_BadThing : PySem.W.findIn K (.ref C_BadThing) "__getattribute__" = some (some (.builtin "BaseException.__getattribute__")))
    (xgg_BadThing : PySem.W.findIn K (.ref C_BadThing) "__getattr__" = some none)
    (xhd_BadThing : PySem.W.hasDictIn K C_BadThing = true)
    (xha_BadThing : PySem.W.findIn K (.ref C_BadThing) "__class__" = some (some (.builtin "object.__class__")))
    (xhm_BadThing : PySem.W.mroIn K C_BadThing (.type "object") = some true)
    (xno_BadThing : PySem.W.findIn K (.ref C_BadThing) "thing" = some none)
    (xhn_BadThing : PySem.W.specialIn K (.builtin "object.__class__") "__get__" = some (some (.builtin "getset_descriptor.__get__")))
    (xht_BadThing : PySem.W.takesIn K (.builtin "object.__class__") = some true)
    (xti_BadThing : PySem.W.typeIn K (.ref f6) = some (.type "function"))
    (ok_BadThing_BadCall : PySem.W.kitOne K (.ref C_BadThing) (.ref C_BadCall) = some false)
    (ok_BadThing_BadNumber : PySem.W.kitOne K (.ref C_BadThing) (.ref C_BadNumber) = some false)
    (ok_BadThing_BadPlace : PySem.W.kitOne K (.ref C_BadThing) (.ref C_BadPlace) = some false)
    (ok_BadThing_BadRow : PySem.W.kitOne K (.ref C_BadThing) (.ref C_BadRow) = some false)
    (ok_BadThing_BadSize : PySem.W.kitOne K (.ref C_BadThing) (.ref C_BadSize) = some false)
    (ok_BadThing_BadText : PySem.W.kitOne K (.ref C_BadThing) (.ref C_BadText) = some false)
    (ok_BadThing_BadThing : PySem.W.kitOne K (.ref C_BadThing) (.ref C_BadThing) = some true)
    (ok_BadThing_BadWord : PySem.W.kitOne K (.ref C_BadThing) (.ref C_BadWord) = some false)
    (ok_BadThing_EveryError : PySem.W.kitOne K (.ref C_BadThing) (.ref C_EveryError) = some true)
    (ok_BadThing_Mixed : PySem.W.kitOne K (.ref C_BadThing) (.ref C_Mixed) = some false)
    (ok_BadThing_NoLevel : PySem.W.kitOne K (.ref C_BadThing) (.ref C_NoLevel) = some false)
    (ok_BadThing_NoList : PySem.W.kitOne K (.ref C_BadThing) (.ref C_NoList) = some false)
    (ok_BadThing_NotClosed : PySem.W.kitOne K (.ref C_BadThing) (.ref C_NotClosed) = some false)
    (ok_BadThing_NotWhole : PySem.W.kitOne K (.ref C_BadThing) (.ref C_NotWhole) = some false)
    (ok_BadThing_NothingToUndo : PySem.W.kitOne K (.ref C_BadThing) (.ref C_NothingToUndo) = some false)
    (xl_BadRow : K.lookup C_BadRow = some (excClassObj en_BadRow eq_BadRow C_BadRow eN_BadRow eb_BadRow em_BadRow true es_BadRow eu_BadRow ea_BadRow eo_BadRow ed_BadRow e0_BadRow e1_BadRow e2_BadRow e3_BadRow e5_BadRow "ValueError.__new__"))
    (xr_BadRow : PySem.HandSPX.refsVE em_BadRow = true)
    (xsa_BadRow : PySem.W.findIn K (.ref C_BadRow) "__setattr__" = some (some (.builtin "object.__setattr__")))
    (xex_BadRow : PySem.W.subIn K (.ref C_BadRow) (.type "BaseException") = some true)
    (xty_BadRow : PySem.W.typeIn K (.ref C_BadRow) = some (.type "type"))
    (xkc_BadRow : PySem.W.keepIn K (.ref C_BadRow) = true)
    (xga_BadRow : PySem.W.findIn K (.ref C_BadRow) "__getattribute__" = some (some (.builtin "BaseException.__getattribute__")))
    (xgg_BadRow : PySem.W.findIn K (.ref C_BadRow) "__getattr__" = some none)
    (xhd_BadRow : PySem.W.hasDictIn K C_BadRow = true)
    (xha_BadRow : PySem.W.findIn K (.ref C_BadRow) "__class__" = some (some (.builtin "object.__class__")))
    (xhm_BadRow : PySem.W.mroIn K C_BadRow (.type "object") = some true)
    (xno_BadRow : PySem.W.findIn K (.ref C_BadRow) "index" = some none)
    (xhn_BadRow : PySem.W.specialIn K (.builtin "object.__class__") "__get__" = some (some (.builtin "getset_descriptor.__get__")))
    (xht_BadRow : PySem.W.takesIn K (.builtin "object.__class__") = some true)
    (xti_BadRow : PySem.W.typeIn K (.ref f7) = some (.type "function"))
    (ok_BadRow_BadCall : PySem.W.kitOne K (.ref C_BadRow) (.ref C_BadCall) = some false)
    (ok_BadRow_BadNumber : PySem.W.kitOne K (.ref C_BadRow) (.ref C_BadNumber) = some false)
    (ok_BadRow_BadPlace : PySem.W.kitOne K (.ref C_BadRow) (.ref C_BadPlace) = some false)
    (ok_BadRow_BadRow : PySem.W.kitOne K (.ref C_BadRow) (.ref C_BadRow) = some true)
    (ok_BadRow_BadSize : PySem.W.kitOne K (.ref C_BadRow) (.ref C_BadSize) = some false)
    (ok_BadRow_BadText : PySem.W.kitOne K (.ref C_BadRow) (.ref C_BadText) = some false)
    (ok_BadRow_BadThing : PySem.W.kitOne K (.ref C_BadRow) (.ref C_BadThing) = some false)
    (ok_BadRow_BadWord : PySem.W.kitOne K (.ref C_BadRow) (.ref C_BadWord) = some false)
    (ok_BadRow_EveryError : PySem.W.kitOne K (.ref C_BadRow) (.ref C_EveryError) = some true)
    (ok_BadRow_Mixed : PySem.W.kitOne K (.ref C_BadRow) (.ref C_Mixed) = some false)
    (ok_BadRow_NoLevel : PySem.W.kitOne K (.ref C_BadRow) (.ref C_NoLevel) = some false)
    (ok_BadRow_NoList : PySem.W.kitOne K (.ref C_BadRow) (.ref C_NoList) = some false)
    (ok_BadRow_NotClosed : PySem.W.kitOne K (.ref C_BadRow) (.ref C_NotClosed) = some false)
    (ok_BadRow_NotWhole : PySem.W.kitOne K (.ref C_BadRow) (.ref C_NotWhole) = some false)
    (ok_BadRow_NothingToUndo : PySem.W.kitOne K (.ref C_BadRow) (.ref C_NothingToUndo) = some false)
    (xl_NotWhole : K.lookup C_NotWhole = some (excClassObj en_NotWhole eq_NotWhole C_NotWhole eN_NotWhole eb_NotWhole em_NotWhole true es_NotWhole eu_NotWhole ea_NotWhole eo_NotWhole ed_NotWhole e0_NotWhole e1_NotWhole e2_NotWhole e3_NotWhole e5_NotWhole "ValueError.__new__"))
    (xr_NotWhole : PySem.HandSPX.refsVE em_NotWhole = true)
    (xsa_NotWhole : PySem.W.findIn K (.ref C_NotWhole) "__setattr__" = some (some (.builtin "object.__setattr__")))
    (xex_NotWhole : PySem.W.subIn K (.ref C_NotWhole) (.type "BaseException") = some true)
    (xty_NotWhole : PySem.W.typeIn K (.ref C_NotWhole) = some (.type "type"))
    (xkc_NotWhole : PySem.W.keepIn K (.ref C_NotWhole) = true)
    (xga_NotWhole : PySem.W.findIn K (.ref C_NotWhole) "__getattribute__" = some (some (.builtin "BaseException.__getattribute__")))
    (xgg_NotWhole : PySem.W.findIn K (.ref C_NotWhole) "__getattr__" = some none)
    (xhd_NotWhole : PySem.W.hasDictIn K C_NotWhole = true)
    (xha_NotWhole : PySem.W.findIn K (.ref C_NotWhole) "__class__" = some (some (.builtin "object.__class__")))
    (xhm_NotWhole : PySem.W.mroIn K C_NotWhole (.type "object") = some true)
    (xno_NotWhole : PySem.W.findIn K (.ref C_NotWhole) "size" = some none)
    (xhn_NotWhole : PySem.W.specialIn K (.builtin "object.__class__") "__get__" = some (some (.builtin "getset_descriptor.__get__")))
    (xht_NotWhole : PySem.W.takesIn K (.builtin "object.__class__") = some true)
    (xti_NotWhole : PySem.W.typeIn K (.ref f8) = some (.type "function"))
    (ok_NotWhole_BadCall : PySem.W.kitOne K (.ref C_NotWhole) (.ref C_BadCall) = some false)
    (ok_NotWhole_BadNumber : PySem.W.kitOne K (.ref C_NotWhole) (.ref C_BadNumber) = some false)
    (ok_NotWhole_BadPlace : PySem.W.kitOne K (.ref C_NotWhole) (.ref C_BadPlace) = some false)
    (ok_NotWhole_BadRow : PySem.W.kitOne K (.ref C_NotWhole) (.ref C_BadRow) = some false)
    (ok_NotWhole_BadSize : PySem.W.kitOne K (.ref C_NotWhole) (.ref C_BadSize) = some false)
    (ok_NotWhole_BadText : PySem.W.kitOne K (.ref C_NotWhole) (.ref C_BadText) = some false)
    (ok_NotWhole_BadThing : PySem.W.kitOne K (.ref C_NotWhole) (.ref C_BadThing) = some false)
    (ok_NotWhole_BadWord : PySem.W.kitOne K (.ref C_NotWhole) (.ref C_BadWord) = some false)
    (ok_NotWhole_EveryError : PySem.W.kitOne K (.ref C_NotWhole) (.ref C_EveryError) = some true)
    (ok_NotWhole_Mixed : PySem.W.kitOne K (.ref C_NotWhole) (.ref C_Mixed) = some false)
    (ok_NotWhole_NoLevel : PySem.W.kitOne K (.ref C_NotWhole) (.ref C_NoLevel) = some false)
    (ok_NotWhole_NoList : PySem.W.kitOne K (.ref C_NotWhole) (.ref C_NoList) = some false)
    (ok_NotWhole_NotClosed : PySem.W.kitOne K (.ref C_NotWhole) (.ref C_NotClosed) = some false)
    (ok_NotWhole_NotWhole : PySem.W.kitOne K (.ref C_NotWhole) (.ref C_NotWhole) = some true)
    (ok_NotWhole_NothingToUndo : PySem.W.kitOne K (.ref C_NotWhole) (.ref C_NothingToUndo) = some false)
    (xl_NotClosed : K.lookup C_NotClosed = some (excClassObj en_NotClosed eq_NotClosed C_NotClosed eN_NotClosed eb_NotClosed em_NotClosed true es_NotClosed eu_NotClosed ea_NotClosed eo_NotClosed ed_NotClosed e0_NotClosed e1_NotClosed e2_NotClosed e3_NotClosed e5_NotClosed "ValueError.__new__"))
    (xr_NotClosed : PySem.HandSPX.refsVE em_NotClosed = true)
    (xsa_NotClosed : PySem.W.findIn K (.ref C_NotClosed) "__setattr__" = some (some (.builtin "object.__setattr__")))
    (xex_NotClosed : PySem.W.subIn K (.ref C_NotClosed) (.type "BaseException") = some true)
    (xty_NotClosed : PySem.W.typeIn K (.ref C_NotClosed) = some (.type "type"))
    (xkc_NotClosed : PySem.W.keepIn K (.ref C_NotClosed) = true)
    (xga_NotClosed : PySem.W.findIn K (.ref C_NotClosed) "__getattribute__" = some (some (.builtin "BaseException.__getattribute__")))
    (xgg_NotClosed : PySem.W.findIn K (.ref C_NotClosed) "__getattr__" = some none)
    (xhd_NotClosed : PySem.W.hasDictIn K C_NotClosed = true)
    (xha_NotClosed : PySem.W.findIn K (.ref C_NotClosed) "__class__" = some (some (.builtin "object.__class__")))
    (xhm_NotClosed : PySem.W.mroIn K C_NotClosed (.type "object") = some true)
    (xno_NotClosed : PySem.W.findIn K (.ref C_NotClosed) "size" = some none)
    (xhn_NotClosed : PySem.W.specialIn K (.builtin "object.__class__") "__get__" = some (some (.builtin "getset_descriptor.__get__")))
    (xht_NotClosed : PySem.W.takesIn K (.builtin "object.__class__") = some true)
    (xti_NotClosed : PySem.W.typeIn K (.ref f9) = some (.type "function"))
    (ok_NotClosed_BadCall : PySem.W.kitOne K (.ref C_NotClosed) (.ref C_BadCall) = some false)
    (ok_NotClosed_BadNumber : PySem.W.kitOne K (.ref C_NotClosed) (.ref C_BadNumber) = some false)
    (ok_NotClosed_BadPlace : PySem.W.kitOne K (.ref C_NotClosed) (.ref C_BadPlace) = some false)
    (ok_NotClosed_BadRow : PySem.W.kitOne K (.ref C_NotClosed) (.ref C_BadRow) = some false)
    (ok_NotClosed_BadSize : PySem.W.kitOne K (.ref C_NotClosed) (.ref C_BadSize) = some false)
    (ok_NotClosed_BadText : PySem.W.kitOne K (.ref C_NotClosed) (.ref C_BadText) = some false)
    (ok_NotClosed_BadThing : PySem.W.kitOne K (.ref C_NotClosed) (.ref C_BadThing) = some false)
    (ok_NotClosed_BadWord : PySem.W.kitOne K (.ref C_NotClosed) (.ref C_BadWord) = some false)
    (ok_NotClosed_EveryError : PySem.W.kitOne K (.ref C_NotClosed) (.ref C_EveryError) = some true)
    (ok_NotClosed_Mixed : PySem.W.kitOne K (.ref C_NotClosed) (.ref C_Mixed) = some false)
    (ok_NotClosed_NoLevel : PySem.W.kitOne K (.ref C_NotClosed) (.ref C_NoLevel) = some false)
    (ok_NotClosed_NoList : PySem.W.kitOne K (.ref C_NotClosed) (.ref C_NoList) = some false)
    (ok_NotClosed_NotClosed : PySem.W.kitOne K (.ref C_NotClosed) (.ref C_NotClosed) = some true)
    (ok_NotClosed_NotWhole : PySem.W.kitOne K (.ref C_NotClosed) (.ref C_NotWhole) = some false)
    (ok_NotClosed_NothingToUndo : PySem.W.kitOne K (.ref C_NotClosed) (.ref C_NothingToUndo) = some false)
    (xl_NoLevel : K.lookup C_NoLevel = some (excClassObj en_NoLevel eq_NoLevel C_NoLevel eN_NoLevel eb_NoLevel em_NoLevel true es_NoLevel eu_NoLevel ea_NoLevel eo_NoLevel ed_NoLevel e0_NoLevel e1_NoLevel e2_NoLevel e3_NoLevel e5_NoLevel "ValueError.__new__"))
    (xr_NoLevel : PySem.HandSPX.refsVE em_NoLevel = true)
    (xsa_NoLevel : PySem.W.findIn K (.ref C_NoLevel) "__setattr__" = some (some (.builtin "object.__setattr__")))
    (xex_NoLevel : PySem.W.subIn K (.ref C_NoLevel) (.type "BaseException") = some true)
    (xty_NoLevel : PySem.W.typeIn K (.ref C_NoLevel) = some (.type "type"))
    (xkc_NoLevel : PySem.W.keepIn K (.ref C_NoLevel) = true)
    (xga_NoLevel : PySem.W.findIn K (.ref C_NoLevel) "__getattribute__" = some (some (.builtin "BaseException.__getattribute__")))
    (xgg_NoLevel : PySem.W.findIn K (.ref C_NoLevel) "__getattr__" = some none)
    (xhd_NoLevel : PySem.W.hasDictIn K C_NoLevel = true)
    (xha_NoLevel : PySem.W.findIn K (.ref C_NoLevel) "__class__" = some (some (.builtin "object.__class__")))
    (xhm_NoLevel : PySem.W.mroIn K C_NoLevel (.type "object") = some true)
    (xno_NoLevel : PySem.W.findIn K (.ref C_NoLevel) "size" = some none)
    (xhn_NoLevel : PySem.W.specialIn K (.builtin "object.__class__") "__get__" = some (some (.builtin "getset_descriptor.__get__")))
    (xht_NoLevel : PySem.W.takesIn K (.builtin "object.__class__") = some true)
    (xti_NoLevel : PySem.W.typeIn K (.ref f10) = some (.type "function"))
    (ok_NoLevel_BadCall : PySem.W.kitOne K (.ref C_NoLevel) (.ref C_BadCall) = some false)
    (ok_NoLevel_BadNumber : PySem.W.kitOne K (.ref C_NoLevel) (.ref C_BadNumber) = some false)
    (ok_NoLevel_BadPlace : PySem.W.kitOne K (.ref C_NoLevel) (.ref C_BadPlace) = some false)
    (ok_NoLevel_BadRow : PySem.W.kitOne K (.ref C_NoLevel) (.ref C_BadRow) = some false)
    (ok_NoLevel_BadSize : PySem.W.kitOne K (.ref C_NoLevel) (.ref C_BadSize) = some false)
    (ok_NoLevel_BadText : PySem.W.kitOne K (.ref C_NoLevel) (.ref C_BadText) = some false)
    (ok_NoLevel_BadThing : PySem.W.kitOne K (.ref C_NoLevel) (.ref C_BadThing) = some false)
    (ok_NoLevel_BadWord : PySem.W.kitOne K (.ref C_NoLevel) (.ref C_BadWord) = some false)
    (ok_NoLevel_EveryError : PySem.W.kitOne K (.ref C_NoLevel) (.ref C_EveryError) = some true)
    (ok_NoLevel_Mixed : PySem.W.kitOne K (.ref C_NoLevel) (.ref C_Mixed) = some false)
    (ok_NoLevel_NoLevel : PySem.W.kitOne K (.ref C_NoLevel) (.ref C_NoLevel) = some true)
    (ok_NoLevel_NoList : PySem.W.kitOne K (.ref C_NoLevel) (.ref C_NoList) = some false)
    (ok_NoLevel_NotClosed : PySem.W.kitOne K (.ref C_NoLevel) (.ref C_NotClosed) = some false)
    (ok_NoLevel_NotWhole : PySem.W.kitOne K (.ref C_NoLevel) (.ref C_NotWhole) = some false)
    (ok_NoLevel_NothingToUndo : PySem.W.kitOne K (.ref C_NoLevel) (.ref C_NothingToUndo) = some false)
    (xl_NoList : K.lookup C_NoList = some (excClassObj en_NoList eq_NoList C_NoList eN_NoList eb_NoList em_NoList true es_NoList eu_NoList ea_NoList eo_NoList ed_NoList e0_NoList e1_NoList e2_NoList e3_NoList e5_NoList "ValueError.__new__"))
    (xr_NoList : PySem.HandSPX.refsVE em_NoList = true)
    (xsa_NoList : PySem.W.findIn K (.ref C_NoList) "__setattr__" = some (some (.builtin "object.__setattr__")))
    (xex_NoList : PySem.W.subIn K (.ref C_NoList) (.type "BaseException") = some true)
    (xty_NoList : PySem.W.typeIn K (.ref C_NoList) = some (.type "type"))
    (xkc_NoList : PySem.W.keepIn K (.ref C_NoList) = true)
    (xga_NoList : PySem.W.findIn K (.ref C_NoList) "__getattribute__" = some (some (.builtin "BaseException.__getattribute__")))
    (xgg_NoList : PySem.W.findIn K (.ref C_NoList) "__getattr__" = some none)
    (xhd_NoList : PySem.W.hasDictIn K C_NoList = true)
    (xha_NoList : PySem.W.findIn K (.ref C_NoList) "__class__" = some (some (.builtin "object.__class__")))
    (xhm_NoList : PySem.W.mroIn K C_NoList (.type "object") = some true)
    (xno_NoList : PySem.W.findIn K (.ref C_NoList) "size" = some none)
    (xhn_NoList : PySem.W.specialIn K (.builtin "object.__class__") "__get__" = some (some (.builtin "getset_descriptor.__get__")))
    (xht_NoList : PySem.W.takesIn K (.builtin "object.__class__") = some true)
    (xti_NoList : PySem.W.typeIn K (.ref f11) = some (.type "function"))
    (ok_NoList_BadCall : PySem.W.kitOne K (.ref C_NoList) (.ref C_BadCall) = some false)
    (ok_NoList_BadNumber : PySem.W.kitOne K (.ref C_NoList) (.ref C_BadNumber) = some false)
    (ok_NoList_BadPlace : PySem.W.kitOne K (.ref C_NoList) (.ref C_BadPlace) = some false)
    (ok_NoList_BadRow : PySem.W.kitOne K (.ref C_NoList) (.ref C_BadRow) = some false)
    (ok_NoList_BadSize : PySem.W.kitOne K (.ref C_NoList) (.ref C_BadSize) = some false)
    (ok_NoList_BadText : PySem.W.kitOne K (.ref C_NoList) (.ref C_BadText) = some false)
    (ok_NoList_BadThing : PySem.W.kitOne K (.ref C_NoList) (.ref C_BadThing) = some false)
    (ok_NoList_BadWord : PySem.W.kitOne K (.ref C_NoList) (.ref C_BadWord) = some false)
    (ok_NoList_EveryError : PySem.W.kitOne K (.ref C_NoList) (.ref C_EveryError) = some true)
    (ok_NoList_Mixed : PySem.W.kitOne K (.ref C_NoList) (.ref C_Mixed) = some false)
    (ok_NoList_NoLevel : PySem.W.kitOne K (.ref C_NoList) (.ref C_NoLevel) = some false)
    (ok_NoList_NoList : PySem.W.kitOne K (.ref C_NoList) (.ref C_NoList) = some true)
    (ok_NoList_NotClosed : PySem.W.kitOne K (.ref C_NoList) (.ref C_NotClosed) = some false)
    (ok_NoList_NotWhole : PySem.W.kitOne K (.ref C_NoList) (.ref C_NotWhole) = some false)
    (ok_NoList_NothingToUndo : PySem.W.kitOne K (.ref C_NoList) (.ref C_NothingToUndo) = some false)
    (xei_Mixed : PySem.W.excIn K C_Mixed [.type "ValueError", .type "Exception", .type "BaseException", .type "object"] "ValueError.__new__" = true)
    (xex_Mixed : PySem.W.subIn K (.ref C_Mixed) (.type "BaseException") = some true)
    (xkc_Mixed : PySem.W.keepIn K (.ref C_Mixed) = true)
    (xga_Mixed : PySem.W.findIn K (.ref C_Mixed) "__getattribute__" = some (some (.builtin "BaseException.__getattribute__")))
    (xgg_Mixed : PySem.W.findIn K (.ref C_Mixed) "__getattr__" = some none)
    (xhd_Mixed : PySem.W.hasDictIn K C_Mixed = true)
    (xha_Mixed : PySem.W.findIn K (.ref C_Mixed) "__class__" = some (some (.builtin "object.__class__")))
    (xhm_Mixed : PySem.W.mroIn K C_Mixed (.type "object") = some true)
    (xhn_Mixed : PySem.W.specialIn K (.builtin "object.__class__") "__get__" = some (some (.builtin "getset_descriptor.__get__")))
    (xht_Mixed : PySem.W.takesIn K (.builtin "object.__class__") = some true)
    (ok_Mixed_BadCall : PySem.W.kitOne K (.ref C_Mixed) (.ref C_BadCall) = some false)
    (ok_Mixed_BadNumber : PySem.W.kitOne K (.ref C_Mixed) (.ref C_BadNumber) = some false)
    (ok_Mixed_BadPlace : PySem.W.kitOne K (.ref C_Mixed) (.ref C_BadPlace) = some false)
    (ok_Mixed_BadRow : PySem.W.kitOne K (.ref C_Mixed) (.ref C_BadRow) = some false)
    (ok_Mixed_BadSize : PySem.W.kitOne K (.ref C_Mixed) (.ref C_BadSize) = some false)
    (ok_Mixed_BadText : PySem.W.kitOne K (.ref C_Mixed) (.ref C_BadText) = some false)
    (ok_Mixed_BadThing : PySem.W.kitOne K (.ref C_Mixed) (.ref C_BadThing) = some false)
    (ok_Mixed_BadWord : PySem.W.kitOne K (.ref C_Mixed) (.ref C_BadWord) = some false)
    (ok_Mixed_EveryError : PySem.W.kitOne K (.ref C_Mixed) (.ref C_EveryError) = some true)
    (ok_Mixed_Mixed : PySem.W.kitOne K (.ref C_Mixed) (.ref C_Mixed) = some true)
    (ok_Mixed_NoLevel : PySem.W.kitOne K (.ref C_Mixed) (.ref C_NoLevel) = some false)
    (ok_Mixed_NoList : PySem.W.kitOne K (.ref C_Mixed) (.ref C_NoList) = some false)
    (ok_Mixed_NotClosed : PySem.W.kitOne K (.ref C_Mixed) (.ref C_NotClosed) = some false)
    (ok_Mixed_NotWhole : PySem.W.kitOne K (.ref C_Mixed) (.ref C_NotWhole) = some false)
    (ok_Mixed_NothingToUndo : PySem.W.kitOne K (.ref C_Mixed) (.ref C_NothingToUndo) = some false)
    (xei_NothingToUndo : PySem.W.excIn K C_NothingToUndo [.type "ValueError", .type "Exception", .type "BaseException", .type "object"] "ValueError.__new__" = true)
    (xex_NothingToUndo : PySem.W.subIn K (.ref C_NothingToUndo) (.type "BaseException") = some true)
    (xkc_NothingToUndo : PySem.W.keepIn K (.ref C_NothingToUndo) = true)
    (xga_NothingToUndo : PySem.W.findIn K (.ref C_NothingToUndo) "__getattribute__" = some (some (.builtin "BaseException.__getattribute__")))
    (xgg_NothingToUndo : PySem.W.findIn K (.ref C_NothingToUndo) "__getattr__" = some none)
    (xhd_NothingToUndo : PySem.W.hasDictIn K C_NothingToUndo = true)
    (xha_NothingToUndo : PySem.W.findIn K (.ref C_NothingToUndo) "__class__" = some (some (.builtin "object.__class__")))
    (xhm_NothingToUndo : PySem.W.mroIn K C_NothingToUndo (.type "object") = some true)
    (xhn_NothingToUndo : PySem.W.specialIn K (.builtin "object.__class__") "__get__" = some (some (.builtin "getset_descriptor.__get__")))
    (xht_NothingToUndo : PySem.W.takesIn K (.builtin "object.__class__") = some true)
    (ok_NothingToUndo_BadCall : PySem.W.kitOne K (.ref C_NothingToUndo) (.ref C_BadCall) = some false)
    (ok_NothingToUndo_BadNumber : PySem.W.kitOne K (.ref C_NothingToUndo) (.ref C_BadNumber) = some false)
    (ok_NothingToUndo_BadPlace : PySem.W.kitOne K (.ref C_NothingToUndo) (.ref C_BadPlace) = some false)
    (ok_NothingToUndo_BadRow : PySem.W.kitOne K (.ref C_NothingToUndo) (.ref C_BadRow) = some false)
    (ok_NothingToUndo_BadSize : PySem.W.kitOne K (.ref C_NothingToUndo) (.ref C_BadSize) = some false)
    (ok_NothingToUndo_BadText : PySem.W.kitOne K (.ref C_NothingToUndo) (.ref C_BadText) = some false)
    (ok_NothingToUndo_BadThing : PySem.W.kitOne K (.ref C_NothingToUndo) (.ref C_BadThing) = some false)
    (ok_NothingToUndo_BadWord : PySem.W.kitOne K (.ref C_NothingToUndo) (.ref C_BadWord) = some false)
    (ok_NothingToUndo_EveryError : PySem.W.kitOne K (.ref C_NothingToUndo) (.ref C_EveryError) = some true)
    (ok_NothingToUndo_Mixed : PySem.W.kitOne K (.ref C_NothingToUndo) (.ref C_Mixed) = some false)
    (ok_NothingToUndo_NoLevel : PySem.W.kitOne K (.ref C_NothingToUndo) (.ref C_NoLevel) = some false)
    (ok_NothingToUndo_NoList : PySem.W.kitOne K (.ref C_NothingToUndo) (.ref C_NoList) = some false)
    (ok_NothingToUndo_NotClosed : PySem.W.kitOne K (.ref C_NothingToUndo) (.ref C_NotClosed) = some false)
    (ok_NothingToUndo_NotWhole : PySem.W.kitOne K (.ref C_NothingToUndo) (.ref C_NotWhole) = some false)
    (ok_NothingToUndo_NothingToUndo : PySem.W.kitOne K (.ref C_NothingToUndo) (.ref C_NothingToUndo) = some true)
    (ok_v_BadWord : PySem.W.kitOne K (.ref C_BadWord) (.type "ValueError") = some true)
    (ok_v_BadText : PySem.W.kitOne K (.ref C_BadText) (.type "ValueError") = some true)
    (ok_v_BadSize : PySem.W.kitOne K (.ref C_BadSize) (.type "ValueError") = some true)
    (ok_v_BadCall : PySem.W.kitOne K (.ref C_BadCall) (.type "ValueError") = some true)
    (ok_v_BadNumber : PySem.W.kitOne K (.ref C_BadNumber) (.type "ValueError") = some true)
    (ok_v_BadPlace : PySem.W.kitOne K (.ref C_BadPlace) (.type "ValueError") = some true)
    (ok_v_BadThing : PySem.W.kitOne K (.ref C_BadThing) (.type "ValueError") = some true)
    (ok_v_BadRow : PySem.W.kitOne K (.ref C_BadRow) (.type "ValueError") = some true)
    (ok_v_NotWhole : PySem.W.kitOne K (.ref C_NotWhole) (.type "ValueError") = some true)
    (ok_v_NotClosed : PySem.W.kitOne K (.ref C_NotClosed) (.type "ValueError") = some true)
    (ok_v_NoLevel : PySem.W.kitOne K (.ref C_NoLevel) (.type "ValueError") = some true)
    (ok_v_NoList : PySem.W.kitOne K (.ref C_NoList) (.type "ValueError") = some true)
    (ok_v_Mixed : PySem.W.kitOne K (.ref C_Mixed) (.type "ValueError") = some true)
    (ok_v_NothingToUndo : PySem.W.kitOne K (.ref C_NothingToUndo) (.type "ValueError") = some true)
    (z_ValueError : PySem.W.nsIn K mainGlobals "ValueError" = some none)
    (z_int : PySem.W.nsIn K mainGlobals "int" = some none)
    (z_isinstance : PySem.W.nsIn K mainGlobals "isinstance" = some none)
    (z_len : PySem.W.nsIn K mainGlobals "len" = some none)
    (z_list : PySem.W.nsIn K mainGlobals "list" = some none)
    (z_range : PySem.W.nsIn K mainGlobals "range" = some none)
    : ∃ fd : FuncData, (∀ (s : Shared) (v : Value), BindsTo s fd ⟨[v], []⟩ [("script", v)]) ∧ ∀ base : Heap, K.In base → base.Ns mainGlobals mg → FnOk l.prog w K mg base CX0 4 fa fd ["script"] (spLaw K) := by
  have e := hfa.symm.trans (PySem.W.mg_of X G a17)
  cases e
  let a : Ad := ⟨f0, PySem.W.fnOf "__init__" "BadWord.__init__" (defArgs s_BadWord_init) (defBody s_BadWord_init) (defScope s_BadWord_init) .none kV0 dc0 pm0 an0 cd0 ct0, f1, PySem.W.fnOf "__init__" "BadText.__init__" (defArgs s_BadText_init) (defBody s_BadText_init) (defScope s_BadText_init) .none kV1 dc1 pm1 an1 cd1 ct1, f2, PySem.W.fnOf "__init__" "BadSize.__init__" (defArgs s_BadSize_init) (defBody s_BadSize_init) (defScope s_BadSize_init) .none kV2 dc2 pm2 an2 cd2 ct2, f3, PySem.W.fnOf "__init__" "BadCall.__init__" (defArgs s_BadCall_init) (defBody s_BadCall_init) (defScope s_BadCall_init) .none kV3 dc3 pm3 an3 cd3 ct3, f4, PySem.W.fnOf "__init__" "BadNumber.__init__" (defArgs s_BadNumber_init) (defBody s_BadNumber_init) (defScope s_BadNumber_init) .none kV4 dc4 pm4 an4 cd4 ct4, f5, PySem.W.fnOf "__init__" "BadPlace.__init__" (defArgs s_BadPlace_init) (defBody s_BadPlace_init) (defScope s_BadPlace_init) .none kV5 dc5 pm5 an5 cd5 ct5, f6, PySem.W.fnOf "__init__" "BadThing.__init__" (defArgs s_BadThing_init) (defBody s_BadThing_init) (defScope s_BadThing_init) .none kV6 dc6 pm6 an6 cd6 ct6, f7, PySem.W.fnOf "__init__" "BadRow.__init__" (defArgs s_BadRow_init) (defBody s_BadRow_init) (defScope s_BadRow_init) .none kV7 dc7 pm7 an7 cd7 ct7, f8, PySem.W.fnOf "__init__" "NotWhole.__init__" (defArgs s_NotWhole_init) (defBody s_NotWhole_init) (defScope s_NotWhole_init) .none kV8 dc8 pm8 an8 cd8 ct8, f9, PySem.W.fnOf "__init__" "NotClosed.__init__" (defArgs s_NotClosed_init) (defBody s_NotClosed_init) (defScope s_NotClosed_init) .none kV9 dc9 pm9 an9 cd9 ct9, f10, PySem.W.fnOf "__init__" "NoLevel.__init__" (defArgs s_NoLevel_init) (defBody s_NoLevel_init) (defScope s_NoLevel_init) .none kV10 dc10 pm10 an10 cd10 ct10, f11, PySem.W.fnOf "__init__" "NoList.__init__" (defArgs s_NoList_init) (defBody s_NoList_init) (defScope s_NoList_init) .none kV11 dc11 pm11 an11 cd11 ct11, f12, PySem.W.fnOf "_law_pen" "_law_pen" (defArgs s__law_pen) (defBody s__law_pen) (defScope s__law_pen) .none kV12 dc12 pm12 an12 cd12 ct12, f13, PySem.W.fnOf "_law_draw" "_law_draw" (defArgs s__law_draw) (defBody s__law_draw) (defScope s__law_draw) .none kV13 dc13 pm13 an13 cd13 ct13, f14, PySem.W.fnOf "_law_pick" "_law_pick" (defArgs s__law_pick) (defBody s__law_pick) (defScope s__law_pick) .none kV14 dc14 pm14 an14 cd14 ct14, f15, PySem.W.fnOf "_law_made" "_law_made" (defArgs s__law_made) (defBody s__law_made) (defScope s__law_made) .none kV15 dc15 pm15 an15 cd15 ct15, f16, PySem.W.fnOf "_law_kinds" "_law_kinds" (defArgs s__law_kinds) (defBody s__law_kinds) (defScope s__law_kinds) .none kV16 dc16 pm16 an16 cd16 ct16, fa, PySem.W.fnOf "law" "law" (defArgs s_law) (defBody s_law) (defScope s_law) .none kV17 dc17 pm17 an17 cd17 ct17, C_EveryError, C_BadWord, C_BadText, C_BadSize, C_BadCall, C_BadNumber, C_BadPlace, C_BadThing, C_BadRow, C_NotWhole, C_NotClosed, C_NoLevel, C_NoList, C_Mixed, C_NothingToUndo⟩
  have F0 : Fun K "__init__" "BadWord.__init__" s_BadWord_init a.f_BadWord_init a.d_BadWord_init := fun_mk (st := s_BadWord_init) l0 e0 k0
  have F1 : Fun K "__init__" "BadText.__init__" s_BadText_init a.f_BadText_init a.d_BadText_init := fun_mk (st := s_BadText_init) l1 e1 k1
  have F2 : Fun K "__init__" "BadSize.__init__" s_BadSize_init a.f_BadSize_init a.d_BadSize_init := fun_mk (st := s_BadSize_init) l2 e2 k2
  have F3 : Fun K "__init__" "BadCall.__init__" s_BadCall_init a.f_BadCall_init a.d_BadCall_init := fun_mk (st := s_BadCall_init) l3 e3 k3
  have F4 : Fun K "__init__" "BadNumber.__init__" s_BadNumber_init a.f_BadNumber_init a.d_BadNumber_init := fun_mk (st := s_BadNumber_init) l4 e4 k4
  have F5 : Fun K "__init__" "BadPlace.__init__" s_BadPlace_init a.f_BadPlace_init a.d_BadPlace_init := fun_mk (st := s_BadPlace_init) l5 e5 k5
  have F6 : Fun K "__init__" "BadThing.__init__" s_BadThing_init a.f_BadThing_init a.d_BadThing_init := fun_mk (st := s_BadThing_init) l6 e6 k6
  have F7 : Fun K "__init__" "BadRow.__init__" s_BadRow_init a.f_BadRow_init a.d_BadRow_init := fun_mk (st := s_BadRow_init) l7 e7 k7
  have F8 : Fun K "__init__" "NotWhole.__init__" s_NotWhole_init a.f_NotWhole_init a.d_NotWhole_init := fun_mk (st := s_NotWhole_init) l8 e8 k8
  have F9 : Fun K "__init__" "NotClosed.__init__" s_NotClosed_init a.f_NotClosed_init a.d_NotClosed_init := fun_mk (st := s_NotClosed_init) l9 e9 k9
  have F10 : Fun K "__init__" "NoLevel.__init__" s_NoLevel_init a.f_NoLevel_init a.d_NoLevel_init := fun_mk (st := s_NoLevel_init) l10 e10 k10
  have F11 : Fun K "__init__" "NoList.__init__" s_NoList_init a.f_NoList_init a.d_NoList_init := fun_mk (st := s_NoList_init) l11 e11 k11
  have F12 : Fun K "_law_pen" "_law_pen" s__law_pen a.f__law_pen a.d__law_pen := fun_mk (st := s__law_pen) l12 e12 k12
  have F13 : Fun K "_law_draw" "_law_draw" s__law_draw a.f__law_draw a.d__law_draw := fun_mk (st := s__law_draw) l13 e13 k13
  have F14 : Fun K "_law_pick" "_law_pick" s__law_pick a.f__law_pick a.d__law_pick := fun_mk (st := s__law_pick) l14 e14 k14
  have F15 : Fun K "_law_made" "_law_made" s__law_made a.f__law_made a.d__law_made := fun_mk (st := s__law_made) l15 e15 k15
  have F16 : Fun K "_law_kinds" "_law_kinds" s__law_kinds a.f__law_kinds a.d__law_kinds := fun_mk (st := s__law_kinds) l16 e16 k16
  have F17 : Fun K "law" "law" s_law a.f_law a.d_law := fun_mk (st := s_law) l17 e17 k17
  have T : Tx w K mg a := ⟨(F0),
    (F0.binds (ps := ["self", "index"]) fun _ _ _ _ _ _ us hl => match us, hl with | [_, _], _ => rfl),
    (F1),
    (F1.binds (ps := ["self", "line"]) fun _ _ _ _ _ _ us hl => match us, hl with | [_, _], _ => rfl),
    (F2),
    (F2.binds (ps := ["self", "size"]) fun _ _ _ _ _ _ us hl => match us, hl with | [_, _], _ => rfl),
    (F3),
    (F3.binds (ps := ["self", "call"]) fun _ _ _ _ _ _ us hl => match us, hl with | [_, _], _ => rfl),
    (F4),
    (F4.binds (ps := ["self", "number"]) fun _ _ _ _ _ _ us hl => match us, hl with | [_, _], _ => rfl),
    (F5),
    (F5.binds (ps := ["self", "place"]) fun _ _ _ _ _ _ us hl => match us, hl with | [_, _], _ => rfl),
    (F6),
    (F6.binds (ps := ["self", "thing"]) fun _ _ _ _ _ _ us hl => match us, hl with | [_, _], _ => rfl),
    (F7),
    (F7.binds (ps := ["self", "index"]) fun _ _ _ _ _ _ us hl => match us, hl with | [_, _], _ => rfl),
    (F8),
    (F8.binds (ps := ["self", "size"]) fun _ _ _ _ _ _ us hl => match us, hl with | [_, _], _ => rfl),
    (F9),
    (F9.binds (ps := ["self", "size"]) fun _ _ _ _ _ _ us hl => match us, hl with | [_, _], _ => rfl),
    (F10),
    (F10.binds (ps := ["self", "size"]) fun _ _ _ _ _ _ us hl => match us, hl with | [_, _], _ => rfl),
    (F11),
    (F11.binds (ps := ["self", "size"]) fun _ _ _ _ _ _ us hl => match us, hl with | [_, _], _ => rfl),
    (F12),
    (F12.binds (ps := ["script"]) fun _ _ _ _ _ _ us hl => match us, hl with | [_], _ => rfl),
    (PySem.W.mg_of X G a12),
    (F13),
    (F13.binds (ps := ["pen", "many"]) fun _ _ _ _ _ _ us hl => match us, hl with | [_, _], _ => rfl),
    (PySem.W.mg_of X G a13),
    (F14),
    (F14.binds (ps := ["pen", "some"]) fun _ _ _ _ _ _ us hl => match us, hl with | [_, _], _ => rfl),
    (PySem.W.mg_of X G a14),
    (F15),
    (F15.binds (ps := ["k", "worth"]) fun _ _ _ _ _ _ us hl => match us, hl with | [_, _], _ => rfl),
    (PySem.W.mg_of X G a15),
    (F16),
    (F16.binds (ps := ["e"]) fun _ _ _ _ _ _ us hl => match us, hl with | [_], _ => rfl),
    (PySem.W.mg_of X G a16),
    (F17),
    (F17.binds (ps := ["script"]) fun _ _ _ _ _ _ us hl => match us, hl with | [_], _ => rfl),
    (PySem.W.mg_of X G a17),
    (PySem.W.mg_of X G c_EveryError),
    (PySem.W.mg_of X G c_BadWord),
    (PySem.W.mg_of X G c_BadText),
    (PySem.W.mg_of X G c_BadSize),
    (PySem.W.mg_of X G c_BadCall),
    (PySem.W.mg_of X G c_BadNumber),
    (PySem.W.mg_of X G c_BadPlace),
    (PySem.W.mg_of X G c_BadThing),
    (PySem.W.mg_of X G c_BadRow),
    (PySem.W.mg_of X G c_NotWhole),
    (PySem.W.mg_of X G c_NotClosed),
    (PySem.W.mg_of X G c_NoLevel),
    (PySem.W.mg_of X G c_NoList),
    (PySem.W.mg_of X G c_Mixed),
    (PySem.W.mg_of X G c_NothingToUndo),
    (⟨⟨⟨en_BadWord, eq_BadWord, eN_BadWord, eb_BadWord, em_BadWord, es_BadWord, eu_BadWord, ea_BadWord, eo_BadWord, ed_BadWord, e0_BadWord, e1_BadWord, e2_BadWord, e3_BadWord, e5_BadWord, xl_BadWord, xr_BadWord⟩, xsa_BadWord, xex_BadWord, xty_BadWord, xkc_BadWord⟩, a0, xti_BadWord, xno_BadWord, ⟨xga_BadWord, xgg_BadWord, xex_BadWord, xhd_BadWord⟩, ⟨xga_BadWord, xgg_BadWord, xex_BadWord, xhd_BadWord, xha_BadWord, xhn_BadWord, xht_BadWord, xhm_BadWord⟩⟩),
    (ok_BadWord_BadCall),
    (ok_BadWord_BadNumber),
    (ok_BadWord_BadPlace),
    (ok_BadWord_BadRow),
    (ok_BadWord_BadSize),
    (ok_BadWord_BadText),
    (ok_BadWord_BadThing),
    (ok_BadWord_BadWord),
    (ok_BadWord_EveryError),
    (ok_BadWord_Mixed),
    (ok_BadWord_NoLevel),
    (ok_BadWord_NoList),
    (ok_BadWord_NotClosed),
    (ok_BadWord_NotWhole),
    (ok_BadWord_NothingToUndo),
    (⟨⟨⟨en_BadText, eq_BadText, eN_BadText, eb_BadText, em_BadText, es_BadText, eu_BadText, ea_BadText, eo_BadText, ed_BadText, e0_BadText, e1_BadText, e2_BadText, e3_BadText, e5_BadText, xl_BadText, xr_BadText⟩, xsa_BadText, xex_BadText, xty_BadText, xkc_BadText⟩, a1, xti_BadText, xno_BadText, ⟨xga_BadText, xgg_BadText, xex_BadText, xhd_BadText⟩, ⟨xga_BadText, xgg_BadText, xex_BadText, xhd_BadText, xha_BadText, xhn_BadText, xht_BadText, xhm_BadText⟩⟩),
    (ok_BadText_BadCall),
    (ok_BadText_BadNumber),
    (ok_BadText_BadPlace),
    (ok_BadText_BadRow),
    (ok_BadText_BadSize),
    (ok_BadText_BadText),
    (ok_BadText_BadThing),
    (ok_BadText_BadWord),
    (ok_BadText_EveryError),
    (ok_BadText_Mixed),
    (ok_BadText_NoLevel),
    (ok_BadText_NoList),
    (ok_BadText_NotClosed),
    (ok_BadText_NotWhole),
    (ok_BadText_NothingToUndo),
    (⟨⟨⟨en_BadSize, eq_BadSize, eN_BadSize, eb_BadSize, em_BadSize, es_BadSize, eu_BadSize, ea_BadSize, eo_BadSize, ed_BadSize, e0_BadSize, e1_BadSize, e2_BadSize, e3_BadSize, e5_BadSize, xl_BadSize, xr_BadSize⟩, xsa_BadSize, xex_BadSize, xty_BadSize, xkc_BadSize⟩, a2, xti_BadSize, xno_BadSize, ⟨xga_BadSize, xgg_BadSize, xex_BadSize, xhd_BadSize⟩, ⟨xga_BadSize, xgg_BadSize, xex_BadSize, xhd_BadSize, xha_BadSize, xhn_BadSize, xht_BadSize, xhm_BadSize⟩⟩),
    (ok_BadSize_BadCall),
    (ok_BadSize_BadNumber),
    (ok_BadSize_BadPlace),
    (ok_BadSize_BadRow),
    (ok_BadSize_BadSize),
    (ok_BadSize_BadText),
    (ok_BadSize_BadThing),
    (ok_BadSize_BadWord),
    (ok_BadSize_EveryError),
    (ok_BadSize_Mixed),
    (ok_BadSize_NoLevel),
    (ok_BadSize_NoList),
    (ok_BadSize_NotClosed),
    (ok_BadSize_NotWhole),
    (ok_BadSize_NothingToUndo),
    (⟨⟨⟨en_BadCall, eq_BadCall, eN_BadCall, eb_BadCall, em_BadCall, es_BadCall, eu_BadCall, ea_BadCall, eo_BadCall, ed_BadCall, e0_BadCall, e1_BadCall, e2_BadCall, e3_BadCall, e5_BadCall, xl_BadCall, xr_BadCall⟩, xsa_BadCall, xex_BadCall, xty_BadCall, xkc_BadCall⟩, a3, xti_BadCall, xno_BadCall, ⟨xga_BadCall, xgg_BadCall, xex_BadCall, xhd_BadCall⟩, ⟨xga_BadCall, xgg_BadCall, xex_BadCall, xhd_BadCall, xha_BadCall, xhn_BadCall, xht_BadCall, xhm_BadCall⟩⟩),
    (ok_BadCall_BadCall),
    (ok_BadCall_BadNumber),
    (ok_BadCall_BadPlace),
    (ok_BadCall_BadRow),
    (ok_BadCall_BadSize),
    (ok_BadCall_BadText),
    (ok_BadCall_BadThing),
    (ok_BadCall_BadWord),
    (ok_BadCall_EveryError),
    (ok_BadCall_Mixed),
    (ok_BadCall_NoLevel),
    (ok_BadCall_NoList),
    (ok_BadCall_NotClosed),
    (ok_BadCall_NotWhole),
    (ok_BadCall_NothingToUndo),
    (⟨⟨⟨en_BadNumber, eq_BadNumber, eN_BadNumber, eb_BadNumber, em_BadNumber, es_BadNumber, eu_BadNumber, ea_BadNumber, eo_BadNumber, ed_BadNumber, e0_BadNumber, e1_BadNumber, e2_BadNumber, e3_BadNumber, e5_BadNumber, xl_BadNumber, xr_BadNumber⟩, xsa_BadNumber, xex_BadNumber, xty_BadNumber, xkc_BadNumber⟩, a4, xti_BadNumber, xno_BadNumber, ⟨xga_BadNumber, xgg_BadNumber, xex_BadNumber, xhd_BadNumber⟩, ⟨xga_BadNumber, xgg_BadNumber, xex_BadNumber, xhd_BadNumber, xha_BadNumber, xhn_BadNumber, xht_BadNumber, xhm_BadNumber⟩⟩),
    (ok_BadNumber_BadCall),
    (ok_BadNumber_BadNumber),
    (ok_BadNumber_BadPlace),
    (ok_BadNumber_BadRow),
    (ok_BadNumber_BadSize),
    (ok_BadNumber_BadText),
    (ok_BadNumber_BadThing),
    (ok_BadNumber_BadWord),
    (ok_BadNumber_EveryError),
    (ok_BadNumber_Mixed),
    (ok_BadNumber_NoLevel),
    (ok_BadNumber_NoList),
    (ok_BadNumber_NotClosed),
    (ok_BadNumber_NotWhole),
    (ok_BadNumber_NothingToUndo),
    (⟨⟨⟨en_BadPlace, eq_BadPlace, eN_BadPlace, eb_BadPlace, em_BadPlace, es_BadPlace, eu_BadPlace, ea_BadPlace, eo_BadPlace, ed_BadPlace, e0_BadPlace, e1_BadPlace, e2_BadPlace, e3_BadPlace, e5_BadPlace, xl_BadPlace, xr_BadPlace⟩, xsa_BadPlace, xex_BadPlace, xty_BadPlace, xkc_BadPlace⟩, a5, xti_BadPlace, xno_BadPlace, ⟨xga_BadPlace, xgg_BadPlace, xex_BadPlace, xhd_BadPlace⟩, ⟨xga_BadPlace, xgg_BadPlace, xex_BadPlace, xhd_BadPlace, xha_BadPlace, xhn_BadPlace, xht_BadPlace, xhm_BadPlace⟩⟩),
    (ok_BadPlace_BadCall),
    (ok_BadPlace_BadNumber),
    (ok_BadPlace_BadPlace),
    (ok_BadPlace_BadRow),
    (ok_BadPlace_BadSize),
    (ok_BadPlace_BadText),
    (ok_BadPlace_BadThing),
    (ok_BadPlace_BadWord),
    (ok_BadPlace_EveryError),
    (ok_BadPlace_Mixed),
    (ok_BadPlace_NoLevel),
    (ok_BadPlace_NoList),
    (ok_BadPlace_NotClosed),
    (ok_BadPlace_NotWhole),
    (ok_BadPlace_NothingToUndo),
    (⟨⟨⟨en_BadThing, eq_BadThing, eN_BadThing, eb_BadThing, em_BadThing, es_BadThing, eu_BadThing, ea_BadThing, eo_BadThing, ed_BadThing, e0_BadThing, e1_BadThing, e2_BadThing, e3_BadThing, e5_BadThing, xl_BadThing, xr_BadThing⟩, xsa_BadThing, xex_BadThing, xty_BadThing, xkc_BadThing⟩, a6, xti_BadThing, xno_BadThing, ⟨xga_BadThing, xgg_BadThing, xex_BadThing, xhd_BadThing⟩, ⟨xga_BadThing, xgg_BadThing, xex_BadThing, xhd_BadThing, xha_BadThing, xhn_BadThing, xht_BadThing, xhm_BadThing⟩⟩),
    (ok_BadThing_BadCall),
    (ok_BadThing_BadNumber),
    (ok_BadThing_BadPlace),
    (ok_BadThing_BadRow),
    (ok_BadThing_BadSize),
    (ok_BadThing_BadText),
    (ok_BadThing_BadThing),
    (ok_BadThing_BadWord),
    (ok_BadThing_EveryError),
    (ok_BadThing_Mixed),
    (ok_BadThing_NoLevel),
    (ok_BadThing_NoList),
    (ok_BadThing_NotClosed),
    (ok_BadThing_NotWhole),
    (ok_BadThing_NothingToUndo),
    (⟨⟨⟨en_BadRow, eq_BadRow, eN_BadRow, eb_BadRow, em_BadRow, es_BadRow, eu_BadRow, ea_BadRow, eo_BadRow, ed_BadRow, e0_BadRow, e1_BadRow, e2_BadRow, e3_BadRow, e5_BadRow, xl_BadRow, xr_BadRow⟩, xsa_BadRow, xex_BadRow, xty_BadRow, xkc_BadRow⟩, a7, xti_BadRow, xno_BadRow, ⟨xga_BadRow, xgg_BadRow, xex_BadRow, xhd_BadRow⟩, ⟨xga_BadRow, xgg_BadRow, xex_BadRow, xhd_BadRow, xha_BadRow, xhn_BadRow, xht_BadRow, xhm_BadRow⟩⟩),
    (ok_BadRow_BadCall),
    (ok_BadRow_BadNumber),
    (ok_BadRow_BadPlace),
    (ok_BadRow_BadRow),
    (ok_BadRow_BadSize),
    (ok_BadRow_BadText),
    (ok_BadRow_BadThing),
    (ok_BadRow_BadWord),
    (ok_BadRow_EveryError),
    (ok_BadRow_Mixed),
    (ok_BadRow_NoLevel),
    (ok_BadRow_NoList),
    (ok_BadRow_NotClosed),
    (ok_BadRow_NotWhole),
    (ok_BadRow_NothingToUndo),
    (⟨⟨⟨en_NotWhole, eq_NotWhole, eN_NotWhole, eb_NotWhole, em_NotWhole, es_NotWhole, eu_NotWhole, ea_NotWhole, eo_NotWhole, ed_NotWhole, e0_NotWhole, e1_NotWhole, e2_NotWhole, e3_NotWhole, e5_NotWhole, xl_NotWhole, xr_NotWhole⟩, xsa_NotWhole, xex_NotWhole, xty_NotWhole, xkc_NotWhole⟩, a8, xti_NotWhole, xno_NotWhole, ⟨xga_NotWhole, xgg_NotWhole, xex_NotWhole, xhd_NotWhole⟩, ⟨xga_NotWhole, xgg_NotWhole, xex_NotWhole, xhd_NotWhole, xha_NotWhole, xhn_NotWhole, xht_NotWhole, xhm_NotWhole⟩⟩),
    (ok_NotWhole_BadCall),
    (ok_NotWhole_BadNumber),
    (ok_NotWhole_BadPlace),
    (ok_NotWhole_BadRow),
    (ok_NotWhole_BadSize),
    (ok_NotWhole_BadText),
    (ok_NotWhole_BadThing),
    (ok_NotWhole_BadWord),
    (ok_NotWhole_EveryError),
    (ok_NotWhole_Mixed),
    (ok_NotWhole_NoLevel),
    (ok_NotWhole_NoList),
    (ok_NotWhole_NotClosed),
    (ok_NotWhole_NotWhole),
    (ok_NotWhole_NothingToUndo),
    (⟨⟨⟨en_NotClosed, eq_NotClosed, eN_NotClosed, eb_NotClosed, em_NotClosed, es_NotClosed, eu_NotClosed, ea_NotClosed, eo_NotClosed, ed_NotClosed, e0_NotClosed, e1_NotClosed, e2_NotClosed, e3_NotClosed, e5_NotClosed, xl_NotClosed, xr_NotClosed⟩, xsa_NotClosed, xex_NotClosed, xty_NotClosed, xkc_NotClosed⟩, a9, xti_NotClosed, xno_NotClosed, ⟨xga_NotClosed, xgg_NotClosed, xex_NotClosed, xhd_NotClosed⟩, ⟨xga_NotClosed, xgg_NotClosed, xex_NotClosed, xhd_NotClosed, xha_NotClosed, xhn_NotClosed, xht_NotClosed, xhm_NotClosed⟩⟩),
    (ok_NotClosed_BadCall),
    (ok_NotClosed_BadNumber),
    (ok_NotClosed_BadPlace),
    (ok_NotClosed_BadRow),
    (ok_NotClosed_BadSize),
    (ok_NotClosed_BadText),
    (ok_NotClosed_BadThing),
    (ok_NotClosed_BadWord),
    (ok_NotClosed_EveryError),
    (ok_NotClosed_Mixed),
    (ok_NotClosed_NoLevel),
    (ok_NotClosed_NoList),
    (ok_NotClosed_NotClosed),
    (ok_NotClosed_NotWhole),
    (ok_NotClosed_NothingToUndo),
    (⟨⟨⟨en_NoLevel, eq_NoLevel, eN_NoLevel, eb_NoLevel, em_NoLevel, es_NoLevel, eu_NoLevel, ea_NoLevel, eo_NoLevel, ed_NoLevel, e0_NoLevel, e1_NoLevel, e2_NoLevel, e3_NoLevel, e5_NoLevel, xl_NoLevel, xr_NoLevel⟩, xsa_NoLevel, xex_NoLevel, xty_NoLevel, xkc_NoLevel⟩, a10, xti_NoLevel, xno_NoLevel, ⟨xga_NoLevel, xgg_NoLevel, xex_NoLevel, xhd_NoLevel⟩, ⟨xga_NoLevel, xgg_NoLevel, xex_NoLevel, xhd_NoLevel, xha_NoLevel, xhn_NoLevel, xht_NoLevel, xhm_NoLevel⟩⟩),
    (ok_NoLevel_BadCall),
    (ok_NoLevel_BadNumber),
    (ok_NoLevel_BadPlace),
    (ok_NoLevel_BadRow),
    (ok_NoLevel_BadSize),
    (ok_NoLevel_BadText),
    (ok_NoLevel_BadThing),
    (ok_NoLevel_BadWord),
    (ok_NoLevel_EveryError),
    (ok_NoLevel_Mixed),
    (ok_NoLevel_NoLevel),
    (ok_NoLevel_NoList),
    (ok_NoLevel_NotClosed),
    (ok_NoLevel_NotWhole),
    (ok_NoLevel_NothingToUndo),
    (⟨⟨⟨en_NoList, eq_NoList, eN_NoList, eb_NoList, em_NoList, es_NoList, eu_NoList, ea_NoList, eo_NoList, ed_NoList, e0_NoList, e1_NoList, e2_NoList, e3_NoList, e5_NoList, xl_NoList, xr_NoList⟩, xsa_NoList, xex_NoList, xty_NoList, xkc_NoList⟩, a11, xti_NoList, xno_NoList, ⟨xga_NoList, xgg_NoList, xex_NoList, xhd_NoList⟩, ⟨xga_NoList, xgg_NoList, xex_NoList, xhd_NoList, xha_NoList, xhn_NoList, xht_NoList, xhm_NoList⟩⟩),
    (ok_NoList_BadCall),
    (ok_NoList_BadNumber),
    (ok_NoList_BadPlace),
    (ok_NoList_BadRow),
    (ok_NoList_BadSize),
    (ok_NoList_BadText),
    (ok_NoList_BadThing),
    (ok_NoList_BadWord),
    (ok_NoList_EveryError),
    (ok_NoList_Mixed),
    (ok_NoList_NoLevel),
    (ok_NoList_NoList),
    (ok_NoList_NotClosed),
    (ok_NoList_NotWhole),
    (ok_NoList_NothingToUndo),
    (⟨xei_Mixed, xkc_Mixed, ⟨xga_Mixed, xgg_Mixed, xex_Mixed, xhd_Mixed, xha_Mixed, xhn_Mixed, xht_Mixed, xhm_Mixed⟩⟩),
    (ok_Mixed_BadCall),
    (ok_Mixed_BadNumber),
    (ok_Mixed_BadPlace),
    (ok_Mixed_BadRow),
    (ok_Mixed_BadSize),
    (ok_Mixed_BadText),
    (ok_Mixed_BadThing),
    (ok_Mixed_BadWord),
    (ok_Mixed_EveryError),
    (ok_Mixed_Mixed),
    (ok_Mixed_NoLevel),
    (ok_Mixed_NoList),
    (ok_Mixed_NotClosed),
    (ok_Mixed_NotWhole),
    (ok_Mixed_NothingToUndo),
    (⟨xei_NothingToUndo, xkc_NothingToUndo, ⟨xga_NothingToUndo, xgg_NothingToUndo, xex_NothingToUndo, xhd_NothingToUndo, xha_NothingToUndo, xhn_NothingToUndo, xht_NothingToUndo, xhm_NothingToUndo⟩⟩),
    (ok_NothingToUndo_BadCall),
    (ok_NothingToUndo_BadNumber),
    (ok_NothingToUndo_BadPlace),
    (ok_NothingToUndo_BadRow),
    (ok_NothingToUndo_BadSize),
    (ok_NothingToUndo_BadText),
    (ok_NothingToUndo_BadThing),
    (ok_NothingToUndo_BadWord),
    (ok_NothingToUndo_EveryError),
    (ok_NothingToUndo_Mixed),
    (ok_NothingToUndo_NoLevel),
    (ok_NothingToUndo_NoList),
    (ok_NothingToUndo_NotClosed),
    (ok_NothingToUndo_NotWhole),
    (ok_NothingToUndo_NothingToUndo),
    (ok_v_BadWord),
    (ok_v_BadText),
    (ok_v_BadSize),
    (ok_v_BadCall),
    (ok_v_BadNumber),
    (ok_v_BadPlace),
    (ok_v_BadThing),
    (ok_v_BadRow),
    (ok_v_NotWhole),
    (ok_v_NotClosed),
    (ok_v_NoLevel),
    (ok_v_NoList),
    (ok_v_Mixed),
    (ok_v_NothingToUndo),
    (PySem.W.mg_none_of X G z_ValueError),
    (PySem.W.mg_none_of X G z_int),
    (PySem.W.mg_none_of X G z_isinstance),
    (PySem.W.mg_none_of X G z_len),
    (PySem.W.mg_none_of X G z_list),
    (PySem.W.mg_none_of X G z_range)⟩
  exact ⟨a.d_law, fun s v => .of_eq rfl, fun base _ _ => ok_law T⟩
end Pf00
open PySem PySem.W PyProof.Rows
set_option maxRecDepth 100000 in
set_option maxHeartbeats 0 in
theorem PySem.Challenge.cw_everyorder_k00_errors_made_from_their_fi_holds : PySem.Challenge.rw_everyorder_k00_errors_made_from_their_fi.Holds := by
  w_on; o_law; k_head; (case hw => w_witness2)
  k_fill
  refine L2.walk_of (l := PySem.Challenge.rw_everyorder_k00_errors_made_from_their_fi) (n := 63) (k := 4) (x := "script") (CX := fun _ => L2.CX0) (sp := fun w => Pf00.spLaw _) rfl (by decide) rfl ⟨rfl, by decide, by decide⟩ (fun w h Y => PySem.W.kIn_of Y) ?F (fun _ _ a ns hl _ hS => ⟨a, ns, rfl, hS, hl, fun _ => rfl⟩) (fun _ _ _ _ _ h => h)
  case F =>
    intro w mg fa h KX G hmg
    refine' Pf00.all_mk KX G hmg ?c_EveryError ?c_BadWord ?c_BadText ?c_BadSize ?c_BadCall ?c_BadNumber ?c_BadPlace ?c_BadThing ?c_BadRow ?c_NotWhole ?c_NotClosed ?c_NoLevel ?c_NoList ?c_Mixed ?c_NothingToUndo ?a0 ?l0 ?e0 ?k0 ?a1 ?l1 ?e1 ?k1 ?a2 ?l2 ?e2 ?k2 ?a3 ?l3 ?e3 ?k3 ?a4 ?l4 ?e4 ?k4 ?a5 ?l5 ?e5 ?k5 ?a6 ?l6 ?e6 ?k6 ?a7 ?l7 ?e7 ?k7 ?a8 ?l8 ?e8 ?k8 ?a9 ?l9 ?e9 ?k9 ?a10 ?l10 ?e10 ?k10 ?a11 ?l11 ?e11 ?k11 ?a12 ?l12 ?e12 ?k12 ?a13 ?l13 ?e13 ?k13 ?a14 ?l14 ?e14 ?k14 ?a15 ?l15 ?e15 ?k15 ?a16 ?l16 ?e16 ?k16 ?a17 ?l17 ?e17 ?k17 ?xl_BadWord ?xr_BadWord ?xsa_BadWord ?xex_BadWord ?xty_BadWord ?xkc_BadWord ?xga_BadWord ?xgg_BadWord ?xhd_BadWord ?xha_BadWord ?xhm_BadWord ?xno_BadWord ?xhn_BadWord ?xht_BadWord ?xti_BadWord ?ok_BadWord_BadCall ?ok_BadWord_BadNumber ?ok_BadWord_BadPlace ?ok_BadWord_BadRow ?ok_BadWord_BadSize ?ok_BadWord_BadText ?ok_BadWord_BadThing ?ok_BadWord_BadWord ?ok_BadWord_EveryError ?ok_BadWord_Mixed ?ok_BadWord_NoLevel ?ok_BadWord_NoList ?ok_BadWord_NotClosed ?ok_BadWord_NotWhole ?ok_BadWord_NothingToUndo ?xl_BadText ?xr_BadText ?xsa_BadText ?xex_BadText ?xty_BadText ?xkc_BadText ?xga_BadText ?xgg_BadText ?xhd_BadText ?xha_BadText ?xhm_BadText ?xno_BadText ?xhn_BadText ?xht_BadText ?xti_BadText ?ok_BadText_BadCall ?ok_BadText_BadNumber ?ok_BadText_BadPlace ?ok_BadText_BadRow ?ok_BadText_BadSize ?ok_BadText_BadText ?ok_BadText_BadThing ?ok_BadText_BadWord ?ok_BadText_EveryError ?ok_BadText_Mixed ?ok_BadText_NoLevel ?ok_BadText_NoList ?ok_BadText_NotClosed ?ok_BadText_NotWhole ?ok_BadText_NothingToUndo ?xl_BadSize ?xr_BadSize ?xsa_BadSize ?xex_BadSize ?xty_BadSize ?xkc_BadSize ?xga_BadSize ?xgg_BadSize ?xhd_BadSize ?xha_BadSize ?xhm_BadSize ?xno_BadSize ?xhn_BadSize ?xht_BadSize ?xti_BadSize ?ok_BadSize_BadCall ?ok_BadSize_BadNumber ?ok_BadSize_BadPlace ?ok_BadSize_BadRow ?ok_BadSize_BadSize ?ok_BadSize_BadText ?ok_BadSize_BadThing ?ok_BadSize_BadWord ?ok_BadSize_EveryError ?ok_BadSize_Mixed ?ok_BadSize_NoLevel ?ok_BadSize_NoList ?ok_BadSize_NotClosed ?ok_BadSize_NotWhole ?ok_BadSize_NothingToUndo ?xl_BadCall ?xr_BadCall ?xsa_BadCall ?xex_BadCall ?xty_BadCall ?xkc_BadCall ?xga_BadCall ?xgg_BadCall ?xhd_BadCall ?xha_BadCall ?xhm_BadCall ?xno_BadCall ?xhn_BadCall ?xht_BadCall ?xti_BadCall ?ok_BadCall_BadCall ?ok_BadCall_BadNumber ?ok_BadCall_BadPlace ?ok_BadCall_BadRow ?ok_BadCall_BadSize ?ok_BadCall_BadText ?ok_BadCall_BadThing ?ok_BadCall_BadWord ?ok_BadCall_EveryError ?ok_BadCall_Mixed ?ok_BadCall_NoLevel ?ok_BadCall_NoList ?ok_BadCall_NotClosed ?ok_BadCall_NotWhole ?ok_BadCall_NothingToUndo ?xl_BadNumber ?xr_BadNumber ?xsa_BadNumber ?xex_BadNumber ?xty_BadNumber ?xkc_BadNumber ?xga_BadNumber ?xgg_BadNumber ?xhd_BadNumber ?xha_BadNumber ?xhm_BadNumber ?xno_BadNumber ?xhn_BadNumber ?xht_BadNumber ?xti_BadNumber ?ok_BadNumber_BadCall ?ok_BadNumber_BadNumber ?ok_BadNumber_BadPlace ?ok_BadNumber_BadRow ?ok_BadNumber_BadSize ?ok_BadNumber_BadText ?ok_BadNumber_BadThing ?ok_BadNumber_BadWord ?ok_BadNumber_EveryError ?ok_BadNumber_Mixed ?ok_BadNumber_NoLevel ?ok_BadNumber_NoList ?ok_BadNumber_NotClosed ?ok_BadNumber_NotWhole ?ok_BadNumber_NothingToUndo ?xl_BadPlace ?xr_BadPlace ?xsa_BadPlace ?xex_BadPlace ?xty_BadPlace ?xkc_BadPlace ?xga_BadPlace ?xgg_BadPlace ?xhd_BadPlace ?xha_BadPlace ?xhm_BadPlace ?xno_BadPlace ?xhn_BadPlace ?xht_BadPlace ?xti_BadPlace ?ok_BadPlace_BadCall ?ok_BadPlace_BadNumber ?ok_BadPlace_BadPlace ?ok_BadPlace_BadRow ?ok_BadPlace_BadSize ?ok_BadPlace_BadText ?ok_BadPlace_BadThing ?ok_BadPlace_BadWord ?ok_BadPlace_EveryError ?ok_BadPlace_Mixed ?ok_BadPlace_NoLevel ?ok_BadPlace_NoList ?ok_BadPlace_NotClosed ?ok_BadPlace_NotWhole ?ok_BadPlace_NothingToUndo ?xl_BadThing ?xr_BadThing ?xsa_BadThing ?xex_BadThing ?xty_BadThing ?xkc_BadThing ?xga_BadThing ?xgg_BadThing ?xhd_BadThing ?xha_BadThing ?xhm_BadThing ?xno_BadThing ?xhn_BadThing ?xht_BadThing ?xti_BadThing ?ok_BadThing_BadCall ?ok_BadThing_BadNumber ?ok_BadThing_BadPlace ?ok_BadThing_BadRow ?ok_BadThing_BadSize ?ok_BadThing_BadText ?ok_BadThing_BadThing ?ok_BadThing_BadWord ?ok_BadThing_EveryError ?ok_BadThing_Mixed ?ok_BadThing_NoLevel ?ok_BadThing_NoList ?ok_BadThing_NotClosed ?ok_BadThing_NotWhole ?ok_BadThing_NothingToUndo ?xl_BadRow ?xr_BadRow ?xsa_BadRow ?xex_BadRow ?xty_BadRow ?xkc_BadRow ?xga_BadRow ?xgg_BadRow ?xhd_BadRow ?xha_BadRow ?xhm_BadRow ?xno_BadRow ?xhn_BadRow ?xht_BadRow ?xti_BadRow ?ok_BadRow_BadCall ?ok_BadRow_BadNumber ?ok_BadRow_BadPlace ?ok_BadRow_BadRow ?ok_BadRow_BadSize ?ok_BadRow_BadText ?ok_BadRow_BadThing ?ok_BadRow_BadWord ?ok_BadRow_EveryError ?ok_BadRow_Mixed ?ok_BadRow_NoLevel ?ok_BadRow_NoList ?ok_BadRow_NotClosed ?ok_BadRow_NotWhole ?ok_BadRow_NothingToUndo ?xl_NotWhole ?xr_NotWhole ?xsa_NotWhole ?xex_NotWhole ?xty_NotWhole ?xkc_NotWhole ?xga_NotWhole ?xgg_NotWhole ?xhd_NotWhole ?xha_NotWhole ?xhm_NotWhole ?xno_NotWhole ?xhn_NotWhole ?xht_NotWhole ?xti_NotWhole ?ok_NotWhole_BadCall ?ok_NotWhole_BadNumber ?ok_NotWhole_BadPlace ?ok_NotWhole_BadRow ?ok_NotWhole_BadSize ?ok_NotWhole_BadText ?ok_NotWhole_BadThing ?ok_NotWhole_BadWord ?ok_NotWhole_EveryError ?ok_NotWhole_Mixed ?ok_NotWhole_NoLevel ?ok_NotWhole_NoList ?ok_NotWhole_NotClosed ?ok_NotWhole_NotWhole ?ok_NotWhole_NothingToUndo ?xl_NotClosed ?xr_NotClosed ?xsa_NotClosed ?xex_NotClosed ?xty_NotClosed ?xkc_NotClosed ?xga_NotClosed ?xgg_NotClosed ?xhd_NotClosed ?xha_NotClosed ?xhm_NotClosed ?xno_NotClosed ?xhn_NotClosed ?xht_NotClosed ?xti_NotClosed ?ok_NotClosed_BadCall ?ok_NotClosed_BadNumber ?ok_NotClosed_BadPlace ?ok_NotClosed_BadRow ?ok_NotClosed_BadSize ?ok_NotClosed_BadText ?ok_NotClosed_BadThing ?ok_NotClosed_BadWord ?ok_NotClosed_EveryError ?ok_NotClosed_Mixed ?ok_NotClosed_NoLevel ?ok_NotClosed_NoList ?ok_NotClosed_NotClosed ?ok_NotClosed_NotWhole ?ok_NotClosed_NothingToUndo ?xl_NoLevel ?xr_NoLevel ?xsa_NoLevel ?xex_NoLevel ?xty_NoLevel ?xkc_NoLevel ?xga_NoLevel ?xgg_NoLevel ?xhd_NoLevel ?xha_NoLevel ?xhm_NoLevel ?xno_NoLevel ?xhn_NoLevel ?xht_NoLevel ?xti_NoLevel ?ok_NoLevel_BadCall ?ok_NoLevel_BadNumber ?ok_NoLevel_BadPlace ?ok_NoLevel_BadRow ?ok_NoLevel_BadSize ?ok_NoLevel_BadText ?ok_NoLevel_BadThing ?ok_NoLevel_BadWord ?ok_NoLevel_EveryError ?ok_NoLevel_Mixed ?ok_NoLevel_NoLevel ?ok_NoLevel_NoList ?ok_NoLevel_NotClosed ?ok_NoLevel_NotWhole ?ok_NoLevel_NothingToUndo ?xl_NoList ?xr_NoList ?xsa_NoList ?xex_NoList ?xty_NoList ?xkc_NoList ?xga_NoList ?xgg_NoList ?xhd_NoList ?xha_NoList ?xhm_NoList ?xno_NoList ?xhn_NoList ?xht_NoList ?xti_NoList ?ok_NoList_BadCall ?ok_NoList_BadNumber ?ok_NoList_BadPlace ?ok_NoList_BadRow ?ok_NoList_BadSize ?ok_NoList_BadText ?ok_NoList_BadThing ?ok_NoList_BadWord ?ok_NoList_EveryError ?ok_NoList_Mixed ?ok_NoList_NoLevel ?ok_NoList_NoList ?ok_NoList_NotClosed ?ok_NoList_NotWhole ?ok_NoList_NothingToUndo ?xei_Mixed ?xex_Mixed ?xkc_Mixed ?xga_Mixed ?xgg_Mixed ?xhd_Mixed ?xha_Mixed ?xhm_Mixed ?xhn_Mixed ?xht_Mixed ?ok_Mixed_BadCall ?ok_Mixed_BadNumber ?ok_Mixed_BadPlace ?ok_Mixed_BadRow ?ok_Mixed_BadSize ?ok_Mixed_BadText ?ok_Mixed_BadThing ?ok_Mixed_BadWord ?ok_Mixed_EveryError ?ok_Mixed_Mixed ?ok_Mixed_NoLevel ?ok_Mixed_NoList ?ok_Mixed_NotClosed ?ok_Mixed_NotWhole ?ok_Mixed_NothingToUndo ?xei_NothingToUndo ?xex_NothingToUndo ?xkc_NothingToUndo ?xga_NothingToUndo ?xgg_NothingToUndo ?xhd_NothingToUndo ?xha_NothingToUndo ?xhm_NothingToUndo ?xhn_NothingToUndo ?xht_NothingToUndo ?ok_NothingToUndo_BadCall ?ok_NothingToUndo_BadNumber ?ok_NothingToUndo_BadPlace ?ok_NothingToUndo_BadRow ?ok_NothingToUndo_BadSize ?ok_NothingToUndo_BadText ?ok_NothingToUndo_BadThing ?ok_NothingToUndo_BadWord ?ok_NothingToUndo_EveryError ?ok_NothingToUndo_Mixed ?ok_NothingToUndo_NoLevel ?ok_NothingToUndo_NoList ?ok_NothingToUndo_NotClosed ?ok_NothingToUndo_NotWhole ?ok_NothingToUndo_NothingToUndo ?ok_v_BadWord ?ok_v_BadText ?ok_v_BadSize ?ok_v_BadCall ?ok_v_BadNumber ?ok_v_BadPlace ?ok_v_BadThing ?ok_v_BadRow ?ok_v_NotWhole ?ok_v_NotClosed ?ok_v_NoLevel ?ok_v_NoList ?ok_v_Mixed ?ok_v_NothingToUndo ?z_ValueError ?z_int ?z_isinstance ?z_len ?z_list ?z_range
    (case c_EveryError => k_is)
    (case c_BadWord => k_is)
    (case c_BadText => k_is)
    (case c_BadSize => k_is)
    (case c_BadCall => k_is)
    (case c_BadNumber => k_is)
    (case c_BadPlace => k_is)
    (case c_BadThing => k_is)
    (case c_BadRow => k_is)
    (case c_NotWhole => k_is)
    (case c_NotClosed => k_is)
    (case c_NoLevel => k_is)
    (case c_NoList => k_is)
    (case c_Mixed => k_is)
    (case c_NothingToUndo => k_is)
    (case a0 => k_is)
    (case l0 => k_is)
    (case e0 => k_is)
    (case k0 => k_is)
    (case a1 => k_is)
    (case l1 => k_is)
    (case e1 => k_is)
    (case k1 => k_is)
    (case a2 => k_is)
    (case l2 => k_is)
    (case e2 => k_is)
    (case k2 => k_is)
    (case a3 => k_is)
    (case l3 => k_is)
    (case e3 => k_is)
    (case k3 => k_is)
    (case a4 => k_is)
    (case l4 => k_is)
    (case e4 => k_is)
    (case k4 => k_is)
    (case a5 => k_is)
    (case l5 => k_is)
    (case e5 => k_is)
    (case k5 => k_is)
    (case a6 => k_is)
    (case l6 => k_is)
    (case e6 => k_is)
    (case k6 => k_is)
    (case a7 => k_is)
    (case l7 => k_is)
    (case e7 => k_is)
    (case k7 => k_is)
    (case a8 => k_is)
    (case l8 => k_is)
    (case e8 => k_is)
    (case k8 => k_is)
    (case a9 => k_is)
    (case l9 => k_is)
    (case e9 => k_is)
    (case k9 => k_is)
    (case a10 => k_is)
    (case l10 => k_is)
    (case e10 => k_is)
    (case k10 => k_is)
    (case a11 => k_is)
    (case l11 => k_is)
    (case e11 => k_is)
    (case k11 => k_is)
    (case a12 => k_is)
    (case l12 => k_is)
    (case e12 => k_is)
    (case k12 => k_is)
    (case a13 => k_is)
    (case l13 => k_is)
    (case e13 => k_is)
    (case k13 => k_is)
    (case a14 => k_is)
    (case l14 => k_is)
    (case e14 => k_is)
    (case k14 => k_is)
    (case a15 => k_is)
    (case l15 => k_is)
    (case e15 => k_is)
    (case k15 => k_is)
    (case a16 => k_is)
    (case l16 => k_is)
    (case e16 => k_is)
    (case k16 => k_is)
    (case a17 => k_is)
    (case l17 => k_is)
    (case e17 => k_is)
    (case k17 => k_is)
    (case xl_BadWord => k_is)
    (case xr_BadWord => first | rfl | decide +kernel)
    (case xsa_BadWord => k_is)
    (case xex_BadWord => k_is)
    (case xty_BadWord => k_is)
    (case xkc_BadWord => k_is)
    (case xga_BadWord => k_is)
    (case xgg_BadWord => k_is)
    (case xhd_BadWord => k_is)
    (case xha_BadWord => k_is)
    (case xhm_BadWord => k_is)
    (case xno_BadWord => k_is)
    (case xhn_BadWord => k_is)
    (case xht_BadWord => k_is)
    (case xti_BadWord => k_is)
    (case ok_BadWord_BadCall => kit_is)
    (case ok_BadWord_BadNumber => kit_is)
    (case ok_BadWord_BadPlace => kit_is)
    (case ok_BadWord_BadRow => kit_is)
    (case ok_BadWord_BadSize => kit_is)
    (case ok_BadWord_BadText => kit_is)
    (case ok_BadWord_BadThing => kit_is)
    (case ok_BadWord_BadWord => kit_is)
    (case ok_BadWord_EveryError => kit_is)
    (case ok_BadWord_Mixed => kit_is)
    (case ok_BadWord_NoLevel => kit_is)
    (case ok_BadWord_NoList => kit_is)
    (case ok_BadWord_NotClosed => kit_is)
    (case ok_BadWord_NotWhole => kit_is)
    (case ok_BadWord_NothingToUndo => kit_is)
    (case xl_BadText => k_is)
    (case xr_BadText => first | rfl | decide +kernel)
    (case xsa_BadText => k_is)
    (case xex_BadText => k_is)
    (case xty_BadText => k_is)
    (case xkc_BadText => k_is)
    (case xga_BadText => k_is)
    (case xgg_BadText => k_is)
    (case xhd_BadText => k_is)
    (case xha_BadText => k_is)
    (case xhm_BadText => k_is)
    (case xno_BadText => k_is)
    (case xhn_BadText => k_is)
    (case xht_BadText => k_is)
    (case xti_BadText => k_is)
    (case ok_BadText_BadCall => kit_is)
    (case ok_BadText_BadNumber => kit_is)
    (case ok_BadText_BadPlace => kit_is)
    (case ok_BadText_BadRow => kit_is)
    (case ok_BadText_BadSize => kit_is)
    (case ok_BadText_BadText => kit_is)
    (case ok_BadText_BadThing => kit_is)
    (case ok_BadText_BadWord => kit_is)
    (case ok_BadText_EveryError => kit_is)
    (case ok_BadText_Mixed => kit_is)
    (case ok_BadText_NoLevel => kit_is)
    (case ok_BadText_NoList => kit_is)
    (case ok_BadText_NotClosed => kit_is)
    (case ok_BadText_NotWhole => kit_is)
    (case ok_BadText_NothingToUndo => kit_is)
    (case xl_BadSize => k_is)
    (case xr_BadSize => first | rfl | decide +kernel)
    (case xsa_BadSize => k_is)
    (case xex_BadSize => k_is)
    (case xty_BadSize => k_is)
    (case xkc_BadSize => k_is)
    (case xga_BadSize => k_is)
    (case xgg_BadSize => k_is)
    (case xhd_BadSize => k_is)
    (case xha_BadSize => k_is)
    (case xhm_BadSize => k_is)
    (case xno_BadSize => k_is)
    (case xhn_BadSize => k_is)
    (case xht_BadSize => k_is)
    (case xti_BadSize => k_is)
    (case ok_BadSize_BadCall => kit_is)
    (case ok_BadSize_BadNumber => kit_is)
    (case ok_BadSize_BadPlace => kit_is)
    (case ok_BadSize_BadRow => kit_is)
    (case ok_BadSize_BadSize => kit_is)
    (case ok_BadSize_BadText => kit_is)
    (case ok_BadSize_BadThing => kit_is)
    (case ok_BadSize_BadWord => kit_is)
    (case ok_BadSize_EveryError => kit_is)
    (case ok_BadSize_Mixed => kit_is)
    (case ok_BadSize_NoLevel => kit_is)
    (case ok_BadSize_NoList => kit_is)
    (case ok_BadSize_NotClosed => kit_is)
    (case ok_BadSize_NotWhole => kit_is)
    (case ok_BadSize_NothingToUndo => kit_is)
    (case xl_BadCall => k_is)
    (case xr_BadCall => first | rfl | decide +kernel)
    (case xsa_BadCall => k_is)
    (case xex_BadCall => k_is)
    (case xty_BadCall => k_is)
    (case xkc_BadCall => k_is)
    (case xga_BadCall => k_is)
    (case xgg_BadCall => k_is)
    (case xhd_BadCall => k_is)
    (case xha_BadCall => k_is)
    (case xhm_BadCall => k_is)
    (case xno_BadCall => k_is)
    (case xhn_BadCall => k_is)
    (case xht_BadCall => k_is)
    (case xti_BadCall => k_is)
    (case ok_BadCall_BadCall => kit_is)
    (case ok_BadCall_BadNumber => kit_is)
    (case ok_BadCall_BadPlace => kit_is)
    (case ok_BadCall_BadRow => kit_is)
    (case ok_BadCall_BadSize => kit_is)
    (case ok_BadCall_BadText => kit_is)
    (case ok_BadCall_BadThing => kit_is)
    (case ok_BadCall_BadWord => kit_is)
    (case ok_BadCall_EveryError => kit_is)
    (case ok_BadCall_Mixed => kit_is)
    (case ok_BadCall_NoLevel => kit_is)
    (case ok_BadCall_NoList => kit_is)
    (case ok_BadCall_NotClosed => kit_is)
    (case ok_BadCall_NotWhole => kit_is)
    (case ok_BadCall_NothingToUndo => kit_is)
    (case xl_BadNumber => k_is)
    (case xr_BadNumber => first | rfl | decide +kernel)
    (case xsa_BadNumber => k_is)
    (case xex_BadNumber => k_is)
    (case xty_BadNumber => k_is)
    (case xkc_BadNumber => k_is)
    (case xga_BadNumber => k_is)
    (case xgg_BadNumber => k_is)
    (case xhd_BadNumber => k_is)
    (case xha_BadNumber => k_is)
    (case xhm_BadNumber => k_is)
    (case xno_BadNumber => k_is)
    (case xhn_BadNumber => k_is)
    (case xht_BadNumber => k_is)
    (case xti_BadNumber => k_is)
    (case ok_BadNumber_BadCall => kit_is)
    (case ok_BadNumber_BadNumber => kit_is)
    (case ok_BadNumber_BadPlace => kit_is)
    (case ok_BadNumber_BadRow => kit_is)
    (case ok_BadNumber_BadSize => kit_is)
    (case ok_BadNumber_BadText => kit_is)
    (case ok_BadNumber_BadThing => kit_is)
    (case ok_BadNumber_BadWord => kit_is)
    (case ok_BadNumber_EveryError => kit_is)
    (case ok_BadNumber_Mixed => kit_is)
    (case ok_BadNumber_NoLevel => kit_is)
    (case ok_BadNumber_NoList => kit_is)
    (case ok_BadNumber_NotClosed => kit_is)
    (case ok_BadNumber_NotWhole => kit_is)
    (case ok_BadNumber_NothingToUndo => kit_is)
    (case xl_BadPlace => k_is)
    (case xr_BadPlace => first | rfl | decide +kernel)
    (case xsa_BadPlace => k_is)
    (case xex_BadPlace => k_is)
    (case xty_BadPlace => k_is)
    (case xkc_BadPlace => k_is)
    (case xga_BadPlace => k_is)
    (case xgg_BadPlace => k_is)
    (case xhd_BadPlace => k_is)
    (case xha_BadPlace => k_is)
    (case xhm_BadPlace => k_is)
    (case xno_BadPlace => k_is)
    (case xhn_BadPlace => k_is)
    (case xht_BadPlace => k_is)
    (case xti_BadPlace => k_is)
    (case ok_BadPlace_BadCall => kit_is)
    (case ok_BadPlace_BadNumber => kit_is)
    (case ok_BadPlace_BadPlace => kit_is)
    (case ok_BadPlace_BadRow => kit_is)
    (case ok_BadPlace_BadSize => kit_is)
    (case ok_BadPlace_BadText => kit_is)
    (case ok_BadPlace_BadThing => kit_is)
    (case ok_BadPlace_BadWord => kit_is)
    (case ok_BadPlace_EveryError => kit_is)
    (case ok_BadPlace_Mixed => kit_is)
    (case ok_BadPlace_NoLevel => kit_is)
    (case ok_BadPlace_NoList => kit_is)
    (case ok_BadPlace_NotClosed => kit_is)
    (case ok_BadPlace_NotWhole => kit_is)
    (case ok_BadPlace_NothingToUndo => kit_is)
    (case xl_BadThing => k_is)
    (case xr_BadThing => first | rfl | decide +kernel)
    (case xsa_BadThing => k_is)
    (case xex_BadThing => k_is)
    (case xty_BadThing => k_is)
    (case xkc_BadThing => k_is)
    (case xga_BadThing => k_is)
    (case xgg_BadThing => k_is)
    (case xhd_BadThing => k_is)
    (case xha_BadThing => k_is)
    (case xhm_BadThing => k_is)
    (case xno_BadThing => k_is)
    (case xhn_BadThing => k_is)
    (case xht_BadThing => k_is)
    (case xti_BadThing => k_is)
    (case ok_BadThing_BadCall => kit_is)
    (case ok_BadThing_BadNumber => kit_is)
    (case ok_BadThing_BadPlace => kit_is)
    (case ok_BadThing_BadRow => kit_is)
    (case ok_BadThing_BadSize => kit_is)
    (case ok_BadThing_BadText => kit_is)
    (case ok_BadThing_BadThing => kit_is)
    (case ok_BadThing_BadWord => kit_is)
    (case ok_BadThing_EveryError => kit_is)
    (case ok_BadThing_Mixed => kit_is)
    (case ok_BadThing_NoLevel => kit_is)
    (case ok_BadThing_NoList => kit_is)
    (case ok_BadThing_NotClosed => kit_is)
    (case ok_BadThing_NotWhole => kit_is)
    (case ok_BadThing_NothingToUndo => kit_is)
    (case xl_BadRow => k_is)
    (case xr_BadRow => first | rfl | decide +kernel)
    (case xsa_BadRow => k_is)
    (case xex_BadRow => k_is)
    (case xty_BadRow => k_is)
    (case xkc_BadRow => k_is)
    (case xga_BadRow => k_is)
    (case xgg_BadRow => k_is)
    (case xhd_BadRow => k_is)
    (case xha_BadRow => k_is)
    (case xhm_BadRow => k_is)
    (case xno_BadRow => k_is)
    (case xhn_BadRow => k_is)
    (case xht_BadRow => k_is)
    (case xti_BadRow => k_is)
    (case ok_BadRow_BadCall => kit_is)
    (case ok_BadRow_BadNumber => kit_is)
    (case ok_BadRow_BadPlace => kit_is)
    (case ok_BadRow_BadRow => kit_is)
    (case ok_BadRow_BadSize => kit_is)
    (case ok_BadRow_BadText => kit_is)
    (case ok_BadRow_BadThing => kit_is)
    (case ok_BadRow_BadWord => kit_is)
    (case ok_BadRow_EveryError => kit_is)
    (case ok_BadRow_Mixed => kit_is)
    (case ok_BadRow_NoLevel => kit_is)
    (case ok_BadRow_NoList => kit_is)
    (case ok_BadRow_NotClosed => kit_is)
    (case ok_BadRow_NotWhole => kit_is)
    (case ok_BadRow_NothingToUndo => kit_is)
    (case xl_NotWhole => k_is)
    (case xr_NotWhole => first | rfl | decide +kernel)
    (case xsa_NotWhole => k_is)
    (case xex_NotWhole => k_is)
    (case xty_NotWhole => k_is)
    (case xkc_NotWhole => k_is)
    (case xga_NotWhole => k_is)
    (case xgg_NotWhole => k_is)
    (case xhd_NotWhole => k_is)
    (case xha_NotWhole => k_is)
    (case xhm_NotWhole => k_is)
    (case xno_NotWhole => k_is)
    (case xhn_NotWhole => k_is)
    (case xht_NotWhole => k_is)
    (case xti_NotWhole => k_is)
    (case ok_NotWhole_BadCall => kit_is)
    (case ok_NotWhole_BadNumber => kit_is)
    (case ok_NotWhole_BadPlace => kit_is)
    (case ok_NotWhole_BadRow => kit_is)
    (case ok_NotWhole_BadSize => kit_is)
    (case ok_NotWhole_BadText => kit_is)
    (case ok_NotWhole_BadThing => kit_is)
    (case ok_NotWhole_BadWord => kit_is)
    (case ok_NotWhole_EveryError => kit_is)
    (case ok_NotWhole_Mixed => kit_is)
    (case ok_NotWhole_NoLevel => kit_is)
    (case ok_NotWhole_NoList => kit_is)
    (case ok_NotWhole_NotClosed => kit_is)
    (case ok_NotWhole_NotWhole => kit_is)
    (case ok_NotWhole_NothingToUndo => kit_is)
    (case xl_NotClosed => k_is)
    (case xr_NotClosed => first | rfl | decide +kernel)
    (case xsa_NotClosed => k_is)
    (case xex_NotClosed => k_is)
    (case xty_NotClosed => k_is)
    (case xkc_NotClosed => k_is)
    (case xga_NotClosed => k_is)
    (case xgg_NotClosed => k_is)
    (case xhd_NotClosed => k_is)
    (case xha_NotClosed => k_is)
    (case xhm_NotClosed => k_is)
    (case xno_NotClosed => k_is)
    (case xhn_NotClosed => k_is)
    (case xht_NotClosed => k_is)
    (case xti_NotClosed => k_is)
    (case ok_NotClosed_BadCall => kit_is)
    (case ok_NotClosed_BadNumber => kit_is)
    (case ok_NotClosed_BadPlace => kit_is)
    (case ok_NotClosed_BadRow => kit_is)
    (case ok_NotClosed_BadSize => kit_is)
    (case ok_NotClosed_BadText => kit_is)
    (case ok_NotClosed_BadThing => kit_is)
    (case ok_NotClosed_BadWord => kit_is)
    (case ok_NotClosed_EveryError => kit_is)
    (case ok_NotClosed_Mixed => kit_is)
    (case ok_NotClosed_NoLevel => kit_is)
    (case ok_NotClosed_NoList => kit_is)
    (case ok_NotClosed_NotClosed => kit_is)
    (case ok_NotClosed_NotWhole => kit_is)
    (case ok_NotClosed_NothingToUndo => kit_is)
    (case xl_NoLevel => k_is)
    (case xr_NoLevel => first | rfl | decide +kernel)
    (case xsa_NoLevel => k_is)
    (case xex_NoLevel => k_is)
    (case xty_NoLevel => k_is)
    (case xkc_NoLevel => k_is)
    (case xga_NoLevel => k_is)
    (case xgg_NoLevel => k_is)
    (case xhd_NoLevel => k_is)
    (case xha_NoLevel => k_is)
    (case xhm_NoLevel => k_is)
    (case xno_NoLevel => k_is)
    (case xhn_NoLevel => k_is)
    (case xht_NoLevel => k_is)
    (case xti_NoLevel => k_is)
    (case ok_NoLevel_BadCall => kit_is)
    (case ok_NoLevel_BadNumber => kit_is)
    (case ok_NoLevel_BadPlace => kit_is)
    (case ok_NoLevel_BadRow => kit_is)
    (case ok_NoLevel_BadSize => kit_is)
    (case ok_NoLevel_BadText => kit_is)
    (case ok_NoLevel_BadThing => kit_is)
    (case ok_NoLevel_BadWord => kit_is)
    (case ok_NoLevel_EveryError => kit_is)
    (case ok_NoLevel_Mixed => kit_is)
    (case ok_NoLevel_NoLevel => kit_is)
    (case ok_NoLevel_NoList => kit_is)
    (case ok_NoLevel_NotClosed => kit_is)
    (case ok_NoLevel_NotWhole => kit_is)
    (case ok_NoLevel_NothingToUndo => kit_is)
    (case xl_NoList => k_is)
    (case xr_NoList => first | rfl | decide +kernel)
    (case xsa_NoList => k_is)
    (case xex_NoList => k_is)
    (case xty_NoList => k_is)
    (case xkc_NoList => k_is)
    (case xga_NoList => k_is)
    (case xgg_NoList => k_is)
    (case xhd_NoList => k_is)
    (case xha_NoList => k_is)
    (case xhm_NoList => k_is)
    (case xno_NoList => k_is)
    (case xhn_NoList => k_is)
    (case xht_NoList => k_is)
    (case xti_NoList => k_is)
    (case ok_NoList_BadCall => kit_is)
    (case ok_NoList_BadNumber => kit_is)
    (case ok_NoList_BadPlace => kit_is)
    (case ok_NoList_BadRow => kit_is)
    (case ok_NoList_BadSize => kit_is)
    (case ok_NoList_BadText => kit_is)
    (case ok_NoList_BadThing => kit_is)
    (case ok_NoList_BadWord => kit_is)
    (case ok_NoList_EveryError => kit_is)
    (case ok_NoList_Mixed => kit_is)
    (case ok_NoList_NoLevel => kit_is)
    (case ok_NoList_NoList => kit_is)
    (case ok_NoList_NotClosed => kit_is)
    (case ok_NoList_NotWhole => kit_is)
    (case ok_NoList_NothingToUndo => kit_is)
    (case xei_Mixed => k_exc)
    (case xex_Mixed => k_is)
    (case xkc_Mixed => k_is)
    (case xga_Mixed => k_is)
    (case xgg_Mixed => k_is)
    (case xhd_Mixed => k_is)
    (case xha_Mixed => k_is)
    (case xhm_Mixed => k_is)
    (case xhn_Mixed => k_is)
    (case xht_Mixed => k_is)
    (case ok_Mixed_BadCall => kit_is)
    (case ok_Mixed_BadNumber => kit_is)
    (case ok_Mixed_BadPlace => kit_is)
    (case ok_Mixed_BadRow => kit_is)
    (case ok_Mixed_BadSize => kit_is)
    (case ok_Mixed_BadText => kit_is)
    (case ok_Mixed_BadThing => kit_is)
    (case ok_Mixed_BadWord => kit_is)
    (case ok_Mixed_EveryError => kit_is)
    (case ok_Mixed_Mixed => kit_is)
    (case ok_Mixed_NoLevel => kit_is)
    (case ok_Mixed_NoList => kit_is)
    (case ok_Mixed_NotClosed => kit_is)
    (case ok_Mixed_NotWhole => kit_is)
    (case ok_Mixed_NothingToUndo => kit_is)
    (case xei_NothingToUndo => k_exc)
    (case xex_NothingToUndo => k_is)
    (case xkc_NothingToUndo => k_is)
    (case xga_NothingToUndo => k_is)
    (case xgg_NothingToUndo => k_is)
    (case xhd_NothingToUndo => k_is)
    (case xha_NothingToUndo => k_is)
    (case xhm_NothingToUndo => k_is)
    (case xhn_NothingToUndo => k_is)
    (case xht_NothingToUndo => k_is)
    (case ok_NothingToUndo_BadCall => kit_is)
    (case ok_NothingToUndo_BadNumber => kit_is)
    (case ok_NothingToUndo_BadPlace => kit_is)
    (case ok_NothingToUndo_BadRow => kit_is)
    (case ok_NothingToUndo_BadSize => kit_is)
    (case ok_NothingToUndo_BadText => kit_is)
    (case ok_NothingToUndo_BadThing => kit_is)
    (case ok_NothingToUndo_BadWord => kit_is)
    (case ok_NothingToUndo_EveryError => kit_is)
    (case ok_NothingToUndo_Mixed => kit_is)
    (case ok_NothingToUndo_NoLevel => kit_is)
    (case ok_NothingToUndo_NoList => kit_is)
    (case ok_NothingToUndo_NotClosed => kit_is)
    (case ok_NothingToUndo_NotWhole => kit_is)
    (case ok_NothingToUndo_NothingToUndo => kit_is)
    (case ok_v_BadWord => kit_is)
    (case ok_v_BadText => kit_is)
    (case ok_v_BadSize => kit_is)
    (case ok_v_BadCall => kit_is)
    (case ok_v_BadNumber => kit_is)
    (case ok_v_BadPlace => kit_is)
    (case ok_v_BadThing => kit_is)
    (case ok_v_BadRow => kit_is)
    (case ok_v_NotWhole => kit_is)
    (case ok_v_NotClosed => kit_is)
    (case ok_v_NoLevel => kit_is)
    (case ok_v_NoList => kit_is)
    (case ok_v_Mixed => kit_is)
    (case ok_v_NothingToUndo => kit_is)
    (case z_ValueError => k_is)
    (case z_int => k_is)
    (case z_isinstance => k_is)
    (case z_len => k_is)
    (case z_list => k_is)
    (case z_range => k_is)
