import PyProof.Rows.All
import Wide.All
import OpenK.AllK
import Wide.FinOn
import HandS.ForMost
import HandS.Codes
import HandS.IsInst
import HandS.Wide
import HandS.WideBits
import HandS.SetFor
import HandS.Strs
import HandS.Style
import HandS.ForExc
import HandS.ExcInit
import HandS.ExcIs
import HandS.ExcField
import HandS.FStr
import HandS.Defaults
import HandS.MakeKwOnly
import HandS.NoneIn
import HandS.OwnEq
import PyProof.InstNe
import HandS.Lambda
import HandS.Nested
import HandS.SetBool
import HandS.EndTab
import HandS.HotCalls
import HandS.FStrTup
import HandS.DictComp
import HandS.Iter
import HandS.Zip
import HandS.More
import HandS.DictTup
import HandS.ListItems
import HandS.Keys
import HandS.SortKw
import HandS.Walk
import HandS.Deep
import KE.DataMinMax
import KE.GoesEnum
import HandS.TryOnly
import KE.KMinKey
import HandS.Conv
import KE.KStateDown
import HandS.Head0
import HandS.Head1
import HandS.Head2
import HandS.HeadHook1
import HandS.HeadHook2
import HandS.HeadHook3
import HandS.HeadHook4
import HandS.HeadWalk
import PySem.Challenge.RW_farmates_k28_matings_told_and_struck
set_option Elab.async false
set_option linter.all false
set_option maxRecDepth 100000
set_option maxHeartbeats 4000000
namespace Fm
open PySem L2
section
open HandSHeadRun PyProof.Rows PySem.Calls PySem.W

def top (i : Nat) : Stmt := PySem.Challenge.pw_farmates_k28_matings_told_and_struck.main.body.getD i (.Pass ⟨0, 0, 0, 0⟩)

abbrev s_open : Stmt := top 67
abbrev s_pull : Stmt := top 68
abbrev s_like : Stmt := top 70
abbrev s_farinit : Stmt := inClass (top 2) 0
abbrev s_is_mating : Stmt := top 29
abbrev s_need_from : Stmt := top 26
abbrev s_need_within : Stmt := top 27
abbrev s_need_length : Stmt := top 28
abbrev s_need_mating : Stmt := top 30
abbrev s_mating : Stmt := top 73
abbrev s_Ro_init : Stmt := inClass (top 65) 0
abbrev s_Ro_become : Stmt := inClass (top 65) 1
abbrev s_Ro_next_number : Stmt := inClass (top 65) 2
abbrev s_Ro_length : Stmt := inClass (top 65) 11
abbrev s_Ro_matings : Stmt := inClass (top 65) 12
abbrev s_Ro_mate_as : Stmt := inClass (top 65) 5
abbrev s_Ro_mate : Stmt := inClass (top 65) 4
abbrev s_Ro_strike : Stmt := inClass (top 65) 6
abbrev lkTail : List Value := [.type "LookupError", .type "Exception", .type "BaseException", .type "object"]
abbrev s_why : Stmt := top 72
abbrev s_fields : Stmt := top 71
abbrev s_misinit : Stmt := inClass (top 17) 0
abbrev s_nminit : Stmt := inClass (top 18) 0
abbrev s_bginit : Stmt := inClass (top 5) 0
abbrev s_fuinit : Stmt := inClass (top 16) 0
abbrev s_odd : Stmt := top 74
abbrev s_any : Stmt := top 69
abbrev s_deed : Stmt := top 75
abbrev s_Ro_repr : Stmt := inClass (top 65) 33
abbrev s_law : Stmt := top 76
def dD (x : Str) (st : Stmt) : He.DefD := { at_ := (x, none), name := x, qual := x, params := defArgs st, body := defBody st, scope := defScope st }
def dM (C m q : Str) (st : Stmt) : He.DefD := { at_ := (C, some m), name := m, qual := q, params := defArgs st, body := defBody st, scope := defScope st }
def dMs (C m q : Str) (st : Stmt) : He.DefD := { at_ := (C, some m), name := m, qual := q, params := defArgs st, body := defBody st, scope := defScope st, dfl := [.str ""] }
def errB (K : PySem.W.Frag) (C : Addr) : Bool := (match K.lookup C with
    | some ⟨.type t, _, .cls cd, sl⟩ => decide (t = "type") && (cd.hasDict && (!cd.hasDel && (match cd.mro, sl.toList with
      | .ref D :: bm, [_, _, _, _, some (.builtin n), _] => decide (D = C) && (decide (n = "ValueError.__new__") && PySem.HandSPX.refsVE bm)
      | _, _ => false)))
    | _ => false) && (He.eqO (PySem.W.findIn K (.ref C) "__setattr__") (some (some (.builtin "object.__setattr__"))) && (decide (PySem.W.subIn K (.ref C) (.type "BaseException") = some true) &&
  (decide (PySem.W.typeIn K (.ref C) = some (.type "type")) && (PySem.W.keepIn K (.ref C) && He.eqO (PySem.W.findIn K (.ref C) "word") (some none)))))
def excB (K : PySem.W.Frag) (C : Addr) : Bool := xfB K C && (He.eqO (PySem.W.findIn K (.ref C) "__class__") (some (some (.builtin "object.__class__"))) && (He.eqO (PySem.W.specialIn K (.builtin "object.__class__") "__get__") (some (some (.builtin "getset_descriptor.__get__"))) &&
  (decide (PySem.W.takesIn K (.builtin "object.__class__") = some true) && decide (PySem.W.mroIn K C (.type "object") = some true))))
def cfnB (K : PySem.W.Frag) (C : Addr) (m : Str) (f : Addr) : Bool := He.eqO (PySem.W.specialIn K (.ref C) "__getattribute__") (some (some (.builtin "type.__getattribute__"))) && (PySem.W.readsIn K C (.type "type") && ((match PySem.W.findCls K (.ref C) (.type "type") m with
    | some (.val (.ref g)) => decide (g = f)
    | _ => false) && PySem.W.keepIn K (.ref f)))
def bltB (K : PySem.W.Frag) (T m b : String) : Bool := match PySem.W.findCls K (.type T) (.type "type") m with
  | some (.val (.builtin g)) => decide (g = b)
  | _ => false
def lawAt : He.Defn := ("_law_deed", none)
def lawAt2 : He.Defn := ("law", none)
def kidsY (o : Obj) : List Addr := match o.data with
  | .dict es _ => es.toList.flatMap fun e => He.refV e.val
  | .func fd => He.refV fd.code ++ (He.refV fd.defaults ++ He.refV fd.kwdefaults)
  | .cls cd => [cd.ns]
  | _ => []
def downY (g : Addr → Option Obj) (as : List Addr) : List Addr := as.flatMap fun a => match g a with
  | some o => kidsY o
  | none => []
def reachY (g : Addr → Option Obj) (a1 : List Addr) : List Addr := a1 ++ (downY g a1 ++ (downY g (downY g a1) ++ downY g (downY g (downY g a1))))
def seenY (g : Addr → Option Obj) : PySem.W.Frag := He.frT g (cStatics :: mainGlobals :: reachY g (downY g [mainGlobals]))
def tabY1 (g : Addr → Option Obj) (K : PySem.W.Frag) : Bool := PySem.W.codeHdIn K (He.cT K lawAt).1 (He.cT K lawAt).2 && (g (He.cT K lawAt).2).any He.emptyTab
def tabY2 (g : Addr → Option Obj) (K : PySem.W.Frag) : Bool := PySem.W.codeHdIn K (He.cT K lawAt2).1 (He.cT K lawAt2).2 && (g (He.cT K lawAt2).2).any He.emptyTab
def tabY (g : Addr → Option Obj) (K : PySem.W.Frag) : Bool := tabY1 g K && (tabY2 g K && !(Nat.beq (He.cT K lawAt2).2 (He.cT K lawAt).2))
def PartEq {β : Type} (p : Program) (M : Nat) (f : PySem.W.SharedT → β) (v : World → β) : Prop := ∀ (w : World) (os : OsState), (endF (stepQ (denQ tabQ) p w) M p w os).map f = some (v w)
def SeenEq (r : PySem.W.OpenRow) (q : Program) (M : Nat) (loose : List Str) : Prop := ∀ (w : World) (os : OsState),
  (endF (stepQ (denQ tabQ) r.prog w) M r.prog w os).map (fun s => (looksF r.prog (boot_heap w.params) s.abs, seenQ q loose (importedModules r.prog.main.body) (fun s => PySem.W.xlAt q [] s && PySem.W.recOk r.toRowW.records s) s.abs)) = some (true, PySem.W.openGood q loose)
def okY (fas : List He.Fa) (fns : List He.DefD) (ex : PySem.W.Frag → List Bool) (g : Addr → Option Obj) (K : PySem.W.Frag) : Bool := ((fas.all fun f => f.ok K) && fns.all fun d => d.ok K) && ((ex K).all (fun b => b) && tabY g K)
def isRefV : Value → Bool
  | .ref _ => true
  | _ => false
def overB (l : List Value) : Bool := l.dropWhile isRefV == lkTail
def lexB (K : PySem.W.Frag) (C : Addr) : Bool := (match K.lookup C with
    | some ⟨.type t, _, .cls cd, sl⟩ => decide (t = "type") && (cd.hasDict && (!cd.hasDel && (match cd.mro, sl.toList with
      | .ref D :: bm, [_, _, _, _, some (.builtin n), _] => decide (D = C) && (decide (n = "LookupError.__new__") && overB bm)
      | _, _ => false)))
    | _ => false) && (He.eqO (PySem.W.findIn K (.ref C) "__setattr__") (some (some (.builtin "object.__setattr__"))) && (decide (PySem.W.subIn K (.ref C) (.type "BaseException") = some true) &&
  (decide (PySem.W.typeIn K (.ref C) = some (.type "type")) && (PySem.W.keepIn K (.ref C) && He.eqO (PySem.W.findIn K (.ref C) "word") (some none)))))
def fnL0 : List He.DefD := [dD "_law_open" s_open, dD "_law_pull" s_pull, dD "_law_any" s_any, dD "_law_like" s_like, dD "_law_fields" s_fields, dD "_law_why" s_why, dD "_law_mating" s_mating, dD "_law_odd" s_odd, dD "_law_deed" s_deed, dD "need_from" s_need_from, dD "need_within" s_need_within, dD "need_length" s_need_length, dD "need_mating" s_need_mating, dD "is_mating" s_is_mating, dD "law" s_law, dMs "FarError" "__init__" "FarError.__init__" s_farinit, dM "BadMating" "__init__" "BadMating.__init__" s_bginit, dM "Full" "__init__" "Full.__init__" s_fuinit, dMs "Missing" "__init__" "Missing.__init__" s_misinit, dM "NoMating" "__init__" "NoMating.__init__" s_nminit, dM "Road" "become" "Road.become" s_Ro_become, dM "Road" "next_number" "Road.next_number" s_Ro_next_number, dM "Road" "matings" "Road.matings" s_Ro_matings, dM "Road" "length" "Road.length" s_Ro_length, dM "Road" "mate_as" "Road.mate_as" s_Ro_mate_as, dM "Road" "strike" "Road.strike" s_Ro_strike, dM "Road" "__repr__" "Road.__repr__" s_Ro_repr, { at_ := ("Road", some "__init__"), name := "__init__", qual := "Road.__init__", params := defArgs s_Ro_init, body := defBody s_Ro_init, scope := defScope s_Ro_init, dfl := [.int 0], kwd := [] }, { at_ := ("Road", some "mate"), name := "mate", qual := "Road.mate", params := defArgs s_Ro_mate, body := defBody s_Ro_mate, scope := defScope s_Ro_mate, dfl := [], kwd := [("turned", .int 0)] }]
def fnL : List He.DefD := fnL0
def faL0 : List He.Fa := [.glo "_law_open", .glo "_law_pull", .glo "_law_any", .glo "_law_like", .glo "_law_fields", .glo "_law_why", .glo "_law_mating", .glo "_law_odd", .glo "_law_deed", .glo "need_from", .glo "need_within", .glo "need_length", .glo "need_mating", .glo "is_mating", .glo "law", .free "len", .free "list", .free "tuple", .free "bool", .free "int", .free "str", .free "isinstance", .free "all", .free "any", .free "range", .free "max", .free "min", .free "dict", .free "sorted", .free "ValueError"]
def faL1 : List He.Fa := [.glo "FarError", .glo "BadMating", .noat "BadMating" "mating", .glo "Full", .noat "Full" "most", .glo "Missing", .free "LookupError", .glo "NoMating", .noat "NoMating" "number", .glo "BadNumber", .glo "NoFamily", .glo "TooMuch", .glo "BadName", .glo "Taken", .glo "NoRoad", .glo "BadPlace", .glo "BadStretch", .glo "BadMove", .glo "BadMoves", .glo "BadText", .glo "BadBoard", .glo "BadCounts", .glo "BadSide", .glo "NoSide", .free "repr", .glo "Road", .cls "Road", .noat "Road" "extent", .noat "Road" "standing", .noat "Road" "kept"]
def faL2 : List He.Fa := [.noat "Road" "foldings", .int "FAR" 1000000000000000000, .int "MOST" 24]
def faL : List He.Fa := faL0 ++ faL1 ++ faL2
def exL0 (K : PySem.W.Frag) : List Bool := [cfnB K (He.ga K "FarError") "__init__" (He.ma K (He.ga K "FarError") "__init__"), bltB K "ValueError" "__init__" "ValueError.__init__", errB K (He.ga K "BadMating"), xfB K (He.ga K "BadMating"), excB K (He.ga K "BadMating"), decide (PySem.W.exmOne K (.ref (He.ga K "BadMating")) (.ref (He.ga K "FarError")) = some true), He.eqO (PySem.W.findIn K (.ref (He.ga K "BadMating")) "__init__") (some (some (.ref (He.ma K (He.ga K "BadMating") "__init__")))), decide (PySem.W.typeIn K (.ref (He.ma K (He.ga K "BadMating") "__init__")) = some (.type "function")), errB K (He.ga K "Full"), xfB K (He.ga K "Full"), excB K (He.ga K "Full"), decide (PySem.W.exmOne K (.ref (He.ga K "Full")) (.ref (He.ga K "FarError")) = some true), He.eqO (PySem.W.findIn K (.ref (He.ga K "Full")) "__init__") (some (some (.ref (He.ma K (He.ga K "Full") "__init__")))), decide (PySem.W.typeIn K (.ref (He.ma K (He.ga K "Full") "__init__")) = some (.type "function")), cfnB K (He.ga K "Missing") "__init__" (He.ma K (He.ga K "Missing") "__init__"), bltB K "LookupError" "__init__" "LookupError.__init__", lexB K (He.ga K "NoMating"), xfB K (He.ga K "NoMating"), excB K (He.ga K "NoMating"), decide (PySem.W.exmOne K (.ref (He.ga K "NoMating")) (.ref (He.ga K "FarError")) = some false), decide (PySem.W.exmOne K (.ref (He.ga K "NoMating")) (.ref (He.ga K "Missing")) = some true), He.eqO (PySem.W.findIn K (.ref (He.ga K "NoMating")) "__init__") (some (some (.ref (He.ma K (He.ga K "NoMating") "__init__")))), decide (PySem.W.typeIn K (.ref (He.ma K (He.ga K "NoMating") "__init__")) = some (.type "function")), PySem.W.makesIn K (He.ga K "Road"), PySem.W.keepIn K (.ref (He.ga K "Road")), He.eqO (PySem.W.findIn K (.ref (He.ga K "Road")) "become") (some (some (.ref (He.ma K (He.ga K "Road") "become")))), PySem.W.isFn K (.ref (He.ma K (He.ga K "Road") "become")), He.eqO (PySem.W.findIn K (.ref (He.ga K "Road")) "next_number") (some (some (.ref (He.ma K (He.ga K "Road") "next_number")))), PySem.W.isFn K (.ref (He.ma K (He.ga K "Road") "next_number")), He.eqO (PySem.W.findIn K (.ref (He.ga K "Road")) "matings") (some (some (.ref (He.ma K (He.ga K "Road") "matings"))))]
def exL1 (K : PySem.W.Frag) : List Bool := [PySem.W.isFn K (.ref (He.ma K (He.ga K "Road") "matings")), He.eqO (PySem.W.findIn K (.ref (He.ga K "Road")) "length") (some (some (.ref (He.ma K (He.ga K "Road") "length")))), PySem.W.isFn K (.ref (He.ma K (He.ga K "Road") "length")), He.eqO (PySem.W.findIn K (.ref (He.ga K "Road")) "mate_as") (some (some (.ref (He.ma K (He.ga K "Road") "mate_as")))), PySem.W.isFn K (.ref (He.ma K (He.ga K "Road") "mate_as")), He.eqO (PySem.W.findIn K (.ref (He.ga K "Road")) "strike") (some (some (.ref (He.ma K (He.ga K "Road") "strike")))), PySem.W.isFn K (.ref (He.ma K (He.ga K "Road") "strike")), He.eqO (PySem.W.findIn K (.ref (He.ga K "Road")) "__repr__") (some (some (.ref (He.ma K (He.ga K "Road") "__repr__")))), PySem.W.isFn K (.ref (He.ma K (He.ga K "Road") "__repr__")), He.eqO (PySem.W.findIn K (.ref (He.ga K "Road")) "__init__") (some (some (.ref (He.ma K (He.ga K "Road") "__init__")))), PySem.W.isFn K (.ref (He.ma K (He.ga K "Road") "__init__")), He.eqO (PySem.W.findIn K (.ref (He.ga K "Road")) "mate") (some (some (.ref (He.ma K (He.ga K "Road") "mate")))), PySem.W.isFn K (.ref (He.ma K (He.ga K "Road") "mate")), decide (PySem.W.subIn K (.ref (He.ga K "BadMating")) (.ref (He.ga K "BadMating")) = some true), decide (PySem.W.subIn K (.ref (He.ga K "BadMating")) (.ref (He.ga K "BadNumber")) = some false), PySem.W.isClsIn K (He.ga K "BadNumber"), decide (PySem.W.typeIn K (.ref (He.ga K "BadNumber")) = some (.type "type")), decide (PySem.W.subIn K (.ref (He.ga K "BadMating")) (.ref (He.ga K "NoMating")) = some false), PySem.W.isClsIn K (He.ga K "NoMating"), decide (PySem.W.typeIn K (.ref (He.ga K "NoMating")) = some (.type "type")), decide (PySem.W.subIn K (.ref (He.ga K "BadMating")) (.ref (He.ga K "NoFamily")) = some false), PySem.W.isClsIn K (He.ga K "NoFamily"), decide (PySem.W.typeIn K (.ref (He.ga K "NoFamily")) = some (.type "type")), decide (PySem.W.subIn K (.ref (He.ga K "BadMating")) (.ref (He.ga K "TooMuch")) = some false), PySem.W.isClsIn K (He.ga K "TooMuch"), decide (PySem.W.typeIn K (.ref (He.ga K "TooMuch")) = some (.type "type")), decide (PySem.W.subIn K (.ref (He.ga K "BadMating")) (.ref (He.ga K "BadName")) = some false), PySem.W.isClsIn K (He.ga K "BadName"), decide (PySem.W.typeIn K (.ref (He.ga K "BadName")) = some (.type "type")), decide (PySem.W.subIn K (.ref (He.ga K "BadMating")) (.ref (He.ga K "Taken")) = some false)]
def exL2 (K : PySem.W.Frag) : List Bool := [PySem.W.isClsIn K (He.ga K "Taken"), decide (PySem.W.typeIn K (.ref (He.ga K "Taken")) = some (.type "type")), decide (PySem.W.subIn K (.ref (He.ga K "BadMating")) (.ref (He.ga K "NoRoad")) = some false), PySem.W.isClsIn K (He.ga K "NoRoad"), decide (PySem.W.typeIn K (.ref (He.ga K "NoRoad")) = some (.type "type")), decide (PySem.W.subIn K (.ref (He.ga K "Full")) (.ref (He.ga K "Full")) = some true), decide (PySem.W.subIn K (.ref (He.ga K "Full")) (.ref (He.ga K "BadNumber")) = some false), decide (PySem.W.subIn K (.ref (He.ga K "Full")) (.ref (He.ga K "NoMating")) = some false), decide (PySem.W.subIn K (.ref (He.ga K "Full")) (.ref (He.ga K "NoFamily")) = some false), decide (PySem.W.subIn K (.ref (He.ga K "Full")) (.ref (He.ga K "TooMuch")) = some false), decide (PySem.W.subIn K (.ref (He.ga K "Full")) (.ref (He.ga K "BadName")) = some false), decide (PySem.W.subIn K (.ref (He.ga K "Full")) (.ref (He.ga K "Taken")) = some false), decide (PySem.W.subIn K (.ref (He.ga K "Full")) (.ref (He.ga K "NoRoad")) = some false), decide (PySem.W.subIn K (.ref (He.ga K "Full")) (.ref (He.ga K "BadMating")) = some false), PySem.W.isClsIn K (He.ga K "BadMating"), decide (PySem.W.typeIn K (.ref (He.ga K "BadMating")) = some (.type "type")), decide (PySem.W.subIn K (.ref (He.ga K "Full")) (.ref (He.ga K "BadPlace")) = some false), PySem.W.isClsIn K (He.ga K "BadPlace"), decide (PySem.W.typeIn K (.ref (He.ga K "BadPlace")) = some (.type "type")), decide (PySem.W.subIn K (.ref (He.ga K "Full")) (.ref (He.ga K "BadStretch")) = some false), PySem.W.isClsIn K (He.ga K "BadStretch"), decide (PySem.W.typeIn K (.ref (He.ga K "BadStretch")) = some (.type "type")), decide (PySem.W.subIn K (.ref (He.ga K "Full")) (.ref (He.ga K "BadMove")) = some false), PySem.W.isClsIn K (He.ga K "BadMove"), decide (PySem.W.typeIn K (.ref (He.ga K "BadMove")) = some (.type "type")), decide (PySem.W.subIn K (.ref (He.ga K "Full")) (.ref (He.ga K "BadMoves")) = some false), PySem.W.isClsIn K (He.ga K "BadMoves"), decide (PySem.W.typeIn K (.ref (He.ga K "BadMoves")) = some (.type "type")), decide (PySem.W.subIn K (.ref (He.ga K "Full")) (.ref (He.ga K "BadText")) = some false), PySem.W.isClsIn K (He.ga K "BadText")]
def exL3 (K : PySem.W.Frag) : List Bool := [decide (PySem.W.typeIn K (.ref (He.ga K "BadText")) = some (.type "type")), decide (PySem.W.subIn K (.ref (He.ga K "Full")) (.ref (He.ga K "BadBoard")) = some false), PySem.W.isClsIn K (He.ga K "BadBoard"), decide (PySem.W.typeIn K (.ref (He.ga K "BadBoard")) = some (.type "type")), decide (PySem.W.subIn K (.ref (He.ga K "Full")) (.ref (He.ga K "BadCounts")) = some false), PySem.W.isClsIn K (He.ga K "BadCounts"), decide (PySem.W.typeIn K (.ref (He.ga K "BadCounts")) = some (.type "type")), decide (PySem.W.subIn K (.ref (He.ga K "Full")) (.ref (He.ga K "BadSide")) = some false), PySem.W.isClsIn K (He.ga K "BadSide"), decide (PySem.W.typeIn K (.ref (He.ga K "BadSide")) = some (.type "type")), decide (PySem.W.subIn K (.ref (He.ga K "Full")) (.ref (He.ga K "NoSide")) = some false), PySem.W.isClsIn K (He.ga K "NoSide"), decide (PySem.W.typeIn K (.ref (He.ga K "NoSide")) = some (.type "type")), decide (PySem.W.subIn K (.ref (He.ga K "NoMating")) (.ref (He.ga K "NoMating")) = some true), decide (PySem.W.subIn K (.ref (He.ga K "NoMating")) (.ref (He.ga K "BadNumber")) = some false)]
def exL (K : PySem.W.Frag) : List Bool := exL0 K ++ exL1 K ++ exL2 K ++ exL3 K
def looseL0 : List Str := ["_wall", "FarError", "BadNumber", "BadName", "BadMating", "BadPlace", "BadStretch", "BadMove", "BadMoves", "BadBoard", "BadCounts", "BadSide", "TooMuch", "BadText", "Taken", "Full", "Missing", "NoMating", "NoRoad", "NoSide", "NoFamily", "NothingLeft", "FAR", "MOST", "need_from", "need_within", "need_length", "is_mating", "need_mating", "need_place"]
def looseL1 : List Str := ["common", "normal", "back", "part", "holds", "moved", "clipped", "need_road", "step_of", "end_of", "is_leader", "is_repeat", "halved", "merged", "led_back", "Front", "fault_of", "fold_down", "Folder", "Shares", "led_by", "wound", "led_pieces", "settled", "last_up_to", "joined", "first_ranks", "Folding", "Road", "_law_open"]
def looseL2 : List Str := ["_law_pull", "_law_any", "_law_like", "_law_fields", "_law_why", "_law_mating", "_law_odd", "_law_deed"]
def looseL : List Str := looseL0 ++ looseL1 ++ looseL2
abbrev RowL : PySem.W.OpenRow := PySem.W.OpenLaw.row PySem.Challenge.rw_farmates_k28_matings_told_and_struck
theorem run1 : SeenEq RowL (PySem.W.view RowL.prog [76]) 40000 looseL := by
  intro w os
  kernel_rfl
theorem run2 : PartEq RowL.prog 40000 (fun s => okY faL fnL exL (HandSHeadRun.getT s) (seenY (HandSHeadRun.getT s))) fun _ => true := by
  intro w os
  kernel_rfl
theorem run4 : PartEq RowL.prog 40000 (fun s => fnL.map fun d => He.fnW (seenY (HandSHeadRun.getT s)) d.at_) fun _ => fnL.map He.DefD.val := by
  intro w os
  kernel_rfl
end
/-! ### what stands behind the top -/
structure DefAt (K : PySem.W.Frag) (mg : Str → Option Value) (x : Str) (st : Stmt) (ps : List Str) (f : Addr) (fd : FuncData) : Prop where
  F : Fun K x x st f fd
  b : Binds K fd ps []
  g : mg x = some (.ref f)
structure Bn (mg : Str → Option Value) : Prop where
  len : mg "len" = none
  list : mg "list" = none
  tuple : mg "tuple" = none
  bool : mg "bool" = none
  int : mg "int" = none
  str : mg "str" = none
  isinstance : mg "isinstance" = none
  all : mg "all" = none
  any : mg "any" = none
  range : mg "range" = none
  max : mg "max" = none
  min : mg "min" = none
  dict : mg "dict" = none
  sorted : mg "sorted" = none
/-! ### heaps -/
theorem same_upd {H : Hp} {p : Addr} {o : HO} (h : H p = none) : Same H (upd H p o) := fun b x e => by
  rw [upd_ne (ne_of_none e h)]
  exact e
/-- all but d stands as it stood -/
def Keep (d : Addr) (H H' : Hp) : Prop := ∀ b o, b ≠ d → H b = some o → H' b = some o
theorem Keep.refl (d : Addr) (H : Hp) : Keep d H H := fun _ _ _ h => h
theorem Keep.trans {d : Addr} {H H1 H2 : Hp} (a : Keep d H H1) (b : Keep d H1 H2) : Keep d H H2 := fun c o n h => b c o n (a c o n h)
theorem Keep.upd {d : Addr} {H : Hp} {o : HO} : Keep d H (upd H d o) := fun b x n h => by
  rw [upd_ne n]
  exact h
theorem keepS {d : Addr} {H H' : Hp} (a : Same H H') : Keep d H H' := fun b o _ h => a b o h
/-! ### the drawing -/
structure Drawn (H : Hp) (d l : Addr) (ns : List Int) (i z s : Int) : Prop where
  at_d : H d = some (.lst [.ref l, .int i, .int z, .int s])
  at_l : H l = some (.lst (ns.map V.int))
  len : ns.length ≤ 63
  i0 : 0 ≤ i
  z0 : 0 ≤ z
  s0 : 0 ≤ s
  s1 : s < 2147483629
def Draw (H : Hp) (d l : Addr) : Prop := ∃ ns i z s, Drawn H d l ns i z s
theorem Drawn.ne {H : Hp} {d l : Addr} {ns : List Int} {i z s : Int} (h : Drawn H d l ns i z s) : l ≠ d := by
  refine ne_of h.at_l h.at_d fun e => ?_
  cases ns with
  | nil => cases e
  | cons x r => cases e
theorem Drawn.same {H H' : Hp} {d l : Addr} {ns : List Int} {i z s : Int} (h : Drawn H d l ns i z s) (e : Same H H') : Drawn H' d l ns i z s := { h with at_d := e _ _ h.at_d, at_l := e _ _ h.at_l }
theorem Draw.same {H H' : Hp} {d l : Addr} (h : Draw H d l) (e : Same H H') : Draw H' d l := by
  obtain ⟨ns, i, z, s, h⟩ := h
  exact ⟨ns, i, z, s, h.same e⟩
/-- the drawing list stored anew -/
theorem Drawn.put {H : Hp} {d l : Addr} {ns : List Int} {i z s i' z' s' : Int} (h : Drawn H d l ns i z s) (hi : 0 ≤ i') (hz : 0 ≤ z') (h0 : 0 ≤ s') (h1 : s' < 2147483629) :
    Drawn (upd H d (.lst [.ref l, .int i', .int z', .int s'])) d l ns i' z' s' :=
  ⟨upd_same, (by rw [upd_ne h.ne]; exact h.at_l), h.len, hi, hz, h0, h1⟩
def spOpen (K : PySem.W.Frag) : Sp := fun vs H Q _ => ∃ (a : Addr) (ns : List Int), vs = [.ref a] ∧ SqL K H a (ns.map V.int) ∧ ns.length ≤ 63 ∧
  ∀ H' d l, Same H H' → H d = none → H l = none → Draw H' d l → Q (.ref d) H'
def spPull : Sp := fun vs H Q _ => ∃ (d l : Addr) (c : Int), vs = [.ref d, .int c] ∧ Draw H d l ∧ 1 ≤ c ∧ c < 2 ^ 100 ∧
  ∀ (v : Int) (H' : Hp), 0 ≤ v → v < c → Draw H' d l → Keep d H H' → Q (.int v) H'
/-! ### data that is compared, at most n deep -/
mutual
inductive Rp (H : Hp) : Nat → V → PyData → Prop
  | non (n : Nat) : Rp H n .non .none
  | bl (n : Nat) (b : Bool) : Rp H n (.bl b) (.bool b)
  | int (n : Nat) (i : Int) : Rp H n (.int i) (.int i)
  | str (n : Nat) (x : Str) : Rp H n (.str x) (.str x)
  | lst {n : Nat} {a : Addr} {xs : List V} {ds : List PyData} : H a = some (.lst xs) → xs.length ≤ 100000 → RpAll H n xs ds → Rp H (n + 1) (.ref a) (.list ds)
  | tup {n : Nat} {a : Addr} {xs : List V} {ds : List PyData} : H a = some (.tup xs) → xs.length ≤ 100000 → RpAll H n xs ds → Rp H (n + 1) (.ref a) (.tuple ds)
inductive RpAll (H : Hp) : Nat → List V → List PyData → Prop
  | nil (n : Nat) : RpAll H n [] []
  | cons {n : Nat} {v : V} {vs : List V} {d : PyData} {ds : List PyData} : Rp H n v d → RpAll H n vs ds → RpAll H n (v :: vs) (d :: ds)
end
mutual
theorem Rp.same {H H' : Hp} (e : Same H H') : ∀ {n : Nat} {v : V} {d : PyData}, Rp H n v d → Rp H' n v d
  | _, _, _, .non n => .non n
  | _, _, _, .bl n b => .bl n b
  | _, _, _, .int n i => .int n i
  | _, _, _, .str n x => .str n x
  | _, _, _, .lst h l r => .lst (e _ _ h) l (RpAll.same e r)
  | _, _, _, .tup h l r => .tup (e _ _ h) l (RpAll.same e r)
theorem RpAll.same {H H' : Hp} (e : Same H H') : ∀ {n : Nat} {vs : List V} {ds : List PyData}, RpAll H n vs ds → RpAll H' n vs ds
  | _, _, _, .nil n => .nil n
  | _, _, _, .cons h r => .cons (Rp.same e h) (RpAll.same e r)
end
theorem RpAll.length {H : Hp} : ∀ {n : Nat} {vs : List V} {ds : List PyData}, RpAll H n vs ds → vs.length = ds.length
  | _, _, _, .nil _ => rfl
  | _, _, _, .cons _ r => congrArg (· + 1) (RpAll.length r)
theorem RpAll.get {H : Hp} : ∀ {n : Nat} {vs : List V} {ds : List PyData}, RpAll H n vs ds → ∀ (i : Nat), i < ds.length → ∃ v d, vs[i]? = some v ∧ ds[i]? = some d ∧ Rp H n v d
  | _, _, _, .nil _, i, h => absurd h (Nat.not_lt_zero i)
  | _, _, _, .cons (v := v) (d := d) h r, 0, _ => ⟨v, d, rfl, rfl, h⟩
  | _, _, _, .cons h r, i + 1, hi => by
    obtain ⟨v, d, a, b, c⟩ := RpAll.get r i (Nat.lt_of_succ_lt_succ hi)
    exact ⟨v, d, a, b, c⟩
def spLike (n : Nat) : Sp := fun vs H Q _ => ∃ (a b : V) (d : PyData), vs = [a, b] ∧ Rp H n a d ∧ Rp H n b d ∧ ∀ H', Same H H' → Q (.bl true) H'
def spBot : Sp := fun _ _ _ _ => False
section
variable {P : Program} {w : World} {K : PySem.W.Frag} {mg : Str → Option Value} {base : Heap}
theorem ok_bot {f : Addr} {fd : FuncData} {ps : List Str} : FnOk P w K mg base CX0 0 f fd ps spBot := ⟨fun _ _ _ _ h => h.elim, fun _ _ _ _ _ _ _ _ _ _ _ _ _ h => h.elim⟩
end
theorem Draw.ne_new {H : Hp} {d l p : Addr} (h : Draw H d l) (n : H p = none) : p ≠ d := by
  obtain ⟨ns, i, z, s, h⟩ := h
  exact (ne_of_none h.at_d n).symm
theorem Keep.of {d : Addr} {H H' : Hp} (k : Keep d H H') {b : Addr} {o : HO} (h : H b = some o) (n : b ≠ d) : H' b = some o := k b o n h
theorem sz_lt {n : Nat} (h : n < 100000) : n < sizeLine := Nat.lt_of_lt_of_le h (by decide)

/-! ### _law_open -/
abbrev N_open : List Str := ["_law_script", "_law_seed", "_law_cell"]
abbrev P_open : List Str := ["_law_script"]
theorem sc_open : FnScope N_open P_open (defScope s_open) := ⟨rfl, rfl, rfl, by decide +kernel, rfl, by decide +kernel, by decide +kernel⟩
theorem cut63 (xs : List V) (h : xs.length ≤ 63) : cutV xs none (some 63) = xs := by
  unfold cutV
  rw [show HT.sIx xs.length xs.length (some 63) = min 63 xs.length from HT.sIx_nat xs.length xs.length 63, HT.sIx_none, Nat.min_eq_right h]
  show (xs.drop 0).take (xs.length - 0) = xs
  rw [List.drop_zero, Nat.sub_zero, List.take_length]
section
variable {P : Program} {w : World} {K : PySem.W.Frag} {mg : Str → Option Value} {base : Heap}
theorem ok_open {f : Addr} {fd : FuncData} (D : DefAt K mg "_law_open" s_open P_open f fd) (B : Bn mg) : FnOk P w K mg base CX0 1 f fd P_open (spOpen K) := by
  refine D.F.ok sc_open (fun vs H Q E h => ?_) (fun cdv A outer s H vs Q E hr h => ?_)
  · obtain ⟨a, ns, rfl, _⟩ := h
    rfl
  · obtain ⟨a, ns, rfl, hS, hlen, q⟩ := h
    refine ⟨_, (pss_cons (ps_set (i := 1) sc_open.nd rfl (.inl rfl) pe_int)
      (pss_cons (ps_for PassesOwn.never rfl (pi_list (pe_slice sl_list (pv 0) po_none (po_some pe_int))) (pg_name (i := 2) sc_open.nd rfl (.inl rfl)) (pss_one (ps_set (i := 1) sc_open.nd rfl (.inl rfl) (pe_op op_mod (pe_op op_add (pe_op op_add (pe_op op_mul (pv 1) pe_int) (pe_op op_mod (pv 2) pe_int)) pe_int) pe_int))))
      (pss_one (ps_ret (pe_lst (pa_cons (pe_callTy call_list_of (by rfl) B.list (by decide +kernel) (pa_cons (pe_slice sl_list (pv 0) po_none (po_some pe_int)) pa_nil)) (pa_cons pe_int (pa_cons pe_int (pa_cons (pv 1) pa_nil))))))))), ?_⟩
    refine ⟨.ref a, rfl, 63, rfl, a, ns.map V.int, rfl, hS, fun c nc => ?_⟩
    rw [cut63 _ (by rw [List.length_map]; exact hlen)]
    have s1 : Same H (upd H c (.lst (ns.map V.int))) := same_upd nc
    refine ⟨c, rfl, ⟨_, SqL.of upd_same⟩, for_list (K := K) (a := c) (xs := ns.map V.int) (fun i σ H2 => ∃ (sd : Int) (v : Option V), σ = [some (.ref a), some (.int sd), v] ∧ H2 = upd H c (.lst (ns.map V.int)) ∧ 0 ≤ sd ∧ sd < 2147483629)
      ⟨9134, none, rfl, rfl, by decide, by decide⟩ (fun i σ H2 _ ⟨_, _, _, e2, _⟩ => e2 ▸ SqL.of upd_same) ?_ ?_⟩
    · rintro i y σ H2 hi ⟨sd, v, rfl, rfl, h0, h1⟩
      obtain ⟨z, rfl⟩ : ∃ z, y = V.int z := by
        rw [List.getElem?_map] at hi
        cases e : ns[i]? with
        | none =>
          rw [e] at hi
          cases hi
        | some z =>
          rw [e] at hi
          exact ⟨z, (Option.some.inj hi).symm⟩
      refine ⟨_, rfl, _, _, rfl, rfl, .inl ⟨by omega, by omega⟩, _, rfl, _, _, rfl, rfl, (by show (0 : Int) < 2147483587; decide), _, _, rfl, rfl, _, _, rfl, rfl, _, _, rfl, rfl, (by show (0 : Int) < 2147483629; decide), ?_⟩
      exact ⟨_, _, rfl, rfl, Int.emod_nonneg _ (by decide), Int.emod_lt_of_pos _ (by decide)⟩
    · rintro σ H2 ⟨sd, v, rfl, rfl, h0, h1⟩
      refine ⟨.ref a, rfl, 63, rfl, a, ns.map V.int, rfl, s1.seq hS, fun p np => ?_⟩
      rw [cut63 _ (by rw [List.length_map]; exact hlen)]
      have s2 : Same H (upd (upd H c (.lst (ns.map V.int))) p (.lst (ns.map V.int))) := s1.trans (same_upd np)
      refine ⟨p, _, rfl, .inl (SqL.of upd_same), fun l nl => ?_⟩
      refine ⟨_, rfl, by show 4 ≤ sizeLine; decide, fun d nd => ?_⟩
      have s3 : Same H (upd (upd (upd H c (.lst (ns.map V.int))) p (.lst (ns.map V.int))) l (.lst (ns.map V.int))) := s2.trans (same_upd nl)
      refine q _ d l (s3.trans (same_upd nd)) (s3.free nd) (s2.free nl) ⟨ns, 0, 0, sd, upd_same, ?_, hlen, by decide, by decide, h0, h1⟩
      have nld : l ≠ d := fun e => by
        rw [← e, upd_same] at nd
        cases nd
      rw [upd_ne nld, upd_same]
end

/-! ### _law_pull -/
abbrev N_pull : List Str := ["_law_draw", "_law_cap", "_law_cell", "_law_got", "_law_seed"]
abbrev P_pull : List Str := ["_law_draw", "_law_cap"]
theorem sc_pull : FnScope N_pull P_pull (defScope s_pull) := ⟨rfl, rfl, rfl, by decide +kernel, rfl, by decide +kernel, by decide +kernel⟩
section
variable {P : Program} {w : World} {K : PySem.W.Frag} {mg : Str → Option Value} {base : Heap}
theorem ok_pull {f : Addr} {fd : FuncData} (D : DefAt K mg "_law_pull" s_pull P_pull f fd) (B : Bn mg) : FnOk P w K mg base CX0 1 f fd P_pull spPull := by
  refine D.F.ok sc_pull (fun vs H Q E h => ?_) (fun cdv A outer s H vs Q E hr h => ?_)
  · obtain ⟨d, l, c, rfl, _⟩ := h
    rfl
  · obtain ⟨d, l, c, rfl, hD, hc1, hc2, q⟩ := h
    refine ⟨_, (C8.pss_cut (ps_if (PW.pt (pw_and (pt_cmpR op_lt (pe_ix ix_list (pv 0) pe_int (fun _ _ => rfl)) (pv 1) (nomark _)) (pw_and1 (pt_cmpR op_lt (pe_ix ix_list (pv 0) pe_int (fun _ _ => rfl)) (pe_callB call_len_seq (by rfl) B.len (by decide +kernel) (pa_cons (pe_ix ix_list (pv 0) pe_int (fun _ _ => rfl)) pa_nil)) (nomark _))))) (pss_cons (ps_set (i := 2) sc_pull.nd rfl (.inl rfl) (pe_ix ix_list (pe_ix ix_list (pv 0) pe_int (fun _ _ => rfl)) (pe_ix ix_list (pv 0) pe_int (fun _ _ => rfl)) (fun _ _ => rfl)))
      (pss_cons (ps_asg (pe_op op_add (pe_ix ix_list (pv 0) pe_int (fun _ _ => rfl)) pe_int) (pg_sub (pv 0) pe_int set_list))
      (pss_cons (ps_asg pe_int (pg_sub (pv 0) pe_int set_list))
      (pss_one (ps_if (pt_cmpR op_ge (pv 2) (pe_op op_pow pe_int pe_int) (nomark _)) (pss_one (ps_asg (pv 2) (pg_sub (pv 0) pe_int set_list))) (pss_one (ps_asg (pe_op op_mod (pe_op op_add (pe_op op_add (pe_op op_mul (pe_ix ix_list (pv 0) pe_int (fun _ _ => rfl)) pe_int) (pe_op op_mul (pe_op op_mod (pv 2) pe_int) pe_int)) pe_int) pe_int) (pg_sub (pv 0) pe_int set_list)))))))) pss_nil)
      (C8.pss_cut (ps_if (pt_cmpR op_ge (pe_ix ix_list (pv 0) pe_int (fun _ _ => rfl)) (pv 1) (nomark _)) (pss_cons (ps_set (i := 3) sc_pull.nd rfl (.inl rfl) (pe_op op_mod (pe_ix ix_list (pv 0) pe_int (fun _ _ => rfl)) (pv 1)))
      (pss_cons (ps_asg (pe_op op_fdivW (pe_ix ix_list (pv 0) pe_int (fun _ _ => rfl)) (pv 1)) (pg_sub (pv 0) pe_int set_list))
      (pss_one (ps_ret (pv 3))))) pss_nil)
      (pss_cons (ps_set (i := 4) sc_pull.nd rfl (.inl rfl) (pe_ix ix_list (pv 0) pe_int (fun _ _ => rfl)))
      (pss_cons (ps_asg (pe_op op_mod (pe_op op_add (pe_op op_add (pe_op op_mul (pe_op op_mod (pe_op op_mul (pv 4) (pv 4)) pe_int) pe_int) (pe_op op_mul (pv 4) pe_int)) pe_int) pe_int) (pg_sub (pv 0) pe_int set_list))
      (pss_cons (ps_if (pt_cmpR op_lt (pv 1) (pe_op op_pow pe_int pe_int) (nomark _)) (pss_one (ps_ret (pe_op op_mod (pe_op op_add (pe_op op_fdivW (pe_ix ix_list (pv 0) pe_int (fun _ _ => rfl)) pe_int) (pe_op op_mul (pe_op op_mod (pe_ix ix_list (pv 0) pe_int (fun _ _ => rfl)) pe_int) pe_int)) (pv 1)))) pss_nil)
      (pss_one (ps_ret (pe_op op_mod (pe_op op_add (pe_op op_fdivW (pe_op op_pow (pe_ix ix_list (pv 0) pe_int (fun _ _ => rfl)) pe_int) pe_int) (pe_ix ix_list (pv 0) pe_int (fun _ _ => rfl))) (pv 1))))))))), ?_⟩
    have hpow : CPow 10 18 := ⟨by decide, by decide, by decide⟩
    have hpow8 : CPow 10 8 := ⟨by decide, by decide, by decide⟩
    have ix0 : ∀ {a b e g : V}, atI [a, b, e, g] 0 = some a := fun {_ _ _ _} => atI_nat (j := 0) rfl
    have ix1 : ∀ {a b e g : V}, atI [a, b, e, g] 1 = some b := fun {_ _ _ _} => atI_nat (j := 1) rfl
    have ix2 : ∀ {a b e g : V}, atI [a, b, e, g] 2 = some e := fun {_ _ _ _} => atI_nat (j := 2) rfl
    have ix3 : ∀ {a b e g : V}, atI [a, b, e, g] 3 = some g := fun {_ _ _ _} => atI_nat (j := 3) rfl
    -- the first if
    refine ⟨fun σ H1 => ∃ y : Option V, σ = [some (.ref d), some (.int c), y, none, none] ∧ Draw H1 d l ∧ Keep d H H1, ?_, ?_⟩
    · obtain ⟨ns, i, z, sd, hW⟩ := hD
      refine ⟨.ref d, rfl, d, _, 2, .int z, rfl, rfl, SqL.of hW.at_d, ix2, .int c, rfl, z, c, rfl, rfl, _, rfl, ?_⟩
      refine ite2 (fun _ => ?_) (fun _ => iteF ⟨none, rfl, ⟨ns, i, z, sd, hW⟩, Keep.refl _ _⟩)
      refine ⟨.ref d, rfl, d, _, 1, .int i, rfl, rfl, SqL.of hW.at_d, ix1, .ref d, rfl, d, _, 0, .ref l, rfl, rfl, SqL.of hW.at_d, ix0, l, _, rfl, .inl (SqL.of hW.at_l), i, _, rfl, rfl, _, rfl, ?_⟩
      refine ite2 (fun hb => ?_) (fun _ => ⟨none, rfl, ⟨ns, i, z, sd, hW⟩, Keep.refl _ _⟩)
      have hil : i < ((ns.map V.int).length : Int) := of_decide_eq_true hb
      rw [List.length_map] at hil
      have hi0 := hW.i0
      obtain ⟨j, rfl⟩ : ∃ j : Nat, i = (j : Int) := ⟨i.toNat, by omega⟩
      have hj : j < ns.length := by omega
      have gj : (ns.map V.int)[j]? = some (.int ns[j]) := by
        rw [List.getElem?_map, List.getElem?_eq_getElem hj]
        rfl
      -- cell = draw[0][draw[1]]
      refine ⟨.ref d, rfl, d, _, 0, .ref l, rfl, rfl, SqL.of hW.at_d, ix0, .ref d, rfl, d, _, 1, .int (j : Int), rfl, rfl, SqL.of hW.at_d, ix1, l, _, (j : Int), .int ns[j], rfl, rfl, SqL.of hW.at_l, atI_nat gj, ?_⟩
      -- draw[1] = draw[1] + 1
      refine ⟨.ref d, rfl, d, _, 1, .int (j : Int), rfl, rfl, SqL.of hW.at_d, ix1, _, _, rfl, rfl, .ref d, rfl, d, _, 1, 1, rfl, rfl, hW.at_d, rfl, ?_⟩
      have W1 := hW.put (i' := (j : Int) + 1) (z' := z) (s' := sd) (by omega) hW.z0 hW.s0 hW.s1
      -- draw[2] = 0
      refine ⟨.ref d, rfl, d, _, 2, 2, rfl, rfl, upd_same, rfl, ?_⟩
      have W2 := W1.put (i' := (j : Int) + 1) (z' := 0) (s' := sd) (by omega) (by decide) hW.s0 hW.s1
      -- if cell >= 10 ** 18
      refine ⟨_, rfl, _, _, rfl, rfl, hpow, _, _, rfl, rfl, _, rfl, ?_⟩
      refine ite2 (fun hg => ?_) (fun _ => ?_)
      · have hg' : (10 : Int) ^ 18 ≤ ns[j] := of_decide_eq_true hg
        refine ⟨_, rfl, .ref d, rfl, d, _, 2, 2, rfl, rfl, upd_same, rfl, ?_⟩
        exact ⟨_, rfl, ⟨_, _, _, _, W2.put (i' := (j : Int) + 1) (z' := ns[j]) (s' := sd) (by omega) (by omega) hW.s0 hW.s1⟩, (Keep.upd.trans Keep.upd).trans Keep.upd⟩
      · refine ⟨.ref d, rfl, d, _, 3, .int sd, rfl, rfl, SqL.of upd_same, ix3, _, _, rfl, rfl, .inr ⟨by decide, by decide⟩, _, rfl, _, _, rfl, rfl, (by show (0 : Int) < 2147483647; decide), _, _, rfl, rfl, .inr ⟨by decide, by decide⟩, _, _, rfl, rfl, _, _, rfl, rfl, _, _, rfl, rfl, (by show (0 : Int) < 2147483629; decide), ?_⟩
        refine ⟨.ref d, rfl, d, _, 3, 3, rfl, rfl, upd_same, rfl, ?_⟩
        exact ⟨_, rfl, ⟨_, _, _, _, W2.put (i' := (j : Int) + 1) (z' := 0) (s' := _) (by omega) (by decide) (Int.emod_nonneg _ (by decide)) (Int.emod_lt_of_pos _ (by decide))⟩, (Keep.upd.trans Keep.upd).trans Keep.upd⟩
    · rintro σ H1 ⟨y, rfl, ⟨ns, i, z, sd, hW⟩, kp⟩
      -- the second if
      refine ⟨fun σ H2 => H2 = H1 ∧ ∃ y' : Option V, σ = [some (.ref d), some (.int c), y, y', none], ?_, ?_⟩
      · refine ⟨.ref d, rfl, d, _, 2, .int z, rfl, rfl, SqL.of hW.at_d, ix2, .int c, rfl, z, c, rfl, rfl, _, rfl, ?_⟩
        refine ite2 (fun hg => ?_) (fun _ => ⟨rfl, none, rfl⟩)
        refine ⟨.ref d, rfl, d, _, 2, .int z, rfl, rfl, SqL.of hW.at_d, ix2, .int c, rfl, _, _, rfl, rfl, (by omega), ?_⟩
        have hwd : CDivW z c := wide_div (b := 100) (by omega) (by omega) (by decide) (by decide)
        refine ⟨.ref d, rfl, d, _, 2, .int z, rfl, rfl, SqL.of hW.at_d, ix2, .int c, rfl, _, _, rfl, rfl, hwd, .ref d, rfl, d, _, 2, 2, rfl, rfl, hW.at_d, rfl, _, rfl, ?_⟩
        exact q _ _ (Int.emod_nonneg _ (by omega)) (Int.emod_lt_of_pos _ (by omega)) ⟨_, _, _, _, hW.put (i' := i) (z' := z / c) (s' := sd) hW.i0 (Int.ediv_nonneg hW.z0 (by omega)) hW.s0 hW.s1⟩ (kp.trans Keep.upd)
      · rintro σ H2 ⟨rfl, y', rfl⟩
        have hs0 := hW.s0
        have hs1 := hW.s1
        have hm : CMul sd sd := .inl ⟨by omega, by omega⟩
        -- seed = draw[3]; draw[3] = ..
        refine ⟨.ref d, rfl, d, _, 3, .int sd, rfl, rfl, SqL.of hW.at_d, ix3, ?_⟩
        refine ⟨_, rfl, _, rfl, _, _, rfl, rfl, hm, _, _, rfl, rfl, (by show (0 : Int) < 2147483647; decide), _, _, rfl, rfl, .inr ⟨by decide, by decide⟩, _, rfl, _, _, rfl, rfl, .inr ⟨by decide, by decide⟩, _, _, rfl, rfl, _, _, rfl, rfl, _, _, rfl, rfl, (by show (0 : Int) < 2147483629; decide), ?_⟩
        refine ⟨.ref d, rfl, d, _, 3, 3, rfl, rfl, hW.at_d, rfl, ?_⟩
        have n0 : 0 ≤ (sd * sd % 2147483647 * 3 + sd * 45991 + 746773) % 2147483629 := Int.emod_nonneg _ (by decide)
        have n1 : (sd * sd % 2147483647 * 3 + sd * 45991 + 746773) % 2147483629 < 2147483629 := Int.emod_lt_of_pos _ (by decide)
        have W1 := hW.put (i' := i) (z' := z) (s' := (sd * sd % 2147483647 * 3 + sd * 45991 + 746773) % 2147483629) hW.i0 hW.z0 n0 n1
        have na : ((sd * sd % 2147483647 * 3 + sd * 45991 + 746773) % 2147483629).natAbs < 2 ^ 64 := by omega
        -- if cap < 10 ** 8
        refine ⟨_, rfl, _, _, rfl, rfl, hpow8, _, _, rfl, rfl, _, rfl, ?_⟩
        refine ite2 (fun _ => ?_) (fun _ => ?_)
        · refine ⟨.ref d, rfl, d, _, 3, .int _, rfl, rfl, SqL.of W1.at_d, ix3, _, _, rfl, rfl, wide_div (b := 10) (by decide) (by decide) (by decide) (by decide), .ref d, rfl, d, _, 3, .int _, rfl, rfl, SqL.of W1.at_d, ix3, _, _, rfl, rfl, (by show (0 : Int) < 6151; decide), _, _, rfl, rfl, .inr ⟨by decide, by decide⟩, _, _, rfl, rfl, .int c, rfl, _, _, rfl, rfl, (by omega), ?_⟩
          exact q _ _ (Int.emod_nonneg _ (by omega)) (Int.emod_lt_of_pos _ (by omega)) ⟨_, _, _, _, W1⟩ (kp.trans Keep.upd)
        · refine ⟨.ref d, rfl, d, _, 3, .int _, rfl, rfl, SqL.of W1.at_d, ix3, _, _, rfl, rfl, ⟨by decide, by decide, na⟩, _, _, rfl, rfl, wide_div (b := 10) (by decide) (by decide) (by decide) (by decide), .ref d, rfl, d, _, 3, .int _, rfl, rfl, SqL.of W1.at_d, ix3, _, _, rfl, rfl, .int c, rfl, _, _, rfl, rfl, (by omega), ?_⟩
          exact q _ _ (Int.emod_nonneg _ (by omega)) (Int.emod_lt_of_pos _ (by omega)) ⟨_, _, _, _, W1⟩ (kp.trans Keep.upd)
end

/-! ### _law_like -/
abbrev N_like : List Str := ["_law_found", "_law_due", "_law_j"]
abbrev P_like : List Str := ["_law_found", "_law_due"]
theorem sc_like : FnScope N_like P_like (defScope s_like) := ⟨rfl, rfl, rfl, by decide +kernel, rfl, by decide +kernel, by decide +kernel⟩
section
variable {P : Program} {w : World} {K : PySem.W.Frag} {mg : Str → Option Value} {base : Heap}
theorem isn_no {v : V} {A B : Prop} (h : v ≠ .non) (b : B) : if decide (v = V.non) = true then A else B := by
  rw [decide_eq_false h]
  exact iteF b
theorem like_step {k n : Nat} {f : Addr} {fd : FuncData} {spR : Sp} (D_like : DefAt K mg "_law_like" s_like P_like f fd) (B : Bn mg) (G_like : FnOk P w K mg base CX0 k f fd P_like spR)
    (hR : ∀ m, n = m + 1 → ∀ vs H Q E, spLike m vs H Q E → spR vs H Q E) : FnOk P w K mg base CX0 (k + 1) f fd P_like (spLike n) := by
  refine D_like.F.ok sc_like (fun vs H Q E h => ?_) (fun cdv A outer s H vs Q E hr h => ?_)
  · obtain ⟨a, b, d, rfl, _⟩ := h
    rfl
  · obtain ⟨a, b, d, rfl, ha, hb, q⟩ := h
    refine ⟨_, (pss_cons (ps_if (pt_cmpR op_isN (pv 1) pe_non (nomark _)) (pss_one (ps_ret (pe_cmpR op_isN (pv 0) pe_non (nomark _)))) pss_nil)
      (pss_cons (ps_if (pt_val (pe_callB call_isi (by rfl) B.isinstance (by decide +kernel) (pa_cons (pv 1) (pa_cons (pe_bltn (v := .ty "bool") (by rfl) B.bool (by decide +kernel) rfl) pa_nil)))) (pss_one (ps_ret (pe_and (pe_callB call_isi (by rfl) B.isinstance (by decide +kernel) (pa_cons (pv 0) (pa_cons (pe_bltn (v := .ty "bool") (by rfl) B.bool (by decide +kernel) rfl) pa_nil))) (pe_one (pe_cmpR op_eq (pv 0) (pv 1) (nomark _)))))) pss_nil)
      (pss_cons (ps_if (pt_val (pe_callB call_isi (by rfl) B.isinstance (by decide +kernel) (pa_cons (pv 1) (pa_cons (pe_bltn (v := .ty "int") (by rfl) B.int (by decide +kernel) rfl) pa_nil)))) (pss_one (ps_ret (pe_and (pe_callB call_isi (by rfl) B.isinstance (by decide +kernel) (pa_cons (pv 0) (pa_cons (pe_bltn (v := .ty "int") (by rfl) B.int (by decide +kernel) rfl) pa_nil))) (pe_and (pe_not (pe_callB call_isi (by rfl) B.isinstance (by decide +kernel) (pa_cons (pv 0) (pa_cons (pe_bltn (v := .ty "bool") (by rfl) B.bool (by decide +kernel) rfl) pa_nil)))) (pe_one (pe_cmpR op_eq (pv 0) (pv 1) (nomark _))))))) pss_nil)
      (pss_cons (ps_if (pt_val (pe_callB call_isi (by rfl) B.isinstance (by decide +kernel) (pa_cons (pv 1) (pa_cons (pe_bltn (v := .ty "str") (by rfl) B.str (by decide +kernel) rfl) pa_nil)))) (pss_one (ps_ret (pe_and (pe_callB call_isi (by rfl) B.isinstance (by decide +kernel) (pa_cons (pv 0) (pa_cons (pe_bltn (v := .ty "str") (by rfl) B.str (by decide +kernel) rfl) pa_nil))) (pe_one (pe_cmpR op_eq (pv 0) (pv 1) (nomark _)))))) pss_nil)
      (pss_cons (ps_if (PW.pt (pw_or (pt_cmpR op_ne (pe_callB call_isi (by rfl) B.isinstance (by decide +kernel) (pa_cons (pv 1) (pa_cons (pe_bltn (v := .ty "tuple") (by rfl) B.tuple (by decide +kernel) rfl) pa_nil))) (pe_callB call_isi (by rfl) B.isinstance (by decide +kernel) (pa_cons (pv 0) (pa_cons (pe_bltn (v := .ty "tuple") (by rfl) B.tuple (by decide +kernel) rfl) pa_nil))) (nomark _)) (pw_or1 (pt_cmpR op_ne (pe_callB call_isi (by rfl) B.isinstance (by decide +kernel) (pa_cons (pv 1) (pa_cons (pe_bltn (v := .ty "list") (by rfl) B.list (by decide +kernel) rfl) pa_nil))) (pe_callB call_isi (by rfl) B.isinstance (by decide +kernel) (pa_cons (pv 0) (pa_cons (pe_bltn (v := .ty "list") (by rfl) B.list (by decide +kernel) rfl) pa_nil))) (nomark _))))) (pss_one (ps_ret pe_bl)) pss_nil)
      (pss_cons (ps_if (pt_cmpR op_ne (pe_callB call_len_seq (by rfl) B.len (by decide +kernel) (pa_cons (pv 0) pa_nil)) (pe_callB call_len_seq (by rfl) B.len (by decide +kernel) (pa_cons (pv 1) pa_nil)) (nomark _)) (pss_one (ps_ret pe_bl)) pss_nil)
      (pss_one (ps_ret (pe_callB (cr_all rfl) (by rfl) B.all (by decide +kernel) (pa_cons (pe_lc (own := [("_law_j", 2)]) (g := gName 2) (by rfl) sc_like.nd (pi_range1 (by rfl) B.range (pa_cons (pe_callB call_len_seq (by rfl) B.len (by decide +kernel) (pa_cons (pv 1) pa_nil)) pa_nil)) (blkOk_by (own := [("_law_j", 2)]) (N := N_like) (sc := defScope s_like) (by decide +kernel)) (fun _ _ _ _ _ => (pg_name (i := 2) sc_like.nd rfl (.inl rfl))) (fun _ _ _ _ _ => pts_nil) (fun _ _ _ _ _ => (pe_call G_like (hr.mono (by omega)) (by rfl) D_like.g D_like.F.kp D_like.b .nil pass0 (pa_cons (pe_ix (show IxR _ (rIx K) from ix_seq) (pv 0) (pv 2) (fun _ _ => rfl)) (pa_cons (pe_ix (show IxR _ (rIx K) from ix_seq) (pv 1) (pv 2) (fun _ _ => rfl)) pa_nil))))) pa_nil)))))))))), ?_⟩
    cases ha with
    | non =>
      cases hb
      exact ⟨.non, rfl, rfl, _, rfl, iteT ⟨.non, rfl, rfl, q H (Same.refl H)⟩⟩
    | bl _ x =>
      cases hb
      refine ⟨.bl x, rfl, rfl, _, rfl, isn_no (by intro z; cases z) ?_⟩
      refine ⟨.bl x, rfl, _, _, _, _, true, rfl, ClsV.ty _, TyX.base (TyOf.bl _), kit_ty (by decide +kernel), _, rfl, iteT ?_⟩
      refine ⟨.bl x, rfl, _, _, _, _, true, rfl, ClsV.ty _, TyX.base (TyOf.bl _), kit_ty (by decide +kernel), _, rfl, iteT ?_⟩
      refine ⟨.bl x, rfl, .bl x, rfl, rfl, ?_⟩
      rw [decide_eq_true rfl]
      exact q H (Same.refl H)
    | int _ x =>
      cases hb
      refine ⟨.int x, rfl, rfl, _, rfl, isn_no (by intro z; cases z) ?_⟩
      refine ⟨.int x, rfl, _, _, _, _, false, rfl, ClsV.ty _, TyX.base (TyOf.int _), kit_ty (by decide +kernel), _, rfl, iteF ?_⟩
      refine ⟨.int x, rfl, _, _, _, _, true, rfl, ClsV.ty _, TyX.base (TyOf.int _), kit_ty (by decide +kernel), _, rfl, iteT ?_⟩
      refine ⟨.int x, rfl, _, _, _, _, true, rfl, ClsV.ty _, TyX.base (TyOf.int _), kit_ty (by decide +kernel), _, rfl, iteT ?_⟩
      refine ⟨.int x, rfl, _, _, _, _, false, rfl, ClsV.ty _, TyX.base (TyOf.int _), kit_ty (by decide +kernel), _, rfl, _, rfl, iteT ?_⟩
      refine ⟨.int x, rfl, .int x, rfl, rfl, ?_⟩
      rw [decide_eq_true rfl]
      exact q H (Same.refl H)
    | str _ x =>
      cases hb
      refine ⟨.str x, rfl, rfl, _, rfl, isn_no (by intro z; cases z) ?_⟩
      refine ⟨.str x, rfl, _, _, _, _, false, rfl, ClsV.ty _, TyX.base (TyOf.str _), kit_ty (by decide +kernel), _, rfl, iteF ?_⟩
      refine ⟨.str x, rfl, _, _, _, _, false, rfl, ClsV.ty _, TyX.base (TyOf.str _), kit_ty (by decide +kernel), _, rfl, iteF ?_⟩
      refine ⟨.str x, rfl, _, _, _, _, true, rfl, ClsV.ty _, TyX.base (TyOf.str _), kit_ty (by decide +kernel), _, rfl, iteT ?_⟩
      refine ⟨.str x, rfl, _, _, _, _, true, rfl, ClsV.ty _, TyX.base (TyOf.str _), kit_ty (by decide +kernel), _, rfl, iteT ?_⟩
      refine ⟨.str x, rfl, .str x, rfl, rfl, ?_⟩
      rw [decide_eq_true rfl]
      exact q H (Same.refl H)
    | @lst m p xs ds hp lp rp =>
      cases hb with
      | @lst _ r ys _ hq lq rq =>
      have lx : xs.length = ds.length := rp.length
      have ly : ys.length = ds.length := rq.length
      refine ⟨.ref r, rfl, rfl, _, rfl, isn_no (by intro z; cases z) ?_⟩
      refine ⟨.ref r, rfl, _, _, _, _, false, rfl, ClsV.ty _, TyX.base (TyOf.lst hq), kit_ty (by decide +kernel), _, rfl, iteF ?_⟩
      refine ⟨.ref r, rfl, _, _, _, _, false, rfl, ClsV.ty _, TyX.base (TyOf.lst hq), kit_ty (by decide +kernel), _, rfl, iteF ?_⟩
      refine ⟨.ref r, rfl, _, _, _, _, false, rfl, ClsV.ty _, TyX.base (TyOf.lst hq), kit_ty (by decide +kernel), _, rfl, iteF ?_⟩
      refine ⟨.ref r, rfl, _, _, _, _, false, rfl, ClsV.ty _, TyX.base (TyOf.lst hq), kit_ty (by decide +kernel), .ref p, rfl, _, _, _, _, false, rfl, ClsV.ty _, TyX.base (TyOf.lst hp), kit_ty (by decide +kernel), rfl, _, rfl, iteNS rfl ?_⟩
      refine ⟨.ref r, rfl, _, _, _, _, true, rfl, ClsV.ty _, TyX.base (TyOf.lst hq), kit_ty (by decide +kernel), .ref p, rfl, _, _, _, _, true, rfl, ClsV.ty _, TyX.base (TyOf.lst hp), kit_ty (by decide +kernel), rfl, _, rfl, iteNS rfl ?_⟩
      refine ⟨.ref p, rfl, p, xs, rfl, .inl (SqL.of hp), .ref r, rfl, r, ys, rfl, .inl (SqL.of hq), rfl, _, rfl, iteNS (by rw [lx, ly]) ?_⟩
      refine ⟨.ref r, rfl, r, ys, rfl, .inl (SqL.of hq), _, rfl, (by have := lq; omega), (by have := lq; omega), fun D hD => lc_range (lo := 0) (n := ((ys.length : Int)).toNat) (fun i H2 => ∃ bs : List Bool, Same H H2 ∧ H2 D = some (.lst (bs.map V.bl)) ∧ bs.length = i ∧ bs.all id = true) ⟨[], same_upd hD, upd_same, rfl, rfl⟩ ?_ ?_⟩
      · rintro i H2 hi ⟨bs, sm, hDl, rfl, hal⟩
        have hi' : bs.length < ds.length := by omega
        obtain ⟨v1, d1, e1, e2, r1⟩ := rp.get bs.length hi'
        obtain ⟨v2, d2, e3, e4, r2⟩ := rq.get bs.length hi'
        have ed : d2 = d1 := Option.some.inj (e4.symm.trans e2)
        subst ed
        refine ⟨rfl, ?_⟩
        refine ⟨.ref p, rfl, .int (0 + (bs.length : Int)), rfl, .inl ⟨p, xs, _, v1, rfl, rfl, SqL.of (sm _ _ hp), at_of (by omega) e1, .ref r, rfl, .int (0 + (bs.length : Int)), rfl, .inl ⟨r, ys, _, v2, rfl, rfl, SqL.of (sm _ _ hq), at_of (by omega) e3, ?_⟩⟩⟩
        refine hR m rfl _ _ _ _ ⟨v1, v2, d2, rfl, r1.same sm, r2.same sm, fun H3 s3 => ?_⟩
        refine ⟨bs.map V.bl, s3 _ _ hDl, sz_lt (by rw [List.length_map]; omega), bs ++ [true], fun b o e => ?_, ?_, by rw [List.length_append]; rfl, by rw [List.all_append, hal]; rfl⟩
        · rw [upd_ne (ne_of_none e hD)]
          exact s3 _ _ (sm _ _ e)
        · rw [upd_same, List.map_append]
          rfl
      · rintro H2 ⟨bs, sm, hDl, _, hal⟩
        refine ⟨D, bs, rfl, SqL.of hDl, ?_⟩
        rw [hal]
        exact q H2 sm
    | @tup m p xs ds hp lp rp =>
      cases hb with
      | @tup _ r ys _ hq lq rq =>
      have lx : xs.length = ds.length := rp.length
      have ly : ys.length = ds.length := rq.length
      refine ⟨.ref r, rfl, rfl, _, rfl, isn_no (by intro z; cases z) ?_⟩
      refine ⟨.ref r, rfl, _, _, _, _, false, rfl, ClsV.ty _, TyX.base (TyOf.tup hq), kit_ty (by decide +kernel), _, rfl, iteF ?_⟩
      refine ⟨.ref r, rfl, _, _, _, _, false, rfl, ClsV.ty _, TyX.base (TyOf.tup hq), kit_ty (by decide +kernel), _, rfl, iteF ?_⟩
      refine ⟨.ref r, rfl, _, _, _, _, false, rfl, ClsV.ty _, TyX.base (TyOf.tup hq), kit_ty (by decide +kernel), _, rfl, iteF ?_⟩
      refine ⟨.ref r, rfl, _, _, _, _, true, rfl, ClsV.ty _, TyX.base (TyOf.tup hq), kit_ty (by decide +kernel), .ref p, rfl, _, _, _, _, true, rfl, ClsV.ty _, TyX.base (TyOf.tup hp), kit_ty (by decide +kernel), rfl, _, rfl, iteNS rfl ?_⟩
      refine ⟨.ref r, rfl, _, _, _, _, false, rfl, ClsV.ty _, TyX.base (TyOf.tup hq), kit_ty (by decide +kernel), .ref p, rfl, _, _, _, _, false, rfl, ClsV.ty _, TyX.base (TyOf.tup hp), kit_ty (by decide +kernel), rfl, _, rfl, iteNS rfl ?_⟩
      refine ⟨.ref p, rfl, p, xs, rfl, .inr (SqT.of hp), .ref r, rfl, r, ys, rfl, .inr (SqT.of hq), rfl, _, rfl, iteNS (by rw [lx, ly]) ?_⟩
      refine ⟨.ref r, rfl, r, ys, rfl, .inr (SqT.of hq), _, rfl, (by have := lq; omega), (by have := lq; omega), fun D hD => lc_range (lo := 0) (n := ((ys.length : Int)).toNat) (fun i H2 => ∃ bs : List Bool, Same H H2 ∧ H2 D = some (.lst (bs.map V.bl)) ∧ bs.length = i ∧ bs.all id = true) ⟨[], same_upd hD, upd_same, rfl, rfl⟩ ?_ ?_⟩
      · rintro i H2 hi ⟨bs, sm, hDl, rfl, hal⟩
        have hi' : bs.length < ds.length := by omega
        obtain ⟨v1, d1, e1, e2, r1⟩ := rp.get bs.length hi'
        obtain ⟨v2, d2, e3, e4, r2⟩ := rq.get bs.length hi'
        have ed : d2 = d1 := Option.some.inj (e4.symm.trans e2)
        subst ed
        refine ⟨rfl, ?_⟩
        refine ⟨.ref p, rfl, .int (0 + (bs.length : Int)), rfl, .inr <| .inl ⟨p, xs, _, v1, rfl, rfl, SqT.of (sm _ _ hp), at_of (by omega) e1, .ref r, rfl, .int (0 + (bs.length : Int)), rfl, .inr <| .inl ⟨r, ys, _, v2, rfl, rfl, SqT.of (sm _ _ hq), at_of (by omega) e3, ?_⟩⟩⟩
        refine hR m rfl _ _ _ _ ⟨v1, v2, d2, rfl, r1.same sm, r2.same sm, fun H3 s3 => ?_⟩
        refine ⟨bs.map V.bl, s3 _ _ hDl, sz_lt (by rw [List.length_map]; omega), bs ++ [true], fun b o e => ?_, ?_, by rw [List.length_append]; rfl, by rw [List.all_append, hal]; rfl⟩
        · rw [upd_ne (ne_of_none e hD)]
          exact s3 _ _ (sm _ _ e)
        · rw [upd_same, List.map_append]
          rfl
      · rintro H2 ⟨bs, sm, hDl, _, hal⟩
        refine ⟨D, bs, rfl, SqL.of hDl, ?_⟩
        rw [hal]
        exact q H2 sm
theorem ok_like {f : Addr} {fd : FuncData} (D : DefAt K mg "_law_like" s_like P_like f fd) (B : Bn mg) : ∀ n : Nat, FnOk P w K mg base CX0 (n + 1) f fd P_like (spLike n)
  | 0 => like_step D B ok_bot fun m e => absurd e (by omega)
  | n + 1 => like_step D B (ok_like D B n) fun m e vs H Q E h => by
    have e : m = n := by omega
    subst e
    exact h
end

/-! ### holds, part -/
def tup4 (o p m f : Int) : HO := .tup [.int o, .int p, .int m, .int f]
section
variable {P : Program} {w : World} {K : PySem.W.Frag} {mg : Str → Option Value} {base : Heap}
end
section
variable {P : Program} {w : World} {K : PySem.W.Frag} {mg : Str → Option Value} {base : Heap}
end

/-! ### back -/
section
variable {P : Program} {w : World} {K : PySem.W.Frag} {mg : Str → Option Value} {base : Heap}
end

/-! ### normal -/
section
variable {P : Program} {w : World} {K : PySem.W.Frag} {mg : Str → Option Value} {base : Heap}
end

/-! ### common -/
section
variable {P : Program} {w : World} {K : PySem.W.Frag} {mg : Str → Option Value} {base : Heap}
end

/-! ### enumerate(t), t a tuple -/
section
open PySem.Spec PyProof.Rows
end

/-! ### rules of my own: a value in an f-string, a def read off its class -/
section
open PySem.Spec PyProof.Rows
variable {X : Cx}
def tFmtV (te : TE) : TE := fun σ H Q => te σ H fun x H1 => (∃ i : Int, x = .int i ∧ i.natAbs.log2 < 1920 ∧ Q (.str (toString i)) H1) ∨ (∃ b : Bool, x = .bl b ∧ Q (.str (if b then "True" else "False")) H1)
theorem pe_fmtV {e : Expr} {te : TE} {pos : Pos} (he : PE X e te) : PE X (.FormattedValue e (-1) none pos) (tFmtV te) := by
  refine ⟨fun pins s σ H Q I h => ?_⟩
  refine wpAny_FormattedValue_plain (thn (he.run pins s σ H _ I h) fun v s1 hv => ?_)
  obtain ⟨x, H1, I1, r1, q⟩ := hv
  rcases q with ⟨i, rfl, hz, q⟩ | ⟨b, rfl, q⟩
  · obtain ⟨t, rfl⟩ := r1
    exact wpAny_formatField_int hz ⟨.str (toString i), H1, I1.tok _, ⟨_, rfl⟩, q⟩
  · cases (show v = Value.bool b from r1)
    exact wpAny_formatField_bool ⟨.str (if b then "True" else "False"), H1, I1.tok _, ⟨_, rfl⟩, q⟩
/-- what the written part says of a class's own def, read off the class -/
structure ClsFn (K : PySem.W.Frag) (C : Addr) (m : Str) (f : Addr) : Prop where
  sp : PySem.W.specialIn K (.ref C) "__getattribute__" = some (some (.builtin "type.__getattribute__"))
  rd : PySem.W.readsIn K C (.type "type") = true
  fc : PySem.W.findCls K (.ref C) (.type "type") m = some (.val (.ref f))
  kp : PySem.W.keepIn K (.ref f) = true
theorem pe_clsfn {CX : CXT} {k : Nat} {f C : Addr} {fd : FuncData} {ps : List Str} {sp : Sp} {E : XK} {x m : Str} {p1 p2 pos : Pos} {e : Expr} {es : List Expr} {t : TA} {pl : Sem Bool} (hg : Gl X x) (hm : X.mg x = some (.ref C)) (T : ClsFn X.K C m f)
    (F : FnOk X.prog X.w X.K X.mg X.base CX k f fd ps sp) (hr : Room k X.A) (hb : Binds X.K fd ps []) (hx : Passes CX X E) (ha : PA X (e :: es) t)
    (hc : eval (.Call (.Attribute (.Name x p1) m p2) (e :: es) [] pos) X.env = (do
      let ov ← eval (.Name x p1) X.env
      standAt p2.atName
      let (f, first) ← holding [ov] (getMethod ov m pl)
      callWith pos f first (backTo pos (starEach (e :: es) X.env)) (backToKw pos (keywordEach [] X.env))) := by rfl)
    (hdb : (x == ("__debug__" : Str)) = false := by decide) (he : starEach (e :: es) X.env = (false, eval e X.env) :: starEach es X.env := by rfl) (hpl : (backTo pos (starEach es X.env)).any (·.1) = false := by rfl) :
    PE X (.Call (.Attribute (.Name x p1) m p2) (e :: es) [] pos) (tCall sp [] E t) := by
  refine ⟨fun pins s σ H Q I h => ?_⟩
  refine PySem.W.methodCall_KW (ld_glob I hg hm ?_ hdb) hc
  refine PySem.W.method_cls I.kIn T.sp (PySem.W.cls_value I.kIn T.rd T.fc rfl ?_)
  show wpAny _ _ (callWith pos (Value.ref f) [] (backTo pos (starEach (e :: es) X.env)) []) _ _ _
  refine PySem.W.callWith_K (h₀ := X.base) I.ok.mod.kin T.kp (thn (ha.run pos pins _ σ H _ (I.tok _) h) fun us s1 ⟨vs, H1, I1, r, q⟩ => ⟨I1.kIn, ?_⟩) he hpl
  exact run_fn F hr hb (.nil) hx I1 r q
end

/-! ### FarError.__init__ -/
def FV (x : V) : Prop := (∃ i : Int, x = .int i ∧ i.natAbs.log2 < 1920) ∨ ∃ b : Bool, x = .bl b
theorem FV.go {x : V} {H : Hp} {Q : V → Hp → Prop} (h : FV x) (q : ∀ y : Str, y.length ≤ 1921 → Q (.str y) H) : (∃ i : Int, x = .int i ∧ i.natAbs.log2 < 1920 ∧ Q (.str (toString i)) H) ∨ (∃ b : Bool, x = .bl b ∧ Q (.str (if b then "True" else "False")) H) := by
  rcases h with ⟨i, e, hi⟩ | ⟨b, e⟩
  · exact .inl ⟨i, e, hi, q _ (PyProof.Rows.int_text_len_1921 hi)⟩
  · exact .inr ⟨b, e, q _ (by cases b <;> decide +kernel)⟩
theorem fmtV_at {i : Nat} {x : V} {σ : L2.St} {H : Hp} {Q : VK} (hs : σ[i]? = some (some x)) (h : FV x) (q : ∀ y : Str, y.length ≤ 1921 → Q (.str y) H) : tFmtV (tVar i) σ H Q := ⟨x, hs, FV.go (Q := Q) h q⟩
theorem app_fits {a b : Str} {n m : Nat} (ha : a.length ≤ n) (hb : b.length ≤ m) : (a ++ b).length ≤ n + m := by
  rw [Str.length_append]
  omega
theorem fits_of {a : Str} {n : Nat} (ha : a.length ≤ n) (h : n ≤ 100000) : a.length ≤ sizeLine := Nat.le_trans ha (Nat.le_trans h (by decide))
abbrev N_farinit : List Str := ["self", "why"]
theorem sc_farinit : FnScope N_farinit N_farinit (defScope s_farinit) := ⟨rfl, rfl, rfl, by decide +kernel, rfl, by decide +kernel, by decide +kernel⟩
def spFarInit (K : PySem.W.Frag) : Sp := fun vs H Q _ => ∃ (a C : Addr) (y : Str), vs = [.ref a, .str y] ∧ OexC K C ∧ PySem.W.findIn K (.ref C) "word" = some none ∧ H a = some (exo a C none) ∧
  ∀ dx, H dx = none → dx ≠ a → Q .non (upd (upd H dx (exd dx [("word", .str "FarError")])) a (exo a C (some dx)))
section
variable {P : Program} {w : World} {K : PySem.W.Frag} {mg : Str → Option Value} {base : Heap}
theorem ok_farinit {f : Addr} {fd : FuncData} (F : FunD K "__init__" "FarError.__init__" (defArgs s_farinit) (defBody s_farinit) (defScope s_farinit) [.str ""] [] f fd) (mV : mg "ValueError" = none)
    (vV : PySem.W.findCls K (.type "ValueError") (.type "type") "__init__" = some (.val (.builtin "ValueError.__init__"))) : FnOk P w K mg base CX0 1 f fd N_farinit (spFarInit K) := by
  refine F.ok sc_farinit (fun vs H Q E h => ?_) (fun cdv A outer s H vs Q E hr h => ?_)
  · obtain ⟨a, C, y, rfl, _⟩ := h
    rfl
  · obtain ⟨a, C, y, rfl, T, hw, ha, q⟩ := h
    refine ⟨_, pss_cons (ps_expr (pe_veinit (by rfl) mV vV (pa_cons (pv 0) (pa_cons (pv 1) pa_nil)))) (pss_one (ps_ost (pv 0) pe_str)), ?_⟩
    refine ⟨.ref a, rfl, .str y, rfl, a, C, [.str y], rfl, by show 1 ≤ 1000; decide, T, ha, ?_⟩
    exact ⟨.ref a, rfl, a, C, rfl, T, hw, .inl ⟨ha, fun dx n ne => q dx n ne⟩⟩
end
/-! ### an own error's __init__ of one field -/
/-- what the written part says of an error's class -/
structure ErrT (K : PySem.W.Frag) (C : Addr) : Prop where
  o : OexC K C
  w : PySem.W.findIn K (.ref C) "word" = some none

/-! ### ints and bools -/
def IB (x : V) : Prop := (∃ i : Int, x = .int i ∧ i.natAbs < 2 ^ 200) ∨ ∃ b : Bool, x = .bl b
theorem IB.fv {x : V} (h : IB x) : FV x := by
  rcases h with ⟨i, e, hi⟩ | ⟨b, e⟩
  · exact .inl ⟨i, e, Nat.lt_of_lt_of_le (PySem.Flt.log2_lt_of (by decide) hi) (by decide)⟩
  · exact .inr ⟨b, e⟩
def isB : V → Bool
  | .bl _ => true
  | _ => false
theorem IB.ty {K : PySem.W.Frag} {H : Hp} {x : V} (h : IB x) : ∃ t, TyX K H x t ∧ PySem.W.kitOne K t (.type "bool") = some (isB x) := by
  rcases h with ⟨i, rfl, hi⟩ | ⟨b, rfl⟩
  · exact ⟨_, TyX.base (TyOf.int _), kit_ty (r := false) (by decide +kernel)⟩
  · exact ⟨_, TyX.base (TyOf.bl _), kit_ty (r := true) (by decide +kernel)⟩
theorem IB.int {i : Int} (h : i.natAbs < 2 ^ 200) : IB (.int i) := .inl ⟨i, rfl, h⟩
section
open PySem.Spec PyProof.Rows
end

def bnF (n : V) : List (Str × V) := [("word", .str "BadNumber"), ("number", n), ("word", .str "FarError")]
section
variable {P : Program} {w : World} {K : PySem.W.Frag} {mg : Str → Option Value} {base : Heap}
end

/-! ### own errors in general, and without a law that asks why -/
structure ErT (K : PySem.W.Frag) (mg : Str → Option Value) (CF C fI : Addr) (fdI : FuncData) (word : Str) (N : List Str) : Prop where
  gF : mg "FarError" = some (.ref CF)
  gC : mg word = some (.ref C)
  e : ErrT K C
  x : XfC K C
  c : ExcC K C
  iC : PySem.W.findIn K (.ref C) "__init__" = some (some (.ref fI))
  tI : PySem.W.typeIn K (.ref fI) = some (.type "function")
  bI : Binds K fdI N []
  m : PySem.W.exmOne K (.ref C) (.ref CF) = some true
abbrev Fds := List (Str × V)
section
open PySem.Spec PyProof.Rows
theorem takes_len {X : Cx} {W : WX} (tk : L2.Takes X W) : L2.Takes X (fun cls d σ H => σ.length = X.N.length → W cls d σ H) := fun u s' ⟨a, B, sI, pins, σ, H, cls, d, e, I, nb, up, sky, na, os, ag, w⟩ =>
  tk u s' ⟨a, B, sI, pins, σ, H, cls, d, e, I, nb, up, sky, na, os, ag, w I.len⟩
theorem pss_of {X : Cx} {sts : List Stmt} {t' : TS} (h : ∀ D σ H, t' D σ H → ∃ t, PSs X sts t ∧ t D σ H) : PSs X sts t' := ⟨fun pins s σ H D I ht => by
  obtain ⟨t, h1, h2⟩ := h D σ H ht
  exact h1.run pins s σ H D I h2⟩
end

/-! ### step_of, end_of, is_leader, is_repeat -/
section
variable {P : Program} {w : World} {K : PySem.W.Frag} {mg : Str → Option Value} {base : Heap}
end
/-! ### halved, merged -/
section
variable {P : Program} {w : World} {K : PySem.W.Frag} {mg : Str → Option Value} {base : Heap}
end

/-! ### a tuple of ints, truths and texts in an f-string -/
def MV (x : V) : Prop := FV x ∨ ∃ y : Str, x = .str y ∧ y.length ≤ 100 ∧ (∀ c ∈ y.cps.toList, c < 16 ^ 8) ∧ PyData.strOk y = true
section
open PySem.Spec PyProof.Rows
theorem repr_one {prog : Program} {w : World} {x : V} {u : Value} (h : MV x) (r : RelV x u) : ∃ t : Str, ReprIs prog w u t ∧ t.length ≤ 2000 := by
  rcases h with (⟨i, rfl, hi⟩ | ⟨b, rfl⟩) | ⟨y, rfl, hy, hc, _⟩
  · obtain ⟨t, rfl⟩ := r
    exact ⟨_, ReprIs.int t hi, Nat.le_trans (int_text_len_1921 hi) (by decide)⟩
  · cases (show u = Value.bool b from r)
    exact ⟨_, ReprIs.bool b, by cases b <;> decide +kernel⟩
  · obtain ⟨t, rfl⟩ := r
    have h1 := StrLaws.reprText_len y hc
    have h2 : (reprText y).length ≤ 2000 := by omega
    exact ⟨_, ReprIs.str y t (Nat.le_trans h2 (by decide)), h2⟩
theorem repr_allM {prog : Program} {w : World} : ∀ {xs : List V} {its : List Value}, Vals xs its → (∀ x ∈ xs, MV x) → ∃ ts : List Str, ReprAll prog w its ts ∧ piled ts ≤ xs.length * 2010
  | [], _, r, _ => by
    cases r
    exact ⟨[], .nil, Nat.zero_le _⟩
  | x :: l, _, r, h => by
    cases r with
    | cons r1 r2 =>
      obtain ⟨t, h1, h2⟩ := repr_one (prog := prog) (w := w) (h x List.mem_cons_self) r1
      obtain ⟨ts, h3, h4⟩ := repr_allM (prog := prog) (w := w) r2 fun y hy => h y (List.mem_cons_of_mem _ hy)
      refine ⟨t :: ts, .cons h1 h3, ?_⟩
      rw [piled_cons, List.length_cons]
      omega
def tFmtM (K : PySem.W.Frag) (te : TE) : TE := fun σ H Q => te σ H fun x H1 => ∃ (a : Addr) (xs : List V), x = .ref a ∧ SqT K H1 a xs ∧ (∀ y ∈ xs, MV y) ∧ xs.length ≤ 20 ∧ ∀ m : Str, m.length ≤ 50000 → Q (.str m) H1
theorem pe_fmtM {X : Cx} {e : Expr} {te : TE} {pos : Pos} {k : Nat} (hr : Room k X.A) (he : PE X e te) : PE X (.FormattedValue e (-1) none pos) (tFmtM X.K te) := by
  refine ⟨fun pins s σ H Q I h => ?_⟩
  refine wpAny_FormattedValue_plain (thn (he.run pins s σ H _ I h) fun v s1 hv => ?_)
  obtain ⟨x, H1, I1, r1, a, xs, rfl, ht, hc, hl, q⟩ := hv
  cases r1
  obtain ⟨its, rv, ⟨o, ho, hcl, n, hd⟩, _⟩ := I1.tuple ht
  obtain ⟨ts, h1, h2⟩ := repr_allM (prog := X.prog) (w := X.w) rv hc
  have htx := fmt_text ts
  have hz : (tupleText ts).length ≤ 45000 := by
    have : xs.length * 2010 ≤ 20 * 2010 := Nat.mul_le_mul_right _ hl
    omega
  have hu := hr.units
  exact fmt_tuple (ts := ts) (by omega) ho hcl hd h1 (Nat.le_trans hz (by decide)) fun m u tk hm => ⟨.str m, H1, I1.tok _, ⟨u, rfl⟩, q m (by omega)⟩
end
/-! ### BadMove -/
section
variable {P : Program} {w : World} {K : PySem.W.Frag} {mg : Str → Option Value} {base : Heap}
end

/-! ### is_mating -/
abbrev N_is_mating : List Str := ["length", "mating", "one", "other", "many", "turned", "number"]
abbrev P_is_mating : List Str := ["length", "mating"]
theorem sc_is_mating : FnScope N_is_mating P_is_mating (defScope s_is_mating) := ⟨rfl, rfl, rfl, by decide +kernel, rfl, by decide +kernel, by decide +kernel⟩
def isMat (n : Int) : V → V → V → V → Bool
  | .int o, .int p, .int m, .int f => decide ((f = 0 ∨ f = 1) ∧ 1 ≤ m ∧ 0 ≤ o ∧ 0 ≤ p ∧ o + m ≤ n ∧ p + m ≤ n)
  | _, _, _, _ => false
theorem isMat_b {n : Int} {o p m f : V} (h : ([o, p, m, f].map isB).any id = true) : isMat n o p m f = false := by
  cases o with
  | int _ => cases p with
    | int _ => cases m with
      | int _ => cases f with
        | int _ => exact absurd (show false = true from h) (by decide)
        | _ => rfl
      | _ => rfl
    | _ => rfl
  | _ => rfl
theorem allInt {x : V} (h : IB x) (hb : isB x = false) : ∃ i : Int, x = .int i ∧ i.natAbs < 2 ^ 200 := by
  rcases h with h | ⟨b, rfl⟩
  · exact h
  · cases hb
theorem inV01 (f : Int) : inV (.int f) [.int 0, .int 1] = decide (f = 0 ∨ f = 1) := by
  by_cases h0 : f = 0
  · subst h0
    decide
  · by_cases h1 : f = 1
    · subst h1
      decide
    · have e0 : ¬ (0 = f) := fun z => h0 z.symm
      have e1 : ¬ (1 = f) := fun z => h1 z.symm
      simp [inV, eqV, h0, h1, e0, e1]
def spIsMat : Sp := fun vs H Q _ => ∃ (n : Int) (t : Addr) (o p m f : V), vs = [.int n, .ref t] ∧ n.natAbs < 2 ^ 200 ∧ H t = some (.tup [o, p, m, f]) ∧ IB o ∧ IB p ∧ IB m ∧ IB f ∧ ∀ H', Same H H' → Q (.bl (isMat n o p m f)) H'
section
variable {P : Program} {w : World} {K : PySem.W.Frag} {mg : Str → Option Value} {base : Heap}
theorem ok_is_mating {f : Addr} {fd : FuncData} (D : DefAt K mg "is_mating" s_is_mating P_is_mating f fd) (B : Bn mg) : FnOk P w K mg base CX0 1 f fd P_is_mating spIsMat := by
  refine D.F.ok sc_is_mating (fun vs H Q E h => ?_) (fun cdv A outer s H vs Q E hr h => ?_)
  · obtain ⟨n, t, o, p, m, f, rfl, _⟩ := h
    rfl
  · obtain ⟨n, t, o, p, m, f, rfl, hn, ht, ho, hp, hm, hf, q⟩ := h
    refine ⟨_, (pss_cons (ps_asg (pv 1) (pg_tup (by rfl) (pgs_cons (pg_name (i := 2) sc_is_mating.nd rfl (.inl rfl)) (pgs_cons (pg_name (i := 3) sc_is_mating.nd rfl (.inl rfl)) (pgs_cons (pg_name (i := 4) sc_is_mating.nd rfl (.inl rfl)) (pgs_cons (pg_name (i := 5) sc_is_mating.nd rfl (.inl rfl)) pgs_nil))))))
      (pss_cons (ps_if (pt_val (pe_callB (cr_any rfl) (by rfl) B.any (by decide +kernel) (pa_cons (pe_lc (own := [("number", 6)]) (g := gName 6) (by rfl) sc_is_mating.nd (pi_tup (pe_tup (pa_cons (pv 0) (pa_cons (pv 2) (pa_cons (pv 3) (pa_cons (pv 4) (pa_cons (pv 5) pa_nil))))))) (blkOk_by (own := [("number", 6)]) (N := N_is_mating) (sc := defScope s_is_mating) (by decide +kernel)) (fun _ _ _ _ _ => (pg_name (i := 6) sc_is_mating.nd rfl (.inl rfl))) (fun _ _ _ _ _ => pts_nil) (fun _ _ _ _ _ => (pe_callB (show CallR _ _ (rIsi K) from call_isi) (by rfl) B.isinstance (by decide +kernel) (pa_cons (pv 6) (pa_cons (pe_bltn (v := .ty "bool") (by rfl) B.bool (by decide +kernel) rfl) pa_nil))))) pa_nil))) (pss_one (ps_ret pe_bl)) pss_nil)
      (pss_cons (ps_if (PW.pt (pw_or (pt_cmpR op_notIn_seq (pv 5) (pe_tup (pa_cons pe_int (pa_cons pe_int pa_nil))) (by rfl)) (pw_or1 (pt_cmpR op_lt (pv 4) pe_int (nomark _))))) (pss_one (ps_ret pe_bl)) pss_nil)
      (pss_one (ps_ret (pe_and (pe_cmpR op_ge (pe_callB (call_min2 rfl) (by rfl) B.min (by decide +kernel) (pa_cons (pv 2) (pa_cons (pv 3) pa_nil))) pe_int (nomark _)) (pe_one (pe_cmpR op_le (pe_op op_add (pe_callB (call_max2 rfl) (by rfl) B.max (by decide +kernel) (pa_cons (pv 2) (pa_cons (pv 3) pa_nil))) (pv 4)) (pv 0) (nomark _))))))))), ?_⟩
    refine ⟨.ref t, rfl, t, _, rfl, SqT.of ht, rfl, o, _, rfl, p, _, rfl, m, _, rfl, f, _, rfl, rfl, ?_⟩
    refine ⟨.int n, rfl, o, rfl, p, rfl, m, rfl, f, rfl, by show 5 ≤ sizeLine; decide, fun tp ntp => ?_⟩
    refine ⟨tp, rfl, ⟨_, SqT.of upd_same⟩, fun L nL => lc_tup (K := K) (a := tp) (xs := [.int n, o, p, m, f]) (fun i H2 => Same (upd H tp (.tup [.int n, o, p, m, f])) H2 ∧ H2 L = some (.lst ((([.int n, o, p, m, f].map isB).take i).map V.bl)))
      ⟨same_upd nL, upd_same⟩ (fun i H2 _ ⟨sm, _⟩ => SqT.of (sm _ _ upd_same)) ?_ ?_⟩
    · rintro i x H2 hx ⟨sm, e2⟩
      have hi : i < 5 := (List.getElem?_eq_some_iff.mp hx).1
      have hib : IB x := by
        have : x ∈ [.int n, o, p, m, f] := List.mem_of_getElem? hx
        rcases List.mem_cons.mp this with rfl | this
        · exact .inl ⟨n, rfl, hn⟩
        rcases List.mem_cons.mp this with rfl | this
        · exact ho
        rcases List.mem_cons.mp this with rfl | this
        · exact hp
        rcases List.mem_cons.mp this with rfl | this
        · exact hm
        rcases List.mem_cons.mp this with rfl | this
        · exact hf
        · cases this
      obtain ⟨ty, h1, h2⟩ := hib.ty (K := K) (H := H2)
      refine ⟨rfl, ?_⟩
      refine ⟨x, rfl, _, _, _, _, isB x, rfl, ClsV.ty _, h1, h2, ?_⟩
      refine ⟨_, e2, sz_lt (by rw [List.length_map, List.length_take]; omega), fun b o' hb => ?_, ?_⟩
      · rw [upd_ne (ne_of_none hb nL)]
        exact sm _ _ hb
      · rw [upd_same, List.take_add_one, List.getElem?_map, hx, List.map_append]
        rfl
    · rintro H2 ⟨sm, e2⟩
      have e2' : H2 L = some (.lst (([.int n, o, p, m, f].map isB).map V.bl)) := e2
      have sH : Same H H2 := (same_upd ntp).trans sm
      refine ⟨L, _, rfl, SqL.of e2', _, rfl, ?_⟩
      by_cases hb : ([o, p, m, f].map isB).any id = true
      · have e3 : ([.int n, o, p, m, f].map isB).any id = true := hb
        rw [e3]
        refine iteT ?_
        rw [isMat_b hb] at q
        exact q H2 sH
      · have e3 : ([.int n, o, p, m, f].map isB).any id = false := by
          cases e : ([o, p, m, f].map isB).any id with
          | true => exact absurd e hb
          | false => exact e
        rw [e3]
        refine iteF ?_
        have hb' : ([o, p, m, f].map isB).any id = false := e3
        simp only [List.map_cons, List.map_nil, List.any_cons, List.any_nil, id, Bool.or_false, Bool.or_eq_false_iff] at hb'
        obtain ⟨b1, b2, b3, b4⟩ := hb'
        obtain ⟨o, rfl, _⟩ := allInt ho b1
        obtain ⟨p, rfl, _⟩ := allInt hp b2
        obtain ⟨m, rfl, _⟩ := allInt hm b3
        obtain ⟨f, rfl, _⟩ := allInt hf b4
        refine ⟨.int f, rfl, by show 2 ≤ sizeLine; decide, fun t2 n2 => ?_⟩
        have s2 : Same H (upd H2 t2 (.tup [.int 0, .int 1])) := sH.trans (same_upd n2)
        refine ⟨t2, _, rfl, .inr (SqT.of upd_same), rfl, rfl, _, rfl, ?_⟩
        have no : ¬ ((f = 0 ∨ f = 1) ∧ 1 ≤ m ∧ 0 ≤ o ∧ 0 ≤ p ∧ o + m ≤ n ∧ p + m ≤ n) → Q (.bl false) (upd H2 t2 (.tup [.int 0, .int 1])) := fun h => by
          have := q _ s2
          rw [show isMat n (.int o) (.int p) (.int m) (.int f) = false from decide_eq_false h] at this
          exact this
        rw [if_pos rfl, inV01]
        by_cases hf01 : f = 0 ∨ f = 1
        · rw [decide_eq_true hf01]
          refine iteF ?_
          refine ⟨.int m, rfl, m, 1, rfl, rfl, _, rfl, ?_⟩
          refine ite2 (fun h => ?_) (fun h => ?_)
          · have h' : m < 1 := of_decide_eq_true h
            exact no fun z => by omega
          · have h' : ¬ m < 1 := fun z => h (decide_eq_true z)
            refine ⟨.int o, rfl, .int p, rfl, o, p, rfl, _, 0, rfl, rfl, _, rfl, ?_⟩
            refine ite2 (fun g => ?_) (fun g => ?_)
            · have g' : 0 ≤ (if p < o then p else o) := of_decide_eq_true g
              refine ⟨.int o, rfl, .int p, rfl, o, p, rfl, .int m, rfl, _, _, rfl, rfl, .int n, rfl, _, _, rfl, rfl, ?_⟩
              have := q _ s2
              rw [show isMat n (.int o) (.int p) (.int m) (.int f) = decide ((if p > o then p else o) + m ≤ n) from decide_eq_decide.mpr ⟨fun z => by split <;> omega, fun z => ⟨hf01, by omega, by split at g' <;> omega, by split at g' <;> omega, by split at z <;> omega, by split at z <;> omega⟩⟩] at this
              exact this
            · have g' : ¬ 0 ≤ (if p < o then p else o) := fun z => g (decide_eq_true z)
              exact no fun z => g' (by split <;> omega)
        · rw [decide_eq_false hf01]
          refine iteT ?_
          exact no fun z => hf01 z.1
end

/-! ### the standing matings as a list of numbers and matings -/
abbrev M4 := Int × Int × Int × Int
abbrev t4 (x : M4) : HO := tup4 x.1 x.2.1 x.2.2.1 x.2.2.2
abbrev StL := List (Int × M4)
def sget : StL → Int → Option M4
  | [], _ => none
  | s :: r, i => if s.1 = i then some s.2 else sget r i
def sput (S : StL) (i : Int) (x : M4) : StL := S.map fun s => if s.1 = i then (s.1, x) else s
def sdrop (S : StL) (i : Int) : StL := S.filter fun s => decide (s.1 ≠ i)
def StdR (H : Hp) (kv : Key × V) (s : Int × M4) : Prop := kv.1 = Sum.inl s.1 ∧ ∃ t, kv.2 = .ref t ∧ H t = some (t4 s.2)
def Std (H : Hp) (kvs : List (Key × V)) (S : StL) : Prop := Paired (StdR H) kvs S
/-- tuples stay -/
def KeepT (H H' : Hp) : Prop := ∀ b xs, H b = some (.tup xs) → H' b = some (.tup xs)
theorem Std.keep {H H' : Hp} (k : KeepT H H') : ∀ {kvs : List (Key × V)} {S : StL}, Std H kvs S → Std H' kvs S
  | _, _, .nil => .nil
  | _, _, .cons h r => .cons ⟨h.1, h.2.elim fun t e => ⟨t, e.1, k _ _ e.2⟩⟩ (Std.keep k r)
theorem Std.get {H : Hp} (i : Int) : ∀ {kvs : List (Key × V)} {S : StL}, Std H kvs S → (sget S i = none → valV kvs (Sum.inl i) = none) ∧ ∀ x, sget S i = some x → ∃ t, valV kvs (Sum.inl i) = some (.ref t) ∧ H t = some (t4 x)
  | _, _, .nil => ⟨fun _ => rfl, fun x h => nomatch h⟩
  | _, _, .cons (a := kv) (b := s) h r => by
    obtain ⟨e1, t, e2, e3⟩ := h
    obtain ⟨g1, g2⟩ := Std.get i r
    by_cases e : s.1 = i
    · have ek : kv.1 = Sum.inl i := by rw [e1, e]
      unfold sget
      rw [if_pos e]
      refine ⟨fun z => (by cases z), fun x hx => ?_⟩
      cases hx
      exact ⟨t, by rw [valV_pos ek, e2], e3⟩
    · have ek : ¬ kv.1 = Sum.inl i := by
        rw [e1]
        exact fun z => e (Sum.inl.inj z)
      unfold sget
      rw [if_neg e, valV_neg ek]
      exact ⟨g1, g2⟩
theorem Std.keys {H : Hp} : ∀ {kvs : List (Key × V)} {S : StL}, Std H kvs S → kvs.map (·.1) = (S.map (·.1)).map Sum.inl
  | _, _, .nil => rfl
  | _, _, .cons h r => by
    rw [List.map_cons, List.map_cons, List.map_cons, Std.keys r, h.1]
theorem Std.length {H : Hp} : ∀ {kvs : List (Key × V)} {S : StL}, Std H kvs S → kvs.length = S.length
  | _, _, .nil => rfl
  | _, _, .cons h r => congrArg (· + 1) (Std.length r)
theorem Std.putMap {H : Hp} {i : Int} {t : Addr} {x : M4} (ht : H t = some (t4 x)) : ∀ {kvs : List (Key × V)} {S : StL}, Std H kvs S → Std H (kvs.map fun kv => if kv.1 = Sum.inl i then (kv.1, V.ref t) else kv) (sput S i x)
  | _, _, .nil => .nil
  | _, _, .cons (a := kv) (b := s) h r => by
    refine .cons ?_ (Std.putMap ht r)
    show StdR H (if kv.1 = Sum.inl i then (kv.1, V.ref t) else kv) (if s.1 = i then (s.1, x) else s)
    by_cases e : s.1 = i
    · have ek : kv.1 = Sum.inl i := by rw [h.1, e]
      rw [if_pos ek, if_pos e]
      exact ⟨h.1, t, rfl, ht⟩
    · have ek : ¬ kv.1 = Sum.inl i := by
        rw [h.1]
        exact fun z => e (Sum.inl.inj z)
      rw [if_neg ek, if_neg e]
      exact h
theorem Std.put {H : Hp} {i : Int} {t : Addr} {x y : M4} {kvs : List (Key × V)} {S : StL} (h : Std H kvs S) (hi : sget S i = some y) (ht : H t = some (t4 x)) : Std H (putK kvs (Sum.inl i) (.ref t)) (sput S i x) := by
  obtain ⟨u, hu, _⟩ := (h.get i).2 y hi
  unfold putK
  rw [if_pos (by rw [valV_any, hu]; rfl)]
  exact h.putMap ht
theorem Std.drop {H : Hp} {i : Int} : ∀ {kvs : List (Key × V)} {S : StL}, Std H kvs S → Std H (dropK kvs (Sum.inl i)) (sdrop S i)
  | _, _, .nil => .nil
  | _, _, .cons (a := kv) (b := s) (l₁ := ks) (l₂ := rs) h r => by
    by_cases e : s.1 = i
    · have ek : kv.1 = Sum.inl i := by rw [h.1, e]
      rw [dropK_pos ek, show sdrop (s :: rs) i = sdrop rs i from List.filter_cons_of_neg (by simp [e])]
      exact Std.drop r
    · have ek : ¬ kv.1 = Sum.inl i := by
        rw [h.1]
        exact fun z => e (Sum.inl.inj z)
      rw [dropK_neg ek, show sdrop (s :: rs) i = s :: sdrop rs i from List.filter_cons_of_pos (by simp [e])]
      exact .cons h (Std.drop r)
theorem Std.snoc {H : Hp} {kv : Key × V} {s : Int × M4} (hs : StdR H kv s) : ∀ {kvs : List (Key × V)} {S : StL}, Std H kvs S → Std H (kvs ++ [kv]) (S ++ [s])
  | _, _, .nil => .cons hs .nil
  | _, _, .cons h r => .cons h (Std.snoc hs r)
theorem sput_keys (S : StL) (i : Int) (x : M4) : (sput S i x).map (·.1) = S.map (·.1) := by
  unfold sput
  rw [List.map_map]
  refine List.map_congr_left fun s _ => ?_
  show (if s.1 = i then (s.1, x) else s).1 = s.1
  split <;> rfl
theorem sput_length (S : StL) (i : Int) (x : M4) : (sput S i x).length = S.length := List.length_map _
theorem sdrop_keys {S : StL} {i : Int} (h : (S.map (·.1)).Pairwise (· < ·)) : ((sdrop S i).map (·.1)).Pairwise (· < ·) := h.sublist ((List.filter_sublist).map _)
theorem sdrop_length (S : StL) (i : Int) : (sdrop S i).length ≤ S.length := List.length_filter_le _ _
/-! ### a front -/
def fr (e : Int) (s q : Addr) : List (Str × V) := [("edge", .int e), ("standing", .ref s), ("past", .ref q)]
structure FrT (K : PySem.W.Frag) (mg : Str → Option Value) (C : Addr) : Prop where
  gC : mg "Front" = some (.ref C)
  cl : Cls K C
  nE : NoAttr K C "edge"
  nS : NoAttr K C "standing"
  nP : NoAttr K C "past"
structure FrAt (C : Addr) (H : Hp) (a s q : Addr) (e : Int) (S : StL) (ps : List V) : Prop where
  at_a : ∃ dx, H a = some (.ins C dx (fr e s q))
  at_s : ∃ kvs, H s = some (.dK kvs) ∧ Std H kvs S
  at_q : H q = some (.lst ps)
  up : (S.map (·.1)).Pairwise (· < ·)
  len : S.length ≤ 100
/-- all but the front stands -/
def Off (a s q : Addr) (H H' : Hp) : Prop := ∀ b o, H b = some o → b ≠ a → b ≠ s → b ≠ q → H' b = some o
theorem Off.trans {a s q : Addr} {H H1 H2 : Hp} (x : Off a s q H H1) (y : Off a s q H1 H2) : Off a s q H H2 := fun b o h h1 h2 h3 => y b o (x b o h h1 h2 h3) h1 h2 h3
theorem FrAt.same {C : Addr} {H H' : Hp} {a s q : Addr} {e : Int} {S : StL} {ps : List V} (h : FrAt C H a s q e S ps) (k : Same H H') : FrAt C H' a s q e S ps := by
  obtain ⟨⟨dx, ea⟩, ⟨kvs, es, st⟩, eq, up, len⟩ := h
  exact ⟨⟨dx, k _ _ ea⟩, ⟨kvs, k _ _ es, st.keep fun b xs hb => k _ _ hb⟩, k _ _ eq, up, len⟩
/-- the dict anew -/
theorem FrAt.dict {C : Addr} {H : Hp} {a s q : Addr} {e : Int} {S S' : StL} {ps : List V} {kvs : List (Key × V)} (h : FrAt C H a s q e S ps) (st : Std H kvs S') (up : (S'.map (·.1)).Pairwise (· < ·)) (len : S'.length ≤ 100) :
    FrAt C (upd H s (.dK kvs)) a s q e S' ps ∧ Off a s q H (upd H s (.dK kvs)) := by
  obtain ⟨⟨dx, ea⟩, ⟨kvs0, es, st0⟩, eq, _, _⟩ := h
  have n1 : a ≠ s := ne_of ea es (fun z => by cases z)
  have n2 : q ≠ s := ne_of eq es (fun z => by cases z)
  refine ⟨⟨⟨dx, by rw [upd_ne n1]; exact ea⟩, ⟨kvs, upd_same, st.keep fun b xs hb => ?_⟩, by rw [upd_ne n2]; exact eq, up, len⟩, fun b o hb _ h2 _ => ?_⟩
  · rw [upd_ne (ne_of hb es (fun z => by cases z))]
    exact hb
  · rw [upd_ne h2]
    exact hb
theorem perm_sorted : ∀ {ys ks : List Int}, ys.Perm ks → ys.Pairwise (· ≤ ·) → ks.Pairwise (· < ·) → ys = ks
  | [], ks, p, _, _ => (List.Perm.nil_eq p)
  | y :: ys, [], p, _, _ => nomatch (List.Perm.eq_nil p)
  | y :: ys, k :: ks, p, h1, h2 => by
    have m1 : y ∈ k :: ks := p.subset List.mem_cons_self
    have m2 : k ∈ y :: ys := p.symm.subset List.mem_cons_self
    have e : y = k := by
      rcases List.mem_cons.mp m1 with z | z
      · exact z
      · rcases List.mem_cons.mp m2 with z' | z'
        · exact z'.symm
        · have a1 := (List.pairwise_cons.mp h1).1 _ z'
          have a2 := (List.pairwise_cons.mp h2).1 _ z
          omega
    subst e
    rw [perm_sorted (List.Perm.cons_inv p) (List.pairwise_cons.mp h1).2 (List.pairwise_cons.mp h2).2]
section
variable {X : Cx} {K : PySem.W.Frag}
/-- o.f inside a comprehension -/
theorem pe_fldK {e : Expr} {f : Str} {pos : Pos} {ta : TE} (hK : X.K = K) (he : PE X e ta) (hb : attributeBase e f X.env (eval e X.env) = eval e X.env) : PE X (.Attribute e f pos) (tFld K ta f) := by
  subst hK
  exact pe_fld he hb
end

/-! ### need_length, need_mating, need_road of a road that is right -/
abbrev N_need_from : List Str := ["low", "number"]
abbrev P_need_from : List Str := ["low", "number"]
theorem sc_need_from : FnScope N_need_from P_need_from (defScope s_need_from) := ⟨rfl, rfl, rfl, by decide +kernel, rfl, by decide +kernel, by decide +kernel⟩
abbrev N_need_within : List Str := ["low", "high", "number"]
abbrev P_need_within : List Str := ["low", "high", "number"]
theorem sc_need_within : FnScope N_need_within P_need_within (defScope s_need_within) := ⟨rfl, rfl, rfl, by decide +kernel, rfl, by decide +kernel, by decide +kernel⟩
abbrev N_need_length : List Str := ["number"]
abbrev P_need_length : List Str := ["number"]
theorem sc_need_length : FnScope N_need_length P_need_length (defScope s_need_length) := ⟨rfl, rfl, rfl, by decide +kernel, rfl, by decide +kernel, by decide +kernel⟩
abbrev N_need_mating : List Str := ["length", "mating"]
abbrev P_need_mating : List Str := ["length", "mating"]
theorem sc_need_mating : FnScope N_need_mating P_need_mating (defScope s_need_mating) := ⟨rfl, rfl, rfl, by decide +kernel, rfl, by decide +kernel, by decide +kernel⟩
def spNeed1 (n : Int) : Sp := fun vs H Q _ => ∃ (t : Addr) (m : Int × Int × Int × Int), vs = [.int n, .ref t] ∧ H t = some (t4 m) ∧ ((m.2.2.2 = 0 ∨ m.2.2.2 = 1) ∧ 1 ≤ m.2.2.1 ∧ 0 ≤ m.1 ∧ 0 ≤ m.2.1 ∧ m.1 + m.2.2.1 ≤ n ∧ m.2.1 + m.2.2.1 ≤ n) ∧ ∀ H', Same H H' → Q .non H'
def spFrom0 : Sp := fun vs H Q _ => ∃ lo n : Int, vs = [.int lo, .int n] ∧ lo ≤ n ∧ Q .non H
def spWithin0 : Sp := fun vs H Q _ => ∃ lo hi n : Int, vs = [.int lo, .int hi, .int n] ∧ lo ≤ n ∧ n ≤ hi ∧ Q .non H
def spNeed0 : Sp := fun vs H Q _ => ∃ n : Int, vs = [.int n] ∧ 0 ≤ n ∧ n ≤ 1000000000000000000 ∧ Q .non H
def Mok (n : Int) (x : M4) : Prop := (x.2.2.2 = 0 ∨ x.2.2.2 = 1) ∧ 1 ≤ x.2.2.1 ∧ 0 ≤ x.1 ∧ 0 ≤ x.2.1 ∧ x.1 + x.2.2.1 ≤ n ∧ x.2.1 + x.2.2.1 ≤ n
def Mts (H : Hp) (ts : List Addr) (ms : List M4) : Prop := Paired (fun t x => H t = some (t4 x)) ts ms
theorem Mts.same {H H' : Hp} (k : Same H H') : ∀ {ts : List Addr} {ms : List M4}, Mts H ts ms → Mts H' ts ms
  | _, _, .nil => .nil
  | _, _, .cons h r => .cons (k _ _ h) (Mts.same k r)
theorem Mts.length {H : Hp} : ∀ {ts : List Addr} {ms : List M4}, Mts H ts ms → ts.length = ms.length
  | _, _, .nil => rfl
  | _, _, .cons _ r => congrArg (· + 1) (Mts.length r)
theorem Mts.at {H : Hp} : ∀ {ts : List Addr} {ms : List M4}, Mts H ts ms → ∀ (i : Nat) (t : Addr), ts[i]? = some t → ∃ x, ms[i]? = some x ∧ H t = some (t4 x)
  | _, _, .nil, i, t, h => by simp at h
  | _, _, .cons (b := x) h r, 0, t, e => by
    cases e
    exact ⟨x, rfl, h⟩
  | _, _, .cons h r, i + 1, t, e => Mts.at r i t e
section
variable {P : Program} {w : World} {K : PySem.W.Frag} {mg : Str → Option Value} {base : Heap}
theorem ok_from0 {f : Addr} {fd : FuncData} (D : DefAt K mg "need_from" s_need_from P_need_from f fd) (B : Bn mg) : FnOk P w K mg base CX0 1 f fd P_need_from spFrom0 := by
  refine D.F.ok sc_need_from (fun vs H Q E h => ?_) (fun cdv A outer s H vs Q E hr h => ?_)
  · obtain ⟨lo, n, rfl, _⟩ := h
    rfl
  · obtain ⟨lo, n, rfl, n0, q⟩ := h
    refine ⟨_, (pss_one (ps_if (PW.pt (pw_or (pt_val (pe_callB call_isi (by rfl) B.isinstance (by decide +kernel) (pa_cons (pv 1) (pa_cons (pe_bltn (v := .ty "bool") (by rfl) B.bool (by decide +kernel) rfl) pa_nil)))) (pw_or1 (pt_cmpR op_lt (pv 1) (pv 0) (nomark _))))) (pss_one ps_never) pss_nil)), ?_⟩
    refine ⟨.int n, rfl, _, _, _, _, false, rfl, ClsV.ty _, TyX.base (TyOf.int _), kit_ty (by decide +kernel), _, rfl, iteF ?_⟩
    exact ⟨.int n, rfl, .int lo, rfl, n, lo, rfl, rfl, _, rfl, ite2 (fun h => absurd (of_decide_eq_true h) (by omega)) (fun _ => q)⟩
theorem ok_within0 {f fA : Addr} {fd fdA : FuncData} (D : DefAt K mg "need_within" s_need_within P_need_within f fd) (D_need_from : DefAt K mg "need_from" s_need_from P_need_from fA fdA) (B : Bn mg) : FnOk P w K mg base CX0 2 f fd P_need_within spWithin0 := by
  have G_need_from : FnOk P w K mg base CX0 1 fA fdA P_need_from spFrom0 := ok_from0 D_need_from B
  refine D.F.ok sc_need_within (fun vs H Q E h => ?_) (fun cdv A outer s H vs Q E hr h => ?_)
  · obtain ⟨lo, hi, n, rfl, _⟩ := h
    rfl
  · obtain ⟨lo, hi, n, rfl, n0, n1, q⟩ := h
    refine ⟨_, (pss_cons (ps_expr (pe_call G_need_from (hr.mono (by omega)) (by rfl) D_need_from.g D_need_from.F.kp D_need_from.b .nil pass0 (pa_cons (pv 0) (pa_cons (pv 2) pa_nil))))
      (pss_one (ps_if (pt_cmpR op_gt (pv 2) (pv 1) (nomark _)) (pss_one ps_never) pss_nil))), ?_⟩
    refine ⟨.int lo, rfl, .int n, rfl, lo, n, rfl, n0, ?_⟩
    exact ⟨.int n, rfl, .int hi, rfl, n, hi, rfl, rfl, _, rfl, ite2 (fun h => absurd (of_decide_eq_true h) (by omega)) (fun _ => q)⟩
theorem ok_need0 {f fA fV : Addr} {fd fdA fdV : FuncData} {tok : Tok} (D : DefAt K mg "need_length" s_need_length P_need_length f fd) (D_need_from : DefAt K mg "need_from" s_need_from P_need_from fA fdA) (D_need_within : DefAt K mg "need_within" s_need_within P_need_within fV fdV) (g_FAR : mg "FAR" = some (.int 1000000000000000000 tok)) (B : Bn mg) : FnOk P w K mg base CX0 3 f fd P_need_length spNeed0 := by
  have G_need_within : FnOk P w K mg base CX0 2 fV fdV P_need_within spWithin0 := ok_within0 D_need_within D_need_from B
  refine D.F.ok sc_need_length (fun vs H Q E h => ?_) (fun cdv A outer s H vs Q E hr h => ?_)
  · obtain ⟨n, rfl, _⟩ := h
    rfl
  · obtain ⟨n, rfl, n0, n1, q⟩ := h
    refine ⟨_, (pss_one (ps_expr (pe_call G_need_within (hr.mono (by omega)) (by rfl) D_need_within.g D_need_within.F.kp D_need_within.b .nil pass0 (pa_cons pe_int (pa_cons (pe_glob (v := .int _) (by rfl) g_FAR ⟨_, rfl⟩) (pa_cons (pv 0) pa_nil)))))), ?_⟩
    exact ⟨.int n, rfl, 0, 1000000000000000000, n, rfl, n0, n1, q⟩
theorem ok_need1 {f fM : Addr} {fd fdM : FuncData} {n : Int} (D : DefAt K mg "need_mating" s_need_mating P_need_mating f fd) (D_is_mating : DefAt K mg "is_mating" s_is_mating P_is_mating fM fdM) (n0 : 0 ≤ n) (n1 : n ≤ 1000000000000000000) (B : Bn mg) : FnOk P w K mg base CX0 2 f fd P_need_mating (spNeed1 n) := by
  have G_is_mating : FnOk P w K mg base CX0 1 fM fdM P_is_mating spIsMat := ok_is_mating D_is_mating B
  refine D.F.ok sc_need_mating (fun vs H Q E h => ?_) (fun cdv A outer s H vs Q E hr h => ?_)
  · obtain ⟨t, m, rfl, _⟩ := h
    rfl
  · obtain ⟨t, m, rfl, em, ⟨h1, h2, h3, h4, h5, h6⟩, q⟩ := h
    refine ⟨_, (pss_one (ps_if (pt_not (pt_val (pe_call G_is_mating (hr.mono (by omega)) (by rfl) D_is_mating.g D_is_mating.F.kp D_is_mating.b .nil pass0 (pa_cons (pv 0) (pa_cons (pv 1) pa_nil))))) (pss_one ps_never) pss_nil)), ?_⟩
    refine ⟨.int n, rfl, .ref t, rfl, n, t, .int m.1, .int m.2.1, .int m.2.2.1, .int m.2.2.2, rfl, by omega, em, .int (by omega), .int (by omega), .int (by omega), .int (by omega), fun H3 s3 => ?_⟩
    rw [show isMat n (.int m.1) (.int m.2.1) (.int m.2.2.1) (.int m.2.2.2) = true from decide_eq_true ⟨h1, h2, h3, h4, h5, h6⟩]
    exact ⟨true, rfl, iteF (q _ s3)⟩
end
/-! ### {k: v for i, x in enumerate(us)} -/
/-! ### {k: v for i, x in enumerate(us)}, us a tuple -/
/-! ### put -/
def nrm (x : M4) : M4 := ((if x.2.1 < x.1 then x.2.1 else x.1), (if x.2.1 < x.1 then x.1 else x.2.1), x.2.2.1, x.2.2.2)
section
variable {P : Program} {w : World} {K : PySem.W.Frag} {mg : Str → Option Value} {base : Heap} {C : Addr}
end
/-! ### merge, halve -/
section
variable {P : Program} {w : World} {K : PySem.W.Frag} {mg : Str → Option Value} {base : Heap} {C : Addr}
end

/-! ### left -/
/-- pairs of a number and a mating -/
def LsR (H : Hp) (u : Addr) (s : Int × M4) : Prop := ∃ t, H u = some (.tup [.int s.1, .ref t]) ∧ H t = some (t4 s.2)
def Ls (H : Hp) (us : List Addr) (S : StL) : Prop := Paired (LsR H) us S
theorem Ls.snoc {H : Hp} {u : Addr} {s : Int × M4} (hs : LsR H u s) : ∀ {us : List Addr} {S : StL}, Ls H us S → Ls H (us ++ [u]) (S ++ [s])
  | _, _, .nil => .cons hs .nil
  | _, _, .cons h r => .cons h (Ls.snoc hs r)
theorem Ls.keep {H H' : Hp} (k : KeepT H H') : ∀ {us : List Addr} {S : StL}, Ls H us S → Ls H' us S
  | _, _, .nil => .nil
  | _, _, .cons h r => .cons (h.elim fun t e => ⟨t, k _ _ e.1, k _ _ e.2⟩) (Ls.keep k r)
theorem Ls.length {H : Hp} : ∀ {us : List Addr} {S : StL}, Ls H us S → us.length = S.length
  | _, _, .nil => rfl
  | _, _, .cons h r => congrArg (· + 1) (Ls.length r)
theorem sget_mem : ∀ {S : StL} {s : Int × M4}, (S.map (·.1)).Pairwise (· < ·) → s ∈ S → sget S s.1 = some s.2
  | x :: r, s, h, hm => by
    rcases List.mem_cons.mp hm with rfl | hm
    · exact if_pos rfl
    · have h' := List.pairwise_cons.mp h
      have lt : x.1 < s.1 := h'.1 s.1 (List.mem_map.mpr ⟨s, hm, rfl⟩)
      show (if x.1 = s.1 then some x.2 else sget r s.1) = some s.2
      rw [if_neg (by omega)]
      exact sget_mem h'.2 hm
section
variable {P : Program} {w : World} {K : PySem.W.Frag} {mg : Str → Option Value} {base : Heap} {C : Addr}
end
/-! ### __init__ -/
def en : Nat → List M4 → StL
  | _, [] => []
  | i, x :: r => (((i : Nat) : Int), nrm x) :: en (i + 1) r
section
variable {P : Program} {w : World} {K : PySem.W.Frag} {mg : Str → Option Value} {base : Heap} {C : Addr}
end
theorem FnOk.or {P : Program} {w : World} {K : PySem.W.Frag} {mg : Str → Option Value} {base : Heap} {CX : CXT} {k : Nat} {f : Addr} {fd : FuncData} {ps : List Str} {s1 s2 : Sp} (F : FnOk P w K mg base CX k f fd ps s1) (G : FnOk P w K mg base CX k f fd ps s2) :
    FnOk P w K mg base CX k f fd ps (fun vs H Q E => s1 vs H Q E ∨ s2 vs H Q E) :=
  ⟨fun vs H Q E h => h.elim (F.len vs H Q E) (G.len vs H Q E), fun A outer s H args us vs Q E hr he hb hv h => h.elim (F.run A outer s H args us vs Q E hr he hb hv) (G.run A outer s H args us vs Q E hr he hb hv)⟩

/-! ### sorted(d.items()) of a dict with rising int keys whose values are objects -/
namespace SIt
open PySem PySem.W PySem.Calls PyProof.Rows PyProof.V PySem.Spec
section
variable {prog : Program} {w : World} {A : Around} {E : Value → Shared → Prop} {s : Shared}
theorem eqBool_self {t : Addr} {Q : Bool → Shared → Prop} (h : Q true s) : wpAny (model prog w) A (eqBool (.ref t) (.ref t)) Q E s := by
  unfold eqBool
  refine wpAny_holding ?_
  rw [if_pos (show (Value.ref t == Value.ref t) = true from beq_self_eq_true _)]
  exact wpAny_bind (wpAny_rule (wpAny_pure h))
/-- the tuple (k, the object at u) -/
def PairK (h : Heap) (v : Value) (k : Int) (u : Addr) : Prop := ∃ (a : Addr) (t : Tok), v = .ref a ∧ IsTup h a #[.int k t, .ref u]
def intOf : Option Value → Int
  | some (.int x _) => x
  | _ => 0
def keyI (h : Heap) (v : Value) : Int := intOf (DT.seqAt0 h (DT.refOf (some v)))
theorem PairK.key {h : Heap} {v : Value} {k : Int} {u : Addr} (x : PairK h v k u) : keyI h v = k := by
  obtain ⟨a, t, rfl, h1⟩ := x
  show intOf (DT.seqAt0 h a) = k
  rw [DT.seqAt0_of h1]
  rfl
theorem firstsK {h : Heap} : ∀ vs : List Value, (∀ v ∈ vs, ∃ k u, PairK h v k u) → ∃ fs : List Value, KatTups h vs fs ∧ fs.length = vs.length ∧ ∀ f ∈ fs, ∃ (k : Int) (t : Tok), f = Value.int k t
  | [], _ => ⟨[], KatTups.nil, rfl, fun f hf => by simp at hf⟩
  | v :: vs, x => by
    obtain ⟨fs, k, hl, hi⟩ := firstsK vs fun u hu => x u (List.mem_cons_of_mem _ hu)
    obtain ⟨y, u, a, t, rfl, ⟨o, ho, hc, n, hd⟩⟩ := x v (List.mem_cons_self ..)
    refine ⟨.int y t :: fs, KatTups.cons ho hc hd rfl k, by rw [List.length_cons, List.length_cons, hl], fun f hf => ?_⟩
    rcases List.mem_cons.mp hf with rfl | hf
    · exact ⟨y, t, rfl⟩
    · exact hi f hf
theorem kind_k {vs : List Value} (h2 : 2 ≤ vs.length) (x : ∀ v ∈ vs, ∃ k u, PairK s.heap v k u) (inj : ∀ v ∈ vs, ∀ v' ∈ vs, keyI s.heap v = keyI s.heap v' → v = v') (Q : SortKind → Shared → Prop)
    (h : ∀ κ, TS.Cmp prog w A s κ (pairsOf vs) (fun v => keyI s.heap v) → Q κ s) : wpAny (model prog w) A (keyKind' vs.toArray) Q E s := by
  obtain ⟨fs, k, hl, hi⟩ := firstsK vs x
  refine kat_kind (T := Value.type "int") k (by omega) (fun f hf => ?_) rfl (h _ ?_)
  · obtain ⟨q, t, rfl⟩ := hi f hf
    exact PySem.W.Looks.now
  · have hb : (Value.type "int" != Value.type "tuple") = true := by first | rfl | decide | simp
    rw [hb]
    intro p q hp hq Q' E' hQ
    rw [pairsOf_toList] at hp hq
    have mp := (mem_zip_self hp).2
    have mq := (mem_zip_self hq).2
    obtain ⟨y, u, py⟩ := x _ mp
    obtain ⟨z, u', pz⟩ := x _ mq
    have hQ' : Q' (decide (y < z)) s := by
      have hQ2 : Q' (decide (keyI s.heap p.1 < keyI s.heap q.1)) s := hQ
      rw [py.key, pz.key] at hQ2
      exact hQ2
    by_cases e : y = z
    · have same : p.1 = q.1 := inj _ mp _ mq (by rw [py.key, pz.key]; exact e)
      have irr : decide (y < z) = false := decide_eq_false (by omega)
      rw [irr] at hQ'
      obtain ⟨a, t, e1, ⟨o, ho, hc, n, hd⟩⟩ := py
      rw [← same, e1]
      refine kat_lt ho hd ho hd ?_
      show KatLex prog w A true (decide ((#[Value.int y t, Value.ref u] : Array Value).size < (#[Value.int y t, Value.ref u] : Array Value).size)) Q' [(Value.int y t, Value.int y t), (Value.ref u, Value.ref u)] 0 s
      rw [show decide ((#[Value.int y t, Value.ref u] : Array Value).size < (#[Value.int y t, Value.ref u] : Array Value).size) = false from decide_eq_false (Nat.lt_irrefl _)]
      refine kat_cons (wpAny_eqBool_int ?_)
      rw [beq_self_eq_true]
      exact kat_yes (kat_cons (eqBool_self (kat_yes (kat_nil hQ'))))
    · obtain ⟨a, t, e1, ⟨o, ho, hc, n, hd⟩⟩ := py
      obtain ⟨a', t', e2, ⟨o', ho', hc', n', hd'⟩⟩ := pz
      rw [e1, e2]
      refine kat_lt ho hd ho' hd' ?_
      show KatLex prog w A true _ Q' [(Value.int y t, Value.int z t'), (Value.ref u, Value.ref u')] 0 s
      refine kat_cons (wpAny_eqBool_int ?_)
      rw [show (y == z) = false from beq_eq_false_iff_ne.mpr e]
      exact kat_no (TS.oneLt_ints _ hQ')
end
theorem pairs_get {prog : Program} {w : World} {κ : Type} [DecidableEq κ] {knd : KeyKind prog w κ} : ∀ {es : List DictEntry} {kvs : List (κ × Value)}, Pairs knd es kvs → ∀ (j : Nat) (e : DictEntry), es[j]? = some e → ∃ kv, kvs[j]? = some kv ∧ knd.is kv.1 e.key = true ∧ e.val = kv.2
  | _, _, .nil, j, e, h => by simp at h
  | _, _, .cons h1 h2 _, 0, e, h => by
    cases h
    exact ⟨_, rfl, h1, h2⟩
  | _, _, .cons _ _ r, j + 1, e, h => pairs_get r j e h
theorem pairs_len {prog : Program} {w : World} {κ : Type} [DecidableEq κ] {knd : KeyKind prog w κ} : ∀ {es : List DictEntry} {kvs : List (κ × Value)}, Pairs knd es kvs → es.length = kvs.length
  | _, _, .nil => rfl
  | _, _, .cons _ _ r => congrArg (· + 1) (pairs_len r)
/-- a permutation that rises is the one that rises strictly -/
theorem perm_rise {α : Type} {f : α → Int} : ∀ {xs ys : List α}, xs.Perm ys → xs.Pairwise (fun a b => f a ≤ f b) → ys.Pairwise (fun a b => f a < f b) → xs = ys
  | [], ys, p, _, _ => (List.Perm.nil_eq p)
  | x :: xs, [], p, _, _ => nomatch (List.Perm.eq_nil p)
  | x :: xs, y :: ys, p, h1, h2 => by
    have m1 : x ∈ y :: ys := p.subset List.mem_cons_self
    have m2 : y ∈ x :: xs := p.symm.subset List.mem_cons_self
    have e : x = y := by
      rcases List.mem_cons.mp m1 with z | z
      · exact z
      · rcases List.mem_cons.mp m2 with z' | z'
        · exact z'.symm
        · have a1 := (List.pairwise_cons.mp h1).1 _ z'
          have a2 := (List.pairwise_cons.mp h2).1 _ z
          omega
    subst e
    rw [perm_rise (List.Perm.cons_inv p) (List.pairwise_cons.mp h1).2 (List.pairwise_cons.mp h2).2]
end SIt
section
open PySem PySem.Spec PyProof.Rows
variable {X : Cx}
abbrev entK (e : Int × Addr) : Key × V := (Sum.inl e.1, V.ref e.2)
def rItemsK : V → List V → Hp → VK → Prop := fun x xs H Q => ∃ (a : Addr) (kvs : List (Key × V)), x = .ref a ∧ xs = [] ∧ H a = some (.dK kvs) ∧ ∀ p, H p = none → Q (.ref p) (upd H p (L2.DX.itemsO p a))
theorem mt_itemsK : MtR X "dict.items" rItemsK := by
  intro pins s σ H x xs v us Q I rx rxs h
  obtain ⟨a, kvs, rfl, rfl, ha, q⟩ := h
  cases rx
  cases rxs
  obtain ⟨z, hd, vs, rel, o, es, ep, ho, hx, hdat, _⟩ := dk_of I.hok ha
  refine DT.callItems (es := es) (ep := ep) hd ⟨o, ho, hx, hdat⟩ ?_
  have hf : H s.heap.objs.size = none := I.hok.fresh (Nat.le_refl _)
  exact ⟨.ref s.heap.objs.size, upd H s.heap.objs.size (L2.DX.itemsO s.heap.objs.size a), I.laid (t' := s.toks) (fun b u e => Heap.get?_push_of_some _ e) (Nat.le_refl _) (L2.DX.itemsO_ok (Heap.get?_push_size _ rfl)), rfl, q _ hf⟩
def rSortK : List V → Hp → VK → Prop := fun vs H Q => ∃ (p a : Addr) (ks : List (Int × Addr)), vs = [.ref p] ∧ H p = some (L2.DX.itemsO p a) ∧ H a = some (.dK (ks.map entK)) ∧ ks.length < 64 ∧ (ks.map (·.1)).Pairwise (· < ·) ∧
  ∀ (H' : Hp) (l : Addr) (as : List Addr), Same H H' → H l = none → H' l = some (.lst (as.map V.ref)) → Paired (fun (t : Addr) (e : Int × Addr) => H' t = some (.tup [.int e.1, .ref e.2])) as ks → Q (.ref l) H'
theorem paired_of {α β : Type} {F : α → β → Prop} : ∀ {as : List α} {bs : List β}, as.length = bs.length → (∀ (j : Nat) (a : α) (b : β), as[j]? = some a → bs[j]? = some b → F a b) → Paired F as bs
  | [], [], _, _ => .nil
  | [], _ :: _, h, _ => by cases h
  | _ :: _, [], h, _ => by cases h
  | a :: as, b :: bs, h, f => .cons (f 0 a b rfl rfl) (paired_of (Nat.succ.inj h) fun j x y hx hy => f (j + 1) x y hx hy)
theorem cr_sortedK (hc : X.calm = true) : CallR X (.builtin "sorted") rSortK := by
  intro pins s σ H xs us Q I r h
  obtain ⟨p, a, ks, rfl, hp, ha, h64, up, q⟩ := h
  obtain rfl := Vals.ref1 r
  have view : s.heap.IsItemsView p a := (show ObjOk X.prog X.w H s.heap p (L2.DX.itemsO p a) from I.hok p _ hp).1
  obtain ⟨z, hd, xs', rel, o, es, ep, ho, hx, hdat, _, hes, hn⟩ := dk_of I.hok ha
  have l1 : (ks.map entK).length = xs'.length := Paired.length rel
  rw [List.length_map] at l1
  have l2 : es.size = xs'.length := by rw [← Array.length_toList]; exact SIt.pairs_len hes
  have hh : X.A.handled = none := I.ok.hd hc
  refine DT.sortedI (es := es) (ep := ep) hh view ⟨o, ho, hx, hdat⟩ (by rw [sizeLine_eq]; omega) fun h' tk as hk hlt hl hG => ?_
  have lak : as.length = ks.length := by omega
  have nd : as.Nodup := List.Pairwise.imp (fun h => Nat.ne_of_lt h) hG.rise
  -- the pairs that were made
  have pr : ∀ (j : Nat) (b : Addr), as[j]? = some b → ∃ (e : Int × Addr) (t : Tok), ks[j]? = some e ∧ h'.get? b = some { cls := .type "tuple", data := .seq #[Value.int e.1 t, Value.ref e.2] } := by
    intro j b hj
    obtain ⟨en, he, hg⟩ := hG.pairs j b hj
    rw [← Array.getElem?_toList] at he
    obtain ⟨kv, hkv, k1, k2⟩ := SIt.pairs_get hes j en he
    obtain ⟨e0, he0, r1, r2⟩ := L2.DX.pget rel hkv
    rw [List.getElem?_map] at he0
    obtain ⟨e, hej, rfl⟩ := Option.map_eq_some_iff.mp he0
    have k1' : keyIs kv.1 en.key = true := k1
    rw [← r1] at k1'
    obtain ⟨t, et⟩ : ∃ t, en.key = Value.int e.1 t := by
      rcases keyIs_shape k1' with ⟨i, t, e1, e2⟩ | ⟨x, t, e1, e2⟩
      · cases e1
        exact ⟨t, e2⟩
      · cases e1
    have ev : en.val = Value.ref e.2 := k2.trans (show kv.2 = Value.ref e.2 from r2)
    exact ⟨e, t, hej, by rw [hg, et, ev]⟩
  -- the heap of the sort
  have hob : (h'.push { cls := .type "list", data := .seq (as.map Value.ref).toArray }).get? h'.objs.size = some (seqObj "list" (as.map Value.ref).toArray 0) := Heap.get?_push_size _ rfl
  have kb : ∀ b o, s.heap.get? b = some o → (h'.push { cls := .type "list", data := .seq (as.map Value.ref).toArray }).get? b = some o := fun b o e => Heap.get?_push_of_some _ (hk b o e)
  have ne0 : ∀ b o, h'.get? b = some o → b ≠ h'.objs.size := fun b o e => Nat.ne_of_lt (Heap.lt_size e)
  generalize hh2 : h'.push { cls := .type "list", data := .seq (as.map Value.ref).toArray } = h2 at hob kb ⊢
  have ka : ∀ b o, h'.get? b = some o → h2.get? b = some o := fun b o e => by rw [← hh2]; exact Heap.get?_push_of_some _ e
  have pin : ∀ (j : Nat) (b : Addr), as[j]? = some b → ∃ e : Int × Addr, ks[j]? = some e ∧ SIt.PairK (TS.midHeap h2 h'.objs.size (as.map Value.ref)) (.ref b) e.1 e.2 := by
    intro j b hj
    obtain ⟨e, t, he, hg⟩ := pr j b hj
    exact ⟨e, he, b, t, rfl, ⟨_, TS.midHeap_old (ne0 _ _ hg) (ka _ _ hg), rfl, 0, rfl⟩⟩
  have tx : ∀ (j : Nat) (b : Addr) (e : Int × Addr), as[j]? = some b → ks[j]? = some e → SIt.keyI (TS.midHeap h2 h'.objs.size (as.map Value.ref)) (.ref b) = e.1 := by
    intro j b e hj he
    obtain ⟨e', he', hp'⟩ := pin j b hj
    have ee : e' = e := Option.some.inj (he'.symm.trans he)
    rw [← ee]
    exact hp'.key
  have at_ : ∀ v ∈ as.map Value.ref, ∃ (j : Nat) (b : Addr) (e : Int × Addr), v = .ref b ∧ as[j]? = some b ∧ ks[j]? = some e := by
    intro v hv'
    obtain ⟨b, hb, rfl⟩ := List.mem_map.mp hv'
    obtain ⟨j, hj⟩ := List.mem_iff_getElem?.mp hb
    obtain ⟨e, _, he, _⟩ := pr j b hj
    exact ⟨j, b, e, rfl, hj, he⟩
  have inj : ∀ (i j : Nat) (e f : Int × Addr), ks[i]? = some e → ks[j]? = some f → e.1 = f.1 → i = j := by
    intro i j e f hi hj ef
    have ndk : (ks.map (·.1)).Nodup := List.Pairwise.imp (fun h => by omega) up
    have hi' : i < (ks.map (·.1)).length := by rw [List.length_map]; exact (List.getElem?_eq_some_iff.mp hi).1
    refine (List.getElem?_inj hi' ndk).mp ?_
    rw [List.getElem?_map, List.getElem?_map, hi, hj]
    exact congrArg some ef
  refine wpAny_call_entry PyProof.Rows.slot_list_sort ⟨_, hob, rfl⟩ PyProof.Rows.entry_list_sort
    (SK.plain_sort (s := { s with heap := h2, toks := tk }) (r := fun v => SIt.keyI (TS.midHeap h2 h'.objs.size (as.map Value.ref)) v) hob (by rw [List.length_map]; omega) (fun h2' Qk hQk => ?_) fun ps out o1 o2 o3 => ⟨.none, rfl, ?_⟩) (PyProof.Rows.args_list_sort _)
  · refine SIt.kind_k (s := { s with heap := TS.midHeap h2 h'.objs.size (as.map Value.ref), toks := tk }) h2' (fun v hv' => ?_) (fun v hv' u hu' ek => ?_) Qk hQk
    · obtain ⟨j, b, e, rfl, hj, he⟩ := at_ v hv'
      obtain ⟨e', _, hp'⟩ := pin j b hj
      exact ⟨e'.1, e'.2, hp'⟩
    · obtain ⟨j, b, e, rfl, hj, he⟩ := at_ v hv'
      obtain ⟨j2, b2, e2, rfl, hj2, he2⟩ := at_ u hu'
      have ek' : SIt.keyI (TS.midHeap h2 h'.objs.size (as.map Value.ref)) (.ref b) = SIt.keyI (TS.midHeap h2 h'.objs.size (as.map Value.ref)) (.ref b2) := ek
      rw [tx j b e hj he, tx j2 b2 e2 hj2 he2] at ek'
      have ij := inj j j2 e e2 he he2 ek'
      subst ij
      rw [hj] at hj2
      rw [Option.some.inj hj2]
  · show EP X pins σ Q (.ref h'.objs.size) { s with heap := sortedHeap h2 h'.objs.size (as.map Value.ref) out, toks := tk }
    obtain ⟨zs, pz, ez⟩ := perm_lift (fun z : Addr × Int × Addr => (Value.ref z.1, Value.ref z.1)) o2 (as.zip ks) (L2.DX.zip_self Value.ref as ks lak)
    have idx : ∀ z ∈ as.zip ks, ∃ j : Nat, as[j]? = some z.1 ∧ ks[j]? = some z.2 := by
      intro z' hz'
      obtain ⟨j, hj⟩ := List.mem_iff_getElem?.mp hz'
      exact ⟨j, List.getElem?_zip_eq_some.mp hj⟩
    have m2 : (as.zip ks).map (·.2) = ks := List.map_snd_zip (by rw [lak]; exact Nat.le_refl _)
    have m1 : (as.zip ks).map (·.1) = as := List.map_fst_zip (by rw [lak]; exact Nat.le_refl _)
    have hsort : zs.Pairwise (fun e f => e.2.1 ≤ f.2.1) := by
      rw [← ez, List.pairwise_map] at o3
      refine List.Pairwise.imp_of_mem (fun {x y} hx hy h => ?_) o3
      obtain ⟨j, j1, j2⟩ := idx x (pz.mem_iff.mp hx)
      obtain ⟨i, i1, i2⟩ := idx y (pz.mem_iff.mp hy)
      have h' : SIt.keyI (TS.midHeap h2 h'.objs.size (as.map Value.ref)) (.ref x.1) ≤ SIt.keyI (TS.midHeap h2 h'.objs.size (as.map Value.ref)) (.ref y.1) := h
      rw [tx j _ _ j1 j2, tx i _ _ i1 i2] at h'
      exact h'
    have hrise : (as.zip ks).Pairwise (fun e f => e.2.1 < f.2.1) := by
      have e : ((as.zip ks).map (fun z => z.2.1)).Pairwise (· < ·) := by
        rw [show (as.zip ks).map (fun z => z.2.1) = ((as.zip ks).map (·.2)).map (·.1) by rw [List.map_map]; rfl, m2]
        exact up
      exact List.pairwise_map.mp e
    have ezs : zs = as.zip ks := SIt.perm_rise (f := fun z : Addr × Int × Addr => z.2.1) pz hsort hrise
    subst ezs
    have hout : out.toList = as.map Value.ref := by
      rw [o1, ← ez, List.map_map]
      show (as.zip ks).map (fun z => Value.ref z.1) = as.map Value.ref
      rw [show (as.zip ks).map (fun z => Value.ref z.1) = ((as.zip ks).map (·.1)).map Value.ref by rw [List.map_map]; rfl, m1]
    -- behind the sort
    have kF : ∀ b o, b ≠ h'.objs.size → h2.get? b = some o → (sortedHeap h2 h'.objs.size (as.map Value.ref) out).get? b = some o := fun b o hb e => (PyProof.Rows.sortedHeap_old hb (Heap.lt_size e)).trans e
    have kS : ∀ b o, s.heap.get? b = some o → (sortedHeap h2 h'.objs.size (as.map Value.ref) out).get? b = some o := fun b o e => kF b o (ne0 _ _ (hk b o e)) (kb b o e)
    obtain ⟨eF, heF⟩ := PyProof.Rows.sortedHeap_at (vs := as.map Value.ref) (out := out) hob
    have I1 : Inv X pins σ H { s with heap := sortedHeap h2 h'.objs.size (as.map Value.ref) out, toks := tk } := I.kept (t' := tk) kS
    have hn0 : H h'.objs.size = none := I.hok.fresh (Nat.le_of_lt hlt)
    have hlen : (as.map V.ref).length ≤ sizeLine := by
      rw [List.length_map, sizeLine_eq]
      omega
    have rv : Vals (as.map V.ref) out.toList := by
      rw [hout]
      exact LiI.vals_refs as
    have I2 : Inv X pins σ (upd H h'.objs.size (.lst (as.map V.ref))) { s with heap := sortedHeap h2 h'.objs.size (as.map Value.ref) out, toks := tk } :=
      I1.take (h' := sortedHeap h2 h'.objs.size (as.map Value.ref) out) (t' := tk) (fun b ob _ e => e) (I.fpOk (Nat.le_of_lt hlt) hn0) ⟨hlen, out.toList, eF, rv, heF⟩
    obtain ⟨H2, I3, g, qt⟩ := L2.DX.takeT (P := fun b vs => ∃ (j : Nat) (e : Int × Addr), as[j]? = some b ∧ ks[j]? = some e ∧ vs = [.int e.1, .ref e.2]) I as _ I2 nd fun b hb => by
      obtain ⟨j, hj⟩ := List.mem_iff_getElem?.mp hb
      obtain ⟨e, t, he, hg⟩ := pr j b hj
      have hbl : s.heap.objs.size ≤ b := Nat.le_of_lt (hG.above b hb)
      refine ⟨hbl, ?_, [.int e.1, .ref e.2], ⟨j, e, hj, he, rfl⟩, fun H3 => ⟨(by rw [sizeLine_eq]; show 2 ≤ 16777216; omega), [Value.int e.1 t, Value.ref e.2], .cons ⟨t, rfl⟩ (.cons rfl .nil), ⟨_, kF _ _ (ne0 _ _ hg) (ka _ _ hg), rfl, 0, rfl⟩⟩⟩
      rw [upd_ne (ne0 _ _ hg)]
      exact I.hok.fresh hbl
    have gr : ∀ b o, H b = some o → H2 b = some o := fun b o e => g b o (by rw [upd_ne (ne_of_none e hn0)]; exact e)
    refine ⟨.ref h'.objs.size, H2, I3, rfl, q H2 h'.objs.size as gr hn0 (g _ _ upd_same) (paired_of lak fun j b e hj he => ?_)⟩
    obtain ⟨vs, ⟨i, e', i1, i2, ev⟩, hH⟩ := qt b (List.mem_of_getElem? hj)
    have eij : i = j := (List.getElem?_inj (List.getElem?_eq_some_iff.mp i1).1 nd).mp (i1.trans hj.symm)
    subst eij
    have ee : e' = e := Option.some.inj (i2.symm.trans he)
    rw [hH, ev, ee]
end

/-! ### max(xs, default=d), xs a list of ints -/
section
open PySem.Spec PyProof.Rows
variable {prog : Program} {w : World} {A : Around} {E : Value → Shared → Prop} {s : Shared} {l : Addr}
theorem old_of_push {ob : Obj} {g : Heap} (hk : ∀ b o, b ∉ [s.heap.objs.size] → (s.heap.push ob).get? b = some o → g.get? b = some o) {b : Addr} {o : Obj} (e : s.heap.get? b = some o) : g.get? b = some o :=
  hk b o (fun z => Nat.lt_irrefl _ ((List.mem_singleton.mp z) ▸ Heap.lt_size e)) (Heap.get?_push_of_some _ e)
theorem max_dflt {its : List Value} {ns : List Int} {d : Value} {Q : Value → Shared → Prop} (hh : A.handled = none) (hl : s.heap.IsList l its.toArray) (hi : IntsAre its ns)
    (h0 : ns = [] → ∀ g tk, (∀ b o, s.heap.get? b = some o → g.get? b = some o) → Q d { s with heap := g, toks := tk })
    (h1 : ∀ g tk M t, (∀ b o, s.heap.get? b = some o → g.get? b = some o) → M ∈ ns → (∀ a, a ∈ ns → a ≤ M) → Q (.int M t) { s with heap := g, toks := tk }) :
    wpAny (model prog w) A (call (.builtin "max") [.ref l] [(Str.ofString "default", d)]) Q E s := by
  obtain ⟨xs, e⟩ := hi.allInts.items
  have hn : numsOf (intItems xs).toList = ns := by
    rw [← e]
    exact hi.numsOf
  rw [nums_intItems] at hn
  subst hn
  rw [e] at hl
  refine PySem.call_max_walkD (iter_any hl fun s2 e2 st hne => ?_)
  subst e2
  have hlt : l < s.heap.objs.size := by
    obtain ⟨_, q, _⟩ := hl
    exact Heap.lt_size q
  have hz : (intItems xs).size = xs.size := by simp [intItems]
  refine ⟨_, _, _, _, _, _, _, ⟨#[], {}⟩, fun i j => decide (numAt xs i > numAt xs j), rfl, (Walks.list (A := A.in1) hh _ l hne (intItems xs)).toS, st, fun b hb => ?_, fun b o q => by simp [Heap.get?] at q, fun b o q => by simp [Heap.get?] at q, fun hn s' mv => ?_, fun hn => ⟨fun i j vi vj s0 Q' E' _ pi pj q => ?_, fun v s' pv mv => ?_⟩⟩
  · rw [Heap.size_push]
    rcases List.mem_cons.mp hb with rfl | hb
    · exact Nat.lt_succ_self _
    · rcases List.mem_cons.mp hb with rfl | hb
      · exact Nat.lt_succ_of_lt hlt
      · cases hb
  · have hx : xs.toList.map (·.1) = [] := by
      rw [hz] at hn
      rw [List.map_eq_nil_iff, ← List.length_eq_zero_iff, Array.length_toList]
      exact hn
    obtain ⟨hp, hg, hd, ht, ho⟩ := s'
    obtain ⟨m1, m2, m3, m4, m5⟩ := mv
    simp only at m2 m3 m4
    subst m2 m3 m4
    exact h0 hx hp ht fun b o q => old_of_push m1 q
  · exact CmpOf.ints_gt (numAt xs) (fun _ _ => intItems_at) i j vi vj s0 Q' E' pi pj q
  · obtain ⟨t, rfl⟩ := intItems_at pv
    rw [hz] at hn
    obtain ⟨a1, a2⟩ := argBest_gt (numAt xs) (xs.size - 1)
    obtain ⟨hp, hg, hd, ht, ho⟩ := s'
    obtain ⟨m1, m2, m3, m4, m5⟩ := mv
    simp only at m2 m3 m4
    subst m2 m3 m4
    rw [hz]
    refine h1 hp ht _ t (fun b o q => old_of_push m1 q) ?_ fun a ha => ?_
    · rw [numAt_eq]
      exact PySem.getD_mem (by rw [List.length_map, Array.length_toList]; omega)
    · obtain ⟨j, hj, rfl⟩ := mem_getD ha
      rw [List.length_map, Array.length_toList] at hj
      rw [← numAt_eq]
      exact a2 j (by omega)
end
def rMaxDf (K : PySem.W.Frag) : List V → List V → Hp → VK → Prop := fun vs zs H Q => ∃ (a : Addr) (ns : List Int) (d : V), vs = [.ref a] ∧ zs = [d] ∧ SqL K H a (ns.map V.int) ∧ (ns = [] → Q d H) ∧ ∀ m, m ∈ ns → (∀ y, y ∈ ns → y ≤ m) → Q (.int m) H
theorem cr_maxDf {X : Cx} (hc : X.calm = true) : CallRK X (.builtin "max") ["default"] (rMaxDf X.K) := by
  intro pins s σ H vs zs us ws Q I r1 r2 h
  obtain ⟨a, ns, d, rfl, rfl, hs, q0, q1⟩ := h
  obtain ⟨its, rv, hl, _⟩ := I.list hs
  rw [Vals.ref1 r1]
  cases r2 with
  | cons rd rn =>
    cases rn
    exact max_dflt (I.ok.hd hc) hl.isList rv.ints (fun e g tk hk => ⟨d, H, I.kept hk, rd, q0 e⟩) fun g tk m t hk h1 h2 => ⟨.int _, H, I.kept hk, ⟨_, rfl⟩, q1 m h1 h2⟩

/-! ### a road that is being folded, as data -/
inductive Ev where
  | bare (m e : Int)
  | fold (m e lo st f : Int)
structure FS where
  e : Int
  S : StL
  L : List Ev
def evV : Ev → List V
  | .bare m e => [.str "bare", .int m, .int e]
  | .fold m e lo st f => [.str "fold", .int m, .int e, .int lo, .int st, .int f]
inductive Mo where
  | idle (i : Int)
  | halve (i : Int)
  | merge (i j : Int)
  | lead (j d i : Int)
  | fold (i m : Int)
  | bare (m : Int)
/-- a mating below e, told with its lesser stretch first -/
structure Rok (e : Int) (x : M4) : Prop where
  o0 : 0 ≤ x.1
  op : x.1 ≤ x.2.1
  m1 : 1 ≤ x.2.2.1
  pe : x.2.1 + x.2.2.1 ≤ e
  f01 : x.2.2.2 = 0 ∨ x.2.2.2 = 1
structure WF (X : FS) : Prop where
  e0 : 0 ≤ X.e
  e1 : X.e ≤ 4000000000000000000
  r : ∀ s ∈ X.S, Rok X.e s.2
  up : (X.S.map (·.1)).Pairwise (· < ·)
  len : X.S.length ≤ 60
theorem sget_in : ∀ {S : StL} {i : Int} {x : M4}, sget S i = some x → (i, x) ∈ S
  | s :: r, i, x, h => by
    have h' : (if s.1 = i then some s.2 else sget r i) = some x := h
    by_cases e : s.1 = i
    · rw [if_pos e] at h'
      cases h'
      rw [← e]
      exact List.mem_cons_self
    · rw [if_neg e] at h'
      exact List.mem_cons_of_mem _ (sget_in h')
theorem WF.at {X : FS} (h : WF X) {i : Int} {x : M4} (e : sget X.S i = some x) : Rok X.e x := h.r _ (sget_in e)
theorem sput_mem {S : StL} {i : Int} {x : M4} {s : Int × M4} (h : s ∈ sput S i x) : (s.1 = i ∧ s.2 = x) ∨ s ∈ S ∧ s.1 ≠ i := by
  obtain ⟨t, ht, e⟩ := List.mem_map.mp h
  by_cases z : t.1 = i
  · rw [if_pos z] at e
    rw [← e]
    exact .inl ⟨z, rfl⟩
  · rw [if_neg z] at e
    rw [← e]
    exact .inr ⟨ht, z⟩
theorem sdrop_mem {S : StL} {i : Int} {s : Int × M4} (h : s ∈ sdrop S i) : s ∈ S ∧ s.1 ≠ i := by
  obtain ⟨h1, h2⟩ := List.mem_filter.mp h
  exact ⟨h1, of_decide_eq_true h2⟩
theorem fold_max_ge (l : List Int) : ∀ a : Int, a ≤ l.foldl max a ∧ ∀ y ∈ l, y ≤ l.foldl max a := by
  induction l with
  | nil => exact fun a => ⟨Int.le_refl _, fun y h => by cases h⟩
  | cons z r ih =>
    intro a
    obtain ⟨h1, h2⟩ := ih (max a z)
    refine ⟨by show a ≤ r.foldl max (max a z); omega, fun y hy => ?_⟩
    show y ≤ r.foldl max (max a z)
    rcases List.mem_cons.mp hy with rfl | hy
    · omega
    · exact h2 y hy
theorem fold_max_in (l : List Int) : ∀ a : Int, l.foldl max a = a ∨ l.foldl max a ∈ l := by
  induction l with
  | nil => exact fun a => .inl rfl
  | cons z r ih =>
    intro a
    show r.foldl max (max a z) = a ∨ r.foldl max (max a z) ∈ z :: r
    rcases ih (max a z) with h | h
    · rw [h]
      by_cases q : a < z
      · exact .inr (by rw [show max a z = z by omega]; exact List.mem_cons_self)
      · exact .inl (by omega)
    · exact .inr (List.mem_cons_of_mem _ h)
/-- the greatest of the numbers, and 0 -/
theorem max_is {l : List Int} {M : Int} (h0 : 0 ≤ M) (h1 : M = 0 ∨ M ∈ l) (h2 : ∀ y ∈ l, y ≤ M) : M = l.foldl max 0 := by
  obtain ⟨g1, g2⟩ := fold_max_ge l 0
  have a : M ≤ l.foldl max 0 := by
    rcases h1 with h | h
    · omega
    · exact g2 M h
  have b : l.foldl max 0 ≤ M := by
    rcases fold_max_in l 0 with h | h
    · omega
    · exact h2 _ h
  omega
theorem WF.drop {X : FS} (h : WF X) (i : Int) : WF ⟨X.e, sdrop X.S i, X.L⟩ := ⟨h.e0, h.e1, fun s hs => h.r s (sdrop_mem hs).1, sdrop_keys h.up, Nat.le_trans (sdrop_length _ _) h.len⟩
theorem WF.put {X : FS} (h : WF X) {i : Int} {y : M4} (hy : Rok X.e y) : WF ⟨X.e, sput X.S i y, X.L⟩ := by
  refine ⟨h.e0, h.e1, fun s hs => ?_, by rw [sput_keys]; exact h.up, by rw [sput_length]; exact h.len⟩
  rcases sput_mem hs with ⟨_, e⟩ | ⟨hs, _⟩
  · rw [e]
    exact hy
  · exact h.r s hs
/-! ### a front, as the data tell it -/
def Past (H : Hp) (ps : List V) (L : List Ev) : Prop := Paired (fun v ev => ∃ t, v = V.ref t ∧ H t = some (.tup (evV ev))) ps L
theorem Past.keep {H H' : Hp} (k : KeepT H H') {ps : List V} {L : List Ev} (h : Past H ps L) : Past H' ps L := Paired.mapP h fun v ev ⟨t, e1, e2⟩ => ⟨t, e1, k _ _ e2⟩
theorem Past.length {H : Hp} : ∀ {ps : List V} {L : List Ev}, Past H ps L → ps.length = L.length
  | _, _, .nil => rfl
  | _, _, .cons _ r => congrArg (· + 1) (Past.length r)
theorem Past.snoc {H : Hp} {v : V} {ev : Ev} (hs : ∃ t, v = V.ref t ∧ H t = some (.tup (evV ev))) : ∀ {ps : List V} {L : List Ev}, Past H ps L → Past H (ps ++ [v]) (L ++ [ev])
  | _, _, .nil => .cons hs .nil
  | _, _, .cons h r => .cons h (Past.snoc hs r)
def FrS (C : Addr) (H : Hp) (a s q : Addr) (X : FS) : Prop := ∃ ps, FrAt C H a s q X.e X.S ps ∧ Past H ps X.L
theorem FrS.same {C : Addr} {H H' : Hp} {a s q : Addr} {X : FS} (h : FrS C H a s q X) (k : Same H H') : FrS C H' a s q X := by
  obtain ⟨ps, h1, h2⟩ := h
  exact ⟨ps, h1.same k, h2.keep fun b xs hb => k _ _ hb⟩
theorem FrAt.edge {C dx : Addr} {H : Hp} {a s q : Addr} {e m : Int} {S : StL} {ps : List V} (h : FrAt C H a s q e S ps) : FrAt C (upd H a (.ins C dx (fr m s q))) a s q m S ps ∧ Off a s q H (upd H a (.ins C dx (fr m s q))) := by
  obtain ⟨⟨dx0, ea⟩, ⟨kvs0, es, st0⟩, eq, up, len⟩ := h
  have n1 : s ≠ a := ne_of es ea (fun z => by cases z)
  have n2 : q ≠ a := ne_of eq ea (fun z => by cases z)
  refine ⟨⟨⟨dx, upd_same⟩, ⟨kvs0, by rw [upd_ne n1]; exact es, st0.keep fun b xs hb => ?_⟩, by rw [upd_ne n2]; exact eq, up, len⟩, fun b o hb h1 _ _ => ?_⟩
  · rw [upd_ne (ne_of hb ea (fun z => by cases z))]
    exact hb
  · rw [upd_ne h1]
    exact hb
theorem FrAt.past {C : Addr} {H : Hp} {a s q : Addr} {e : Int} {S : StL} {ps ps' : List V} (h : FrAt C H a s q e S ps) : FrAt C (upd H q (.lst ps')) a s q e S ps' ∧ Off a s q H (upd H q (.lst ps')) := by
  obtain ⟨⟨dx0, ea⟩, ⟨kvs0, es, st0⟩, eq, up, len⟩ := h
  have n1 : s ≠ q := ne_of es eq (fun z => by cases z)
  have n2 : a ≠ q := ne_of ea eq (fun z => by cases z)
  refine ⟨⟨⟨dx0, by rw [upd_ne n2]; exact ea⟩, ⟨kvs0, by rw [upd_ne n1]; exact es, st0.keep fun b xs hb => ?_⟩, upd_same, up, len⟩, fun b o hb _ _ h3 => ?_⟩
  · rw [upd_ne (ne_of hb eq (fun z => by cases z))]
    exact hb
  · rw [upd_ne h3]
    exact hb
/-! ### leader, idle, bare, reach -/
section
variable {P : Program} {w : World} {K : PySem.W.Frag} {mg : Str → Option Value} {base : Heap} {C : Addr}
end

/-! ### led_back, lead -/
section
variable {P : Program} {w : World} {K : PySem.W.Frag} {mg : Str → Option Value} {base : Heap} {C : Addr}
end

/-! ### clipped -/
section
variable {P : Program} {w : World} {K : PySem.W.Frag} {mg : Str → Option Value} {base : Heap}
end

/-! ### fold -/
section
variable {P : Program} {w : World} {K : PySem.W.Frag} {mg : Str → Option Value} {base : Heap} {C : Addr}
end

/-! ### made, make -/
section
variable {P : Program} {w : World} {K : PySem.W.Frag} {mg : Str → Option Value} {base : Heap} {C : Addr}
end

/-! ### lambdas that a def gives back: their objects and the cells they hold, told in the heap -/
section
open PySem.Spec PyProof.Rows LamX NdefX
/-- a cell that no running frame writes any more -/
def CellO (c : Addr) (u : Value) : HO := .ext fun h => h.IsCell c (some u)
/-- the words of a lambda without parameters -/
structure LF where
  qual : Str
  params : Arguments
  body : Expr
  scope : Scope
  cl : List (Str × Addr)
  c : Addr
def LF.nf (F : LF) : NF := ⟨"<lambda>", F.qual, F.params, [], F.scope, F.cl, F.c⟩
def LamO (f : Addr) (F : LF) : HO := .ext fun h => ∃ pm ctv : Value, h.get? f = some (PySem.W.kla_obj "<lambda>" F.qual F.params F.body F.scope F.cl pm F.c ctv)
theorem cell_ok {P : Program} {w : World} {H : Hp} {h : Heap} {c : Addr} {u : Value} (e : h.IsCell c (some u)) : ObjOk P w H h c (CellO c u) :=
  ⟨e, e.elim fun o z => ⟨o, z.1⟩, fun _ _ ⟨o, a, b⟩ st => ⟨o, st o a, b⟩⟩
theorem cell_of {P : Program} {w : World} {H : Hp} {h : Heap} {c : Addr} {u : Value} (hok : HOk P w H h) (e : H c = some (CellO c u)) : h.IsCell c (some u) := (hok c _ e).1
/-- one more is tracked -/
theorem hok_more {P : Program} {w : World} {H : Hp} {h : Heap} {a : Addr} {o : HO} (x : HOk P w H h) (n : H a = none) (new : ObjOk P w (upd H a o) h a o) : HOk P w (upd H a o) h := by
  intro b u e
  by_cases hb : b = a
  · subst hb
    rw [upd_same] at e
    cases e
    exact new
  · rw [upd_ne hb] at e
    refine (x b u e).stay (fun _ _ _ q => q) (fun c q => ?_) fun c xs q => ?_
    · rw [upd_ne (ne_of_none q n)]
      exact q
    · rw [upd_ne (ne_of_none q n)]
      exact q
/-- the heap without some cells -/
def offC (cs : List Addr) (H : Hp) : Hp := fun b => if b ∈ cs then none else H b
theorem offC_in {cs : List Addr} {H : Hp} {b : Addr} (h : b ∈ cs) : offC cs H b = none := if_pos h
theorem offC_out {cs : List Addr} {H : Hp} {b : Addr} (h : b ∉ cs) : offC cs H b = H b := if_neg h
/-- the cells of cl hold ws, by the names fr -/
structure CellsT (cl : List (Str × Addr)) (fr : List Str) (ws : List V) (H : Hp) : Prop where
  len : ws.length = fr.length
  all : ∀ p ∈ cl, ∃ u, H p.2 = some (CellO p.2 u)
  inj : ∀ x y c, cl.lookup x = some c → cl.lookup y = some c → x = y
  has : ∀ (i : Nat) (y : Str) (v : V), fr[i]? = some y → ws[i]? = some v → ∃ c u, cl.lookup y = some c ∧ L2.RelV v u ∧ H c = some (CellO c u)
theorem cellO_ne_own {c a : Addr} {u : Value} : CellO c u ≠ .own a := fun z => by
  unfold CellO at z
  cases z
theorem cellO_ne_tup {c : Addr} {u : Value} {xs : List V} : CellO c u ≠ .tup xs := fun z => by
  unfold CellO at z
  cases z
theorem cellO_ne_frz {c : Addr} {u : Value} {o : Obj} {v : HO} : CellO c u ≠ .frz o v := fun z => by
  unfold CellO at z
  cases z
theorem cellO_ne_tbl {c : Addr} {u : Value} {ps : Array Value} : CellO c u ≠ .tbl ps := fun z => by
  unfold CellO at z
  cases z
def clA (cl : List (Str × Addr)) : List Addr := cl.map (·.2)
theorem clA_mem {cl : List (Str × Addr)} {y : Str} {c : Addr} (h : cl.lookup y = some c) : c ∈ clA cl := List.mem_map.mpr ⟨_, PySem.mem_of_lookup h, rfl⟩
theorem lam_ok {P : Program} {w : World} {H : Hp} {h : Heap} {f : Addr} {F : LF} {pm ctv : Value} (e : h.get? f = some (PySem.W.kla_obj "<lambda>" F.qual F.params F.body F.scope F.cl pm F.c ctv)) : ObjOk P w H h f (LamO f F) :=
  ⟨⟨pm, ctv, e⟩, ⟨_, e⟩, fun _ _ ⟨a, b, z⟩ st => ⟨a, b, st _ z⟩⟩
/-! rows that end in a return: what is wanted of it tells the names too -/
abbrev RK := V → L2.St → Hp → Prop
def RP (X : Cx) (pins : List (Addr × Obj)) (R : RK) (fl : Flow) (s' : Shared) : Prop := ∃ u v σ' H', fl = .ret u ∧ Inv X pins σ' H' s' ∧ L2.RelV v u ∧ R v σ' H'
structure PR (X : Cx) (sts : List Stmt) (tr : RK → L2.St → Hp → Prop) : Prop where
  run : ∀ (pins : List (Addr × Obj)) (s : Shared) (σ : L2.St) (H : Hp) (R : RK), Inv X pins σ H s → tr R σ H →
    wpAny (model X.prog X.w) X.A (execs sts X.env) (RP X pins R) X.xe s
def rSeq (t : TS) (tr : RK → L2.St → Hp → Prop) : RK → L2.St → Hp → Prop := fun R σ H => t { nx := fun σ1 H1 => tr R σ1 H1, rt := fun _ _ => False } σ H
def rCut (t : TS) (tr : RK → L2.St → Hp → Prop) : RK → L2.St → Hp → Prop := fun R σ H => ∃ M : L2.St → Hp → Prop, t { nx := M, rt := fun _ _ => False } σ H ∧ ∀ σ1 H1, M σ1 H1 → tr R σ1 H1
def rIf (tc : TT) (ra rb : RK → L2.St → Hp → Prop) : RK → L2.St → Hp → Prop := fun R σ H => tc σ H fun b H1 => if b = true then ra R σ H1 else rb R σ H1
def rRet (te : TE) : RK → L2.St → Hp → Prop := fun R σ H => te σ H fun v H1 => R v σ H1
section
variable {X : Cx} {st : Stmt} {rest a : List Stmt} {t : TS} {ra rb tr : RK → L2.St → Hp → Prop} {e c : Expr} {te : TE} {tc : TT} {pos : Pos}
theorem pr_seq (h1 : PS X st t) (h2 : PR X rest tr) : PR X (st :: rest) (rSeq t tr) := by
  refine ⟨fun pins s σ H R I hh => wpAny_execs_cons (thn (h1.run pins s σ H _ I hh) fun fl s1 k => ?_)⟩
  cases fl with
  | next =>
    obtain ⟨σ1, H1, I1, k⟩ := k
    exact h2.run pins s1 σ1 H1 R I1 k
  | ret v =>
    obtain ⟨_, _, _, _, _, z⟩ := k
    exact z.elim
  | brk =>
    obtain ⟨_, _, _, z⟩ := k
    exact z.elim
  | cont =>
    obtain ⟨_, _, _, z⟩ := k
    exact z.elim
theorem pr_cut (h1 : PS X st t) (h2 : PR X rest tr) : PR X (st :: rest) (rCut t tr) := by
  refine ⟨fun pins s σ H R I hh => ?_⟩
  obtain ⟨M, hM, hR⟩ := hh
  refine wpAny_execs_cons (thn (h1.run pins s σ H _ I hM) fun fl s1 k => ?_)
  cases fl with
  | next =>
    obtain ⟨σ1, H1, I1, k⟩ := k
    exact h2.run pins s1 σ1 H1 R I1 (hR _ _ k)
  | ret v =>
    obtain ⟨_, _, _, _, _, z⟩ := k
    exact z.elim
  | brk =>
    obtain ⟨_, _, _, z⟩ := k
    exact z.elim
  | cont =>
    obtain ⟨_, _, _, z⟩ := k
    exact z.elim
theorem pr_ret (he : PE X e te) : PR X [.Return (some e) pos] (rRet te) := by
  refine ⟨fun pins s σ H R I hh => wpAny_execs_cons (wpAny_Return_some (thn (he.run pins s σ H _ I hh) fun u s1 k => ?_))⟩
  obtain ⟨v, H1, I1, r, k⟩ := k
  exact ⟨u, v, σ, H1, rfl, I1, r, k⟩
theorem pr_if (hc : PT X c tc) (ha : PR X a ra) (hb : PR X rest rb) : PR X (.If c a [] pos :: rest) (rIf tc ra rb) := by
  refine ⟨fun pins s σ H R I hh => wpAny_execs_cons (wpAny_If (thn (hc.run pins s σ H _ I hh) fun d s1 k => ?_))⟩
  obtain ⟨H1, I1, k⟩ := k
  cases d with
  | true =>
    refine thn (ha.run pins s1 σ H1 R I1 k) fun fl s2 z => ?_
    obtain ⟨u, v, σ', H', rfl, z⟩ := z
    exact ⟨u, v, σ', H', rfl, z⟩
  | false => exact wpAny_execs_nil (hb.run pins s1 σ H1 R I1 k)
end
/-! closing: at the return the cells of the slots Y are told -/
theorem close_all {X : Cx} {pins : List (Addr × Obj)} {σ : L2.St} {H : Hp} {s : Shared} (J : Inv X pins σ H s) (new : ∀ y c, X.env.cells.lookup y = some c → X.s_0.heap.objs.size ≤ c) :
    ∀ Y : List Nat, (∀ i ∈ Y, ∃ y w, X.N[i]? = some y ∧ X.env.scope.names.lookup y = some .cell ∧ σ[i]? = some (some w)) →
      ∃ G : Hp, (∀ b o, H b = some o → G b = some o) ∧ HOk X.prog X.w G s.heap ∧ (∀ b, G b = H b ∨ (H b = none ∧ X.s_0.heap.objs.size ≤ b ∧ ∃ u, G b = some (CellO b u))) ∧
        ∀ i ∈ Y, ∀ y w, X.N[i]? = some y → σ[i]? = some (some w) → ∃ c u, X.env.cells.lookup y = some c ∧ L2.RelV w u ∧ G c = some (CellO c u)
  | [], _ => ⟨H, fun _ _ z => z, J.hok, fun _ => .inl rfl, fun i hi => by cases hi⟩
  | i :: Y, hY => by
    obtain ⟨G, g1, g2, g3, g4⟩ := close_all J new Y fun j hj => hY j (List.mem_cons_of_mem _ hj)
    obtain ⟨y, w, hy, hk, hw⟩ := hY i List.mem_cons_self
    obtain ⟨m, _, lo⟩ := J.loc
    obtain ⟨u, ru, lk⟩ := lo i y w hy hw (.inr (.inl hk))
    obtain ⟨c, hc, ic⟩ : ∃ c, X.env.cells.lookup y = some c ∧ s.heap.IsCell c (some u) := by
      rcases lk with ⟨z, _⟩ | ⟨_, c, e, ic⟩
      · have z : X.env.scope.names.lookup y = some .local := z
        rw [hk] at z
        cases z
      · exact ⟨c, e, ic⟩
    have hn := J.freeC y c hc
    have one : ∀ {G2 : Hp}, G2 c = some (CellO c u) → (∀ b o, G b = some o → G2 b = some o) → ∀ j ∈ i :: Y, ∀ y' w', X.N[j]? = some y' → σ[j]? = some (some w') → ∃ c' u', X.env.cells.lookup y' = some c' ∧ L2.RelV w' u' ∧ G2 c' = some (CellO c' u') := fun {G2} h1 h2 j hj y' w' e1 e2 => by
      rcases List.mem_cons.mp hj with rfl | hj
      · rw [hy] at e1
        cases e1
        rw [hw] at e2
        cases e2
        exact ⟨c, u, hc, ru, h1⟩
      · obtain ⟨c', u', a1, a2, a3⟩ := g4 j hj y' w' e1 e2
        exact ⟨c', u', a1, a2, h2 _ _ a3⟩
    rcases g3 c with z | ⟨_, _, u2, z⟩
    · have gn : G c = none := z.trans hn
      refine ⟨upd G c (CellO c u), fun b o hb => ?_, hok_more g2 gn (cell_ok ic), fun b => ?_, one upd_same fun b o hb => ?_⟩
      · rw [upd_ne (ne_of_none hb hn)]
        exact g1 b o hb
      · by_cases q : b = c
        · subst q
          exact .inr ⟨hn, new y _ hc, u, upd_same⟩
        · rw [upd_ne q]
          exact g3 b
      · rw [upd_ne (ne_of_none hb gn)]
        exact hb
    · have ic2 := cell_of g2 z
      obtain ⟨o1, p1, q1⟩ := ic
      obtain ⟨o2, p2, q2⟩ := ic2
      rw [p1] at p2
      cases p2
      rw [q1] at q2
      cases q2
      exact ⟨G, g1, g2, g3, one z fun _ _ hb => hb⟩
/-- what is wanted at a return behind which the cells of Y are told -/
def closeR (N : List Str) (cells : List (Str × Addr)) (Y : List Nat) (Q : VK) : RK := fun v σ H =>
  (∀ i ∈ Y, ∃ w, σ[i]? = some (some w)) ∧ ∀ G : Hp, (∀ x y c, cells.lookup x = some c → cells.lookup y = some c → x = y) → (∀ b o, H b = some o → G b = some o) → (∀ b, G b = H b ∨ (H b = none ∧ ∃ u, G b = some (CellO b u))) →
    (∀ i ∈ Y, ∀ y w, N[i]? = some y → σ[i]? = some (some w) → ∃ c u, cells.lookup y = some c ∧ L2.RelV w u ∧ G c = some (CellO c u)) → Q v G
theorem fn_okR {CX : CXT} {P : Program} {w : World} {K : PySem.W.Frag} {mg : Str → Option Value} {base : Heap} {x qual : Str} {st : Stmt} {f : Addr} {N ps : List Str} {k : Nat} {sp : Sp} {Y : List Nat} {kV doc pm cdv ct oc : Value} {an od : Option Addr} {osl : Array (Option Value)}
    (lk : K.lookup f = some ⟨oc, od, .func (PySem.W.fnOf x qual (defArgs st) (defBody st) (defScope st) .none kV doc pm an cdv ct), osl⟩) (hcd : PySem.W.codeIn K cdv qual = true) (S : FnScope N ps (defScope st))
    (hY : ∀ i ∈ Y, ∃ y, N[i]? = some y ∧ (defScope st).names.lookup y = some .cell) (len : ∀ vs H Q E, sp vs H Q E → vs.length = ps.length)
    (hbody : ∀ (A : Around) (outer : List Env) (s : Shared) (H : Hp) (vs : List V) (Q : VK) (E : XK), Room k (A.deeper (envOfC qual (defScope st) s.heap.objs.size f cdv)) → sp vs H Q E →
      ∃ tr, PR (cxOf CX P w K mg base N qual (defScope st) f cdv A outer s H E) (defBody st) tr ∧ tr (closeR N (cellsFrom (s.heap.objs.size + 1) (defScope st).names []) Y Q) (start N vs) H) :
    FnOk P w K mg base CX (k + 1) f (PySem.W.fnOf x qual (defArgs st) (defBody st) (defScope st) .none kV doc pm an cdv ct) ps sp := by
  refine ⟨len, fun A outer s H args us vs Q E hr e0 hb r hsp => ?_⟩
  have KX : K.In s.heap := e0.mod.kin.keeps fun b o z => (e0.bs b o z).1
  have nl : s.heap.NoLimit := e0.mod.nolimit.keeps fun b o z => (e0.bs b o z).1
  have kinds : ∀ y ∈ ps.zip us, (defScope st).names.lookup y.1 = some .local ∨ ((defScope st).names.lookup y.1 = some .cell ∧ ((cellsFrom (s.heap.objs.size + 1) (defScope st).names []).lookup y.1).isSome = true) := by
    rintro ⟨n, v⟩ hy
    exact (S.par n (List.of_mem_zip hy).1).imp id fun q => ⟨q, PySem.W.cellsFrom_some _ _ _ (.inl q)⟩
  refine codeAny_call_function hr.depth (KX _ _ lk) rfl S.co S.gen rfl (PySem.W.codeRec_of KX hcd) (hb _ _ _ _ ?_)
  refine wpAny_newFunctionEnv_cells S.kind kinds fun env he s1 xx => ?_
  subst he
  refine ⟨nl.keeps xx.toInCall.keep, codeAny_func ?_⟩
  obtain ⟨tr, htr, hq⟩ := hbody A outer s H vs Q E (hr.deeper _) hsp
  have I0 := inv_start (CX := CX) (E := E) (cd := cdv) (f := f) (qual := qual) S hr.hd e0 (len _ _ _ _ hsp) r xx
  refine wpAny_mono (htr.run [] s1 _ H _ I0 hq) (fun fl s' z => ?_) fun _ _ z => z
  obtain ⟨u, v, σ', H', rfl, J, rv, hw, hc⟩ := z
  obtain ⟨G, g1, g2, g3, g4⟩ := close_all J (fun y c e => J.ok.cab y c rfl e) Y fun i hi => by
    obtain ⟨y, e1, e2⟩ := hY i hi
    obtain ⟨w', e3⟩ := hw i hi
    exact ⟨y, w', e1, e2, e3⟩
  refine ⟨v, G, J.os, J.bare, ⟨J.base.keep, J.base.slot, fun b o e n hx => ?_, J.base.there, fun b xs e => g1 _ _ (J.base.tups b xs e), fun b o z e => g1 _ _ (J.base.frzs b o z e), fun b p e => ?_⟩, g2, rv, hc G J.ok.inj g1 (fun b => ?_) g4⟩
  · rcases g3 b with z | ⟨_, z, _⟩
    · rw [z]
      exact J.base.free b o e n hx
    · exact absurd (Heap.lt_size e) (Nat.not_lt.mpr z)
  · obtain ⟨more, e2⟩ := J.base.tbls b p e
    exact ⟨more, g1 _ _ e2⟩
  · exact (g3 b).imp id fun z => ⟨z.1, z.2.2⟩
/-! a lambda as a value -/
theorem lam_made {X : Cx} {pins : List (Addr × Obj)} {σ : L2.St} {H : Hp} {s : Shared} {T : List (Addr × Str)} {c P : Addr} {params : Arguments} {body : Expr} {scope : Scope} {pos : Pos} {E Q : Value → Shared → Prop}
    (I : Inv X pins σ H s) (TB : TabB X.base X.mg c P) (hcode : X.env.code = .ref c) (hm : (P, X.env.qual ++ "<lambda>") ∈ T) (hu : ∀ p ∈ T, p.1 = P → p.2 = X.env.qual ++ "<lambda>") (hT : Tabs T H)
    (hdef : defaultsOf params X.env = ([], [])) (hfree : ∀ y ∈ scope.names, y.2 = .free → ∃ c, X.env.cells.lookup y.1 = some c)
    (h : ∀ (f c' : Addr) (H1 : Hp) (s' : Shared), Inv X pins σ H1 s' → ExtN H H1 → Tabs T H1 → H f = none → H1 f = some (LamO f ⟨X.env.qual ++ "<lambda>", params, body, scope, cloFrom X.env.cells scope.names [], c'⟩) →
      H1 c' = some (CodeO c' (X.env.qual ++ "<lambda>")) → Q (.ref f) s') :
    wpAny (model X.prog X.w) X.A (eval (.Lambda params body scope pos) X.env) Q E s := by
  obtain ⟨ps, hP, ht, ha⟩ := hT _ hm
  refine PySem.W.kla_eval hdef ?_
  have bP : s.heap.BuiltinsAt X.mg P := TB.bm.keeps I.bk
  have hP' : s.heap.get? P = some { cls := .none, data := .fields ps } := I.hok P _ hP
  -- the object is pushed behind I1
  have fin : ∀ {H1 : Hp} {h' : Heap} {tk : Nat} {c' : Addr} {pm ctv : Value}, Inv X pins σ H1 { s with heap := h', toks := tk } → ExtN H H1 → Tabs T H1 → H h'.objs.size = none → H1 c' = some (CodeO c' (X.env.qual ++ "<lambda>")) →
      Q (.ref h'.objs.size) { s with heap := h'.push (PySem.W.kla_obj "<lambda>" (X.env.qual ++ "<lambda>") params body scope (cloFrom X.env.cells scope.names []) pm c' ctv), toks := tk } := fun {H1 h' tk c' pm ctv} I1 eN T1 hn hc' => by
    have nf := I1.hok.fresh (Nat.le_refl h'.objs.size)
    have I2 := I1.laid (t' := tk) (a := h'.objs.size) (o := LamO h'.objs.size ⟨X.env.qual ++ "<lambda>", params, body, scope, cloFrom X.env.cells scope.names [], c'⟩) (fun b u e => Heap.get?_push_of_some _ e) (Nat.le_refl _) (lam_ok (pm := pm) (ctv := ctv) (Heap.get?_push_size _ rfl))
    refine h _ c' _ _ I2 (fun b o e n => ?_) (T1.ext fun b o e => ?_) hn upd_same ?_
    · rw [upd_ne (ne_of_none (eN b o e n) nf)]
      exact eN b o e n
    · rw [upd_ne (ne_of_none e nf)]
      exact e
    · rw [upd_ne (ne_of_none hc' nf)]
      exact hc'
  cases hc : codeAmong pos ps.toList with
  | none =>
    refine PySem.W.kla_makeFunction (mg := X.mg) (c := c) (P := P) (ps := ps) (closure_ok hfree) I.ok.glob (I.mod.glob.keeps I.bk) hcode (TB.code.keeps I.bk) hP' ht hc TB.gP bP ?_
    intro c' ctv h' tk hx hge hlt hrec htb
    obtain ⟨c2, oc, vs, t, e2, hoc, hd, hv⟩ := hrec
    cases e2
    have nC : H c' = none := I.hok.fresh hge
    have I1 := inv_table (t' := tk) (more := #[rawInt pos.line, rawInt pos.col, .ref c']) (h' := h') I hP (fun b o hb e => hx b o hb e) htb hge ⟨oc, vs, t, hoc, hd, hv⟩
    have eN : ExtN H (upd (upd H P (.tbl (ps ++ #[rawInt pos.line, rawInt pos.col, .ref c']))) c' (CodeO c' (X.env.qual ++ "<lambda>"))) := by
      intro b o e n
      rw [upd_ne (ne_of_none e nC), upd_ne fun z => n ps (Option.some.inj (e.symm.trans (by rw [z]; exact hP)))]
      exact e
    refine fin I1 eN (fun p hp => ?_) (I.hok.fresh (Nat.le_trans hge (Nat.le_of_lt hlt))) upd_same
    by_cases hb : p.1 = P
    · rw [hu p hp hb, hb]
      have eL : (ps ++ #[rawInt pos.line, rawInt pos.col, .ref c']).toList = ps.toList ++ [rawInt pos.line, rawInt pos.col, .ref c'] := by simp
      refine ⟨_, by rw [upd_ne (ne_of_none hP nC), upd_same], by rw [eL]; exact PySem.TriplesOk_snoc _ _ _ _ ht, fun p' cv hcv => ?_⟩
      rw [eL] at hcv
      rcases among_app _ ht hcv with z | z
      · obtain ⟨c0, a1, a2⟩ := ha p' cv z
        exact ⟨c0, a1, eN _ _ a2 codeO_ne⟩
      · exact ⟨c', z, upd_same⟩
    · obtain ⟨ps', a1, a2, a3⟩ := hT p hp
      refine ⟨ps', by rw [upd_ne (ne_of_none a1 nC), upd_ne hb]; exact a1, a2, fun p' cv hcv => ?_⟩
      obtain ⟨c0, b1, b2⟩ := a3 p' cv hcv
      exact ⟨c0, b1, eN _ _ b2 codeO_ne⟩
  | some cv =>
    obtain ⟨c', e, hco⟩ := ha pos cv hc
    subst e
    refine PySem.W.kla_makeFunctionHit (mg := X.mg) (c := c) (P := P) (ps := ps) (closure_ok hfree) I.ok.glob (I.mod.glob.keeps I.bk) hcode (TB.code.keeps I.bk) hP' ht hc bP ?_
    intro ctv h' tk hx hsz
    exact fin (I.kept (t' := tk) hx) (ExtN.refl H) hT (I.hok.fresh hsz) hco
def tLamV (T : List (Addr × Str)) (mk : Addr → LF) : TE := fun σ H Q => Tabs T H ∧ ∀ (f c' : Addr) (H1 : Hp), ExtN H H1 → Tabs T H1 → H f = none → H1 f = some (LamO f (mk c')) → H1 c' = some (CodeO c' (mk c').qual) → Q (.ref f) H1
theorem pe_lamV {X : Cx} {T : List (Addr × Str)} {c P : Addr} {params : Arguments} {body : Expr} {scope : Scope} {pos : Pos} (TB : TabB X.base X.mg c P) (hcode : X.env.code = .ref c) (hm : (P, X.env.qual ++ "<lambda>") ∈ T) (hu : ∀ p ∈ T, p.1 = P → p.2 = X.env.qual ++ "<lambda>")
    (L : LamS X.env.scope scope) (hdef : defaultsOf params X.env = ([], [])) : PE X (.Lambda params body scope pos) (tLamV T fun c' => ⟨X.env.qual ++ "<lambda>", params, body, scope, cloFrom X.env.cells scope.names [], c'⟩) := by
  refine ⟨fun pins s σ H Q I hh => ?_⟩
  obtain ⟨hT, hh⟩ := hh
  exact lam_made I TB hcode hm hu hT hdef (L.has I.ok) fun f c' H1 s' I1 eN T1 f0 f1 c1 => ⟨.ref f, H1, I1, rfl, hh f c' H1 eN T1 f0 f1 c1⟩
/-- the cells that a lambda took, told behind the return -/
theorem cellsT_of {cells : List (Str × Addr)} {sc : Scope} {N fr : List Str} {σ : L2.St} {Y : List Nat} {G : Hp} {ws : List V} (inj : ∀ x y c, cells.lookup x = some c → cells.lookup y = some c → x = y)
    (tell : ∀ i ∈ Y, ∀ y w, N[i]? = some y → σ[i]? = some (some w) → ∃ c u, cells.lookup y = some c ∧ L2.RelV w u ∧ G c = some (CellO c u)) (h1 : ∀ y ∈ sc.names, y.2 = .free → y.1 ∈ fr) (h2 : ∀ y ∈ fr, (y, NameKind.free) ∈ sc.names) (hl : ws.length = fr.length)
    (hj : ∀ (i : Nat) (y : Str), fr[i]? = some y → ∃ j ∈ Y, ∃ v, N[j]? = some y ∧ ws[i]? = some v ∧ σ[j]? = some (some v)) : CellsT (cloFrom cells sc.names []) fr ws G := by
  have at_ : ∀ y ∈ fr, ∃ c u, cells.lookup y = some c ∧ G c = some (CellO c u) := fun y hy => by
    obtain ⟨i, hi⟩ := List.mem_iff_getElem?.mp hy
    obtain ⟨j, hjY, v, e1, _, e3⟩ := hj i y hi
    obtain ⟨c, u, a, _, b⟩ := tell j hjY y v e1 e3
    exact ⟨c, u, a, b⟩
  have hfree : ∀ y ∈ sc.names, y.2 = .free → ∃ c, cells.lookup y.1 = some c := fun y hy e => by
    obtain ⟨c, _, a, _⟩ := at_ _ (h1 y hy e)
    exact ⟨c, a⟩
  refine ⟨hl, fun p hp => ?_, fun x y c e1 e2 => inj x y c (clo_cm hfree e1) (clo_cm hfree e2), fun i y v e1 e2 => ?_⟩
  · obtain ⟨n, c⟩ := p
    rcases cloFrom_mem hp with z | ⟨z, e⟩
    · cases z
    · obtain ⟨c', u, a, b⟩ := at_ n (h1 _ z rfl)
      rw [a] at e
      have e : c = c' := e
      rw [e]
      exact ⟨u, b⟩
  · obtain ⟨j, hjY, v', a1, a2, a3⟩ := hj i y e1
    rw [e2] at a2
    cases a2
    obtain ⟨c, u, b1, b2, b3⟩ := tell j hjY y v a1 a3
    exact ⟨c, u, clo_has hfree (h2 y (List.mem_of_getElem? e1)) b1, b2, b3⟩
/-! its call, behind the return of the def that made it -/
def CloRuns (P : Program) (w : World) (K : PySem.W.Frag) (mg : Str → Option Value) (base : Heap) (CX : CXT) (k : Nat) (f : Addr) (H : Hp) (Q : VK) (E : XK) : Prop :=
  ∀ (A : Around) (outer : List Env) (s : Shared), Room k A → Env0 P w K mg base A outer s H → codeAny (model P w) A (.call (.ref f) ⟨[], []⟩) (CR CX outer P w H s Q E) s
/-- behind the body the cells are told again -/
def backC (cs : List Addr) (H H1 : Hp) : Hp := fun b => if b ∈ cs then H b else H1 b
theorem backC_in {cs : List Addr} {H H1 : Hp} {b : Addr} (h : b ∈ cs) : backC cs H H1 b = H b := if_pos h
theorem backC_out {cs : List Addr} {H H1 : Hp} {b : Addr} (h : b ∉ cs) : backC cs H H1 b = H1 b := if_neg h
/-- all of cs are told cells -/
def AllC (cs : List Addr) (H : Hp) : Prop := ∀ b ∈ cs, ∃ u, H b = some (CellO b u)
section
variable {P : Program} {w : World} {K : PySem.W.Frag} {mg : Str → Option Value} {base : Heap} {cs : List Addr} {H H1 : Hp} {A : Around} {outer : List Env} {s s' : Shared}
theorem AllC.offE (x : AllC cs H) {b : Addr} {o : HO} (e : H b = some o) (n : ∀ u, o ≠ CellO b u) : b ∉ cs ∧ offC cs H b = some o := by
  have h : b ∉ cs := fun z => by
    obtain ⟨u, z⟩ := x b z
    rw [e] at z
    exact n u (Option.some.inj z)
  exact ⟨h, (offC_out h).trans e⟩
theorem AllC.offN (x : AllC cs H) {b : Addr} (e : H b = none) : b ∉ cs ∧ offC cs H b = none := by
  have h : b ∉ cs := fun z => by
    obtain ⟨u, z⟩ := x b z
    rw [e] at z
    cases z
  exact ⟨h, (offC_out h).trans e⟩
theorem offC_some {b : Addr} {o : HO} (e : offC cs H b = some o) : H b = some o := by
  unfold offC at e
  split at e
  · cases e
  · exact e
theorem AllC.hok (x : AllC cs H) {h : Heap} (k : HOk P w H h) : HOk P w (offC cs H) h := fun b o z =>
  (k b o (offC_some z)).stay (fun _ _ _ g => g) (fun _ g => (x.offE g fun _ z => cellO_ne_own z.symm).2) fun _ _ g => (x.offE g fun _ z => cellO_ne_tup z.symm).2
theorem AllC.env (x : AllC cs H) (e : Env0 P w K mg base A outer s H) : Env0 P w K mg base A outer s (offC cs H) :=
  ⟨e.frames, e.mod, fun b o z => ⟨(e.bs b o z).1, (x.offN (e.bs b o z).2).2⟩, e.bsz, e.funs, fun b z => (x.offN (e.frf b z)).2, x.hok e.hok, e.bare⟩
theorem AllC.back (x : AllC cs H) {h : Heap} (k : HOk P w H1 h) (n : ∀ b ∈ cs, H1 b = none) (ic : ∀ b ∈ cs, ∀ u, H b = some (CellO b u) → h.IsCell b (some u)) : HOk P w (backC cs H H1) h := fun b o z => by
  by_cases hb : b ∈ cs
  · rw [backC_in hb] at z
    obtain ⟨u, e⟩ := x b hb
    rw [e] at z
    cases z
    exact cell_ok (ic b hb u e)
  · rw [backC_out hb] at z
    have out : ∀ {c : Addr} {v : HO}, H1 c = some v → backC cs H H1 c = some v := fun {c v} g => by
      rw [backC_out fun q => ?_]
      · exact g
      · rw [n c q] at g
        cases g
    exact (k b o z).stay (fun _ _ _ g => g) (fun _ g => out g) fun _ _ g => out g
theorem cell_data {h h' : Heap} {c : Addr} {u : Value} (e : h.IsCell c (some u)) (k : ∀ o, h.get? c = some o → ∃ sl, h'.get? c = some { o with slots := sl }) : h'.IsCell c (some u) := by
  obtain ⟨o, a, b⟩ := e
  obtain ⟨sl, z⟩ := k o a
  exact ⟨_, z, b⟩
/-- an end, with the cells told again -/
theorem AllC.ce (x : AllC cs H) (e0 : Env0 P w K mg base A outer s H) {Q : VK} {u : Value} (c : CE outer P w (offC cs H) s (fun v G => (∀ b ∈ cs, G b = none) → Q v (backC cs H G)) u s') : CE outer P w H s Q u s' := by
  obtain ⟨v, G, os, bare, un, hok, rv, q⟩ := c
  have old : ∀ b ∈ cs, ∃ o, s.heap.get? b = some o := fun b hb => by
    obtain ⟨t, e⟩ := x b hb
    obtain ⟨o, a, _⟩ := cell_of e0.hok e
    exact ⟨o, a⟩
  have gn : ∀ b ∈ cs, G b = none := fun b hb => by
    obtain ⟨o, a⟩ := old b hb
    exact un.free b o a (offC_in hb) (by simp)
  refine ⟨v, backC cs H G, os, bare, ⟨fun b o e n => un.keep b o e (x.offN n).2, fun b o e n => un.slot b o e (x.offN n).2, fun b o e n hx => ?_, un.there, fun b xs e => ?_, fun b o z e => ?_, fun b ps e => ?_⟩, x.back hok gn fun b hb t e => ?_, rv, q gn⟩
  · rw [backC_out (x.offN n).1]
    exact un.free b o e (x.offN n).2 hx
  · obtain ⟨a, c⟩ := x.offE e fun _ z => cellO_ne_tup z.symm
    rw [backC_out a]
    exact un.tups b xs c
  · obtain ⟨a, c⟩ := x.offE e fun _ z => cellO_ne_frz z.symm
    rw [backC_out a]
    exact un.frzs b o z c
  · obtain ⟨a, c⟩ := x.offE e fun _ z => cellO_ne_tbl z.symm
    rw [backC_out a]
    exact un.tbls b ps c
  · exact cell_data (cell_of e0.hok e) fun o a => un.any a (offC_in hb) (by simp)
/-- an exception that is let out, with the cells told again -/
theorem AllC.cx (x : AllC cs H) (e0 : Env0 P w K mg base A outer s H) {E : XK} {u : Value} (c : L2.CX P w outer (offC cs H) s (fun cls d G => (∀ b ∈ cs, G b = none) → E cls d (backC cs H G)) u s') : L2.CX P w outer H s E u s' := by
  obtain ⟨a, B, G, cls, d, rfl, fl, hok, ub, na, os, ag, hE⟩ := c
  have inB : ∀ b ∈ cs, ∀ t, H b = some (CellO b t) → B.IsCell b (some t) := fun b hb t e => by
    obtain ⟨o, a, z⟩ := cell_of e0.hok e
    refine ⟨o, ub.keep b o a (offC_in hb) fun q => ?_, z⟩
    have := e0.frf b q
    rw [e] at this
    cases this
  have gn : ∀ b ∈ cs, G b = none := fun b hb => by
    obtain ⟨t, e⟩ := x b hb
    obtain ⟨o, a, _⟩ := cell_of e0.hok e
    exact ub.free b o a (offC_in hb)
  have nac : a ∉ cs := fun hb => by
    obtain ⟨t, e⟩ := x a hb
    obtain ⟨o, z, _⟩ := inB a hb t e
    rw [fl.2.1] at z
    cases z
  refine ⟨a, B, backC cs H G, cls, d, rfl, fl, x.back hok gn inB, ⟨fun b o e n => ub.keep b o e (x.offN n).2, ub.slot, fun b o e n => ?_, ub.there, fun b xs e => ?_, fun b o z e => ?_, fun b ps e => ?_⟩, by rw [backC_out nac]; exact na, os, ag, hE gn⟩
  · rw [backC_out (x.offN n).1]
    exact ub.free b o e (x.offN n).2
  · obtain ⟨a, c⟩ := x.offE e fun _ z => cellO_ne_tup z.symm
    rw [backC_out a]
    exact ub.tups b xs c
  · obtain ⟨a, c⟩ := x.offE e fun _ z => cellO_ne_frz z.symm
    rw [backC_out a]
    exact ub.frzs b o z c
  · obtain ⟨a, c⟩ := x.offE e fun _ z => cellO_ne_tbl z.symm
    rw [backC_out a]
    exact ub.tbls b ps c
end
theorem CellsT.allC {cl : List (Str × Addr)} {fr : List Str} {ws : List V} {H : Hp} (C : CellsT cl fr ws H) : AllC (clA cl) H := fun b hb => by
  obtain ⟨p, hp, rfl⟩ := List.mem_map.mp hb
  exact C.all p hp
theorem CellsT.at0 {P : Program} {w : World} {cl : List (Str × Addr)} {fr : List Str} {ws : List V} {H : Hp} {h : Heap} (C : CellsT cl fr ws H) (hok : HOk P w H h) : CellsAt cl fr (ws.map some) h (offC (clA cl) H) := by
  refine ⟨by rw [List.length_map]; exact C.len, fun y c e => ?_, C.inj, fun i y e => ?_⟩
  · obtain ⟨u, z⟩ := C.all _ (PySem.mem_of_lookup e)
    exact ⟨offC_in (clA_mem e), _, cell_of hok z⟩
  · have hi : i < ws.length := by
      rw [C.len]
      exact (List.getElem?_eq_some_iff.mp e).1
    obtain ⟨c, u, h1, h2, h3⟩ := C.has i y _ e (List.getElem?_eq_getElem hi)
    refine ⟨c, h1, fun v hv => ⟨u, ?_, cell_of hok h3⟩⟩
    rw [List.getElem?_map, List.getElem?_eq_getElem hi] at hv
    cases hv
    exact h2
theorem clo_run {P : Program} {w : World} {K : PySem.W.Frag} {mg : Str → Option Value} {base : Heap} {f : Addr} {F : LF} {fr N : List Str} {ws : List V} {H : Hp} {Q : VK} {E : XK} {k : Nat} {t : TE}
    (S : NScope N [] fr F.scope) (hf : H f = some (LamO f F)) (hc : H F.c = some (CodeO F.c F.qual)) (C : CellsT F.cl fr ws H)
    (hb : ∀ pm ctv : Value, bindArgs (PySem.W.kla_fn "<lambda>" F.qual F.params F.body F.scope F.cl pm (.ref F.c) ctv) ⟨[], []⟩ = pure [])
    (hbody : ∀ (A : Around) (outer : List Env) (s : Shared), Room k (A.deeper (envF F.nf f s.heap.objs.size)) → PE (ncx (L2.CX P w) P w K mg base N F.nf f A outer s (offC (clA F.cl) H) fun cls d G => (∀ b ∈ clA F.cl, G b = none) → E cls d (backC (clA F.cl) H G)) F.body t)
    (q : t (startF N [] (ws.map some)) (offC (clA F.cl) H) fun v H1 => (∀ b ∈ clA F.cl, H1 b = none) → Q v (backC (clA F.cl) H H1)) : CloRuns P w K mg base (L2.CX P w) (k + 1) f H Q E := by
  intro A outer s hr e0
  obtain ⟨pm, ctv, ho⟩ := (e0.hok f _ hf).1
  have nl : s.heap.NoLimit := e0.mod.nolimit.keeps fun b o z => (e0.bs b o z).1
  have aC := C.allC
  have e1 := aC.env e0
  refine PySem.W.kla_callFunE hr.depth ho rfl S.co S.gen rfl (codeO_at e0.hok hc) ?_
  rw [hb pm ctv]
  refine wpAny_pure (wpAny_newFunctionEnv S.nocell (fun y hy => absurd hy (by simp)) (fun h₁ hns hsb => ⟨nl.fresh _ hsb, ?_⟩) S.kind)
  show codeAny _ _ (.expr F.body (envF F.nf f s.heap.objs.size)) _ _
  have kp : ∀ b o, s.heap.get? b = some o → h₁.get? b = some o := fun b o z => hsb.extBut b o (Nat.ne_of_lt (Heap.lt_size z)) (Heap.get?_push_of_some _ z)
  have I := inv_startN (CX := L2.CX P w) (E := fun cls d G => (∀ b ∈ clA F.cl, G b = none) → E cls d (backC (clA F.cl) H G)) (F := F.nf) (f := f) (N := N) (ws := ws.map some) (us := []) (vs := []) (tk := s.toks + ([] : List (Str × Value)).length) S hr.hd e1 rfl .nil (C.at0 e0.hok) hns kp
  refine PySem.W.kla_codeExpr (wpAny_mono ((hbody A outer s (hr.deeper _)).run [] _ _ _ _ I q) (fun v s' z => ?_) fun e s' z => ?_)
  · obtain ⟨v', G, J, rv, q⟩ := z
    exact aC.ce e0 ⟨v', G, J.os, J.bare, J.base, J.hok, rv, q⟩
  · exact wpAny_mono z (fun _ _ c => aC.cx e0 c) fun _ _ c => aC.cx e0 c
/-- x(), x a name that holds such a lambda -/
def tClo (P : Program) (w : World) (K : PySem.W.Frag) (mg : Str → Option Value) (base : Heap) (CX : CXT) (k i : Nat) (E : XK) : TE := fun σ H Q => ∃ (f : Addr) (F : LF), σ[i]? = some (some (.ref f)) ∧ H f = some (LamO f F) ∧ CloRuns P w K mg base CX k f H Q E
theorem pe_clo {X : Cx} {CX : CXT} {k j i : Nat} {x : Str} {E : XK} {p pos : Pos} (hr : Room j X.A) (hk : k ≤ j) (hx : Passes CX X E) (hN : X.N[i]? = some x) (hv : Vis X.env.scope x)
    (hd : (x == ("__debug__" : Str)) = false := by decide) (hcd : (x == ("__classdict__" : Str)) = false := by decide) : PE X (.Call (.Name x p) [] [] pos) (tClo X.prog X.w X.K X.mg X.base CX k i E) := by
  refine ⟨fun pins s σ H Q I hh => ?_⟩
  obtain ⟨f, F, hs, hf, run⟩ := hh
  refine wpAny_Call_Name_kw (thn ((pe_var (pos := p) hN hv hd hcd).run pins s σ H (fun v G => v = .ref f ∧ G = H) I ⟨.ref f, hs, rfl, rfl⟩) fun u s1 z => ?_)
  obtain ⟨v, G, I1, r1, ev, eG⟩ := z
  subst ev
  subst eG
  obtain rfl : u = Value.ref f := r1
  obtain ⟨pm, ctv, ho⟩ := (I1.hok f _ hf).1
  refine PySem.W.callWith_F0 ⟨_, _, _, _, ho⟩ (wpAny_call (codeAny_mono (run X.A X.stack s1 (hr.mono hk) I1.env0) fun r s' hq => ?_))
  cases r with
  | error e => exact hx pins σ G s1 e s' I1 hq
  | ok fl =>
    cases fl with
    | ret u => exact I1.after hq
    | next => exact hq.elim
    | brk => exact hq.elim
    | cont => exact hq.elim
end

theorem Std.dget {H : Hp} {R : Addr} {kvs : List (Key × V)} {S : StL} (h : Std H kvs S) (e : H R = some (.dK kvs)) {k : Int} {x : M4} (hx : sget S k = some x) : ∃ tx, DGet H R (.int k) (some (.ref tx)) ∧ valV kvs (Sum.inl k) = some (.ref tx) ∧ H tx = some (t4 x) := by
  obtain ⟨tx, h1, h2⟩ := (h.get k).2 x hx
  refine ⟨tx, ?_, h1, h2⟩
  rw [← h1]
  exact DGet.k (k := Sum.inl k) e
/-! ### {**d, k: v}: a new dict, with one key more (for the class Road) -/
namespace DStar
open PySem PySem.Spec PyProof.V PyProof.Rows L2
section
variable {prog : Program} {w : World} {K : Type} [DecidableEq K] {knd : KeyKind prog w K} {A : Around} {E : Value → Shared → Prop} {s : Shared}
theorem wpAny_dictPut_pairs {d : Addr} {kvs : List (K × Value)} {k : K} {key v : Value} {Q : Unit → Shared → Prop} (hkey : knd.is k key = true) (hm : s.heap.DictOf knd d kvs)
    (hQ : ∀ h', h'.DictOf knd d (stored kvs k v) → Heap.SameBut d s.heap h' → Q () { s with heap := h' })
    (hsz : kvs.length ≤ sizeLine) :
    wpAny (model prog w) A (dictPut d (knd.hash k) key v) Q E s := by
  obtain ⟨o, es, ep, ho, hc, hd, hk, hp, hn⟩ := hm
  have hes : es.size ≤ sizeLine := by
    have e1 := hp.length
    have e2 : es.toList.length = es.size := by simp
    omega
  unfold dictPut
  refine wpAny_bind (wpAny_dictFind_of hkey ho hd hk ?_)
  have hidx : (es.findIdx? fun e => knd.is k e.key) = kvs.findIdx? fun kv => decide (kv.1 = k) := by
    rw [← hp.findIdx k]; obtain ⟨l⟩ := es; simp
  cases hi : es.findIdx? fun e => knd.is k e.key with
  | some i =>
    refine wpAny_updateDict ho hd (hQ _ ⟨_, _, ep, Heap.get?_update_self _ ho (Obj.isFreed_of_dict (Obj.data_mapDict hd _)), hc.mapDict _, Obj.data_mapDict hd _, hk.modify _ _, ?_, ?_⟩ (Heap.SameBut.update ..))
    · rw [stored, if_pos (any_of_findIdx_some (hidx ▸ hi))]
      have hl : (es.toList.findIdx? fun e => knd.is k e.key) = some i := by rw [← hi]; obtain ⟨l⟩ := es; simp
      have := hp.modify hn hl v
      obtain ⟨l⟩ := es
      simpa using this
    · rw [stored, if_pos (any_of_findIdx_some (hidx ▸ hi)), keys_map_store]; exact hn
  | none =>
    have hnot : k ∉ kvs.map (·.1) := not_mem_of_findIdx_none (hidx ▸ hi)
    have hany : ¬ (kvs.any fun kv => decide (kv.1 = k)) = true := by
      rw [List.any_eq_true]; rintro ⟨kv, hkv, he⟩
      exact hnot (List.mem_map.mpr ⟨kv, hkv, of_decide_eq_true he⟩)
    refine wpAny_updateDictKeys (hz := hes) ho hd (hQ _ ⟨_, _, ep + 1, Heap.get?_update_self _ ho (Obj.isFreed_of_dict (Obj.data_mapDictKeys hd _)), hc.mapDictKeys _, Obj.data_mapDictKeys hd _, hk.push hkey _, ?_, ?_⟩ (Heap.SameBut.update ..))
    · rw [stored, if_neg hany]
      have := hp.append hkey (knd.hash k) v
      obtain ⟨l⟩ := es
      simpa using this
    · rw [stored, if_neg hany, List.map_append, List.nodup_append]
      refine ⟨hn, by simp, ?_⟩
      intro a ha b hb
      simp only [List.map_cons, List.map_nil, List.mem_singleton] at hb
      subst hb
      exact fun e => hnot (e ▸ ha)
theorem wpAny_mergeMapping_dict {d o : Addr} {kvs more : List (K × Value)} {Q : Unit → Shared → Prop} (hdo : d ≠ o) (hoS : (o == sysModules) = false)
    (hno_ref : ∀ k v, knd.is k v = true → ∀ a, v ≠ .ref a)
    (hd : s.heap.DictOf knd d kvs) (ho : s.heap.DictOf knd o more)
    (hQ : ∀ h', h'.DictOf knd d (merged kvs more) → h'.DictOf knd o more → Heap.SameBut d s.heap h' → Q () { s with heap := h' })
    (hsz : kvs.length + more.length ≤ sizeLine) :
    wpAny (model prog w) A (mergeMapping d (.ref o) false) Q E s := by
  obtain ⟨od, esd, epd, hod, hcd, hdd, hkd, hpd, hnd⟩ := id hd
  obtain ⟨oo, eso, epo, hoo, hco, hdo', hko, hpo, hno⟩ := id ho
  unfold mergeMapping
  refine wpAny_bind (wpAny_isInstance ho.typeIs isSubtype_dict_dict ?_)
  rw [if_pos rfl]
  refine wpAny_bind (wpAny_specialOf ho.typeIs PySem.F.slot_dict_iter.lookup ?_)
  have hlen : more.length = eso.size := by rw [← hpo.length]; simp
  have loop : wpAny (model prog w) A (do
      let l ← dictEntries o
      let epoch ← dictEpoch o
      forIn (List.range l.size) PUnit.unit fun i (_ : PUnit) => (do
          let l' ← dictEntries o
          match l'[i]? with
            | some e => do
              holding [e.key, e.val] (dictPut d e.hash e.key e.val)
              let ep' ← dictEpoch o
              if (ep' != epoch) = true then do
                  (unsupported "dict.changed-during-merge" : Sem PUnit)
                  pure (ForInStep.yield PUnit.unit)
                else pure (ForInStep.yield PUnit.unit)
            | _ => do
              (unsupported "dict.changed-during-merge" : Sem PUnit)
              pure (ForInStep.yield PUnit.unit) : Sem (ForInStep PUnit))
      pure ()) Q E s := by
    refine wpAny_bind (wpAny_dictEntries hoo hdo' ?_)
    refine wpAny_bind (wpAny_dictEpoch hoo hdo' ?_)
    refine wpAny_bind ?_
    rw [List.range_eq_range']
    refine wpAny_forIn_list _
      (fun rest _ s' => ∃ h' i, s' = { s with heap := h' } ∧ rest = List.range' i (eso.size - i) ∧ i ≤ eso.size ∧ h'.DictOf knd d (merged kvs (more.take i)) ∧ h'.get? o = some oo ∧ Heap.SameBut d s.heap h')
      _ ?_ ?_ _ _ ⟨s.heap, 0, rfl, by simp, Nat.zero_le _, by simpa [merged] using hd, hoo, Heap.SameBut.refl _ _⟩
    · rintro x rest b s' ⟨h', i, rfl, hr, hi, hd', hoo', hs'⟩
      have hlt : i < eso.size := by
        rcases Nat.lt_or_ge i eso.size with h | h
        · exact h
        · rw [Nat.sub_eq_zero_of_le h] at hr; simp at hr
      obtain ⟨rfl, hrest⟩ : x = i ∧ rest = List.range' (i + 1) (eso.size - (i + 1)) := by
        have e : eso.size - i = (eso.size - (i + 1)) + 1 := by omega
        rw [e, List.range'_succ] at hr
        injection hr with h1 h2
        exact ⟨h1, h2⟩
      refine wpAny_bind (wpAny_dictEntries hoo' hdo' ?_)
      rw [Array.getElem?_eq_getElem hlt]
      obtain ⟨kv, hkv⟩ : ∃ kv, more[x]? = some kv := ⟨more[x]'(by rw [hlen]; exact hlt), List.getElem?_eq_getElem _⟩
      obtain ⟨k, v⟩ := kv
      obtain ⟨hkey, hval⟩ := hpo.get? (e := eso[x]) (by simp [hlt]) hkv
      obtain ⟨k', hkey', hhash⟩ := hko eso[x] (Array.getElem_mem hlt)
      obtain rfl : k' = k := knd.inj _ _ _ hkey' hkey
      show wpAny _ _ (holding [eso[x].key, eso[x].val] (dictPut d eso[x].hash eso[x].key eso[x].val) >>= _) _ _ _
      rw [hhash, hval]
      have hmx : (merged kvs (more.take x)).length ≤ sizeLine := by
        have e1 := merged_length_le kvs (more.take x)
        have e2 : (more.take x).length ≤ more.length := by rw [List.length_take]; omega
        omega
      refine wpAny_bind (wpAny_holding (wpAny_dictPut_pairs (hsz := hmx) hkey hd' fun h'' hd'' hs'' => ?_))
      have hoo'' : h''.get? o = some oo := (hs''.2 o (Ne.symm hdo)).trans hoo'
      refine wpAny_bind (wpAny_dictEpoch hoo'' hdo' ?_)
      rw [if_neg (by simp)]
      exact wpAny_pure ⟨h'', x + 1, rfl, hrest, hlt, by rw [merged_take_succ kvs more x (k', v) hkv]; exact hd'', hoo'', hs'.trans hs''⟩
    · rintro b s' ⟨h', i, rfl, hr, hi, hd', hoo', hs'⟩
      have hin : i = eso.size := by
        rcases Nat.lt_or_ge i eso.size with h | h
        · have e : eso.size - i = (eso.size - (i + 1)) + 1 := by omega
          rw [e, List.range'_succ] at hr; exact nomatch hr
        · exact Nat.le_antisymm hi h
      refine wpAny_pure (hQ h' ?_ ⟨oo, eso, epo, hoo', hco, hdo', hko, hpo, hno⟩ hs')
      rw [hin, ← hlen, List.take_length] at hd'; exact hd'
  simp only [beq_self_eq_true, Bool.false_eq_true, if_false]
  refine wpAny_bind (wpAny_pure ?_)
  dsimp only
  rw [if_neg (by rw [hoS]; exact Bool.false_ne_true)]
  refine wpAny_bind (wpAny_dictEntries hod hdd ?_)
  split
  · refine wpAny_bind (wpAny_dictEntries hoo hdo' ?_)
    refine wpAny_bind ?_
    rw [← Array.forIn_toList]
    refine wpAny_forIn_list _ (fun rest _ s' => s' = s ∧ ∀ e ∈ rest, e ∈ eso.toList) _ ?_ ?_ _ _ ⟨rfl, fun e he => he⟩
    · rintro e rest b s' ⟨rfl, hr⟩
      obtain ⟨k', hk', _⟩ := hko e (by simpa using hr e List.mem_cons_self)
      have nr := hno_ref _ _ hk'
      split
      · rename_i a' ha'
        exact absurd ha' (nr a')
      · exact wpAny_pure ⟨rfl, fun x hx => hr x (List.mem_cons_of_mem _ hx)⟩
    · rintro b s' ⟨rfl, _⟩
      exact loop
  · exact loop
end
/-- {**d, k: v}: D the new dict, B the one of the pair -/
def tDStar (td tk tv : TE) : TE := fun σ H Q => ∀ D, H D = none → td σ (upd H D (.dK [])) fun x H1 => ∃ (S : Addr) (kvs : List (Key × V)), x = .ref S ∧ S ≠ D ∧ H1 S = some (.dK kvs) ∧ H1 D = some (.dK []) ∧ kvs.length < sizeLine ∧
  ∀ B, (upd H1 D (.dK kvs)) B = none → tPairs [(tk, tv)] σ (upd (upd H1 D (.dK kvs)) B (.dK [])) fun ps H3 => ∃ (key : Key) (z : V), ps = [(kV key, z)] ∧ H3 D = some (.dK kvs) ∧ H3 B = some (.dK []) ∧ Q (.ref D) (upd (upd H3 B (.dK [(key, z)])) D (.dK (putK kvs key z)))
theorem pe_dstar {X : Cx} {pos : Pos} {ed ek ev : Expr} {td tk tv : TE} (hd : PE X ed td) (hk : PE X ek tk) (hv : PE X ev tv) : PE X (.Dict [none, some ek] [ed, ev] pos) (tDStar td tk tv) := by
  refine ⟨fun pins s σ H Q I q => ?_⟩
  rw [arm_eval_Dict]
  refine wpAny_bind (wpAny_standAt ?_)
  show wpAny _ _ (dictDisplay [(none, do let x ← eval ed X.env; standAt pos; pure x), (some (eval ek X.env), do let x ← eval ev X.env; standAt pos; pure x)]) _ _ _
  unfold dictDisplay
  dsimp only
  rw [List.forIn_cons]
  dsimp only [List.isEmpty]
  have hn := I.hok.fresh (Nat.le_refl s.heap.objs.size)
  have I1 := I.laid (a := s.heap.objs.size) (o := .dK []) (h' := s.heap.push { cls := .type "dict", data := .dict #[] }) (t' := s.toks) (fun _ _ q => Heap.get?_push_of_some _ q) (Nat.le_refl _) (dk_empty s.heap I.big)
  refine wpAny_bind (wpAny_bind (wpAny_bind ?_))
  rw [if_pos rfl]
  refine wpAny_pure ?_
  dsimp only
  refine wpAny_bind (wpAny_alloc ?_)
  refine wpAny_bind (wpAny_holding ?_)
  refine wpAny_bind (thn (hd.run pins _ σ _ _ I1 (q _ hn)) fun u s1 ⟨x, H1, I1', rx, S, kvs, ex, nSD, eS, eD, hl, q1⟩ => ?_)
  refine wpAny_bind (wpAny_standAt (wpAny_pure ?_))
  subst ex
  obtain rfl : u = Value.ref S := rx
  obtain ⟨z1, hd1, vs1, rel1, dd1⟩ := dk_of I1'.hok eS
  obtain ⟨z0, hd0, vs0, rel0, dd0⟩ := dk_of I1'.hok eD
  cases rel0
  have lvs : vs1.length = kvs.length := rel1.length.symm
  have noref : ∀ (k : Key) (v : Value), (mixKind X.prog X.w).is k v = true → ∀ a, v ≠ .ref a := fun k v h a e => by
    rcases keyIs_shape h with ⟨i, t, _, e'⟩ | ⟨y, t, _, e'⟩ <;> rw [e'] at e <;> cases e
  refine wpAny_bind (wpAny_onRaise (wpAny_tryCatch (wpAny_onRaise (wpAny_holding (wpAny_mergeMapping_dict (knd := mixKind X.prog X.w) (Ne.symm nSD) hd1 noref dd0 dd1 (fun h' dd' ddo hs => ?_) (by rw [List.length_nil, lvs]; omega))))))
  have nd : (vs1.map (·.1)).Nodup := let ⟨_, _, _, _, _, _, _, _, hn⟩ := dd1; hn
  rw [merged_nil_of_nodup vs1 nd] at dd'
  have he1 : ∃ q, h'.get? s.heap.objs.size = some q := let ⟨q, _, _, hq, _⟩ := dd'; ⟨q, hq⟩
  have I2 : Inv X pins σ (upd H1 s.heap.objs.size (.dK kvs)) { s1 with heap := h' } := d_write I1' (by rw [eD]; exact True.intro) hs he1 (dk_new z1 hd0 rel1 dd')
  refine wpAny_pure ?_
  dsimp only
  rw [List.forIn_cons]
  dsimp only
  rw [if_neg (by simp)]
  refine wpAny_bind (wpAny_pure ?_)
  dsimp only
  rw [List.forIn_nil]
  refine wpAny_pure ?_
  dsimp only [List.nil_append]
  rw [if_neg Bool.false_ne_true]
  generalize hs2 : ({ s1 with heap := h' } : Shared) = s2 at *
  have eh : s2.heap = h' := by rw [← hs2]
  rw [← eh] at dd' ddo hs he1
  have hnB := I2.hok.fresh (Nat.le_refl s2.heap.objs.size)
  have I3 := I2.laid (a := s2.heap.objs.size) (o := .dK []) (h' := s2.heap.push { cls := .type "dict", data := .dict #[] }) (t' := s2.toks) (fun _ _ q => Heap.get?_push_of_some _ q) (Nat.le_refl _) (dk_empty s2.heap I2.big)
  refine wpAny_bind (wpAny_bind (wpAny_holding (wpAny_subDict (knd := mixKind X.prog X.w) (by show 1 ≤ 15; decide) (thn ((pps_cons hk hv pps_nil).run pins _ σ _ _ I3 (q1 _ hnB)) fun ws s3 ⟨ps, H3, I4, rel3, key, z, eps, eD3, eB3, q3⟩ => ?_))))
  subst eps
  obtain ⟨rs, c, rk⟩ := carries_of (P := X.prog) (w := X.w) (kvs := [(key, z)]) rel3
  obtain ⟨zB, hdB, vB, rB, ddB⟩ := dk_of I4.hok eB3
  cases rB
  refine ⟨rs, c, ddB, fun h4 dd4 hs4 => ?_⟩
  have mer : KV [(key, z)] (merged [] rs) := rk.merge (kvs := []) .nil
  have zB1 : ([(key, z)] : List (Key × V)).length ≤ sizeLine := by show 1 ≤ sizeLine; decide
  have he4 : ∃ q, h4.get? s2.heap.objs.size = some q := let ⟨q, _, _, hq, _⟩ := dd4; ⟨q, hq⟩
  have I5 : Inv X pins σ (upd H3 s2.heap.objs.size (.dK [(key, z)])) { s3 with heap := h4, toks := s3.toks + ws.length } := d_write I4 (by rw [eB3]; exact True.intro) hs4 he4 (dk_new zB1 hdB mer dd4)
  have nBD : s2.heap.objs.size ≠ s.heap.objs.size := fun e => by
    rw [e] at eB3
    rw [eD3] at eB3
    have e1 : kvs = [] := HO.dK.inj (Option.some.inj eB3)
    rw [e] at hnB
    rw [upd_same] at hnB
    cases hnB
  have eD5 : (upd H3 s2.heap.objs.size (.dK [(key, z)])) s.heap.objs.size = some (.dK kvs) := by
    rw [upd_ne nBD.symm]
    exact eD3
  have eB5 : (upd H3 s2.heap.objs.size (.dK [(key, z)])) s2.heap.objs.size = some (.dK [(key, z)]) := upd_same
  generalize hs5 : ({ s3 with heap := h4, toks := s3.toks + ws.length } : Shared) = s5 at *
  obtain ⟨z5, hd5, vs5, rel5, dd5⟩ := dk_of I5.hok eD5
  obtain ⟨z6, hd6, vs6, rel6, dd6⟩ := dk_of I5.hok eB5
  have l5 : vs5.length = kvs.length := rel5.length.symm
  have l6 : vs6.length = 1 := rel6.length.symm
  refine wpAny_bind (wpAny_onRaise (wpAny_holding (wpAny_mergeMapping_dict (knd := mixKind X.prog X.w) nBD.symm hd6 noref dd5 dd6 (fun h7 dd7 _ hs7 => ?_) (by omega))))
  have he7 : ∃ q, h7.get? s.heap.objs.size = some q := let ⟨q, _, _, hq, _⟩ := dd7; ⟨q, hq⟩
  have l7 : (putK kvs key z).length ≤ sizeLine := by
    have := length_putK kvs key z
    omega
  have I7 : Inv X pins σ (upd (upd H3 s2.heap.objs.size (.dK [(key, z)])) s.heap.objs.size (.dK (putK kvs key z))) { s5 with heap := h7 } := d_write I5 (by rw [eD5]; exact True.intro) hs7 he7 (dk_new l7 hd5 (rel6.merge rel5) dd7)
  exact wpAny_pure (wpAny_pure ⟨.ref s.heap.objs.size, _, I7, rfl, q3⟩)
end DStar

/-! ### dicts of matings compared (for the class Road) -/
def t4P (x : M4) : PyData := .tuple [.int x.1, .int x.2.1, .int x.2.2.1, .int x.2.2.2]
def sameS (S1 S2 : StL) : Bool := S1.all fun t => decide (sget S2 t.1 = some t.2)
theorem t4P_dp {K : PySem.W.Frag} {H : Hp} {t : Addr} {x : M4} (h : H t = some (t4 x)) : Dp K H (.ref t) (t4P x) := .tup (SqT.of h) (.cons (.int _) (.cons (.int _) (.cons (.int _) (.cons (.int _) .nil))))
theorem t4P_eqv (x y : M4) : PyData.eqv (t4P x) (t4P y) = decide (x = y) := by
  obtain ⟨a, b, c, d⟩ := x
  obtain ⟨a', b', c', d'⟩ := y
  unfold t4P
  rw [PyData.eqv]
  simp [PyData.eqvAll, PyData.eqv]
  rfl
section
variable {X : Cx} {pins : List (Addr × Obj)} {σ : St} {H : Hp} {s : Shared}
theorem std_hits (I : Inv X pins σ H s) {S2 : StL} {kb : List (Key × V)} {vb : List (Key × Value)} (rb : KV kb vb) (tb : Std H kb S2) (hu : X.A.units + 64 < cLine) :
    ∀ {ka : List (Key × V)} {va : List (Key × Value)}, KV ka va → ∀ {S1 : StL}, Std H ka S1 → PySem.W.KeqHits X.A.in1 s vb va (sameS S1 S2) := by
  intro ka va ra
  unfold KV at ra
  induction ra with
  | nil =>
    intro S1 h
    cases h
    exact .nil
  | @cons p q ps qs h t ih =>
    intro S1 hs
    cases hs with
    | @cons _ y _ r hy hr =>
    obtain ⟨h1, h2⟩ := h
    obtain ⟨k, v⟩ := q
    obtain ⟨e1, t0, e2, e3⟩ := hy
    have ek : k = Sum.inl y.1 := by rw [← e1]; exact h1.symm
    subst ek
    have e2' : v = Value.ref t0 := by
      have := h2
      rw [e2] at this
      exact this
    subst e2'
    obtain ⟨g1, g2⟩ := tb.get y.1
    show PySem.W.KeqHits X.A.in1 s vb ((Sum.inl y.1, Value.ref t0) :: qs) (decide (sget S2 y.1 = some y.2) && sameS r S2)
    cases hg : sget S2 y.1 with
    | none =>
      rw [decide_eq_false (fun z => by cases z), Bool.false_and]
      have rr : RelO none (valueAt vb (Sum.inl y.1)) := by rw [← g1 hg]; exact rb.val _
      exact .miss rr.none_of
    | some z =>
      obtain ⟨t1, f1, f2⟩ := g2 z hg
      have rr : RelO (some (.ref t1)) (valueAt vb (Sum.inl y.1)) := by rw [← f1]; exact rb.val _
      obtain ⟨u, hu1, hu2⟩ := rr.some_of
      obtain rfl : u = Value.ref t1 := hu2
      obtain ⟨as, r1⟩ := Dp.reads I _ _ (Value.ref t0) (t4P_dp (K := X.K) e3) rfl
      obtain ⟨bs, r2⟩ := Dp.reads I _ _ (Value.ref t1) (t4P_dp (K := X.K) f2) rfl
      have hq := SeqAt.eqAt_reads (t4P y.2) (t4P z) X.A.in1 s _ _ as bs r1 r2 rfl rfl (by
        have e1 : (t4P y.2).depth = 1 := rfl
        have e2 : (t4P z).depth = 1 := rfl
        rw [e1, e2, Around.in1_units]
        omega)
      have ee : decide (some z = some y.2) = PyData.eqv (t4P y.2) (t4P z) := by
        rw [t4P_eqv]
        by_cases w : y.2 = z
        · rw [w, decide_eq_true rfl, decide_eq_true rfl]
        · rw [decide_eq_false w, decide_eq_false (fun q => w (Option.some.inj q).symm)]
      rw [ee]
      exact .hit hu1 hq (ih hr)
end
section
variable {X : Cx}
def rNeS : R2 := fun x y H Q => ∃ a b ka kb S1 S2, x = .ref a ∧ y = .ref b ∧ H a = some (.dK ka) ∧ H b = some (.dK kb) ∧ Std H ka S1 ∧ Std H kb S2 ∧ Q (.bl (!(decide (S1.length = S2.length) && sameS S1 S2))) H
theorem op_neS (hu : X.A.units + 64 < cLine) : OpR X (compareOp .NotEq) rNeS := by
  intro pins s σ H x y v u Q I rx ry h
  obtain ⟨a, b, ka, kb, S1, S2, rfl, rfl, ea, eb, sa, sb, q⟩ := h
  obtain rfl : v = Value.ref a := rx
  obtain rfl : u = Value.ref b := ry
  obtain ⟨_, ya, va, ra, da⟩ := (show ObjOk X.prog X.w H s.heap a (.dK ka) from I.hok a _ ea)
  obtain ⟨_, yb, vb, rb, db⟩ := (show ObjOk X.prog X.w H s.heap b (.dK kb) from I.hok b _ eb)
  have l1 : va.length = S1.length := by rw [← ra.length]; exact sa.length
  have l2 : vb.length = S2.length := by rw [← rb.length]; exact sb.length
  exact PySem.W.keq_ne (knd := mixKind X.prog X.w) (r := sameS S1 S2) ya yb da db (by omega) (fun _ => std_hits I rb sb hu ra sa) (fin_bl I q (by rw [l1, l2]; rfl))
end
theorem sget_rise {S : StL} (up : (S.map (·.1)).Pairwise (· < ·)) : ∀ {s : Int × M4}, s ∈ S → sget S s.1 = some s.2 := by
  induction S with
  | nil => intro s h; cases h
  | cons t r ih =>
    intro s h
    rw [List.map_cons, List.pairwise_cons] at up
    unfold sget
    rcases List.mem_cons.mp h with e | h
    · rw [e, if_pos rfl]
    · have := up.1 s.1 (List.mem_map.mpr ⟨s, h, rfl⟩)
      rw [if_neg (by omega)]
      exact ih up.2 h
theorem sub_rise : ∀ {S2 S1 : StL}, S1.Pairwise (fun a b => a.1 < b.1) → S2.Pairwise (fun a b => a.1 < b.1) → S1 ⊆ S2 → S1.Sublist S2
  | [], [], _, _, _ => .slnil
  | [], a :: r, _, _, h => absurd (h List.mem_cons_self) (List.not_mem_nil)
  | b :: r2, [], _, _, _ => List.nil_sublist _
  | b :: r2, a :: r1, u1, u2, h => by
    rw [List.pairwise_cons] at u1 u2
    by_cases e : a = b
    · subst e
      refine .cons₂ _ (sub_rise u1.2 u2.2 fun t ht => ?_)
      rcases List.mem_cons.mp (h (List.mem_cons_of_mem _ ht)) with z | z
      · have := u1.1 t ht
        rw [z] at this
        omega
      · exact z
    · have ha : a ∈ r2 := (List.mem_cons.mp (h List.mem_cons_self)).resolve_left e
      refine .cons _ (sub_rise (List.pairwise_cons.mpr u1) u2.2 fun t ht => ?_)
      rcases List.mem_cons.mp (h ht) with z | z
      · exfalso
        have h2 := u2.1 a ha
        rcases List.mem_cons.mp ht with y | y
        · exact e (y.symm.trans z)
        · have h1 := u1.1 t y
          rw [z] at h1
          omega
      · exact z
/-- rows of rising numbers are the same where they tell the same -/
theorem sameS_rise : ∀ {S1 S2 : StL}, (S1.map (·.1)).Pairwise (· < ·) → (S2.map (·.1)).Pairwise (· < ·) → S1.length = S2.length → sameS S1 S2 = true → S1 = S2 := by
  intro S1 S2 u1 u2 hl hs
  have hall : ∀ t ∈ S1, sget S2 t.1 = some t.2 := fun t ht => by
    unfold sameS at hs
    rw [List.all_eq_true] at hs
    exact of_decide_eq_true (hs t ht)
  have sub : S1 ⊆ S2 := fun t ht => by
    have := sget_in (hall t ht)
    exact this
  have rise : ∀ {S : StL}, (S.map (·.1)).Pairwise (· < ·) → S.Pairwise (fun a b => a.1 < b.1) := fun h => List.pairwise_map.mp h
  exact (sub_rise (rise u1) (rise u2) sub).eq_of_length hl
theorem sameS_self {S : StL} (u : (S.map (·.1)).Pairwise (· < ·)) : sameS S S = true := by
  unfold sameS
  rw [List.all_eq_true]
  intro t ht
  exact decide_eq_true (sget_rise u ht)
section
variable {X : Cx}
/-- len of a dict -/
theorem call_lenDk : CallR X (.builtin "len") (fun xs H Q => ∃ a kvs, xs = [V.ref a] ∧ H a = some (.dK kvs) ∧ Q (.int kvs.length) H) := by
  intro pins s σ H xs us Q I r h
  obtain ⟨a, kvs, rfl, ha, q⟩ := h
  obtain ⟨u, rfl, ru⟩ := vals1 r
  cases ru
  exact d_len I (.inl ha) fun t s' I' => ⟨.int kvs.length, H, I', ⟨t, rfl⟩, q⟩
end

/-! ### what stands beside a list that changes -/
theorem draw_keepR {H H' : Hp} {d l r : Addr} (D : Draw H d l) (h1 : d ≠ r) (h2 : l ≠ r) (k : Keep r H H') : Draw H' d l := by
  obtain ⟨ns, i, z, s, W⟩ := D
  exact ⟨ns, i, z, s, { W with at_d := k.of W.at_d h1, at_l := k.of W.at_l h2 }⟩
theorem draw_apart {H : Hp} {d l r : Addr} (D : Draw H d l) (n : H r = none) : d ≠ r ∧ l ≠ r := by
  obtain ⟨ns, i, z, s, W⟩ := D
  exact ⟨ne_of_none W.at_d n, ne_of_none W.at_l n⟩
/-! ### _law_mating -/
abbrev N_mating : List Str := ["_law_draw", "_law_length", "_law_many", "_law_room"]
abbrev P_mating : List Str := ["_law_draw", "_law_length"]
theorem sc_mating : FnScope N_mating P_mating (defScope s_mating) := ⟨rfl, rfl, rfl, by decide +kernel, rfl, by decide +kernel, by decide +kernel⟩
structure Mat (n o p m f : Int) : Prop where
  m1 : 1 ≤ m
  o0 : 0 ≤ o
  o1 : o + m ≤ n
  p0 : 0 ≤ p
  p1 : p + m ≤ n
  f01 : f = 0 ∨ f = 1
def spMating : Sp := fun vs H Q _ => ∃ (d l : Addr) (n : Int), vs = [.ref d, .int n] ∧ Draw H d l ∧ 1 ≤ n ∧ n < 2 ^ 60 ∧
  ∀ (H' : Hp) (t : Addr) (o p m f : Int), Draw H' d l → Keep d H H' → H' t = some (tup4 o p m f) → Mat n o p m f → Q (.ref t) H'
section
variable {P : Program} {w : World} {K : PySem.W.Frag} {mg : Str → Option Value} {base : Heap}
theorem ok_mating {f fP : Addr} {fd fdP : FuncData} (D : DefAt K mg "_law_mating" s_mating P_mating f fd) (D_pull : DefAt K mg "_law_pull" s_pull P_pull fP fdP) (B : Bn mg) : FnOk P w K mg base CX0 2 f fd P_mating spMating := by
  have G_pull : FnOk P w K mg base CX0 1 fP fdP P_pull spPull := ok_pull D_pull B
  refine D.F.ok sc_mating (fun vs H Q E h => ?_) (fun cdv A outer s H vs Q E hr h => ?_)
  · obtain ⟨d, l, n, rfl, _⟩ := h
    rfl
  · obtain ⟨d, l, n, rfl, hD, n1, n2, q⟩ := h
    refine ⟨_, (pss_cons (ps_set (i := 2) sc_mating.nd rfl (.inl rfl) (pe_op op_add pe_int (pe_call G_pull (hr.mono (by omega)) (by rfl) D_pull.g D_pull.F.kp D_pull.b .nil pass0 (pa_cons (pv 0) (pa_cons (pv 1) pa_nil)))))
      (C8.pss_cut (ps_if (pt_cmpR op_eq (pe_call G_pull (hr.mono (by omega)) (by rfl) D_pull.g D_pull.F.kp D_pull.b .nil pass0 (pa_cons (pv 0) (pa_cons pe_int pa_nil))) pe_int (nomark _)) (pss_one (ps_set (i := 2) sc_mating.nd rfl (.inl rfl) (pe_op op_add pe_int (pe_call G_pull (hr.mono (by omega)) (by rfl) D_pull.g D_pull.F.kp D_pull.b .nil pass0 (pa_cons (pv 0) (pa_cons (pe_callB (call_min2 rfl) (by rfl) B.min (by decide +kernel) (pa_cons (pv 2) (pa_cons pe_int pa_nil))) pa_nil)))))) pss_nil)
      (pss_cons (ps_set (i := 3) sc_mating.nd rfl (.inl rfl) (pe_op op_add (pe_op op_sub (pv 1) (pv 2)) pe_int))
      (pss_one (ps_ret (pe_tup (pa_cons (pe_call G_pull (hr.mono (by omega)) (by rfl) D_pull.g D_pull.F.kp D_pull.b .nil pass0 (pa_cons (pv 0) (pa_cons (pv 3) pa_nil))) (pa_cons (pe_call G_pull (hr.mono (by omega)) (by rfl) D_pull.g D_pull.F.kp D_pull.b .nil pass0 (pa_cons (pv 0) (pa_cons (pv 3) pa_nil))) (pa_cons (pv 2) (pa_cons (pe_call G_pull (hr.mono (by omega)) (by rfl) D_pull.g D_pull.F.kp D_pull.b .nil pass0 (pa_cons (pv 0) (pa_cons pe_int pa_nil))) pa_nil)))))))))), ?_⟩
    refine ⟨.ref d, rfl, .int n, rfl, d, l, n, rfl, hD, n1, by omega, fun a H1 a0 a1 D1 k1 => ?_⟩
    refine ⟨1, a, rfl, rfl, ?_⟩
    refine ⟨fun σ H' => ∃ m : Int, σ = [some (.ref d), some (.int n), some (.int m), none] ∧ Draw H' d l ∧ Keep d H H' ∧ 1 ≤ m ∧ m ≤ n, ?_, ?_⟩
    · refine ⟨.ref d, rfl, d, l, 2, rfl, D1, by decide, by decide, fun b H2 b0 b1 D2 k2 => ?_⟩
      refine ⟨rfl, _, rfl, ?_⟩
      refine ite2 (fun _ => ?_) (fun _ => ?_)
      · refine ⟨.ref d, rfl, .int (1 + a), rfl, 1 + a, 5, rfl, d, l, _, rfl, D2, ?_, ?_, fun c H3 c0 c1 D3 k3 => ?_⟩
        · split <;> omega
        · split <;> omega
        · refine ⟨1, c, rfl, rfl, 1 + c, rfl, D3, (k1.trans k2).trans k3, by omega, ?_⟩
          have c1' : c < (if (5 : Int) < 1 + a then 5 else 1 + a) := c1
          split at c1' <;> omega
      · exact ⟨1 + a, rfl, D2, k1.trans k2, by omega, by omega⟩
    · rintro σ H3 ⟨m, rfl, D3, k3, m1, m2⟩
      refine ⟨.int n, rfl, .int m, rfl, n, m, rfl, rfl, _, 1, rfl, rfl, ?_⟩
      refine ⟨.ref d, rfl, .int (n - m + 1), rfl, d, l, n - m + 1, rfl, D3, by omega, by omega, fun o H4 o0 o1 D4 k4 => ?_⟩
      refine ⟨.ref d, rfl, .int (n - m + 1), rfl, d, l, n - m + 1, rfl, D4, by omega, by omega, fun p H5 p0 p1 D5 k5 => ?_⟩
      refine ⟨.int m, rfl, .ref d, rfl, d, l, 2, rfl, D5, by decide, by decide, fun f H6 f0 f1 D6 k6 => ?_⟩
      refine ⟨by show 4 ≤ sizeLine; decide, fun t nt => ?_⟩
      exact q _ t o p m f (D6.same (same_upd nt)) ((((k3.trans k4).trans k5).trans k6).trans (keepS (same_upd nt))) upd_same ⟨m1, o0, by omega, p0, by omega, by omega⟩
end

/-! ### matings at their addresses (behind 40_mating) -/
theorem Mts.keep {H H' : Hp} (k : KeepT H H') : ∀ {ts : List Addr} {ms : List M4}, Mts H ts ms → Mts H' ts ms
  | _, _, .nil => .nil
  | _, _, .cons h r => .cons (k _ _ h) (Mts.keep k r)
theorem Mts.snoc {H : Hp} {t : Addr} {x : M4} (hs : H t = some (t4 x)) : ∀ {ts : List Addr} {ms : List M4}, Mts H ts ms → Mts H (ts ++ [t]) (ms ++ [x])
  | _, _, .nil => .cons hs .nil
  | _, _, .cons h r => .cons h (Mts.snoc hs r)
theorem Draw.keepT {H H' : Hp} {d l : Addr} (D : Draw H d l) (k : Keep d H H') : KeepT H H' := fun b xs hb => by
  obtain ⟨ns, i, zz, sd, W⟩ := D
  exact k.of hb (ne_of hb W.at_d (fun q => by cases q))

/-! ### o.m(e, .., k = v): a method's keyword-only parameter told -/
def tMethK (C : Addr) (m : Str) (n kn : Nat) (sp : Sp) (gV : List V → List V → List V) (E : XK) (ta : TE) (t tk : TA) : TE := fun σ H Q => ta σ H fun x H1 => ∃ a dx fs, x = .ref a ∧ H1 a = some (.ins C dx fs) ∧ fs.lookup m = none ∧
  t σ H1 fun vs H2 => tk σ H2 fun zs H3 => vs.length = n ∧ zs.length = kn ∧ sp (gV (.ref a :: vs) zs) H3 Q E
section
variable {X : Cx} {CX : CXT} {k n : Nat} {f C : Addr} {fd : FuncData} {ps ks : List Str} {sp : Sp} {E : XK} {m : Str} {p pos apos : Pos} {e o : Expr} {es : List Expr} {kws : List Keyword} {ta : TE} {t tk : TA} {g : List Value → List Value → List Value} {gV : List V → List V → List V}
theorem run_fnKn {pins : List (Addr × Obj)} {σ : St} {H : Hp} {s : Shared} {Q : VK} {us ws : List Value} {vs zs : List V} (F : FnOk X.prog X.w X.K X.mg X.base CX k f fd ps sp) (hr : Room k X.A) (hb : KBn X.K fd ps n ks g gV) (hx : Passes CX X E)
    (I : Inv X pins σ H s) (r : Vals vs us) (rz : Vals zs ws) (l1 : us.length = n) (l2 : ws.length = ks.length) (h : sp (gV vs zs) H Q E) : wpAny (model X.prog X.w) X.A (call (.ref f) us (ks.zip ws)) (EP X pins σ Q) X.xe s := by
  have r2 := hb.rel r rz
  refine wpAny_call (codeAny_mono (F.run X.A X.stack s H ⟨us, ks.zip ws⟩ (g us ws) (gV vs zs) Q E hr I.env0 (hb.to s us ws I.kIn l1 l2) r2 h) fun r s' hq => ?_)
  cases r with
  | error e => exact hx pins σ H s e s' I hq
  | ok fl =>
    cases fl with
    | ret u => exact I.after hq
    | next => exact False.elim hq
    | brk => exact False.elim hq
    | cont => exact False.elim hq
theorem pe_methK {pl : Sem Bool} (he : PE X o ta) (c : Cls X.K C) (hm : Meth X.K C m f) (F : FnOk X.prog X.w X.K X.mg X.base CX k f fd ps sp) (hr : Room k X.A) (hb : KBn X.K fd ps (n + 1) ks g gV) (hx : Passes CX X E) (ha : PA X (e :: es) t) (hkw : PK X kws tk)
    (hall : (backToKw pos (keywordEach kws X.env)).all (·.1.isSome) = true := by rfl) (hks : (backToKw pos (keywordEach kws X.env)).filterMap (·.1) = ks := by rfl)
    (hst : starEach (e :: es) X.env = (false, eval e X.env) :: starEach es X.env := by rfl) (hpl : ((backTo pos (starEach (e :: es) X.env)).any (·.1) || (backToKw pos (keywordEach kws X.env)).any (·.1.isNone)) = false := by rfl)
    (ht : eval (.Call (.Attribute o m apos) (e :: es) kws pos) X.env = (do
      let ov ← eval o X.env
      standAt apos.atName
      let (f, first) ← holding [ov] (getMethod ov m pl)
      callWith pos f first (backTo pos (starEach (e :: es) X.env)) (backToKw pos (keywordEach kws X.env))) := by rfl) :
    PE X (.Call (.Attribute o m apos) (e :: es) kws pos) (tMethK C m n ks.length sp gV E ta t tk) := by
  refine ⟨fun pins s σ H Q I h => ?_⟩
  refine PySem.W.methodCall_KW (pl := pl) (thn (he.run pins s σ H _ I h) fun u s1 ⟨x, H1, I1, rx, a, dx, fs, ex, ea, l, q⟩ => ?_) ht
  subst ex
  obtain rfl : u = Value.ref a := rx
  refine getmeth_ok I1 ea c hm l ?_
  refine PySem.W.callWith_KW (first := [.ref a]) (h₀ := X.base) I.ok.mod.kin hm.kp hall (thn (ha.run pos pins s1 σ H1 _ I1 q) fun us s2 ⟨vs, H2, I2, r, q2⟩ => ?_) hpl hst
  refine thn (hkw.run pos pins s2 σ H2 _ I2 q2) fun ws s3 ⟨zs, H3, I3, rz, l1, l2, q3⟩ => ⟨I3.kIn, ?_⟩
  rw [hks]
  exact run_fnKn (us := .ref a :: us) (vs := .ref a :: vs) F hr hb hx I3 (.cons rfl r) rz (by rw [List.length_cons, ← r.length, l1]) (by rw [← rz.length, l2]) q3
end

/-! ### a road, told by its matings: __init__, become, next_number, length -/
abbrev N_Ro_init : List Str := ["self", "length"]
abbrev P_Ro_init : List Str := ["self", "length"]
theorem sc_Ro_init : FnScope N_Ro_init P_Ro_init (defScope s_Ro_init) := ⟨rfl, rfl, rfl, by decide +kernel, rfl, by decide +kernel, by decide +kernel⟩
abbrev N_Ro_become : List Str := ["self", "length", "standing"]
abbrev P_Ro_become : List Str := ["self", "length", "standing"]
theorem sc_Ro_become : FnScope N_Ro_become P_Ro_become (defScope s_Ro_become) := ⟨rfl, rfl, rfl, by decide +kernel, rfl, by decide +kernel, by decide +kernel⟩
abbrev N_Ro_next_number : List Str := ["self"]
abbrev P_Ro_next_number : List Str := ["self"]
theorem sc_Ro_next_number : FnScope N_Ro_next_number P_Ro_next_number (defScope s_Ro_next_number) := ⟨rfl, rfl, rfl, by decide +kernel, rfl, by decide +kernel, by decide +kernel⟩
abbrev N_Ro_length : List Str := ["self"]
abbrev P_Ro_length : List Str := ["self"]
theorem sc_Ro_length : FnScope N_Ro_length P_Ro_length (defScope s_Ro_length) := ⟨rfl, rfl, rfl, by decide +kernel, rfl, by decide +kernel, by decide +kernel⟩
def roF (n : Int) (st : Addr) (k : V) (c : Int) : List (Str × V) := [("extent", .int n), ("standing", .ref st), ("kept", k), ("foldings", .int c)]
structure RoT (K : PySem.W.Frag) (mg : Str → Option Value) (C5 : Addr) : Prop where
  gC : mg "Road" = some (.ref C5)
  cl : Cls K C5
  nE : NoAttr K C5 "extent"
  nS : NoAttr K C5 "standing"
  nK : NoAttr K C5 "kept"
  nF : NoAttr K C5 "foldings"
/-- the road g, its matings in the dict st -/
structure RoAt (C5 : Addr) (H : Hp) (g st : Addr) (n : Int) (S : StL) (k : V) (c : Int) : Prop where
  at_g : ∃ dx, H g = some (.ins C5 dx (roF n st k c))
  at_s : ∃ kvs, H st = some (.dK kvs) ∧ Std H kvs S
structure RoW (n : Int) (S : StL) : Prop where
  n0 : 0 ≤ n
  n1 : n ≤ 1000000000000000000
  up : (S.map (·.1)).Pairwise (· < ·)
  low : ∀ s ∈ S, 1 ≤ s.1
  len : S.length ≤ 24
  ok : ∀ s ∈ S, Mok n s.2
theorem RoAt.same {C5 : Addr} {H H' : Hp} {g st : Addr} {n : Int} {S : StL} {k : V} {c : Int} (h : RoAt C5 H g st n S k c) (s : Same H H') : RoAt C5 H' g st n S k c := by
  obtain ⟨⟨dx, e⟩, kvs, e1, e2⟩ := h
  exact ⟨⟨dx, s _ _ e⟩, kvs, s _ _ e1, e2.keep fun b xs hb => s _ _ hb⟩
theorem RoAt.ne {C5 : Addr} {H : Hp} {g st : Addr} {n : Int} {S : StL} {k : V} {c : Int} (h : RoAt C5 H g st n S k c) : g ≠ st := by
  obtain ⟨⟨dx, e⟩, kvs, e1, e2⟩ := h
  exact ne_of e e1 (fun z => by cases z)
def nxt (S : StL) : Int := (S.map (·.1)).foldl max 0 + 1
def spRoInit (C5 : Addr) : Sp := fun vs H Q _ => ∃ (g dx : Addr) (n : Int), vs = [.ref g, .int n] ∧ H g = some (.ins C5 dx []) ∧ 0 ≤ n ∧ n ≤ 1000000000000000000 ∧
  ∀ H' st, H' g = some (.ins C5 dx (roF n st .non 0)) → H' st = some (.dK []) → H st = none → Keep g H H' → Q .non H'
def spBecome (C5 : Addr) : Sp := fun vs H Q _ => ∃ (g st st2 dx : Addr) (n m : Int) (S S2 : StL) (k : V) (c : Int) (kvs kvs2 : List (Key × V)), vs = [.ref g, .int m, .ref st2] ∧ H g = some (.ins C5 dx (roF n st k c)) ∧
  H st = some (.dK kvs) ∧ Std H kvs S ∧ H st2 = some (.dK kvs2) ∧ Std H kvs2 S2 ∧ (S.map (·.1)).Pairwise (· < ·) ∧ (S2.map (·.1)).Pairwise (· < ·) ∧
  ∀ H', H' g = some (.ins C5 dx (roF m st2 (if m = n ∧ S2 = S then k else .non) c)) → Keep g H H' → Q .non H'
def spNext (C5 : Addr) : Sp := fun vs H Q _ => ∃ (g st : Addr) (n : Int) (S : StL) (k : V) (c : Int), vs = [.ref g] ∧ RoAt C5 H g st n S k c ∧ S.length ≤ 100 ∧ (∀ s ∈ S, 1 ≤ s.1) ∧ ∀ H', Same H H' → Q (.int (nxt S)) H'
def spRoLen (C5 : Addr) : Sp := fun vs H Q _ => ∃ (g dx st : Addr) (n : Int) (k : V) (c : Int), vs = [.ref g] ∧ H g = some (.ins C5 dx (roF n st k c)) ∧ Q (.int n) H
section
variable {P : Program} {w : World} {K : PySem.W.Frag} {mg : Str → Option Value} {base : Heap} {C5 : Addr}
theorem ok_RoInit {f fN fA fV : Addr} {fd fdN fdA fdV : FuncData} {tok : Tok} {dvs : List V} (F : FunD K "__init__" "Road.__init__" (defArgs s_Ro_init) (defBody s_Ro_init) (defScope s_Ro_init) dvs [] f fd) (TRo_ : RoT K mg C5) (D_need_length : DefAt K mg "need_length" s_need_length P_need_length fN fdN) (D_need_from : DefAt K mg "need_from" s_need_from P_need_from fA fdA) (D_need_within : DefAt K mg "need_within" s_need_within P_need_within fV fdV) (g_FAR : mg "FAR" = some (.int 1000000000000000000 tok)) (B : Bn mg) :
    FnOk P w K mg base CX0 4 f fd P_Ro_init (spRoInit C5) := by
  have G_need_length : FnOk P w K mg base CX0 3 fN fdN P_need_length spNeed0 := ok_need0 D_need_length D_need_from D_need_within g_FAR B
  refine F.ok sc_Ro_init (fun vs H Q E h => ?_) (fun cdv A outer s H vs Q E hr h => ?_)
  · obtain ⟨g, dx, n, rfl, _⟩ := h
    rfl
  · obtain ⟨g, dx, n, rfl, hg, n0, n1, q⟩ := h
    suffices hh : ∃ t, PSs (cxOf CX0 P w K mg base N_Ro_init "Road.__init__" (defScope s_Ro_init) f cdv A outer s H E).nox (defBody s_Ro_init) t ∧ t { nx := fun _ H' => Q .non H', rt := Q } (L2.start N_Ro_init [.ref g, .int n]) H by
      obtain ⟨t, h1, h2⟩ := hh
      exact ⟨t, h1.nox, h2⟩
    refine ⟨_, (pss_cons (ps_expr (pe_call G_need_length (hr.mono (by omega)) (by rfl) D_need_length.g D_need_length.F.kp D_need_length.b .nil pass0 (pa_cons (pv 1) pa_nil)))
      (pss_cons (ps_fld (pv 0) (pv 1) rfl)
      (pss_cons (ps_fld (pv 0) pe_dnewK rfl)
      (pss_cons (ps_fld (pv 0) pe_non rfl)
      (pss_one (ps_fld (pv 0) pe_int rfl)))))), ?_⟩
    refine ⟨.int n, rfl, n, rfl, n0, n1, ?_⟩
    refine ⟨.int n, rfl, .ref g, rfl, g, C5, dx, [], rfl, hg, TRo_.cl, TRo_.nE, by show 0 < 1000; decide, ?_⟩
    have k1 : Keep g H (upd H g (.ins C5 dx (putF "extent" (.int n) []))) := Keep.upd
    have e1 : (upd H g (.ins C5 dx (putF "extent" (.int n) []))) g = some (.ins C5 dx [("extent", .int n)]) := upd_same
    have f1 : ∀ b, (upd H g (.ins C5 dx (putF "extent" (.int n) []))) b = none → H b = none := fun b hb => by
      cases e : H b with
      | none => rfl
      | some o =>
        by_cases c : b = g
        · rw [c, upd_same] at hb
          cases hb
        · rw [upd_ne c, e] at hb
          cases hb
    generalize upd H g (.ins C5 dx (putF "extent" (.int n) [])) = H1 at k1 e1 f1
    intro st nst
    have s2 := same_upd (H := H1) (o := .dK []) nst
    have e2 : (upd H1 st (.dK [])) st = some (.dK []) := upd_same
    generalize upd H1 st (.dK []) = H2 at s2 e2
    have nsg : st ≠ g := (ne_of_none e1 nst).symm
    refine ⟨.ref g, rfl, g, C5, dx, _, rfl, s2 _ _ e1, TRo_.cl, TRo_.nS, by show 1 < 1000; decide, ?_⟩
    refine ⟨.ref g, rfl, g, C5, dx, _, rfl, upd_same, TRo_.cl, TRo_.nK, by show 2 < 1000; decide, ?_⟩
    refine ⟨.ref g, rfl, g, C5, dx, _, rfl, upd_same, TRo_.cl, TRo_.nF, by show 3 < 1000; decide, ?_⟩
    refine q _ st upd_same ?_ (f1 _ nst) fun b o nb hb => ?_
    · rw [upd_ne nsg, upd_ne nsg, upd_ne nsg]
      exact e2
    · rw [upd_ne nb, upd_ne nb, upd_ne nb]
      exact s2 _ _ (k1 _ _ nb hb)
theorem ok_RoLen {f : Addr} {fd : FuncData} (F : Fun K "length" "Road.length" s_Ro_length f fd) (TRo_ : RoT K mg C5) : FnOk P w K mg base CX0 1 f fd P_Ro_length (spRoLen C5) := by
  refine F.ok sc_Ro_length (fun vs H Q E h => ?_) (fun cdv A outer s H vs Q E hr h => ?_)
  · obtain ⟨g, dx, st, n, k, c, rfl, _⟩ := h
    rfl
  · obtain ⟨g, dx, st, n, k, c, rfl, hg, q⟩ := h
    refine ⟨_, (pss_one (ps_ret (pe_fld (pv 0) rfl))), ?_⟩
    exact ⟨.ref g, rfl, g, C5, dx, _, .int n, rfl, hg, TRo_.cl, TRo_.nE, rfl, q⟩
theorem ok_Next {f : Addr} {fd : FuncData} (F : Fun K "next_number" "Road.next_number" s_Ro_next_number f fd) (TRo_ : RoT K mg C5) (B : Bn mg) : FnOk P w K mg base CX0 1 f fd P_Ro_next_number (spNext C5) := by
  refine F.ok sc_Ro_next_number (fun vs H Q E h => ?_) (fun cdv A outer s H vs Q E hr h => ?_)
  · obtain ⟨g, st, n, S, k, c, rfl, _⟩ := h
    rfl
  · obtain ⟨g, st, n, S, k, c, rfl, ⟨⟨dx, hg⟩, kvs, hst, sd⟩, hl, lo, q⟩ := h
    refine ⟨_, (pss_one (ps_ret (pe_op op_add (pe_callBK (cr_maxDf rfl) (by rfl) B.max (by decide +kernel) (pa_cons (pe_callTy (call_listD rfl) (by rfl) B.list (by decide +kernel) (pa_cons (pe_fld (pv 0) rfl) pa_nil)) pa_nil) (pk_cons pe_int pk_nil)) pe_int))), ?_⟩
    refine ⟨.ref g, rfl, g, C5, dx, _, .ref st, rfl, hg, TRo_.cl, TRo_.nS, rfl, st, kvs, rfl, .inl hst, fun p np => ?_⟩
    have e1 : (kvs.map fun kv => kV kv.1) = (S.map (·.1)).map V.int := by
      have := congrArg (List.map kV) sd.keys
      rw [List.map_map, List.map_map] at this
      exact this
    rw [e1]
    refine ⟨p, S.map (·.1), .int 0, rfl, rfl, SqL.of upd_same, fun e => ?_, fun m hm hle => ?_⟩
    · have z : nxt S = 0 + 1 := by
        unfold nxt
        rw [e]
        rfl
      refine ⟨0, 1, rfl, rfl, ?_⟩
      show Q (V.int (0 + 1)) _
      rw [← z]
      exact q _ (same_upd np)
    · obtain ⟨s0, hs0, es0⟩ := List.mem_map.mp hm
      have m0 : 0 ≤ m := by
        have := lo s0 hs0
        have e : s0.1 = m := es0
        omega
      have z : nxt S = m + 1 := by
        unfold nxt
        rw [max_is m0 (.inr hm) hle]
      refine ⟨m, 1, rfl, rfl, ?_⟩
      show Q (V.int (m + 1)) _
      rw [← z]
      exact q _ (same_upd np)
theorem ok_Become {f : Addr} {fd : FuncData} (F : Fun K "become" "Road.become" s_Ro_become f fd) (TRo_ : RoT K mg C5) : FnOk P w K mg base CX0 1 f fd P_Ro_become (spBecome C5) := by
  refine F.ok sc_Ro_become (fun vs H Q E h => ?_) (fun cdv A outer s H vs Q E hr h => ?_)
  · obtain ⟨g, st, st2, dx, n, m, S, S2, k, c, kvs, kvs2, rfl, _⟩ := h
    rfl
  · obtain ⟨g, st, st2, dx, n, m, S, S2, k, c, kvs, kvs2, rfl, hg, hst, sd, hst2, sd2, up, up2, q⟩ := h
    refine ⟨_, (pss_cons (ps_if (PW.pt (pw_or (pt_cmpR op_ne (pv 1) (pe_fld (pv 0) rfl) (nomark _)) (pw_or1 (pt_cmpR (op_neS hr.units) (pv 2) (pe_fld (pv 0) rfl) (nomark _))))) (pss_one (ps_fld (pv 0) pe_non rfl)) pss_nil)
      (pss_cons (ps_fld (pv 0) (pv 1) rfl)
      (pss_one (ps_fld (pv 0) (pv 2) rfl)))), ?_⟩
    have rest : ∀ (k2 : V) (H1 : Hp), H1 g = some (.ins C5 dx (roF n st k2 c)) → Keep g H H1 → k2 = (if m = n ∧ S2 = S then k else .non) →
        tSeq (sFld K (tVar 0) (tVar 1) "extent") (sFld K (tVar 0) (tVar 2) "standing") { nx := fun _ H' => Q .non H', rt := Q } (L2.start N_Ro_become [.ref g, .int m, .ref st2]) H1 := fun k2 H1 e1 k1 ek => by
      refine ⟨.int m, rfl, .ref g, rfl, g, C5, dx, _, rfl, e1, TRo_.cl, TRo_.nE, by show 4 < 1000; decide, ?_⟩
      refine ⟨.ref st2, rfl, .ref g, rfl, g, C5, dx, _, rfl, upd_same, TRo_.cl, TRo_.nS, by show 4 < 1000; decide, ?_⟩
      refine q _ ?_ ((k1.trans Keep.upd).trans Keep.upd)
      rw [upd_same, ← ek]
      rfl
    have none : ¬ (m = n ∧ S2 = S) → tSeq (sFld K (tVar 0) (tC .non) "kept") (tSeq (sFld K (tVar 0) (tVar 1) "extent") (sFld K (tVar 0) (tVar 2) "standing")) { nx := fun _ H' => Q .non H', rt := Q } (L2.start N_Ro_become [.ref g, .int m, .ref st2]) H := fun hne => by
      refine ⟨.ref g, rfl, g, C5, dx, _, rfl, hg, TRo_.cl, TRo_.nK, by show 4 < 1000; decide, ?_⟩
      exact rest .non _ upd_same Keep.upd (if_neg hne).symm
    refine ⟨.int m, rfl, .ref g, rfl, g, C5, dx, _, .int n, rfl, hg, TRo_.cl, TRo_.nE, rfl, rfl, _, rfl, ?_⟩
    refine ite2 (fun h => ?_) (fun h => ?_)
    · refine iteT (none fun z => ?_)
      rw [z.1] at h
      simp at h
    · have hmn : m = n := by
        by_cases z : m = n
        · exact z
        · exfalso
          apply h
          rw [decide_eq_false (fun q => z (V.int.inj q))]
          rfl
      refine ⟨.ref st2, rfl, .ref g, rfl, g, C5, dx, _, .ref st, rfl, hg, TRo_.cl, TRo_.nS, rfl, st2, st, kvs2, kvs, S2, S, rfl, rfl, hst2, hst, sd2, sd, _, rfl, ?_⟩
      by_cases hS : S2 = S
      · rw [hS, sameS_self up, decide_eq_true rfl]
        refine iteF ?_
        exact rest k H hg (fun b o _ e => e) (if_pos ⟨hmn, hS⟩).symm
      · have hb : (decide (S2.length = S.length) && sameS S2 S) = false := by
          cases hz : (decide (S2.length = S.length) && sameS S2 S) with
          | false => rfl
          | true =>
            rw [Bool.and_eq_true, decide_eq_true_eq] at hz
            exact absurd (sameS_rise up2 up hz.1 hz.2) hS
        rw [hb]
        exact iteT (none fun z => hS z.2)
end

/-! ### a road: told, matings, mate_as, mate -/
abbrev N_Ro_matings : List Str := ["self", "number"]
abbrev P_Ro_matings : List Str := ["self"]
theorem sc_Ro_matings : FnScope N_Ro_matings P_Ro_matings (defScope s_Ro_matings) := ⟨rfl, rfl, rfl, by decide +kernel, rfl, by decide +kernel, by decide +kernel⟩
abbrev N_Ro_mate_as : List Str := ["self", "number", "mating"]
abbrev P_Ro_mate_as : List Str := ["self", "number", "mating"]
theorem sc_Ro_mate_as : FnScope N_Ro_mate_as P_Ro_mate_as (defScope s_Ro_mate_as) := ⟨rfl, rfl, rfl, by decide +kernel, rfl, by decide +kernel, by decide +kernel⟩
abbrev N_Ro_mate : List Str := ["self", "one", "other", "many", "turned", "number"]
abbrev P_Ro_mate : List Str := ["self", "one", "other", "many", "turned"]
theorem sc_Ro_mate : FnScope N_Ro_mate P_Ro_mate (defScope s_Ro_mate) := ⟨rfl, rfl, rfl, by decide +kernel, rfl, by decide +kernel, by decide +kernel⟩
theorem foldl_max_le : ∀ (l : List Int) (a : Int), a ≤ l.foldl max a ∧ ∀ y ∈ l, y ≤ l.foldl max a
  | [], a => ⟨Int.le_refl a, fun y h => nomatch h⟩
  | x :: r, a => by
    obtain ⟨h1, h2⟩ := foldl_max_le r (max a x)
    refine ⟨Int.le_trans (Int.le_max_left a x) h1, fun y hy => ?_⟩
    rcases List.mem_cons.mp hy with rfl | hy
    · exact Int.le_trans (Int.le_max_right a y) h1
    · exact h2 y hy
theorem nxt_1 (S : StL) : 1 ≤ nxt S := by
  have := (foldl_max_le (S.map (·.1)) 0).1
  unfold nxt
  omega
theorem nxt_gt {S : StL} {s : Int × M4} (h : s ∈ S) : s.1 < nxt S := by
  have := (foldl_max_le (S.map (·.1)) 0).2 s.1 (List.mem_map.mpr ⟨s, h, rfl⟩)
  unfold nxt
  omega
theorem sget_not {S : StL} {i : Int} (h : ∀ s ∈ S, s.1 ≠ i) : sget S i = none := by
  induction S with
  | nil => rfl
  | cons s r ih =>
    show (if s.1 = i then some s.2 else sget r i) = none
    rw [if_neg (h s List.mem_cons_self)]
    exact ih fun z hz => h z (List.mem_cons_of_mem _ hz)
theorem rise_snoc {S : StL} {i : Int} {x : M4} (u : (S.map (·.1)).Pairwise (· < ·)) (h : ∀ s ∈ S, s.1 < i) : ((S ++ [(i, x)]).map (·.1)).Pairwise (· < ·) := by
  rw [List.map_append, List.pairwise_append]
  refine ⟨u, List.pairwise_singleton _ _, fun a ha b hb => ?_⟩
  obtain ⟨s, hs, rfl⟩ := List.mem_map.mp ha
  rw [List.mem_singleton.mp hb]
  exact h s hs
theorem RoW.snoc {n : Int} {S : StL} {i : Int} {x : M4} (h : RoW n S) (hi : ∀ s ∈ S, s.1 < i) (i1 : 1 ≤ i) (hl : S.length < 24) (hx : Mok n x) : RoW n (S ++ [(i, x)]) :=
  ⟨h.n0, h.n1, rise_snoc h.up hi, fun s hs => by
    rcases List.mem_append.mp hs with z | z
    · exact h.low s z
    · rw [List.mem_singleton.mp z]
      exact i1, by rw [List.length_append]; exact hl, fun s hs => by
    rcases List.mem_append.mp hs with z | z
    · exact h.ok s z
    · rw [List.mem_singleton.mp z]
      exact hx⟩
def spMatings (C5 : Addr) : Sp := fun vs H Q _ => ∃ (g st : Addr) (n : Int) (S : StL) (k : V) (c : Int), vs = [.ref g] ∧ RoAt C5 H g st n S k c ∧ (S.map (·.1)).Pairwise (· < ·) ∧ S.length < 60 ∧
  ∀ (H' : Hp) (r : Addr) (us : List Addr), Same H H' → H r = none → H' r = some (.lst (us.map V.ref)) → Ls H' us S → Q (.ref r) H'
def spMateAs (C5 : Addr) : Sp := fun vs H Q _ => ∃ (g st t : Addr) (n i : Int) (S : StL) (k : V) (c : Int) (x : M4), vs = [.ref g, .int i, .ref t] ∧ RoAt C5 H g st n S k c ∧ RoW n S ∧ S.length < 24 ∧ H t = some (t4 x) ∧ Mok n x ∧ (∀ s ∈ S, s.1 < i) ∧
  ∀ (H' : Hp) (st' : Addr), RoAt C5 H' g st' n (S ++ [(i, x)]) .non c → Keep g H H' → H st' = none → Q .non H'
def spMate (C5 : Addr) : Sp := fun vs H Q _ => ∃ (g st : Addr) (n : Int) (S : StL) (k : V) (c : Int) (x : M4), vs = [.ref g, .int x.1, .int x.2.1, .int x.2.2.1, .int x.2.2.2] ∧ RoAt C5 H g st n S k c ∧ RoW n S ∧ S.length < 24 ∧ Mok n x ∧
  ∀ (H' : Hp) (st' : Addr), RoAt C5 H' g st' n (S ++ [(nxt S, x)]) .non c → Keep g H H' → H st' = none → Q (.int (nxt S)) H'
section
variable {P : Program} {w : World} {K : PySem.W.Frag} {mg : Str → Option Value} {base : Heap} {C5 : Addr}
theorem ok_RoMatings {f : Addr} {fd : FuncData} (F : Fun K "matings" "Road.matings" s_Ro_matings f fd) (TRo_ : RoT K mg C5) (B : Bn mg) : FnOk P w K mg base CX0 1 f fd P_Ro_matings (spMatings C5) := by
  refine F.ok sc_Ro_matings (fun vs H Q E h => ?_) (fun cdv A outer s H vs Q E hr h => ?_)
  · obtain ⟨g, st, n, S, k, c, rfl, _⟩ := h
    rfl
  · obtain ⟨g, st, n, S, k, c, rfl, fa, up, hlen, qq⟩ := h
    have hu := hu_of hr
    refine ⟨_, (pss_one (ps_ret (pe_lc (own := [("number", 1)]) (g := gName 1) (by rfl) sc_Ro_matings.nd (pi_list (pe_callB (call_sortedDI rfl) (by rfl) B.sorted (by decide +kernel) (pa_cons (pe_fld (pv 0) rfl) pa_nil))) (blkOk_by (own := [("number", 1)]) (N := N_Ro_matings) (sc := defScope s_Ro_matings) (by decide +kernel)) (fun _ _ _ _ _ => (pg_name (i := 1) sc_Ro_matings.nd rfl (.inl rfl))) (fun _ _ _ _ _ => pts_nil) (fun _ _ _ _ _ => (pe_tup (pa_cons (pv 1) (pa_cons (pe_dget hu (pe_fldK (K := K) rfl (pv 0) rfl) (pv 1) (fun _ _ => rfl)) pa_nil))))))), ?_⟩
    obtain ⟨⟨dx, ea⟩, kvs, es, sd⟩ := id fa
    refine ⟨.ref g, rfl, g, C5, dx, _, .ref st, rfl, ea, TRo_.cl, TRo_.nS, rfl, st, kvs, S.map (·.1), rfl, .inl es, sd.keys, by rw [List.length_map]; omega, fun ys p py so np => ?_⟩
    have ey := perm_sorted py so up
    subst ey
    refine ⟨p, rfl, ⟨_, SqL.of upd_same⟩, fun L nL => lc_list (K := K) (a := p) (xs := (S.map (·.1)).map V.int) (fun i H2 => ∃ us, Same (upd H p (.lst ((S.map (·.1)).map V.int))) H2 ∧ H2 L = some (.lst (us.map V.ref)) ∧ Ls H2 us (S.take i))
      ⟨[], same_upd nL, upd_same, .nil⟩ (fun i H2 _ ⟨_, sm, _⟩ => SqL.of (sm _ _ upd_same)) ?_ ?_⟩
    · rintro i x H2 hx ⟨us, sm, e2, ls⟩
      rw [List.map_map, List.getElem?_map] at hx
      obtain ⟨z, hz, rfl⟩ := Option.map_eq_some_iff.mp hx
      have sm2 : Same H H2 := (same_upd np).trans sm
      obtain ⟨⟨dx2, ea2⟩, kvs2, es2, sd2⟩ := fa.same sm2
      obtain ⟨t, gt, _, ht⟩ := sd2.dget es2 (sget_mem up (List.mem_of_getElem? hz))
      have hl := ls.length
      have hi : i < S.length := (List.getElem?_eq_some_iff.mp hz).1
      rw [List.length_take] at hl
      refine ⟨rfl, .int z.1, rfl, .ref g, rfl, g, C5, dx2, _, .ref st, rfl, ea2, TRo_.cl, TRo_.nS, rfl, .int z.1, rfl, st, .ref t, rfl, gt, by show 2 ≤ sizeLine; decide, fun u nu => ?_⟩
      refine ⟨us.map V.ref, same_upd nu _ _ e2, sz_lt (by rw [List.length_map]; omega), us ++ [u], fun b o' hb => ?_, by rw [upd_same, List.map_append]; rfl, ?_⟩
      · rw [upd_ne (ne_of_none hb nL)]
        exact same_upd nu _ _ (sm _ _ hb)
      · have kt : ∀ {b : Addr} {xs : List V}, H2 b = some (.tup xs) → (upd (upd H2 u (.tup [.int z.1, .ref t])) L (.lst (us.map V.ref ++ [.ref u]))) b = some (.tup xs) := fun hb => by
          rw [upd_ne (ne_of hb e2 (fun z => by cases z))]
          exact same_upd nu _ _ hb
        rw [List.take_add_one, hz]
        refine Ls.snoc ⟨t, ?_, kt ht⟩ (ls.keep fun b xs hb => kt hb)
        rw [upd_ne (ne_of_none e2 nu).symm]
        exact upd_same
    · rintro H2 ⟨us, sm, e2, ls⟩
      rw [List.length_map, List.length_map, List.take_length] at ls
      exact qq H2 L us ((same_upd np).trans sm) ((same_upd np).free nL) e2 ls
theorem ok_MateAs {f fB fM fI : Addr} {fd fdB fdM fdI : FuncData} {tok : Tok} (F : Fun K "mate_as" "Road.mate_as" s_Ro_mate_as f fd) (TRo_ : RoT K mg C5) (M_Ro_become : Meth K C5 "become" fB) (G_Ro_become : FnOk P w K mg base CX0 1 fB fdB P_Ro_become (spBecome C5)) (b_Ro_become : Binds K fdB P_Ro_become [])
    (D_need_mating : DefAt K mg "need_mating" s_need_mating P_need_mating fM fdM) (D_is_mating : DefAt K mg "is_mating" s_is_mating P_is_mating fI fdI) (g_MOST : mg "MOST" = some (.int 24 tok)) (B : Bn mg) : FnOk P w K mg base CX0 3 f fd P_Ro_mate_as (spMateAs C5) := by
  refine F.ok sc_Ro_mate_as (fun vs H Q E h => ?_) (fun cdv A outer s H vs Q E hr h => ?_)
  · obtain ⟨g, st, t, n, i, S, k, c, x, rfl, _⟩ := h
    rfl
  · obtain ⟨g, st, t, n, i, S, k, c, x, rfl, fa, wf, hlen, ht, hx, hi, qq⟩ := h
    have G_need_mating : FnOk P w K mg base CX0 2 fM fdM P_need_mating (spNeed1 n) := ok_need1 D_need_mating D_is_mating wf.n0 wf.n1 B
    refine ⟨_, (pss_cons (ps_expr (pe_call G_need_mating (hr.mono (by omega)) (by rfl) D_need_mating.g D_need_mating.F.kp D_need_mating.b .nil pass0 (pa_cons (pe_fld (pv 0) rfl) (pa_cons (pv 2) pa_nil))))
      (pss_cons (ps_if (pt_cmpR op_ge (pe_callB call_lenDk (by rfl) B.len (by decide +kernel) (pa_cons (pe_fld (pv 0) rfl) pa_nil)) (pe_glob (v := .int _) (by rfl) g_MOST ⟨_, rfl⟩) (nomark _)) (pss_one ps_never) pss_nil)
      (pss_one (ps_expr (pe_meth (pv 0) TRo_.cl M_Ro_become G_Ro_become (hr.mono (by omega)) b_Ro_become .nil pass0 (pa_cons (pe_fld (pv 0) rfl) (pa_cons (DStar.pe_dstar (pe_fld (pv 0) rfl) (pv 1) (pv 2)) pa_nil))))))), ?_⟩
    obtain ⟨⟨dx, ea⟩, kvs, es, sd⟩ := id fa
    refine ⟨.ref g, rfl, g, C5, dx, _, .int n, rfl, ea, TRo_.cl, TRo_.nE, rfl, .ref t, rfl, t, x, rfl, ht, hx, fun H1 s1 => ?_⟩
    obtain ⟨⟨dx1, ea1⟩, kvs1, es1, sd1⟩ := fa.same s1
    have el := sd1.length
    refine ⟨.ref g, rfl, g, C5, dx1, _, .ref st, rfl, ea1, TRo_.cl, TRo_.nS, rfl, st, kvs1, rfl, es1, ?_⟩
    refine ⟨(kvs1.length : Int), 24, rfl, rfl, _, rfl, ite2 (fun h => absurd (of_decide_eq_true h) (by omega)) (fun _ => ?_)⟩
    refine ⟨.ref g, rfl, g, dx1, _, rfl, ea1, rfl, .ref g, rfl, g, C5, dx1, _, .int n, rfl, ea1, TRo_.cl, TRo_.nE, rfl, fun D nD => ?_⟩
    have s2 := same_upd (H := H1) (o := .dK []) nD
    have nst : st ≠ D := ne_of_none es1 nD
    refine ⟨.ref g, rfl, g, C5, dx1, _, .ref st, rfl, s2 _ _ ea1, TRo_.cl, TRo_.nS, rfl, st, kvs1, rfl, nst, s2 _ _ es1, upd_same, sz_lt (by omega), fun Bx nB => ?_⟩
    have nBD : Bx ≠ D := fun z => by
      rw [z, upd_same] at nB
      cases nB
    have nB1 : H1 Bx = none := by
      rw [upd_ne nBD, upd_ne nBD] at nB
      exact nB
    refine ⟨.int i, rfl, .ref t, rfl, Sum.inl i, .ref t, rfl, ?_, upd_same, ?_⟩
    · rw [upd_ne nBD.symm]
      exact upd_same
    have s4 : Same H1 (upd (upd (upd (upd (upd H1 D (.dK [])) D (.dK kvs1)) Bx (.dK [])) Bx (.dK [(Sum.inl i, .ref t)])) D (.dK (putK kvs1 (Sum.inl i) (.ref t)))) := fun b o hb => by
      have n1 := ne_of_none hb nD
      have n2 := ne_of_none hb nB1
      rw [upd_ne n1, upd_ne n2, upd_ne n2, upd_ne n1, upd_ne n1]
      exact hb
    have e4 : (upd (upd (upd (upd (upd H1 D (.dK [])) D (.dK kvs1)) Bx (.dK [])) Bx (.dK [(Sum.inl i, .ref t)])) D (.dK (putK kvs1 (Sum.inl i) (.ref t)))) D = some (.dK (putK kvs1 (Sum.inl i) (.ref t))) := upd_same
    generalize upd (upd (upd (upd (upd H1 D (.dK [])) D (.dK kvs1)) Bx (.dK [])) Bx (.dK [(Sum.inl i, .ref t)])) D (.dK (putK kvs1 (Sum.inl i) (.ref t))) = H4 at s4 e4
    have hno : valV kvs1 (Sum.inl i) = none := (sd1.get i).1 (sget_not fun s hs => by have := hi s hs; omega)
    rw [putK_new _ hno] at e4
    have sdN : Std H4 (kvs1 ++ [(Sum.inl i, .ref t)]) (S ++ [(i, x)]) := Std.snoc ⟨rfl, t, rfl, s4 _ _ (s1 _ _ ht)⟩ (sd1.keep fun b xs hb => s4 _ _ hb)
    refine ⟨g, st, D, dx1, n, n, S, S ++ [(i, x)], k, c, kvs1, _, rfl, s4 _ _ ea1, s4 _ _ es1, sd1.keep fun b xs hb => s4 _ _ hb, e4, sdN, wf.up, rise_snoc wf.up hi, fun H5 e5 k5 => ?_⟩
    rw [if_neg (fun z => by have := congrArg List.length z.2; rw [List.length_append] at this; simp at this)] at e5
    have nDg : D ≠ g := (ne_of_none ea1 nD).symm
    exact qq H5 D ⟨⟨dx1, e5⟩, _, k5 _ _ nDg e4, sdN.keep fun b xs hb => k5 _ _ (ne_of hb (s4 _ _ ea1) (fun z => by cases z)) hb⟩ (fun b o nb hb => k5 _ _ nb (s4 _ _ (s1 _ _ hb))) (s1.free nD)
theorem ok_Mate {f fN fA : Addr} {fd fdN fdA : FuncData} {dvs : List V} {kws : List (Str × V)} (F : FunD K "mate" "Road.mate" (defArgs s_Ro_mate) (defBody s_Ro_mate) (defScope s_Ro_mate) dvs kws f fd) (TRo_ : RoT K mg C5) (M_Ro_next_number : Meth K C5 "next_number" fN) (G_Ro_next_number : FnOk P w K mg base CX0 1 fN fdN P_Ro_next_number (spNext C5)) (b_Ro_next_number : Binds K fdN P_Ro_next_number [])
    (M_Ro_mate_as : Meth K C5 "mate_as" fA) (G_Ro_mate_as : FnOk P w K mg base CX0 3 fA fdA P_Ro_mate_as (spMateAs C5)) (b_Ro_mate_as : Binds K fdA P_Ro_mate_as []) : FnOk P w K mg base CX0 4 f fd P_Ro_mate (spMate C5) := by
  refine F.ok sc_Ro_mate (fun vs H Q E h => ?_) (fun cdv A outer s H vs Q E hr h => ?_)
  · obtain ⟨g, st, n, S, k, c, x, rfl, _⟩ := h
    rfl
  · obtain ⟨g, st, n, S, k, c, x, rfl, fa, wf, hlen, hx, qq⟩ := h
    suffices hh : ∃ t, PSs (cxOf CX0 P w K mg base N_Ro_mate "Road.mate" (defScope s_Ro_mate) f cdv A outer s H E).nox (defBody s_Ro_mate) t ∧ t { nx := fun _ H' => Q .non H', rt := Q } (L2.start N_Ro_mate [.ref g, .int x.1, .int x.2.1, .int x.2.2.1, .int x.2.2.2]) H by
      obtain ⟨t, h1, h2⟩ := hh
      exact ⟨t, h1.nox, h2⟩
    refine ⟨_, (pss_cons (ps_set (i := 5) sc_Ro_mate.nd rfl (.inl rfl) (pe_meth0 (pv 0) TRo_.cl M_Ro_next_number G_Ro_next_number (hr.mono (by omega)) b_Ro_next_number .nil pass0))
      (pss_cons (ps_expr (pe_meth (pv 0) TRo_.cl M_Ro_mate_as G_Ro_mate_as (hr.mono (by omega)) b_Ro_mate_as .nil pass0 (pa_cons (pv 5) (pa_cons (pe_tup (pa_cons (pv 1) (pa_cons (pv 2) (pa_cons (pv 3) (pa_cons (pv 4) pa_nil))))) pa_nil))))
      (pss_one (ps_ret (pv 5))))), ?_⟩
    obtain ⟨dx, ea⟩ := fa.at_g
    refine ⟨.ref g, rfl, g, dx, _, rfl, ea, rfl, g, st, n, S, k, c, rfl, fa, by omega, wf.low, fun H1 s1 => ?_⟩
    refine ⟨.ref g, rfl, g, dx, _, rfl, s1 _ _ ea, rfl, .int (nxt S), rfl, .int x.1, rfl, .int x.2.1, rfl, .int x.2.2.1, rfl, .int x.2.2.2, rfl, by show 4 ≤ sizeLine; decide, fun t nt => ?_⟩
    have s2 := same_upd (H := H1) (o := t4 x) nt
    have s12 := s1.trans s2
    refine ⟨g, st, t, n, nxt S, S, k, c, x, rfl, fa.same s12, wf, hlen, upd_same, hx, fun s hs => nxt_gt hs, fun H3 st' fa3 k3 n3 => ?_⟩
    exact ⟨.int (nxt S), rfl, qq H3 st' fa3 (fun b o nb hb => k3 _ _ nb (s12 _ _ hb)) (s12.free n3)⟩
end

/-! ### a road stands where all but tables does (from rd10_late) -/
theorem RoAt.extN {C5 : Addr} {H H' : Hp} {g st : Addr} {n : Int} {S : StL} {k : V} {c : Int} (h : RoAt C5 H g st n S k c) (s : LamX.ExtN H H') : RoAt C5 H' g st n S k c := by
  obtain ⟨⟨dx, e⟩, kvs, e1, e2⟩ := h
  exact ⟨⟨dx, s _ _ e (fun _ z => by cases z)⟩, kvs, s _ _ e1 (fun _ z => by cases z), e2.keep fun b xs hb => s _ _ hb (fun _ z => by cases z)⟩

/-! ### a road: strike -/
abbrev N_Ro_strike : List Str := ["self", "number", "k"]
abbrev P_Ro_strike : List Str := ["self", "number"]
theorem sc_Ro_strike : FnScope N_Ro_strike P_Ro_strike (defScope s_Ro_strike) := ⟨rfl, rfl, rfl, by decide +kernel, rfl, by decide +kernel, by decide +kernel⟩
/-- a dict displayed by a walk -/
theorem dc_it {J : It} {n : Nat} {G : Hp → Prop} {Y : Nat → Hp → V → Hp → Prop} (w : Walk J n G Y) {g : TG} {tt : TT} {tk tv : TE} {vs : List Nat} {σ : L2.St} {H1 : Hp} {D : Addr} {Qd : Hp → Prop} (Pv : Nat → Hp → Prop) (h0 : Pv 0 (upd H1 D (.dK []))) (hG : ∀ i H, i ≤ n → Pv i H → G H)
    (hs : ∀ i x H H', i < n → Pv i H → Y i H x H' → g x (wipe σ vs) H' fun σ2 H2 => wipe σ2 vs = wipe σ vs ∧ tt σ2 H2 fun b H3 =>
      if b = true then tk σ2 H3 fun y H4 => tv σ2 H4 fun z H5 => ∃ kvs k, y = kV k ∧ H5 D = some (.dK kvs) ∧ kvs.length < sizeLine ∧ Pv (i + 1) (upd H5 D (.dK (putK kvs k z))) else Pv (i + 1) H3) (hd : ∀ H, Pv n H → Qd H) :
    ∃ W : Nat → Nat → Hp → Prop, (∃ m, W 0 m (upd H1 D (.dK []))) ∧ ∀ i m H, W i m H →
      (J.stop i H ∧ Qd H) ∨ (J.go i H ∧ ∃ Nx : Hp → Prop, (∀ H', Nx H' → ∃ m', m' < m ∧ W (i + 1) m' H') ∧ ∀ x H', J.yld i H x H' → g x (wipe σ vs) H' fun σ2 H2 => wipe σ2 vs = wipe σ vs ∧ tt σ2 H2 fun b H3 =>
        if b = true then tk σ2 H3 fun y H4 => tv σ2 H4 fun z H5 => ∃ kvs k, y = kV k ∧ H5 D = some (.dK kvs) ∧ kvs.length < sizeLine ∧ Nx (upd H5 D (.dK (putK kvs k z))) else Nx H3) := by
  refine ⟨fun i m H => m = n - i ∧ i ≤ n ∧ Pv i H, ⟨n, by simp, Nat.zero_le _, h0⟩, ?_⟩
  rintro i m H ⟨rfl, hi, p⟩
  have q := hG i H hi p
  by_cases hlt : i < n
  · refine .inr ⟨w.goes i H hlt q, Pv (i + 1), fun H' p' => ⟨n - (i + 1), by omega, rfl, hlt, p'⟩, fun x H' y => hs i x H H' hlt p (w.yields i H x H' hlt q y)⟩
  · have e : i = n := by omega
    subst e
    exact .inl ⟨w.stops H q, hd H p⟩
def spStrike (C5 : Addr) : Sp := fun vs H Q _ => ∃ (g st : Addr) (n i : Int) (S : StL) (k : V) (c : Int) (x : M4), vs = [.ref g, .int i] ∧ RoAt C5 H g st n S k c ∧ (S.map (·.1)).Pairwise (· < ·) ∧ S.length < 60 ∧ sget S i = some x ∧
  ∀ (H' : Hp) (st' : Addr), RoAt C5 H' g st' n (sdrop S i) .non c → Keep g H H' → H st' = none → Q .non H'
theorem sdrop_less {S : StL} {i : Int} {x : M4} (h : sget S i = some x) : (sdrop S i).length < S.length := by
  have hm := sget_in h
  have := List.length_filter_lt_length_iff_exists (l := S) (p := fun s => decide (s.1 ≠ i))
  exact this.mpr ⟨_, hm, by simp⟩
section
variable {P : Program} {w : World} {K : PySem.W.Frag} {mg : Str → Option Value} {base : Heap} {C5 : Addr}
theorem ok_Strike {f fB : Addr} {fd fdB : FuncData} (F : Fun K "strike" "Road.strike" s_Ro_strike f fd) (TRo_ : RoT K mg C5) (M_Ro_become : Meth K C5 "become" fB) (G_Ro_become : FnOk P w K mg base CX0 1 fB fdB P_Ro_become (spBecome C5)) (b_Ro_become : Binds K fdB P_Ro_become []) (B : Bn mg) : FnOk P w K mg base CX0 2 f fd P_Ro_strike (spStrike C5) := by
  refine F.ok sc_Ro_strike (fun vs H Q E h => ?_) (fun cdv A outer s H vs Q E hr h => ?_)
  · obtain ⟨g, st, n, i, S, k, c, x, rfl, _⟩ := h
    rfl
  · obtain ⟨g, st, n, i, S, k, c, x, rfl, fa, up, hlen, hx, qq⟩ := h
    have hu := hu_of hr
    refine ⟨_, (pss_cons (ps_if (PW.pt (pw_or (pt_val (pe_callB call_isi (by rfl) B.isinstance (by decide +kernel) (pa_cons (pv 1) (pa_cons (pe_bltn (v := .ty "bool") (by rfl) B.bool (by decide +kernel) rfl) pa_nil)))) (pw_or1 (pt_cmp (pc_dnotin hu (pv 1) (pe_fld (pv 0) rfl)))))) (pss_one ps_never) pss_nil)
      (pss_one (ps_expr (pe_meth (pv 0) TRo_.cl M_Ro_become G_Ro_become (hr.mono (by omega)) b_Ro_become .nil pass0 (pa_cons (pe_fld (pv 0) rfl) (pa_cons (pe_lock (pe_dc (own := [("k", 2)]) (g := gName 2) (by rfl) sc_Ro_strike.nd (pi_keys (pe_fld (pv 0) rfl)) (blkOk_by (own := [("k", 2)]) (N := N_Ro_strike) (sc := defScope s_Ro_strike) (by decide +kernel)) (fun _ _ _ _ _ => (pg_name (i := 2) sc_Ro_strike.nd rfl (.inl rfl))) (fun _ _ _ _ _ => (pts_one (pt_cmpR op_ne (pv 2) (pv 1) (nomark _)))) (fun _ _ _ _ _ => (pv 2)) (fun _ _ _ _ _ => (pe_dget hu (pe_fldK (K := K) rfl (pv 0) rfl) (pv 2) (fun _ _ => rfl))))) pa_nil)))))), ?_⟩
    obtain ⟨⟨dx, ea⟩, kvs, es, sd⟩ := id fa
    have el := sd.length
    obtain ⟨t, gt, _, ht⟩ := sd.dget es hx
    refine ⟨.int i, rfl, _, _, _, _, false, rfl, ClsV.ty _, TyX.base (TyOf.int _), kit_ty (by decide +kernel), _, rfl, iteF ?_⟩
    have ngs : g ≠ st := fa.ne
    refine ⟨.int i, rfl, .ref g, rfl, g, C5, dx, _, .ref st, rfl, ea, TRo_.cl, TRo_.nS, rfl, st, some (.ref t), rfl, gt, _, rfl, iteF ?_⟩
    have sl : ∀ {od : Obj} {b : Addr} {o : HO}, H b = some o → b ≠ st → (upd H st (.frz od (.dK kvs))) b = some o := fun h n => by rw [upd_ne n]; exact h
    refine ⟨.ref g, rfl, g, dx, _, rfl, ea, rfl, .ref g, rfl, g, C5, dx, _, .int n, rfl, ea, TRo_.cl, TRo_.nE, rfl, st, .dK kvs, es, trivial, fun od => ?_⟩
    refine ⟨.ref g, rfl, g, C5, dx, _, .ref st, rfl, sl ea ngs, TRo_.cl, TRo_.nS, rfl, st, od, rfl, .inl ⟨kvs, upd_same, fun D nD => dc_it walk_keys (fun j H2 => ∃ ks, Same (upd H st (.frz od (.dK kvs))) H2 ∧ H2 D = some (.dK ks) ∧ Std H2 ks (sdrop (S.take j) i))
      ⟨[], same_upd nD, upd_same, .nil⟩ (fun j H2 _ ⟨_, sm, _⟩ => sm _ _ upd_same) ?_ ?_⟩⟩
    · rintro j y H2 H3 hj ⟨ks, sm, eD, s2⟩ ⟨rfl, k0, v2, hk, rfl⟩
      obtain ⟨z, hz, e1, t', e2, e3⟩ := LiI.paired_get sd hk
      have e1' : k0 = Sum.inl z.1 := e1
      subst e1'
      obtain ⟨tt, ht1, ht2⟩ := (sd.get z.1).2 z.2 (sget_mem up (List.mem_of_getElem? hz))
      have ntt : tt ≠ st := ne_of ht2 es (fun z => by cases z)
      have stepE : sdrop (S.take (j + 1)) i = sdrop (S.take j) i ++ (if z.1 ≠ i then [z] else []) := by
        unfold sdrop
        rw [List.take_add_one, hz, List.filter_append]
        congr 1
        show List.filter (fun s => decide (s.1 ≠ i)) [z] = _
        rw [List.filter_cons, List.filter_nil]
        by_cases q : z.1 ≠ i
        · rw [if_pos (decide_eq_true q), if_pos q]
        · rw [if_neg (fun w => q (of_decide_eq_true w)), if_neg q]
      have hlt : ∀ s ∈ S.take j, s.1 < z.1 := fun s hs => by
        have u2 : ((S.take (j + 1)).map (·.1)).Pairwise (· < ·) := up.sublist ((List.take_sublist _ _).map _)
        rw [List.take_add_one, hz, List.map_append, List.pairwise_append] at u2
        exact u2.2.2 _ (List.mem_map.mpr ⟨s, hs, rfl⟩) _ (List.mem_singleton.mpr rfl)
      have l2 := s2.length
      have l3 : (sdrop (S.take j) i).length ≤ (S.take j).length := sdrop_length _ _
      rw [List.length_take] at l3
      refine ⟨rfl, .int z.1, rfl, .int i, rfl, rfl, _, rfl, ?_⟩
      refine ite2 (fun h => ?_) (fun h => ?_)
      · have hne : z.1 ≠ i := fun e => by
          rw [e, decide_eq_true rfl] at h
          cases h
        rw [if_pos hne] at stepE
        refine ⟨.int z.1, rfl, .ref g, rfl, g, C5, dx, _, .ref st, rfl, sm _ _ (sl ea ngs), TRo_.cl, TRo_.nS, rfl, .int z.1, rfl, st, .ref tt, rfl, .inl ⟨kvs, Sum.inl z.1, .inr ⟨od, sm _ _ upd_same⟩, rfl, ht1.symm⟩, ?_⟩
        have hno : valV ks (Sum.inl z.1) = none := (s2.get z.1).1 (sget_not fun s hs => by have := hlt s (List.mem_filter.mp hs).1; omega)
        refine ⟨ks, Sum.inl z.1, rfl, eD, sz_lt (by omega), putK ks (Sum.inl z.1) (.ref tt), fun b o hb => ?_, upd_same, ?_⟩
        · rw [upd_ne (ne_of_none hb nD)]
          exact sm _ _ hb
        · have kt : KeepT H3 (upd H3 D (.dK (putK ks (Sum.inl z.1) (.ref tt)))) := fun b xs hb => by
            rw [upd_ne (ne_of hb eD (fun z => by cases z))]
            exact hb
          rw [stepE]
          show Std _ (putK ks (Sum.inl z.1) (.ref tt)) _
          generalize upd H3 D (.dK (putK ks (Sum.inl z.1) (.ref tt))) = H9 at kt
          rw [putK_new _ hno]
          exact Std.snoc ⟨rfl, tt, rfl, kt _ _ (sm _ _ (sl ht2 ntt))⟩ (s2.keep kt)
      · have he : ¬ z.1 ≠ i := fun e => h (by rw [decide_eq_false (fun q => e (V.int.inj q))]; rfl)
        rw [if_neg he, List.append_nil] at stepE
        exact ⟨ks, sm, eD, by rw [stepE]; exact s2⟩
    · rintro H2 ⟨ks, sm, eD, s2⟩
      rw [el, List.take_length] at s2
      have nDs : D ≠ st := fun z => by
        rw [z, upd_same] at nD
        cases nD
      have nD0 : H D = none := by
        rw [upd_ne nDs] at nD
        exact nD
      have fin : Same H (upd H2 st (.dK kvs)) := fun b o hb => by
        by_cases z : b = st
        · rw [z] at hb ⊢
          rw [es] at hb
          rw [upd_same]
          exact hb
        · rw [upd_ne z]
          exact sm _ _ (sl hb z)
      have kt : KeepT H2 (upd H2 st (.dK kvs)) := fun b xs hb => by
        rw [upd_ne (ne_of hb (sm _ _ upd_same) (fun z => by cases z))]
        exact hb
      have eD2 : (upd H2 st (.dK kvs)) D = some (.dK ks) := by
        rw [upd_ne nDs]
        exact eD
      refine ⟨sm _ _ upd_same, ?_⟩
      refine ⟨g, st, D, dx, n, n, S, sdrop S i, k, c, kvs, ks, rfl, fin _ _ ea, upd_same, sd.keep fun b xs hb => fin _ _ hb, eD2, s2.keep kt, up, sdrop_keys up, fun H5 e5 k5 => ?_⟩
      rw [if_neg (fun z => by have := congrArg List.length z.2; have := sdrop_less hx; omega)] at e5
      have nDg : D ≠ g := (ne_of_none ea nD0).symm
      exact qq H5 D ⟨⟨dx, e5⟩, ks, k5 _ _ nDg eD2, (s2.keep kt).keep fun b xs hb => k5 _ _ (ne_of hb (fin _ _ ea) (fun z => by cases z)) hb⟩ (fun b o nb hb => k5 _ _ nb (fin _ _ hb)) nD0
end

/-! ### an own error class over LookupError: fields are stored, __init__ is walked as a def -/
namespace LkE
open PySem.W PySem.Calls PyProof.Rows PySem.HandSPX Builtin Builtin.ObjectAttr
/-- own classes ahead of LookupError and what it comes of -/
def Over (l : List Value) : Prop := ∃ cs : List Addr, l = cs.map Value.ref ++ lkTail
theorem Over.own {l : List Value} (h : Over l) (C : Addr) : Over (.ref C :: l) := by
  obtain ⟨cs, rfl⟩ := h
  exact ⟨C :: cs, rfl⟩
theorem Over.lets {l : List Value} (h : Over l) (self : Value) : refuseLoop self "__setattr__" l = pure () := by
  obtain ⟨cs, rfl⟩ := h
  induction cs with
  | nil =>
    show refuseLoop self "__setattr__" lkTail = pure ()
    kernel_rfl
  | cons C r ih =>
    show refuseLoop self "__setattr__" (.ref C :: (r.map Value.ref ++ lkTail)) = pure ()
    rw [refuseLoop_ref]
    exact ih
theorem Over.has {l : List Value} (h : Over l) (Y : String) : l.contains (.type Y) = lkTail.contains (.type Y) := by
  obtain ⟨cs, rfl⟩ := h
  induction cs with
  | nil => rfl
  | cons C r ih =>
    show (Value.ref C :: (r.map Value.ref ++ lkTail)).contains (.type Y) = _
    rw [List.contains_cons, ih]
    rfl
theorem Over.some_ {l : List Value} (h : Over l) : l.isEmpty = false := by
  obtain ⟨cs, rfl⟩ := h
  cases cs <;> rfl
section
variable {P : Program} {w : World} {A : Around} {R : Result → Shared → Prop} {h0 : Heap} {gs : Array GenState} {dr : PySem.Drawn} {tn : Nat} {oS : OsState} {K : PySem.W.Frag}
/-- the first field of an error: its dict is laid -/
theorem osa_first {nm : Str} {tk : Tok} {v : Value} {x C : Addr} {fv : Array Value} {cd : ClassData} (kin : K.In h0) (ox : h0.get? x = some { cls := .ref C, data := .fields fv }) (hcd : PySem.W.clsIn K C = some cd) (ov : Over cd.mro) (dct : cd.hasDict = true) (no : PySem.W.findIn K (.ref C) nm = some none)
    (go : ∀ h1 tk1 dx, (∀ b o, b ≠ x → h0.get? b = some o → h1.get? b = some o) → h0.objs.size ≤ dx → dx ≠ x → h1.get? x = some { cls := .ref C, dict := some dx, data := .fields fv } → h1.Ns1 dx (fun y => if y = nm then some v else none) → R (.ok (.ret .none)) ⟨h1, gs, dr, tk1, oS⟩) :
    codeAny (model P w) A (.call (.builtin "object.__setattr__") ⟨[.ref x, .str nm tk, v], []⟩) R ⟨h0, gs, dr, tn, oS⟩ := by
  have at_x : InstAt h0 x { cls := .ref C, data := .fields fv } C none := ⟨ox, rfl, rfl, trivial⟩
  have St := F.store_object
  have apart : x ≠ h0.objs.size := Nat.ne_of_lt (Heap.lt_size ox)
  have isObj : Looks (model P w) h0 (isInstance (.ref x) (.type "object")) true := at_x.type.andThen (looks_mroIn kin (by
    unfold mroIn
    rw [hcd, Option.bind_some, if_neg (by rw [ov.some_]; decide), ov.has "object"]
    decide +kernel))
  refine codeAny_call_builtin St.slot.plain St.entry (@check_slot (model P w) _ _ ⟨h0, gs, dr, tn, oS⟩ "object.__setattr__" "object" "__setattr__" (.ref x) [.str nm tk, v] [] _ St.kind St.split isObj (St.args (.ref x) (.str nm tk) v) ?_)
  have seesMro : Looks (model P w) h0 (mroOf (.ref C)) cd.mro := (looks_clsIn kin hcd).andThen .now
  have taker : Looks (model P w) h0 (storeTaker? none) none := .now
  have seesCls : Looks (model P w) h0 (classData C) cd := looks_clsIn kin hcd
  rw [osa_eq, refuse_eq]
  refine wpAny_bind (wpAny_bind (at_x.type.at (wpAny_bind (seesMro.at ?_))))
  rw [ov.lets]
  refine wpAny_pure (wpAny_bind (at_x.type.at (wpAny_bind ((looks_findIn kin no).at (wpAny_bind (taker.at ?_))))))
  show wpAny _ _ (storeInOwnDict (.ref x) (.ref C) (.str nm tk) nm v false) _ _ _
  obtain ⟨c1, c2, c3, c4, c5, hasD, c7, c8, c9, c10, c11⟩ := cd
  dsimp only at dct
  subst dct
  unfold storeInOwnDict ownDictForStores
  repeat (first | with_reducible refine PySem.HandSPX.store_in_new ?_ ?_ | with_reducible refine wpAny_loadPart_at ox ?_ | with_reducible refine seesCls.at ?_ | wp_step)
  · refine ⟨_, #[], _, (Heap.get?_update_ne _ _ _ _ apart.symm).trans (Heap.get?_push_at rfl rfl), rfl, fun e he => absurd he (by simp), fun _ => rfl⟩
  · intro h1 tk1 nsd same
    have still : (h0.push { cls := .type "dict", data := .dict #[] }).get? x = some { cls := .ref C, data := .fields fv } := Heap.get?_push_of_some _ ox
    refine go h1 tk1 h0.objs.size (fun b o nb ob => ?_) (Nat.le_refl _) apart.symm ((same.2 x apart).trans (Heap.get?_update_self _ still rfl)) nsd
    exact (same.2 b (Nat.ne_of_lt (Heap.lt_size ob))).trans ((Heap.get?_update_ne _ _ _ _ nb).trans (Heap.get?_push_of_some _ ob))
/-- a further field -/
theorem osa_more {nm : Str} {tk : Tok} {v : Value} {x C dx : Addr} {fv : Array Value} {cd : ClassData} {m0 : Str → Option Value} {nl : List Str} (kin : K.In h0) (ox : h0.get? x = some { cls := .ref C, dict := some dx, data := .fields fv }) (nsd : h0.Ns1 dx m0) (few : Within m0 nl) (few' : nl.length ≤ 1000)
    (hcd : PySem.W.clsIn K C = some cd) (ov : Over cd.mro) (dct : cd.hasDict = true) (no : PySem.W.findIn K (.ref C) nm = some none)
    (go : ∀ h1 tk1, (∀ b o, b ≠ dx → h0.get? b = some o → h1.get? b = some o) → h1.Ns1 dx (fun y => if y = nm then some v else m0 y) → R (.ok (.ret .none)) ⟨h1, gs, dr, tk1, oS⟩) :
    codeAny (model P w) A (.call (.builtin "object.__setattr__") ⟨[.ref x, .str nm tk, v], []⟩) R ⟨h0, gs, dr, tn, oS⟩ := by
  obtain ⟨oD, _, _, gotD, _, _⟩ := nsd.count few
  have at_x : InstAt h0 x { cls := .ref C, dict := some dx, data := .fields fv } C (some oD) := ⟨ox, rfl, rfl, gotD⟩
  have St := F.store_object
  have isObj : Looks (model P w) h0 (isInstance (.ref x) (.type "object")) true := at_x.type.andThen (looks_mroIn kin (by
    unfold mroIn
    rw [hcd, Option.bind_some, if_neg (by rw [ov.some_]; decide), ov.has "object"]
    decide +kernel))
  refine codeAny_call_builtin St.slot.plain St.entry (@check_slot (model P w) _ _ ⟨h0, gs, dr, tn, oS⟩ "object.__setattr__" "object" "__setattr__" (.ref x) [.str nm tk, v] [] _ St.kind St.split isObj (St.args (.ref x) (.str nm tk) v) ?_)
  have seesMro : Looks (model P w) h0 (mroOf (.ref C)) cd.mro := (looks_clsIn kin hcd).andThen .now
  have taker : Looks (model P w) h0 (storeTaker? none) none := .now
  have seesCls : Looks (model P w) h0 (classData C) cd := looks_clsIn kin hcd
  rw [osa_eq, refuse_eq]
  refine wpAny_bind (wpAny_bind (at_x.type.at (wpAny_bind (seesMro.at ?_))))
  rw [ov.lets]
  refine wpAny_pure (wpAny_bind (at_x.type.at (wpAny_bind ((looks_findIn kin no).at (wpAny_bind (taker.at ?_))))))
  show wpAny _ _ (storeInOwnDict (.ref x) (.ref C) (.str nm tk) nm v false) _ _ _
  obtain ⟨c1, c2, c3, c4, c5, hasD, c7, c8, c9, c10, c11⟩ := cd
  dsimp only at dct
  subst dct
  unfold storeInOwnDict ownDictForStores
  repeat (first | with_reducible refine PySem.OEX.store_in_old nsd few few' ?_ | with_reducible refine wpAny_loadPart_at ox ?_ | with_reducible refine seesCls.at ?_ | wp_step)
  intro h1 tk1 nsd1 same
  exact go h1 tk1 (fun b o nb ob => (same.2 b nb).trans ob) nsd1
end
end LkE
section
open PySem.Spec PyProof.Rows
/-- what the written part says of an own class over LookupError -/
structure LexC (K : PySem.W.Frag) (C : Addr) : Prop where
  cls : ∃ nm q N bs bm sn sub ab col dd k0 k1 k2 k3 k5, K.lookup C = some (excClassObj nm q C N bs bm true sn sub ab col dd k0 k1 k2 k3 k5 "LookupError.__new__") ∧ LkE.Over bm
  sa : PySem.W.findIn K (.ref C) "__setattr__" = some (some (.builtin "object.__setattr__"))
  exC : PySem.W.subIn K (.ref C) (.type "BaseException") = some true
  tyC : PySem.W.typeIn K (.ref C) = some (.type "type")
  kC : PySem.W.keepIn K (.ref C) = true
section
variable {X : Cx} {pins : List (Addr × Obj)} {σ : L2.St} {H : Hp} {s : Shared} {a C dx : Addr} {f : Str} {y : V} {u : Value} {fs : List (Str × V)} {Q : Unit → Shared → Prop} {E : Value → Shared → Prop} {A : Around}
theorem LexC.cd {K : PySem.W.Frag} {C : Addr} (T : LexC K C) : ∃ cd : ClassData, PySem.W.clsIn K C = some cd ∧ LkE.Over cd.mro ∧ cd.hasDict = true := by
  obtain ⟨nm, q, N, bs, bm, sn, sub, ab, col, dd, k0, k1, k2, k3, k5, hC, ov⟩ := T.cls
  exact ⟨{ name := nm, bases := bs, mro := .ref C :: bm, ns := N, qualname := q, hasDict := true, slotNames := sn, subclasses := sub, abstract := ab, collection := col, hasDel := false }, by unfold PySem.W.clsIn; rw [hC] <;> rfl, ov.own C, rfl⟩
/-- self.f = y on an error without a dict -/
theorem lst_new (T : LexC X.K C) (I : Inv X pins σ H s) (ea : H a = some (exo a C none)) (no : PySem.W.findIn X.K (.ref C) f = some none) (ry : RelV y u)
    (go : ∀ dx s1, H dx = none → dx ≠ a → Inv X pins σ (upd (upd H dx (exd dx [(f, y)])) a (exo a C (some dx))) s1 → Q () s1) : wpAny (model X.prog X.w) A (setAttr (.ref a) f u) Q E s := by
  obtain ⟨cd, hcd, ov, dct⟩ := T.cd
  obtain ⟨t1, oa⟩ := exo_at I.hok ea
  obtain ⟨hp, gs, dr, tn, oS⟩ := s
  refine PySem.W.set_plain I.kIn (ox := { cls := .ref C, dict := none, data := .fields #[.ref t1, .none, .none, .none, .bool false, .none] }) (od := none) ⟨oa, rfl, rfl, trivial⟩ T.sa ?_
  refine LkE.osa_first I.kIn oa hcd ov dct no (fun h1 tk1 dx keeps past apart oa1 nsd => ?_)
  have free : H dx = none := I.hok.fresh past
  have offD : ∀ {b : Addr} {o : Obj}, hp.get? b = some o → b ≠ dx := fun {b o} z => Nat.ne_of_lt (Nat.lt_of_lt_of_le (Heap.lt_size z) past)
  have offA : ∀ {b : Addr}, H b = none → b ≠ a := fun {b} z e => by
    rw [e, ea] at z
    cases z
  refine go dx _ free apart (I.un (t' := tk1) ⟨fun b o z n _ _ => keeps b o (offA n) z, fun b o z n _ _ => ⟨o.slots, keeps b o (offA n) z⟩, fun b o z n _ => by rw [upd_ne (offA n), upd_ne (offD z)]; exact n, fun b o z _ => ?_, fun b xs z => by rw [upd_ne (at_ne ea z exo_tup), upd_ne (ne_of_none z free)]; exact z,
    fun b o v z => by rw [upd_ne (at_ne ea z exo_frz), upd_ne (ne_of_none z free)]; exact z, fun b ps z => ⟨#[], by rw [upd_ne (at_ne ea z exo_tbl), upd_ne (ne_of_none z free), z]; simp⟩⟩ fun b o z => ?_)
  · by_cases hb : b = a
    · exact ⟨_, by rw [hb]; exact oa1⟩
    · exact ⟨o, keeps b o hb z⟩
  · by_cases hb : b = a
    · subst hb
      rw [upd_same] at z
      cases z
      exact exo_ok oa1
    · rw [upd_ne hb] at z
      by_cases hd : b = dx
      · subst hd
        rw [upd_same] at z
        cases z
        exact exd_ok nsd (relO_put (fs := []) ry fun _ => True.intro)
      · rw [upd_ne hd] at z
        refine (I.hok b o z).stay (fun c v hc q => keeps c v ?_ q) (fun c hc => by rw [upd_ne (at_ne ea hc exo_own), upd_ne (ne_of_none hc free)]; exact hc) (fun c xs hc => by rw [upd_ne (at_ne ea hc exo_tup), upd_ne (ne_of_none hc free)]; exact hc)
        rcases hc with hc | hc
        · rw [hc]
          exact hb
        · exact at_ne ea hc exo_own
/-- self.f = y on one that has it -/
theorem lst_old (T : LexC X.K C) (I : Inv X pins σ H s) (ea : H a = some (exo a C (some dx))) (ed : H dx = some (exd dx fs)) (few : fs.length ≤ 900) (no : PySem.W.findIn X.K (.ref C) f = some none) (ry : RelV y u)
    (go : ∀ s1, Inv X pins σ (upd H dx (exd dx ((f, y) :: fs))) s1 → Q () s1) : wpAny (model X.prog X.w) A (setAttr (.ref a) f u) Q E s := by
  obtain ⟨cd, hcd, ov, dct⟩ := T.cd
  obtain ⟨t1, oa⟩ := exo_at I.hok ea
  obtain ⟨mA, nsd, rel⟩ := exd_at I.hok ed
  have wit := within_of rel
  obtain ⟨hp, gs, dr, tn, oS⟩ := s
  obtain ⟨oD, _, _, gotD, _, _⟩ := nsd.count wit
  refine PySem.W.set_plain I.kIn (ox := { cls := .ref C, dict := some dx, data := .fields #[.ref t1, .none, .none, .none, .bool false, .none] }) (od := some oD) ⟨oa, rfl, rfl, gotD⟩ T.sa ?_
  refine LkE.osa_more I.kIn oa nsd wit (by rw [List.length_map]; omega) hcd ov dct no (fun h1 tk1 keeps nsd1 => ?_)
  refine go _ (I.write (t' := tk1) (x := dx) (e := dx) (o := exd dx ((f, y) :: fs)) (by rw [ed]; exact True.intro) (.inl rfl) keeps ?_ (exd_ok nsd1 (relO_put ry rel)))
  obtain ⟨o, _, _, z, _⟩ := nsd1
  exact ⟨o, z⟩
/-- LookupError.__init__(self, ..) -/
theorem linit_ok {us : List Value} {Q : Value → Shared → Prop} (T : LexC X.K C) (I : Inv X pins σ H s) (ea : H a = some (exo a C none)) (few : us.length ≤ sizeLine) (go : ∀ s1, Inv X pins σ H s1 → Q .none s1) :
    wpAny (model X.prog X.w) A (call (.builtin "LookupError.__init__") (.ref a :: us)) Q E s := by
  obtain ⟨nm, q, N, bs, bm, sn, sub, ab, col, dd, k0, k1, k2, k3, k5, hC, ov⟩ := T.cls
  obtain ⟨t1, oa⟩ := exo_at I.hok ea
  obtain ⟨hp, gs, dr, tn, oS⟩ := s
  refine wpAny_call (PySem.HandSPX.init_base F.excBase_LookupError ov.has (I.kIn _ _ hC) oa few fun h1 t2 keeps oa1 => ?_)
  have J := I.write (t' := tn) (x := a) (e := a) (o := exo a C none) (by rw [ea]; exact True.intro) (.inl rfl) keeps ⟨_, oa1⟩ (exo_ok oa1)
  have same : upd H a (exo a C none) = H := funext fun b => by
    by_cases hb : b = a
    · rw [hb, upd_same, ea]
    · rw [upd_ne hb]
  rw [same] at J
  exact go _ J
end
end

/-! ### the readings over it (behind 60l_lookup) -/
section
open PySem.Spec PyProof.Rows
/-- LookupError.__init__(self, ..) -/
def tLkI (K : PySem.W.Frag) (ta : TA) : TE := fun σ H Q => ta σ H fun vs H1 => ∃ (a C : Addr) (ws : List V), vs = .ref a :: ws ∧ ws.length ≤ 1000 ∧ LexC K C ∧ H1 a = some (exo a C none) ∧ Q .non H1
/-- self.f = e -/
def tLst (K : PySem.W.Frag) (f : Str) (to te : TE) : TS := fun D σ H => te σ H fun y H1 => to σ H1 fun x H2 => ∃ a C : Addr, x = .ref a ∧ LexC K C ∧ PySem.W.findIn K (.ref C) f = some none ∧
  ((H2 a = some (exo a C none) ∧ ∀ d, H2 d = none → d ≠ a → D.nx σ (upd (upd H2 d (exd d [(f, y)])) a (exo a C (some d)))) ∨
    ∃ (d : Addr) (fs : List (Str × V)), H2 a = some (exo a C (some d)) ∧ H2 d = some (exd d fs) ∧ fs.length ≤ 900 ∧ D.nx σ (upd H2 d (exd d ((f, y) :: fs))))
section
variable {X : Cx} {o e : Expr} {es : List Expr} {to te : TE} {ta : TA} {f : Str} {p p' p1 p2 pos : Pos}
theorem pe_lkinit {pl : Sem Bool} (hg : Gl X "LookupError") (hm : X.mg "LookupError" = none) (vV : PySem.W.findCls X.K (.type "LookupError") (.type "type") "__init__" = some (.val (.builtin "LookupError.__init__"))) (ha : PA X (e :: es) ta)
    (hc : eval (.Call (.Attribute (.Name "LookupError" p1) "__init__" p2) (e :: es) [] pos) X.env = (do
      let ov ← eval (.Name "LookupError" p1) X.env
      standAt p2.atName
      let (g, first) ← holding [ov] (getMethod ov "__init__" pl)
      callWith pos g first (backTo pos (starEach (e :: es) X.env)) (backToKw pos (keywordEach [] X.env))) := by rfl)
    (he : starEach (e :: es) X.env = (false, eval e X.env) :: starEach es X.env := by rfl) (hpl : (backTo pos (starEach es X.env)).any (·.1) = false := by rfl) :
    PE X (.Call (.Attribute (.Name "LookupError" p1) "__init__" p2) (e :: es) [] pos) (tLkI X.K ta) := by
  refine ⟨fun pins s σ H Q I h => ?_⟩
  refine PySem.W.methodCall_KW (ld_blt I hg hm PyProof.Rows.Boot.«LookupError» ?_ (by decide) (by decide)) hc
  obtain ⟨_, fr⟩ := I.fr
  refine PySem.W.method_type fr I.ok.mod.kin (show typeOf (.type "LookupError") = pure (.type "type") by kernel_rfl) (by decide +kernel) vV (by decide +kernel) ?_
  show wpAny _ _ (callWith pos (Value.builtin "LookupError.__init__") [] (backTo pos (starEach (e :: es) X.env)) []) _ _ _
  refine PyProof.Rows.callWith_method1 (thn (ha.run pos pins _ σ H _ (I.tok _) h) fun us s1 ⟨vs, H1, I1, r1, a, C, ws, ev, few, T, ea, q⟩ => ?_) he hpl
  subst ev
  cases r1 with
  | @cons _ u0 _ ur ra rr =>
    obtain rfl : u0 = Value.ref a := ra
    exact linit_ok T I1 ea (by rw [← Paired.length rr, sizeLine_eq]; omega) fun s2 J => ⟨.non, H1, J, rfl, q⟩
theorem ps_lst (ho : PE X o to) (he : PE X e te) (hs : swapsWith e (some (.Attribute o f p')) pos.line X.env = pure false := by rfl) : PS X (.Assign [.Attribute o f p'] e pos) (tLst X.K f to te) := by
  refine ⟨fun pins s σ H D I h => ?_⟩
  refine plainObj_wpAny_Assign_Attribute (thn (he.run pins s σ H _ I h) fun v s1 ⟨y, H1, I1, r1, q1⟩ => thn (ho.run pins s1 σ H1 _ I1 q1) fun u s2 ⟨x, H2, I2, r2, a, C, ex, T, no, q⟩ => ?_) hs
  subst ex
  obtain rfl : u = Value.ref a := r2
  rcases q with ⟨ea, q⟩ | ⟨d, fs, ea, ed, few, q⟩
  · exact lst_new T I2 ea no r1 fun d s3 n ne J => ⟨σ, _, J, q d n ne⟩
  · exact lst_old T I2 ea ed few no r1 fun s3 J => ⟨σ, _, J, q⟩
theorem pmk_lex {CX : CXT} {x : Str} {C fI : Addr} {k : Nat} {fd : FuncData} {ps : List Str} {sp : Sp} {ds : List Value} {dvs : List V} (T : LexC X.K C) (iC : PySem.W.findIn X.K (.ref C) "__init__" = some (some (.ref fI))) (tI : PySem.W.typeIn X.K (.ref fI) = some (.type "function"))
    (F1 : FnOk X.prog X.w X.K X.mg X.base CX k fI fd ps sp) (hr : Room (k + 1) X.A) (hb : Binds X.K fd ps ds) (hd : Vals dvs ds) (hx : Passes CX X (fun _ _ _ => False)) (hg : Gl X x) (hm : X.mg x = some (.ref C)) (ha : PA X (e :: es) ta)
    (dbg : (x == ("__debug__" : Str)) = false := by decide) (he : starEach (e :: es) X.env = (false, eval e X.env) :: starEach es X.env := by rfl) (hpl : (backTo pos (starEach es X.env)).any (·.1) = false := by rfl) :
    PMk X (.Call (.Name x p) (e :: es) [] pos) (tMkO C sp dvs ta) := by
  intro pins s σ H Q I h
  obtain ⟨nm, q, N, bs, bm, sn, sub, ab, col, dd, k0, k1, k2, k3, k5, hC, ov⟩ := T.cls
  refine wpAny_Call_Name_kw (ld_glob I hg hm ?_ dbg)
  refine PySem.W.callWith_K (h₀ := X.base) I.ok.mod.kin T.kC (thn (ha.run pos pins s σ H _ I h) fun us s1 ⟨vs, H1, I1, r1, few, q1⟩ => ⟨I1.kIn, ?_⟩) he hpl
  show wpAny _ _ (call (.ref C) us) _ _ _
  obtain ⟨hp, gs, dr, tk, oS⟩ := s1
  have up : hp.objs.size ≤ hp.objs.size + 1 := Nat.le_succ _
  have want := q1 (hp.objs.size + 1) (I1.hok.fresh up)
  have keeps : ∀ b ob, hp.get? b = some ob → ((hp.push (PySem.W.kdv_tup us)).push (PySem.HandSPX.excO C hp.objs.size)).get? b = some ob := fun b ob z => Heap.get?_push_of_some _ (Heap.get?_push_of_some _ z)
  have made : ((hp.push (PySem.W.kdv_tup us)).push (PySem.HandSPX.excO C hp.objs.size)).get? (hp.objs.size + 1) = some (PySem.HandSPX.excO C hp.objs.size) := by heap_get
  have I2 : Inv X pins σ (upd H1 (hp.objs.size + 1) (exo (hp.objs.size + 1) C none)) ⟨(hp.push (PySem.W.kdv_tup us)).push (PySem.HandSPX.excO C hp.objs.size), gs, dr, tk, oS⟩ :=
    I1.laid (t' := tk) (a := hp.objs.size + 1) (o := exo (hp.objs.size + 1) C none) (h' := (hp.push (PySem.W.kdv_tup us)).push (PySem.HandSPX.excO C hp.objs.size)) keeps up (exo_ok made)
  have r2 : Vals (V.ref (hp.objs.size + 1) :: (vs ++ dvs)) (Value.ref (hp.objs.size + 1) :: (us ++ ds)) := .cons rfl (r1.append hd)
  have len : (Value.ref (hp.objs.size + 1) :: us ++ ds).length = ps.length := (F1.len _ _ _ _ want ▸ r2.length).symm
  refine wpAny_call (PySem.HandSPX.call_own F.excBase_LookupError ov.has (I1.kIn _ _ hC) (PySem.W.looks_findIn I1.kIn iC) (fun self => PySem.W.bind_fn I1.kIn self tI) (by rw [← Paired.length r1, sizeLine_eq]; omega)
    (codeAny_mono (F1.run _ X.stack _ _ ⟨Value.ref (hp.objs.size + 1) :: us, []⟩ (Value.ref (hp.objs.size + 1) :: (us ++ ds)) _ _ (fun _ _ _ => False) (hr.make C us []) (I2.env0.make C us []) (hb _ (Value.ref (hp.objs.size + 1) :: us) I2.kIn len) r2 want) fun r s2 back => ?_))
  cases r with
  | error er => exact hx pins σ _ _ er s2 I2 back
  | ok fl =>
    cases fl with
    | ret u =>
      obtain ⟨v, H2, os2, bare2, un2, hok2, rv, ev, d, fs, ea, ed, free, q2⟩ := back
      subst ev
      obtain ⟨h2, g2, d2, t2, oT⟩ := s2
      exact ⟨rv, mk_end (raises_own T.exC T.tyC) I1 up keeps un2 hok2 os2 bare2 ea ed free q2⟩
    | next => exact False.elim back
    | brk => exact False.elim back
    | cont => exact False.elim back
end
end

/-! ### try, the first of several named clauses takes the error -/
section
open PySem.Spec PyProof.Rows
variable {X : Cx}
end

/-! ### try, the first or the second of several named clauses takes the error -/
section
open PySem.Spec PyProof.Rows
def wTwo (K : PySem.W.Frag) (c d : Value) (i : Nat) (ts us : Addr → Value → Option Addr → TS) (D : Ends) : WX := fun k dd τ G =>
  ∃ b, PySem.W.exmOne K k c = some b ∧
    (b = true → ∀ z, G z = none → ts z k dd ⟨fun τ' G' => D.nx (τ'.set i none) G', D.rt, fun τ' G' => D.bk (τ'.set i none) G', fun τ' G' => D.ct (τ'.set i none) G'⟩ (τ.set i (some (.ref z))) G) ∧
    (b = false → PySem.W.exmOne K k d = some true ∧ ∀ z, G z = none → us z k dd ⟨fun τ' G' => D.nx (τ'.set i none) G', D.rt, fun τ' G' => D.bk (τ'.set i none) G', fun τ' G' => D.ct (τ'.set i none) G'⟩ (τ.set i (some (.ref z))) G)
variable {X : Cx}
theorem ps_try_two {x x' n : Str} {c d : Value} {i : Nat} {bd su su' : List Stmt} {s0 s0' : Stmt} {np np' q1 q2 q3 : Pos} {more : List ExceptHandler} {tb : WX → TS} {ts us : Addr → Value → Option Addr → TS}
    (stk : X.stack = X.env :: X.outer) (frm : X.env.frame = some X.env.locals) (nod : X.N.Nodup) (slot : X.N[i]? = some n) (loc : X.env.kindOf n = some .local) (nam : Names X x c) (nam' : Names X x' d)
    (run : ∀ (W : WX) (pn : List (Addr × Obj)) (xe : Value → Shared → Prop), L2.Takes (X.tr pn xe) W → PassesOwn (model X.prog X.w) X.A X.env xe → PSs (X.tr pn xe) bd (tb W))
    (sui : ∀ (z : Addr) (oz : Obj) (k : Value) (dd : Option Addr) (pn : List (Addr × Obj)), Zc k dd oz → (∃ vs, oz.data = .fields vs) → PSs (X.suite z ((z, oz) :: pn)) (s0 :: su) (ts z k dd))
    (sui' : ∀ (z : Addr) (oz : Obj) (k : Value) (dd : Option Addr) (pn : List (Addr × Obj)), Zc k dd oz → (∃ vs, oz.data = .fields vs) → PSs (X.suite z ((z, oz) :: pn)) (s0' :: su') (us z k dd)) :
    PS X (.Try bd (.ExceptHandler (some (.Name x np)) (some n) (s0 :: su) q2 :: .ExceptHandler (some (.Name x' np')) (some n) (s0' :: su') q3 :: more) [] [] q1) (fun D τ G => tb (wTwo X.K c d i ts us D) D τ G) := by
  refine ⟨fun pins st τ G D I want => ?_⟩
  have okX := I.ok
  have frames : X.A.frames = some (X.env :: X.outer) := (okX.frames).trans (congrArg some stk)
  refine wpAny_Try_except (wpAny_mono ((run (wTwo X.K c d i ts us D) (X.pn ++ pins) (fun er s1 => wpAny (model X.prog X.w) X.A (noteFrame er X.env) (fun _ s2 => wpAny (model X.prog X.w) X.A (setFlight er none)
    (fun _ s3 => wpAny (model X.prog X.w) X.A (handleBy er X.env (.ExceptHandler (some (.Name x np)) (some n) (s0 :: su) q2 :: .ExceptHandler (some (.Name x' np')) (some n) (s0' :: su') q3 :: more)) (SP X pins D) X.xe s3) X.xe s2) X.xe s1) (fun er s' flown => ?_) PassesOwn.looking).run [] st τ G D (I.toTry _) want) (fun fl s1 done => ?_) (fun _ _ z => z))
  · obtain ⟨z, Bq, sI, pins', τ', G', k, dd, rfl, Jt, nb, up, sky, nz, osq, bare, b, hit, go, go'⟩ := flown
    have J : Inv X pins τ' G' sI := Jt.ofTry okX
    have sky2 : Sky Bq (X.env :: X.outer) z (Zc k dd) X.env.locals s'.heap := stk ▸ sky
    show wpAny (model X.prog X.w) X.A (noteFrame (.ref z) X.env) _ _ _
    refine Sky.land Zc.steady frames frm sky2 fun g3 fly3 up3 => ?_
    have J3 : Inv X pins τ' G' { s' with heap := g3 } := J.landed nb fly3.1 (up.trans up3) osq bare
    obtain ⟨o3, v3, get3, zc3, dat3⟩ := fly3.there
    have offFr : z ∉ frs (X.env :: X.outer) := fun mem => by
      obtain ⟨_, o', got, nof⟩ := fly3.2.2.1.mem mem
      rw [get3] at got
      cases got
      exact nof _ dat3
    have offL : z ≠ X.env.locals := fun e => offFr (List.mem_filterMap.mpr ⟨X.env, List.mem_cons_self, frm.trans (congrArg some e.symm)⟩)
    have offF : z ∉ X.fs := fun mem => by
      obtain ⟨ev, hev, qe⟩ := List.mem_filterMap.mp mem
      exact offFr (List.mem_filterMap.mpr ⟨ev, List.mem_cons_of_mem _ hev, qe⟩)
    have S3 := J3.suite get3 dat3 nz offL offF
    have ty : PySem.W.Looks (model X.prog X.w) g3 (typeOf (.ref z)) k := fun A' Q' E' sx kx qx => wpAny_typeOf_ref (kx _ _ get3) (zc3.1.symm ▸ qx)
    have mat := PySem.W.exm_one (M := model X.prog X.w) J3.kIn ty hit
    have named : ∀ {y : Str} {cv : Value} {yp : Pos} (_ : Names X y cv) {Q' : Value → Shared → Prop} {E' : Value → Shared → Prop}, Q' cv { s' with heap := g3 } → wpAny (model X.prog X.w) (X.A.mark (some (.ref z))) (eval (.Name y yp) X.env) Q' E' { s' with heap := g3 } := fun nm => by
      intro Q' E' qc
      obtain ⟨g0, dbg, m0 | ⟨m0, v0, n0⟩⟩ := nm
      · exact ld_glob (X := X.suite z ((z, o3) :: (X.pn ++ pins))) S3 g0 m0 qc dbg
      · exact ld_blt (X := X.suite z ((z, o3) :: (X.pn ++ pins))) S3 g0 m0 v0 qc n0 dbg
    refine wpAny_handleBy_cons (codeAny_handlers_test (named nam (mat.here ?_))) (fun qq => by cases qq)
    cases b with
    | true =>
      have go := go rfl
      refine codeAny_handlers_suite_as (HandSPX.lands_againZ fly3 fun g4 fly4 up4 => ?_)
      have J4 : Inv X pins τ' G' { s' with heap := g4 } := J.landed nb fly4.1 ((up.trans up3).trans up4) osq bare
      obtain ⟨o4, v4, get4, zc4, dat4⟩ := fly4.there
      have S4 := J4.suite get4 dat4 nz offL offF
      refine store_ok (X := X.suite z ((z, o4) :: (X.pn ++ pins))) (v := .ref z) S4 nod slot (.inl loc) rfl (fun s5 S5 => ?_) (.inr loc)
      refine wpAny_mono ((sui z o4 k dd (X.pn ++ pins) zc4 ⟨_, dat4⟩).run [] s5 _ G' _ S5 (go z nz)) (fun fl s6 done => ?_) (fun _ _ bad => bad.elim)
      have gone : ∀ {τ6 : L2.St} {G6 : Hp} {R : Shared → Prop}, Inv (X.suite z ((z, o4) :: (X.pn ++ pins))) [] τ6 G6 s6 → (∀ s7, Inv X pins (τ6.set i none) G6 s7 → R s7) →
          wpAny (model X.prog X.w) X.A (do bindName X.env n .none; unbindBehindTheSuite X.env n q2) (fun _ s7 => R s7) X.xe s6 := fun S6 hq => gone_ok (S6.unsuite okX) nod slot loc hq
      cases fl with
      | next =>
        obtain ⟨τ6, G6, S6, q6⟩ := done
        exact gone S6 fun s7 J7 => ⟨_, _, J7, q6⟩
      | brk =>
        obtain ⟨τ6, G6, S6, q6⟩ := done
        exact gone S6 fun s7 J7 => ⟨_, _, J7, q6⟩
      | cont =>
        obtain ⟨τ6, G6, S6, q6⟩ := done
        exact gone S6 fun s7 J7 => ⟨_, _, J7, q6⟩
      | ret u =>
        obtain ⟨v6, τ6, G6, S6, r6, q6⟩ := done
        exact gone S6 fun s7 J7 => ⟨_, _, _, J7, r6, q6⟩
    | false =>
      obtain ⟨hit', go'⟩ := go' rfl
      have mat' := PySem.W.exm_one (M := model X.prog X.w) J3.kIn ty hit'
      show wpAny _ X.A (handleBy (.ref z) X.env (.ExceptHandler (some (.Name x' np')) (some n) (s0' :: su') q3 :: more)) _ _ _
      refine wpAny_handleBy_cons (codeAny_handlers_test (named nam' (mat'.here ?_))) (fun qq => by cases qq)
      refine codeAny_handlers_suite_as (HandSPX.lands_againZ fly3 fun g4 fly4 up4 => ?_)
      have J4 : Inv X pins τ' G' { s' with heap := g4 } := J.landed nb fly4.1 ((up.trans up3).trans up4) osq bare
      obtain ⟨o4, v4, get4, zc4, dat4⟩ := fly4.there
      have S4 := J4.suite get4 dat4 nz offL offF
      refine store_ok (X := X.suite z ((z, o4) :: (X.pn ++ pins))) (v := .ref z) S4 nod slot (.inl loc) rfl (fun s5 S5 => ?_) (.inr loc)
      refine wpAny_mono ((sui' z o4 k dd (X.pn ++ pins) zc4 ⟨_, dat4⟩).run [] s5 _ G' _ S5 (go' z nz)) (fun fl s6 done => ?_) (fun _ _ bad => bad.elim)
      have gone : ∀ {τ6 : L2.St} {G6 : Hp} {R : Shared → Prop}, Inv (X.suite z ((z, o4) :: (X.pn ++ pins))) [] τ6 G6 s6 → (∀ s7, Inv X pins (τ6.set i none) G6 s7 → R s7) →
          wpAny (model X.prog X.w) X.A (do bindName X.env n .none; unbindBehindTheSuite X.env n q3) (fun _ s7 => R s7) X.xe s6 := fun S6 hq => gone_ok (S6.unsuite okX) nod slot loc hq
      cases fl with
      | next =>
        obtain ⟨τ6, G6, S6, q6⟩ := done
        exact gone S6 fun s7 J7 => ⟨_, _, J7, q6⟩
      | brk =>
        obtain ⟨τ6, G6, S6, q6⟩ := done
        exact gone S6 fun s7 J7 => ⟨_, _, J7, q6⟩
      | cont =>
        obtain ⟨τ6, G6, S6, q6⟩ := done
        exact gone S6 fun s7 J7 => ⟨_, _, J7, q6⟩
      | ret u =>
        obtain ⟨v6, τ6, G6, S6, r6, q6⟩ := done
        exact gone S6 fun s7 J7 => ⟨_, _, _, J7, r6, q6⟩
  · cases fl with
    | next =>
      obtain ⟨τ1, G1, J1, q⟩ := done
      exact wpAny_execs_nil ⟨τ1, G1, J1.ofTry okX, q⟩
    | brk =>
      obtain ⟨τ1, G1, J1, q⟩ := done
      exact ⟨τ1, G1, J1.ofTry okX, q⟩
    | cont =>
      obtain ⟨τ1, G1, J1, q⟩ := done
      exact ⟨τ1, G1, J1.ofTry okX, q⟩
    | ret u =>
      obtain ⟨v1, τ1, G1, J1, r, q⟩ := done
      exact ⟨v1, τ1, G1, J1.ofTry okX, r, q⟩
end

/-! ### an error that is held, looked at by a def -/
section
open PySem.Spec PyProof.Rows PySem.W PySem.Calls
variable {prog : Program} {w : World} {A : Around} {E : Value → Shared → Prop} {st : Shared} {K : Frag} {z C : Addr} {oz : Obj} {oo : Option Obj}
theorem own_class {Q : Option Value → Shared → Prop} (T : ExcC K C) (KI : K.In st.heap) (I : InstAt st.heap z oz C oo) (want : Q (some (.ref C)) { st with toks := st.toks + 1 }) : wpAny (model prog w) A (getAttr? (.ref z) "__class__") Q E st := by
  obtain ⟨cdx, hcdx, _⟩ := any_some T.hd
  have found : findObj K C oo "__class__" = some (.bind (.builtin "getset_descriptor.__get__") (.builtin "object.__class__")) := by
    unfold findObj
    rw [hcdx, Option.bind_some, T.ha, Option.bind_some]
    simp [T.hn, T.ht]
  obtain ⟨hq, gq, dq, tq, oq⟩ := st
  have k0 := I.type (M := model prog w)
  have k1 := looks_findIn (M := model prog w) KI T.hg
  have k2 := looks_findIn (M := model prog w) KI T.hk
  have k3 := looks_find (M := model prog w) KI I found
  have kb : Looks (model prog w) hq (isInstance (.ref z) (.type "BaseException")) true := k0.andThen (looks_subIn KI T.hs)
  have not2 : (Value.builtin "BaseException.__getattribute__" == Value.builtin "object.__getattribute__") = false := by decide +kernel
  have not1 : (onTheHeap (Value.ref C) && Value.builtin "BaseException.__getattribute__" == Value.builtin "object.__getattribute__") = false := by rw [not2] <;> rfl
  unfold getAttr? getAttrBy? getAttrBy
  refine wpAny_bind (wpAny_mkText (wpAny_bind (wpAny_attempt (wpAny_holding (wpAny_bind (k0.at (wpAny_bind (k1.at ?_))))))))
  show wpAny _ _ (if (onTheHeap (Value.ref C) && Value.builtin "BaseException.__getattribute__" == Value.builtin "object.__getattribute__") = true then _ else _) _ _ _
  rw [not1, if_neg Bool.false_ne_true]
  unfold getAttrByItsOwn hookBefore
  refine wpAny_bind ?_
  rw [if_pos (show onTheHeap (Value.ref C) = true from rfl)]
  refine k2.at (wpAny_bind (wpAny_attempt (wpAny_holding ?_)))
  unfold callGetattribute
  rw [show (false && onTheHeap (Value.builtin "BaseException.__getattribute__")) = false from rfl, if_neg Bool.false_ne_true]
  unfold boundAndCalled
  rw [PySem.F.excAttr_ValueError.ga.bind (.ref z)]
  refine wpAny_bind (wpAny_pure ?_)
  show wpAny _ _ (call (.builtin "BaseException.__getattribute__") [.ref z, .str "__class__" tq]) _ _ _
  refine wpAny_call (codeAny_call_builtin PySem.F.excAttr_ValueError.ga.plain PySem.F.entry_bexc_ga ?_)
  refine @check_slot (model prog w) _ _ ⟨hq, gq, dq, tq + 1, oq⟩ "BaseException.__getattribute__" "BaseException" "__getattribute__" (.ref z) [.str "__class__" tq] [] _ (by decide +kernel) (by decide +kernel) kb (PySem.F.args_bexc_ga (.ref z) (.str "__class__" tq)) ?_
  unfold Builtin.«object.__getattribute__»
  refine wpAny_bind (wpAny_of_eq (a := ((Value.ref z : Value), [Value.str "__class__" tq])) (by first | rfl | (simp only [slotArgs]; rfl)) ?_)
  refine wpAny_bind (wpAny_pure (wpAny_bind (k0.at (wpAny_bind (k3.at ?_)))))
  show wpAny _ _ (holding [Value.builtin "object.__class__"] (call (.builtin "getset_descriptor.__get__") [.builtin "object.__class__", .ref z, .ref C]) >>= ret) _ _ _
  refine wpAny_bind (wpAny_holding (wpAny_call (class_get (s := ⟨hq, gq, dq, tq + 1, oq⟩) (ox := oz) (od := oo) KI I T.hm (wpAny_pure ?_))))
  show wpAny _ _ (handedOut (.ref C)) _ _ _
  rw [handedOut_of (v := .ref C) rfl]
  first
    | exact wpAny_pure (wpAny_pure want)
    | exact wpAny_pure want
    | exact wpAny_pure (wpAny_bind (wpAny_pure (wpAny_pure want)))
theorem own_kit (T : ExcC K C) : KitX K (.ref z) (.ref C) (fun h => InstAt h z oz C oo) where
  ty := fun _ _ _ I => I.type
  it := fun _ _ KI _ => by
    obtain ⟨cdx, hcdx, _⟩ := any_some T.hd
    unfold clsIn at hcdx
    split at hcdx
    · rename_i c1 d1 cd1 sl1 got
      intro A' Q' E' s' kp qq
      unfold isType loadHead
      exact wpAny_bind (wpAny_loadPart (kp _ _ (KI _ _ got)) (wpAny_pure qq))
    · cases hcdx
  ne := fun h tp dd its n sl KI htp => by
    obtain ⟨cdx, hcdx, _⟩ := any_some T.hd
    refine Bool.eq_false_iff.mpr fun same => ?_
    have e : C = tp := Value.ref.inj (beq_iff_eq.mp same)
    subst e
    unfold clsIn at hcdx
    split at hcdx
    · rename_i c1 d1 cd1 sl1 got
      have two := (KI _ _ got).symm.trans htp
      cases two
    · cases hcdx
  ca := fun KI I k => own_class T KI I k
end
/-- the error at p.1 is one of the class at C, its dict stands at dd with the fields fs -/
structure Held (p : Addr × Obj) (C dd : Addr) : Prop where
  z : Zc (.ref C) (some dd) p.2
  f : ∃ vs, p.2.data = .fields vs
section
open PySem.Spec PyProof.Rows
variable {X : Cx} {p : Addr × Obj} {C dd : Addr}
theorem Held.inst {pins : List (Addr × Obj)} {σ : L2.St} {H : Hp} {s : Shared} {fs : List (Str × V)} (h : Held p C dd) (hp : p ∈ X.pn) (I : Inv X pins σ H s) (hd : H dd = some (.xd fs)) :
    ∃ (od : Obj) (mA : Str → Option Value), PySem.W.InstAt s.heap p.1 p.2 C (some od) ∧ (∀ n, PySem.W.lookIn n od = some (mA n)) ∧ ∀ f, RelO (fs.lookup f) (mA f) := by
  obtain ⟨got, _⟩ := I.pin p (List.mem_append_left _ hp)
  obtain ⟨vs, dat⟩ := h.f
  obtain ⟨mA, hns, rel⟩ := (show ObjOk X.prog X.w H s.heap dd (.xd fs) from I.hok dd _ hd)
  obtain ⟨od, ho, hl⟩ := lookIn_ns hns
  exact ⟨od, mA, ⟨got, h.z.1, by unfold PySem.W.notCls; rw [dat] <;> rfl, by rw [h.z.2]; exact ho⟩, hl, rel⟩
/-- e.f, e the held error -/
def tHeldF (p : Addr × Obj) (dd : Addr) (f : Str) (te : TE) : TE := fun σ H Q => te σ H fun x H1 => x = .ref p.1 ∧ ∃ (fs : List (Str × V)) (v : V), H1 dd = some (.xd fs) ∧ fs.lookup f = some v ∧ Q v H1
theorem pe_heldf {e : Expr} {te : TE} {pos : Pos} {n : Str} (h : Held p C dd) (hp : p ∈ X.pn) (T : XfC X.K C) (hno : PySem.W.findIn X.K (.ref C) n = some none) (he : PE X e te) (hb : attributeBase e n X.env (eval e X.env) = eval e X.env := by rfl) :
    PE X (.Attribute e n pos) (tHeldF p dd n te) := by
  refine ⟨fun pins s σ H Q I q => ?_⟩
  refine attr_of hb (thn (he.run pins s σ H _ I q) fun u s1 got => ?_)
  obtain ⟨x, H1, I1, rx, rfl, fs, v, hd, l, q1⟩ := got
  obtain rfl : u = Value.ref p.1 := rx
  obtain ⟨od, mA, J, hl, rel⟩ := h.inst hp I1 hd
  obtain ⟨y, hy, ry⟩ := RelO.some_of (v := v) (o := mA n) (by rw [← l]; exact rel n)
  exact HandSPX.exc_get I1.kIn J T.ga T.gg T.exC (PySem.W.findObj_own T.hdC hno rfl (by rw [hl, hy])) (handed_of ry) ⟨v, H1, I1.tok _, ry, q1⟩
/-- isinstance(e, (c, ..)) and isinstance(e, c), e the held error -/
def rHeldT (K : PySem.W.Frag) (p : Addr × Obj) (C dd : Addr) : List V → Hp → VK → Prop := fun xs H Q => ∃ (tp : Addr) (cs : List V) (us : List Value) (b : Bool) (fs : List (Str × V)), xs = [.ref p.1, .ref tp] ∧ H tp = some (.tup cs) ∧ Paired ClsV cs us ∧ PySem.W.kitAny K (.ref C) us = some b ∧ H dd = some (.xd fs) ∧ Q (.bl b) H
theorem call_heldT (h : Held p C dd) (hp : p ∈ X.pn) (T : ExcC X.K C) : CallR X (.builtin "isinstance") (rHeldT X.K p C dd) := by
  intro pins s σ H xs us Q I r q
  obtain ⟨tp, cs, ws, b, fs, rfl, hT, pr, ka, hd, q1⟩ := q
  obtain ⟨u1, u2, rfl, r1, r2⟩ := vals2 r
  cases (show u1 = Value.ref p.1 from r1)
  cases (show u2 = Value.ref tp from r2)
  obtain ⟨od, mA, J, _, _⟩ := h.inst hp I hd
  obtain ⟨_, its, rv, o, h1, h2, n, h3⟩ := (show ObjOk X.prog X.w H s.heap tp (.tup cs) from I.hok tp _ hT)
  have e3 := ClsV.all pr rv
  subst e3
  obtain ⟨oc, od', dt, sl⟩ := o
  simp only at h2 h3
  subst h2 h3
  exact PySem.W.kia_tup (own_kit (oz := p.2) (oo := some od) T) I.kIn J h1 ka (fun e => nomatch e) fun tk => ⟨.bl b, H, I.tok tk, rfl, q1⟩
def rHeld1 (K : PySem.W.Frag) (p : Addr × Obj) (C dd : Addr) : List V → Hp → VK → Prop := fun xs H Q => ∃ (D : Addr) (b : Bool) (fs : List (Str × V)), xs = [.ref p.1, .ref D] ∧ PySem.W.kitOne K (.ref C) (.ref D) = some b ∧ H dd = some (.xd fs) ∧ Q (.bl b) H
theorem call_held1 (h : Held p C dd) (hp : p ∈ X.pn) (T : ExcC X.K C) : CallR X (.builtin "isinstance") (rHeld1 X.K p C dd) := by
  intro pins s σ H xs us Q I r q
  obtain ⟨D, b, fs, rfl, ka, hd, q1⟩ := q
  obtain ⟨u1, u2, rfl, r1, r2⟩ := vals2 r
  cases (show u1 = Value.ref p.1 from r1)
  cases (show u2 = Value.ref D from r2)
  obtain ⟨od, mA, J, _, _⟩ := h.inst hp I hd
  exact PySem.W.kia_one (own_kit (oz := p.2) (oo := some od) T) I.kIn J ka (fun e => nomatch e) fun tk => ⟨.bl b, H, I.tok tk, rfl, q1⟩
end
/-! ### a def called on a held error -/
structure FnP (P : Program) (w : World) (K : PySem.W.Frag) (mg : Str → Option Value) (base : Heap) (p : Addr × Obj) (k : Nat) (f : Addr) (fd : FuncData) (ps : List Str) (sp : Sp) : Prop where
  len : ∀ vs H Q E, sp vs H Q E → vs.length = ps.length
  go : ∀ (A : Around) (outer : List Env) (s : Shared) (H : Hp) (args : Args) (us : List Value) (vs : List V) (Q : VK) (E : XK), L2H.RoomH k A → L2H.PinOk outer H s p → Env0 P w K mg base A outer s H → BindsTo s fd args (ps.zip us) → Vals vs us → sp vs H Q E →
    codeAny (model P w) A (.call (.ref f) args) (CR CX0 outer P w H s Q E) s
section
open PySem.Spec PyProof.Rows
variable {P : Program} {w : World} {K : PySem.W.Frag} {mg : Str → Option Value} {base : Heap}
theorem Fun.okP {x qual : Str} {st : Stmt} {f : Addr} {fd : FuncData} {N ps : List Str} {k : Nat} {sp : Sp} {p : Addr × Obj} (F : Fun K x qual st f fd) (S : FnScope N ps (defScope st)) (len : ∀ vs H Q E, sp vs H Q E → vs.length = ps.length)
    (hbody : ∀ (cdv : Value) (A : Around) (outer : List Env) (s : Shared) (H : Hp) (vs : List V) (Q : VK) (E : XK), L2H.RoomH k (A.deeper (envOfC qual (defScope st) s.heap.objs.size f cdv)) → sp vs H Q E →
      ∃ t, PSs (L2H.cxH CX0 P w K mg base N qual (defScope st) f cdv A outer s H E p) (defBody st) t ∧ t { nx := fun _ H' => Q .non H', rt := Q } (L2.start N vs) H) : FnP P w K mg base p (k + 1) f fd ps sp := by
  obtain ⟨oc, od, kV, doc, pm, an, cdv, ct, osl, rfl, lk, hcd⟩ := F.ex
  refine ⟨len, fun A outer s H args us vs Q E hr hpin e0 hb r hsp => ?_⟩
  have hlen := len _ _ _ _ hsp
  have keepB : ∀ b o, base.get? b = some o → s.heap.get? b = some o := fun b o e => (e0.bs b o e).1
  have KI : K.In s.heap := e0.mod.kin.keeps keepB
  have noLim : s.heap.NoLimit := e0.mod.nolimit.keeps keepB
  have kinds : ∀ y ∈ ps.zip us, (defScope st).names.lookup y.1 = some .local ∨ ((defScope st).names.lookup y.1 = some .cell ∧ ((cellsFrom (s.heap.objs.size + 1) (defScope st).names []).lookup y.1).isSome = true) := fun y hy =>
    (S.par y.1 (List.of_mem_zip (show (y.1, y.2) ∈ _ from hy)).1).imp id fun q => ⟨q, PySem.W.cellsFrom_some _ _ _ (.inl q)⟩
  refine codeAny_call_function hr.depth (KI _ _ lk) rfl S.co S.gen rfl (PySem.W.codeRec_of KI hcd) (hb _ _ _ _ (wpAny_newFunctionEnv_cells S.kind kinds fun env he s1 x1 => ?_))
  subst he
  refine ⟨noLim.keeps x1.toInCall.keep, codeAny_func ?_⟩
  obtain ⟨t, ht, hq⟩ := hbody cdv A outer s H vs Q E (hr.deeper _) hsp
  have I := L2H.inv_startH (CX := CX0) (P := P) (w := w) (K := K) (mg := mg) (base := base) (N := N) (qual := qual) (f := f) (cd := cdv) (E := E) S hpin e0 hlen r x1
  refine wpAny_mono (ht.run [] s1 _ H _ I hq) (fun fl s2 done => ?_) fun _ _ bad => bad
  cases fl with
  | ret u =>
    obtain ⟨v, τ, G, J, rv, q⟩ := done
    exact ⟨v, G, J.os, J.bare, J.base, J.hok, rv, q⟩
  | next =>
    obtain ⟨τ, G, J, q⟩ := done
    exact ⟨.non, G, J.os, J.bare, J.base, J.hok, rfl, q⟩
  | brk =>
    obtain ⟨_, _, _, q⟩ := done
    exact q.elim
  | cont =>
    obtain ⟨_, _, _, q⟩ := done
    exact q.elim
theorem pe_callP {X : Cx} {k : Nat} {f : Addr} {fd : FuncData} {ps : List Str} {sp : Sp} {p : Addr × Obj} {x : Str} {q pos : Pos} {e : Expr} {es : List Expr} {t : TA} (F : FnP X.prog X.w X.K X.mg X.base p k f fd ps sp) (hr : L2H.RoomH k X.A) (hp : p ∈ X.pn)
    (hg : Gl X x) (hm : X.mg x = some (.ref f)) (hk : PySem.W.keepIn X.K (.ref f) = true) (hb : Binds X.K fd ps []) (ha : PA X (e :: es) t)
    (hdb : (x == ("__debug__" : Str)) = false := by decide) (he : starEach (e :: es) X.env = (false, eval e X.env) :: starEach es X.env := by rfl) (hpl : (backTo pos (starEach es X.env)).any (·.1) = false := by rfl) :
    PE X (.Call (.Name x q) (e :: es) [] pos) (tCall sp [] E0 t) := by
  refine ⟨fun pins s σ H Q I h => ?_⟩
  refine wpAny_Call_Name_kw (ld_glob I hg hm ?_ hdb)
  refine PySem.W.callWith_K (h₀ := X.base) I.ok.mod.kin hk (thn (ha.run pos pins s σ H _ I h) fun us s1 got => ?_) he hpl
  obtain ⟨vs, H1, I1, r, want⟩ := got
  rw [List.append_nil] at want
  refine ⟨I1.kIn, ?_⟩
  have hl : us.length = ps.length := (r.length).symm.trans (F.len _ _ _ _ want)
  have bs := hb s1 us I1.kIn (by rw [List.append_nil]; exact hl)
  rw [List.append_nil] at bs
  obtain ⟨p1, p2, p3, p4, p5⟩ := I1.pin p (List.mem_append_left _ hp)
  refine wpAny_call (codeAny_mono (F.go X.A X.stack s1 H1 ⟨us, []⟩ us vs Q E0 hr ⟨p1, p2, fun mem => (List.mem_cons.mp (I1.stkSub p.1 mem)).elim p3 p4, p5⟩ I1.env0 bs r want) fun res s2 hq => ?_)
  cases res with
  | error er => exact (show False from hq).elim
  | ok fl =>
    cases fl with
    | ret u => exact I1.after hq
    | next => exact hq.elim
    | brk => exact hq.elim
    | cont => exact hq.elim
end

/-! ### _law_why of what refuses with one of the own errors (behind 70s_err) -/
def spFieldsG (p : Addr × Obj) (dd : Addr) (FS : Fds → Prop) (Fld : Fds → V → Hp → Prop) : Sp := fun vs H Q _ => ∃ fs : Fds, vs = [.ref p.1] ∧ H dd = some (.xd fs) ∧ FS fs ∧ ∀ H' v, Same H H' → Fld fs v H' → Q v H'
abbrev N_why : List Str := ["_law_ask", "_law_found", "_law_e"]
abbrev P_why : List Str := ["_law_ask"]
theorem sc_why : FnScope N_why P_why (defScope s_why) := ⟨rfl, rfl, rfl, by decide +kernel, rfl, by decide +kernel, by decide +kernel⟩
abbrev N_fields : List Str := ["_law_e"]
abbrev P_fields : List Str := ["_law_e"]
theorem sc_fields : FnScope N_fields P_fields (defScope s_fields) := ⟨rfl, rfl, rfl, by decide +kernel, rfl, by decide +kernel, by decide +kernel⟩
section
open PySem.Spec PyProof.Rows
theorem three {σ : L2.St} (h : σ.length = 3) : ∃ a b c, σ = [a, b, c] := by
  match σ, h with
  | [a, b, c], _ => exact ⟨a, b, c, rfl⟩
end
/-! ### an error that is none of these -/
section
variable {K : PySem.W.Frag}
theorem kit_no {C D : Addr} (h0 : PySem.W.subIn K (.ref C) (.ref C) = some true) (h1 : PySem.W.subIn K (.ref C) (.ref D) = some false) (h2 : PySem.W.isClsIn K D = true) (h3 : PySem.W.typeIn K (.ref D) = some (.type "type")) : PySem.W.kitOne K (.ref C) (.ref D) = some false := by
  have ne : (Value.ref C == Value.ref D) = false := by
    refine Bool.eq_false_iff.mpr fun same => ?_
    have e : C = D := Value.ref.inj (beq_iff_eq.mp same)
    subst e
    rw [h0] at h1
    cases h1
  have e2 : ((PySem.W.clsIn K D).isSome && PySem.W.typeIn K (.ref D) == some (.type "type")) = true := by
    have q : (PySem.W.clsIn K D).isSome = true := h2
    rw [q, h3] <;> rfl
  unfold PySem.W.kitOne
  rw [ne, if_neg Bool.false_ne_true]
  show (if ((PySem.W.clsIn K D).isSome && PySem.W.typeIn K (.ref D) == some (.type "type")) = true then PySem.W.subIn K (.ref C) (.ref D) else none) = some false
  rw [if_pos e2, h1]
theorem any_no {C : Addr} : ∀ {ds : List Addr}, (∀ D ∈ ds, PySem.W.kitOne K (.ref C) (.ref D) = some false) → PySem.W.kitAny K (.ref C) (ds.map Value.ref) = some false
  | [], _ => rfl
  | D :: r, h => by
    show (match PySem.W.kitOne K (.ref C) (.ref D) with | some true => some true | some false => PySem.W.kitAny K (.ref C) (r.map Value.ref) | none => none) = some false
    rw [h D List.mem_cons_self]
    exact any_no fun E hE => h E (List.mem_cons_of_mem _ hE)
end
/-- the errors that _law_fields looks for ahead of BadStretch -/
structure OthT (K : PySem.W.Frag) (mg : Str → Option Value) (C c0 c1 c2 c3 c4 c5 c6 c7 c8 : Addr) : Prop where
  g0 : mg "BadNumber" = some (.ref c0)
  g1 : mg "NoMating" = some (.ref c1)
  g2 : mg "NoFamily" = some (.ref c2)
  g3 : mg "TooMuch" = some (.ref c3)
  g4 : mg "BadName" = some (.ref c4)
  g5 : mg "Taken" = some (.ref c5)
  g6 : mg "NoRoad" = some (.ref c6)
  g7 : mg "BadMating" = some (.ref c7)
  g8 : mg "BadPlace" = some (.ref c8)
  no : ∀ D ∈ [c0, c1, c2, c3, c4, c5, c6, c7, c8], PySem.W.kitOne K (.ref C) (.ref D) = some false

/-! ### _law_why of what refuses with one of several own errors, of FarError's kin or of Missing's (behind 63b_trytwo, 70w_why) -/
def EWhyM (I : Addr → Fds → Str → (V → Hp → Prop) → Prop) (Q : VK) : XK := fun cls d H' => ∃ (C dd : Addr) (fs : Fds) (word : Str) (Fld : V → Hp → Prop), cls = .ref C ∧ d = some dd ∧ H' dd = some (.xd fs) ∧ I C fs word Fld ∧
  ∀ (H'' : Hp) (t1 : Addr) (v : V), Same H' H'' → Fld v H'' → H'' t1 = some (.tup [.str word, v]) → Q (.ref t1) H''
def TWhyM (I : Addr → Fds → Str → (V → Hp → Prop) → Prop) : (XK → Hp → VK → Prop) → Hp → VK → Prop := fun tl H Q => ∀ t0, H t0 = none → ∀ R : VK, (∀ v H1, Q (.ref t0) H1 → R v H1) → tl (EWhyM I Q) (upd H t0 (.tup [.str "", .non])) R
/-- an error that the first or the second clause takes -/
structure WhyI (P : Program) (w : World) (K : PySem.W.Frag) (mg : Str → Option Value) (base : Heap) (CF CM fF : Addr) (fdF : FuncData) (C : Addr) (fs : Fds) (word : Str) (Fld : V → Hp → Prop) : Prop where
  m : ∃ b, PySem.W.exmOne K (.ref C) (.ref CF) = some b ∧ (b = false → PySem.W.exmOne K (.ref C) (.ref CM) = some true)
  x : XfC K C
  wd : PySem.W.findIn K (.ref C) "word" = some none
  hw : fs.lookup ("word" : Str) = some (.str word)
  st : ∀ v H H', Same H H' → Fld v H → Fld v H'
  G : ∀ (p : Addr × Obj) (dd : Addr), Held p C dd → FnP P w K mg base p 1 fF fdF P_fields (spFieldsG p dd (fun f => f = fs) (fun _ v H => Fld v H))
section
open PySem.Spec PyProof.Rows
theorem FnP.imp {P : Program} {w : World} {K : PySem.W.Frag} {mg : Str → Option Value} {base : Heap} {p : Addr × Obj} {k : Nat} {f : Addr} {fd : FuncData} {ps : List Str} {sp sp' : Sp} (F : FnP P w K mg base p k f fd ps sp) (h : ∀ vs H Q E, sp' vs H Q E → sp vs H Q E) : FnP P w K mg base p k f fd ps sp' :=
  ⟨fun vs H Q E z => F.len vs H Q E (h _ _ _ _ z), fun A outer s H args us vs Q E hr pk he hb hv z => F.go A outer s H args us vs Q E hr pk he hb hv (h _ _ _ _ z)⟩
theorem why_givesM {X : Cx} {g CF CM fF : Addr} {fdF : FuncData} {cdg : Value} {q : Str} {k : Nat} {I : Addr → Fds → Str → (V → Hp → Prop) → Prop} (hr : Room (k + 3) X.A) (gF : X.mg "FarError" = some (.ref CF)) (gM : X.mg "Missing" = some (.ref CM))
    (D_fields : DefAt X.K X.mg "_law_fields" s_fields P_fields fF fdF) (hI : ∀ C fs word Fld, I C fs word Fld → WhyI X.prog X.w X.K X.mg X.base CF CM fF fdF C fs word Fld) :
    LamX.GivesTo X N_why "_law_why" (defScope s_why) g cdg (defBody s_why) "_law_ask" q (TWhyM I) := by
  intro f c' s H Q tl act hc h
  have hr1 : Room (k + 2) (X.A.deeper (envOfC "_law_why" (defScope s_why) s.heap.objs.size g cdg)) := hr.deeper _
  refine ⟨_, pss_cons (ps_set (i := 1) sc_why.nd rfl (.inl rfl) (pe_tup (pa_cons pe_str (pa_cons pe_non pa_nil))))
    (pss_cons (ps_try_two (i := 2) (c := .ref CF) (d := .ref CM)
      (tb := fun W D σ H => ∃ Ech : XK, (∀ cls d σ' H', Ech cls d H' → σ'.length = 3 → W cls d σ' H') ∧ σ[0]? = some (some (.ref f)) ∧ H c' = some (LamX.CodeO c' q) ∧ tl Ech H fun _ H1 => D.nx σ H1)
      (ts := fun z k d D σ H => ∃ (C d0 : Addr) (fs : Fds) (word : Str) (Fld : V → Hp → Prop), k = .ref C ∧ d = some d0 ∧ H d0 = some (.xd fs) ∧ I C fs word Fld ∧ σ[2]? = some (some (.ref z)) ∧ ∀ (H' : Hp) (t1 : Addr) (v : V), Same H H' → Fld v H' → H' t1 = some (.tup [.str word, v]) → D.nx (σ.set 1 (some (.ref t1))) H')
      (us := fun z k d D σ H => ∃ (C d0 : Addr) (fs : Fds) (word : Str) (Fld : V → Hp → Prop), k = .ref C ∧ d = some d0 ∧ H d0 = some (.xd fs) ∧ I C fs word Fld ∧ σ[2]? = some (some (.ref z)) ∧ ∀ (H' : Hp) (t1 : Addr) (v : V), Same H H' → Fld v H' → H' t1 = some (.tup [.str word, v]) → D.nx (σ.set 1 (some (.ref t1))) H')
      rfl rfl sc_why.nd rfl rfl ⟨by rfl, by decide, .inl gF⟩ ⟨by rfl, by decide, .inl gM⟩ (fun W pn xe tk _ => ?_) (fun z oz k d pn hz hf => ?_) (fun z oz k d pn hz hf => ?_)) (pss_one (ps_ret (pv 1)))), ?_⟩
  · refine pss_of fun D σ H' h' => ?_
    obtain ⟨Ech, hW, h1, h2, h3⟩ := h'
    exact ⟨_, pss_one (ps_expr (act (fun cls d σ H => σ.length = 3 → W cls d σ H) pn xe Ech _ _ (takes_len tk) (fun cls d σ' H' e l => hW cls d σ' H' e l))), h1, h2, h3⟩
  · refine pss_of fun D σ H' h' => ?_
    obtain ⟨C, d0, fs, word, Fld, rfl, rfl, hd, hi, h2, go⟩ := h'
    have hH : Held (z, oz) C d0 := ⟨hz, hf⟩
    have T := hI _ _ _ _ hi
    have G_fields := T.G (z, oz) d0 hH
    have hrm : L2H.RoomH 1 (X.A.deeper (envOfC "_law_why" (defScope s_why) s.heap.objs.size g cdg)) := (L2H.roomH_of hr1).mono (by omega)
    refine ⟨_, pss_one (ps_set (i := 1) sc_why.nd rfl (.inl rfl) (pe_tup (pa_cons (pe_heldf hH List.mem_cons_self T.x T.wd (pv 2)) (pa_cons (pe_callP G_fields ⟨hrm.dp, hrm.un⟩ List.mem_cons_self (by rfl) D_fields.g D_fields.F.kp D_fields.b (pa_cons (pv 2) pa_nil)) pa_nil)))), ?_⟩
    refine ⟨.ref z, h2, rfl, fs, _, hd, T.hw, .ref z, h2, fs, rfl, hd, rfl, fun H2 v s2 e2 => ?_⟩
    exact ⟨by show 2 ≤ sizeLine; decide, fun t1 n1 => go _ t1 v (s2.trans (same_upd n1)) (T.st _ _ _ (same_upd n1) e2) upd_same⟩
  · refine pss_of fun D σ H' h' => ?_
    obtain ⟨C, d0, fs, word, Fld, rfl, rfl, hd, hi, h2, go⟩ := h'
    have hH : Held (z, oz) C d0 := ⟨hz, hf⟩
    have T := hI _ _ _ _ hi
    have G_fields := T.G (z, oz) d0 hH
    have hrm : L2H.RoomH 1 (X.A.deeper (envOfC "_law_why" (defScope s_why) s.heap.objs.size g cdg)) := (L2H.roomH_of hr1).mono (by omega)
    refine ⟨_, pss_one (ps_set (i := 1) sc_why.nd rfl (.inl rfl) (pe_tup (pa_cons (pe_heldf hH List.mem_cons_self T.x T.wd (pv 2)) (pa_cons (pe_callP G_fields ⟨hrm.dp, hrm.un⟩ List.mem_cons_self (by rfl) D_fields.g D_fields.F.kp D_fields.b (pa_cons (pv 2) pa_nil)) pa_nil)))), ?_⟩
    refine ⟨.ref z, h2, rfl, fs, _, hd, T.hw, .ref z, h2, fs, rfl, hd, rfl, fun H2 v s2 e2 => ?_⟩
    exact ⟨by show 2 ≤ sizeLine; decide, fun t1 n1 => go _ t1 v (s2.trans (same_upd n1)) (T.st _ _ _ (same_upd n1) e2) upd_same⟩
  · refine ⟨by show 2 ≤ sizeLine; decide, fun t0 n0 => ?_⟩
    refine ⟨EWhyM I Q, fun cls d σ' H' hE hl => ?_, rfl, same_upd n0 _ _ hc, ?_⟩
    · obtain ⟨C, dd, fs, word, Fld, rfl, rfl, hd, hi, go⟩ := hE
      obtain ⟨x0, x1, x2, rfl⟩ := three hl
      obtain ⟨b, hb, hb'⟩ := (hI _ _ _ _ hi).m
      exact ⟨b, hb, fun _ z hz => ⟨C, dd, fs, word, Fld, rfl, rfl, hd, hi, rfl, fun H2 t1 v s2 e2 e3 => ⟨.ref t1, rfl, go H2 t1 v s2 e2 e3⟩⟩, fun eb => ⟨hb' eb, fun z hz => ⟨C, dd, fs, word, Fld, rfl, rfl, hd, hi, rfl, fun H2 t1 v s2 e2 e3 => ⟨.ref t1, rfl, go H2 t1 v s2 e2 e3⟩⟩⟩⟩
    · exact h t0 n0 _ fun v H1 hq => ⟨.ref t0, rfl, hq⟩
end

/-! ### Missing, NoMating -/
abbrev N_misinit : List Str := ["self", "why"]
theorem sc_misinit : FnScope N_misinit N_misinit (defScope s_misinit) := ⟨rfl, rfl, rfl, by decide +kernel, rfl, by decide +kernel, by decide +kernel⟩
def spMisInit (K : PySem.W.Frag) : Sp := fun vs H Q _ => ∃ (a C : Addr) (y : Str), vs = [.ref a, .str y] ∧ LexC K C ∧ PySem.W.findIn K (.ref C) "word" = some none ∧ H a = some (exo a C none) ∧
  ∀ dx, H dx = none → dx ≠ a → Q .non (upd (upd H dx (exd dx [("word", .str "Missing")])) a (exo a C (some dx)))
/-- what the written part says of a class of Missing's kin -/
structure LerT (K : PySem.W.Frag) (C : Addr) : Prop where
  o : LexC K C
  w : PySem.W.findIn K (.ref C) "word" = some none
/-- and of its making and its being caught -/
structure LrT (K : PySem.W.Frag) (mg : Str → Option Value) (CF CM C fI : Addr) (fdI : FuncData) (word : Str) (N : List Str) : Prop where
  gF : mg "FarError" = some (.ref CF)
  gM : mg "Missing" = some (.ref CM)
  gC : mg word = some (.ref C)
  e : LerT K C
  x : XfC K C
  c : ExcC K C
  iC : PySem.W.findIn K (.ref C) "__init__" = some (some (.ref fI))
  tI : PySem.W.typeIn K (.ref fI) = some (.type "function")
  bI : Binds K fdI N []
  m0 : PySem.W.exmOne K (.ref C) (.ref CF) = some false
  m : PySem.W.exmOne K (.ref C) (.ref CM) = some true
abbrev N_nminit : List Str := ["self", "number"]
theorem sc_nminit : FnScope N_nminit N_nminit (defScope s_nminit) := ⟨rfl, rfl, rfl, by decide +kernel, rfl, by decide +kernel, by decide +kernel⟩
def nmF (n : V) : Fds := [("word", .str "NoMating"), ("number", n), ("word", .str "Missing")]
def spNmInit (K : PySem.W.Frag) : Sp := fun vs H Q _ => ∃ (a C : Addr) (n : V), vs = [.ref a, n] ∧ FV n ∧ LerT K C ∧ PySem.W.findIn K (.ref C) "number" = some none ∧ H a = some (exo a C none) ∧
  ∀ (H' : Hp) (dx : Addr), H dx = none → H' a = some (exo a C (some dx)) → H' dx = some (exd dx (nmF n)) → (∀ b o, b ≠ a → H b = some o → H' b = some o) → Q .non H'
section
variable {P : Program} {w : World} {K : PySem.W.Frag} {mg : Str → Option Value} {base : Heap}
theorem ok_misinit {f : Addr} {fd : FuncData} (F : FunD K "__init__" "Missing.__init__" (defArgs s_misinit) (defBody s_misinit) (defScope s_misinit) [.str ""] [] f fd) (mV : mg "LookupError" = none)
    (vV : PySem.W.findCls K (.type "LookupError") (.type "type") "__init__" = some (.val (.builtin "LookupError.__init__"))) : FnOk P w K mg base CX0 1 f fd N_misinit (spMisInit K) := by
  refine F.ok sc_misinit (fun vs H Q E h => ?_) (fun cdv A outer s H vs Q E hr h => ?_)
  · obtain ⟨a, C, y, rfl, _⟩ := h
    rfl
  · obtain ⟨a, C, y, rfl, T, hw, ha, q⟩ := h
    refine ⟨_, pss_cons (ps_expr (pe_lkinit (by rfl) mV vV (pa_cons (pv 0) (pa_cons (pv 1) pa_nil)))) (pss_one (ps_lst (pv 0) pe_str)), ?_⟩
    refine ⟨.ref a, rfl, .str y, rfl, a, C, [.str y], rfl, by show 1 ≤ 1000; decide, T, ha, ?_⟩
    exact ⟨.ref a, rfl, a, C, rfl, T, hw, .inl ⟨ha, fun dx n ne => q dx n ne⟩⟩
theorem ok_nminit {f fF CM : Addr} {fd fdF : FuncData} (F : Fun K "__init__" "NoMating.__init__" s_nminit f fd) (gM : mg "Missing" = some (.ref CM)) (TM : ClsFn K CM "__init__" fF) (bM : Binds K fdF N_misinit [])
    (GM : FnOk P w K mg base CX0 1 fF fdF N_misinit (spMisInit K)) : FnOk P w K mg base CX0 2 f fd N_nminit (spNmInit K) := by
  refine F.ok sc_nminit (fun vs H Q E h => ?_) (fun cdv A outer s H vs Q E hr h => ?_)
  · obtain ⟨a, C, n, rfl, _⟩ := h
    rfl
  · obtain ⟨a, C, n, rfl, hn, T, hno, ha, q⟩ := h
    refine ⟨_, pss_cons (ps_expr (pe_clsfn (by rfl) gM TM GM hr bM pass0 (pa_cons (pv 0) (pa_cons (pe_joined (.cons pe_str (.cons (pe_fmtV (pv 1)) .nil))) pa_nil))))
      (pss_cons (ps_lst (pv 0) (pv 1)) (pss_one (ps_lst (pv 0) pe_str))), ?_⟩
    refine ⟨.ref a, rfl, _, rfl, fits_of (n := 100) (by decide +kernel) (by decide), ?_⟩
    refine fmtV_at (i := 1) rfl hn fun y hy => ?_
    refine ⟨y, rfl, fits_of (app_fits (n := 100) (by decide +kernel) hy) (by decide), ?_⟩
    refine ⟨a, C, _, rfl, T.o, T.w, ha, fun dx ndx ne => ?_⟩
    have e1 : (upd (upd H dx (exd dx [("word", .str "Missing")])) a (exo a C (some dx))) a = some (exo a C (some dx)) := upd_same
    have e2 : (upd (upd H dx (exd dx [("word", .str "Missing")])) a (exo a C (some dx))) dx = some (exd dx [("word", .str "Missing")]) := by rw [upd_ne ne, upd_same]
    refine ⟨n, rfl, .ref a, rfl, a, C, rfl, T.o, hno, .inr ⟨dx, _, e1, e2, by show 1 ≤ 900; decide, ?_⟩⟩
    refine ⟨.ref a, rfl, a, C, rfl, T.o, T.w, .inr ⟨dx, _, by rw [upd_ne ne.symm]; exact e1, upd_same, by show 2 ≤ 900; decide, ?_⟩⟩
    refine q _ dx ndx (by rw [upd_ne ne.symm, upd_ne ne.symm]; exact e1) upd_same fun b o nb hb => ?_
    have nbd : b ≠ dx := ne_of_none hb ndx
    rw [upd_ne nbd, upd_ne nbd, upd_ne nb, upd_ne nbd]
    exact hb
end
theorem nm_raise {K : PySem.W.Frag} {CN : Addr} {i : Nat} {σ : L2.St} {n : V} {H : Hp} {E : XK} (e : LerT K CN) (n1 : PySem.W.findIn K (.ref CN) "number" = some none) (hn : FV n) (hσ : σ[i]? = some (some n))
    (q2 : ∀ (H' : Hp) (d : Addr), Same H H' → H d = none → H' d = some (.xd (nmF n)) → E (.ref CN) (some d) H') : (tMkO CN (spNmInit K) [] (tCons (tVar i) tNil)) σ H (fun cls d H' => E cls d H') := by
  refine ⟨n, hσ, by show 1 ≤ 1000; decide, fun a na => ?_⟩
  refine ⟨a, CN, n, rfl, hn, e, n1, upd_same, fun H' dx ndx ea ed kp => ⟨rfl, dx, nmF n, ea, ed, (same_upd na).free ndx, ?_⟩⟩
  refine q2 _ dx (fun b o hb' => ?_) ((same_upd na).free ndx) upd_same
  have nba : b ≠ a := ne_of_none hb' na
  have nbd : b ≠ dx := ne_of_none hb' ((same_upd na).free ndx)
  rw [upd_ne nbd, del_ne nba]
  exact kp b o nba (by rw [upd_ne nba]; exact hb')
/-! ### _law_fields of a NoMating -/
structure OthNm (K : PySem.W.Frag) (mg : Str → Option Value) (C c0 c1 c3 : Addr) : Prop where
  g0 : mg "BadNumber" = some (.ref c0)
  g1 : mg "NoFamily" = some (.ref c1)
  g3 : mg "TooMuch" = some (.ref c3)
  n0 : PySem.W.kitOne K (.ref C) (.ref c0) = some false
theorem nm_word (x : V) : (nmF x).lookup ("word" : Str) = some (.str "NoMating") := by
  unfold nmF
  rw [lookup_put, if_pos rfl]
theorem nm_number (x : V) : (nmF x).lookup ("number" : Str) = some x := by
  unfold nmF
  rw [lookup_put, if_neg (by decide +kernel), lookup_put, if_pos rfl]
section
variable {P : Program} {w : World} {K : PySem.W.Frag} {mg : Str → Option Value} {base : Heap}
theorem ok_fieldsNm {f CF CM C fI c0 c1 c3 dd : Addr} {fd fdI : FuncData} {p : Addr × Obj} {N : List Str} (x : V) (D : DefAt K mg "_law_fields" s_fields P_fields f fd) (B : Bn mg) (T : LrT K mg CF CM C fI fdI "NoMating" N) (O : OthNm K mg C c0 c1 c3)
    (n1 : PySem.W.findIn K (.ref C) "number" = some none) (hH : Held p C dd) : FnP P w K mg base p 1 f fd P_fields (spFieldsG p dd (fun f => f = nmF x) (fun _ v _ => v = x)) := by
  refine Fun.okP D.F sc_fields (fun vs H Q E h => ?_) (fun cdv A outer s H vs Q E hr h => ?_)
  · obtain ⟨fs, rfl, _⟩ := h
    rfl
  · obtain ⟨fs, rfl, hd, rfl, q⟩ := h
    refine ⟨_, pss_cons (ps_if (pt_val (pe_callB (call_heldT hH List.mem_cons_self T.c) (by rfl) B.isinstance (by decide +kernel) (pa_cons (pv 0) (pa_cons (pe_tup (pa_cons (pe_glob (v := .ref c0) (by rfl) O.g0 rfl) (pa_cons (pe_glob (v := .ref C) (by rfl) T.gC rfl) (pa_cons (pe_glob (v := .ref c1) (by rfl) O.g1 rfl) (pa_cons (pe_glob (v := .ref c3) (by rfl) O.g3 rfl) pa_nil))))) pa_nil))))
      (pss_one (ps_ret (pe_heldf hH List.mem_cons_self T.x n1 (pv 0)))) pss_nil) pss_never, ?_⟩
    refine ⟨.ref p.1, rfl, by show 4 ≤ sizeLine; decide, fun tp ntp => ?_⟩
    have s1 : Same H (upd H tp (.tup [.ref c0, .ref C, .ref c1, .ref c3])) := same_upd ntp
    have own : PySem.W.kitOne K (.ref C) (.ref C) = some true := by simp [PySem.W.kitOne]
    refine ⟨tp, _, [.ref c0, .ref C, .ref c1, .ref c3], true, nmF x, rfl, upd_same, .cons (.own _) (.cons (.own _) (.cons (.own _) (.cons (.own _) .nil))), ?_, s1 _ _ hd, _, rfl, iteT ?_⟩
    · show (match PySem.W.kitOne K (.ref C) (.ref c0) with | some true => some true | some false => (match PySem.W.kitOne K (.ref C) (.ref C) with | some true => some true | some false => PySem.W.kitAny K (.ref C) [.ref c1, .ref c3] | none => none) | none => none) = some true
      rw [O.n0, own]
    · exact ⟨.ref p.1, rfl, rfl, nmF x, x, s1 _ _ hd, nm_number x, q _ _ s1 rfl⟩
end

/-! ### BadMating, Full -/
abbrev N_bginit : List Str := ["self", "mating"]
theorem sc_bginit : FnScope N_bginit N_bginit (defScope s_bginit) := ⟨rfl, rfl, rfl, by decide +kernel, rfl, by decide +kernel, by decide +kernel⟩
def bgF (x : V) : Fds := [("word", .str "BadMating"), ("mating", x), ("word", .str "FarError")]
def spBgInit (K : PySem.W.Frag) : Sp := fun vs H Q _ => ∃ (a C t : Addr) (xs : List V), vs = [.ref a, .ref t] ∧ H t = some (.tup xs) ∧ (∀ y ∈ xs, MV y) ∧ xs.length ≤ 20 ∧ ErrT K C ∧ PySem.W.findIn K (.ref C) "mating" = some none ∧ H a = some (exo a C none) ∧
  ∀ (H' : Hp) (dx : Addr), H dx = none → H' a = some (exo a C (some dx)) → H' dx = some (exd dx (bgF (.ref t))) → (∀ b o, b ≠ a → H b = some o → H' b = some o) → Q .non H'
section
variable {P : Program} {w : World} {K : PySem.W.Frag} {mg : Str → Option Value} {base : Heap}
theorem ok_bginit {f fF CF : Addr} {fd fdF : FuncData} (F : Fun K "__init__" "BadMating.__init__" s_bginit f fd) (gF : mg "FarError" = some (.ref CF)) (TF : ClsFn K CF "__init__" fF) (bF : Binds K fdF N_farinit [])
    (GF : FnOk P w K mg base CX0 1 fF fdF N_farinit (spFarInit K)) : FnOk P w K mg base CX0 2 f fd N_bginit (spBgInit K) := by
  refine F.ok sc_bginit (fun vs H Q E h => ?_) (fun cdv A outer s H vs Q E hr h => ?_)
  · obtain ⟨a, C, t, xs, rfl, _⟩ := h
    rfl
  · obtain ⟨a, C, t, xs, rfl, ht, hx, hl, T, n1, ha, q⟩ := h
    refine ⟨_, pss_cons (ps_expr (pe_clsfn (by rfl) gF TF GF hr bF pass0 (pa_cons (pv 0) (pa_cons (pe_joined (.cons pe_str (.cons (pe_fmtM hr (pv 1)) .nil))) pa_nil))))
      (pss_cons (ps_ost (pv 0) (pv 1)) (pss_one (ps_ost (pv 0) pe_str))), ?_⟩
    refine ⟨.ref a, rfl, _, rfl, fits_of (n := 100) (by decide +kernel) (by decide), ?_⟩
    refine ⟨.ref t, rfl, t, xs, rfl, SqT.of ht, hx, hl, fun y hy => ?_⟩
    refine ⟨y, rfl, fits_of (app_fits (n := 100) (by decide +kernel) hy) (by decide), ?_⟩
    refine ⟨a, C, _, rfl, T.o, T.w, ha, fun dx ndx ne => ?_⟩
    have e1 : (upd (upd H dx (exd dx [("word", .str "FarError")])) a (exo a C (some dx))) a = some (exo a C (some dx)) := upd_same
    have e2 : (upd (upd H dx (exd dx [("word", .str "FarError")])) a (exo a C (some dx))) dx = some (exd dx [("word", .str "FarError")]) := by rw [upd_ne ne, upd_same]
    refine ⟨.ref t, rfl, .ref a, rfl, a, C, rfl, T.o, n1, .inr ⟨dx, _, e1, e2, by show 1 ≤ 900; decide, ?_⟩⟩
    refine ⟨.ref a, rfl, a, C, rfl, T.o, T.w, .inr ⟨dx, _, by rw [upd_ne ne.symm]; exact e1, upd_same, by show 2 ≤ 900; decide, ?_⟩⟩
    refine q _ dx ndx (by rw [upd_ne ne.symm, upd_ne ne.symm]; exact e1) upd_same fun b o nb hb => ?_
    have nbd : b ≠ dx := ne_of_none hb ndx
    rw [upd_ne nbd, upd_ne nbd, upd_ne nb, upd_ne nbd]
    exact hb
end
abbrev N_fuinit : List Str := ["self", "most"]
theorem sc_fuinit : FnScope N_fuinit N_fuinit (defScope s_fuinit) := ⟨rfl, rfl, rfl, by decide +kernel, rfl, by decide +kernel, by decide +kernel⟩
def fuF (n : V) : List (Str × V) := [("word", .str "Full"), ("most", n), ("word", .str "FarError")]
def spFuInit (K : PySem.W.Frag) : Sp := fun vs H Q _ => ∃ (a C : Addr) (n : V), vs = [.ref a, n] ∧ FV n ∧ ErrT K C ∧ PySem.W.findIn K (.ref C) "most" = some none ∧ H a = some (exo a C none) ∧
  ∀ (H' : Hp) (dx : Addr), H dx = none → H' a = some (exo a C (some dx)) → H' dx = some (exd dx (fuF n)) → (∀ b o, b ≠ a → H b = some o → H' b = some o) → Q .non H'
section
variable {P : Program} {w : World} {K : PySem.W.Frag} {mg : Str → Option Value} {base : Heap}
theorem ok_fuinit {f fF CF : Addr} {fd fdF : FuncData} (F : Fun K "__init__" "Full.__init__" s_fuinit f fd) (gF : mg "FarError" = some (.ref CF)) (TF : ClsFn K CF "__init__" fF) (bF : Binds K fdF N_farinit [])
    (GF : FnOk P w K mg base CX0 1 fF fdF N_farinit (spFarInit K)) : FnOk P w K mg base CX0 2 f fd N_fuinit (spFuInit K) := by
  refine F.ok sc_fuinit (fun vs H Q E h => ?_) (fun cdv A outer s H vs Q E hr h => ?_)
  · obtain ⟨a, C, n, rfl, _⟩ := h
    rfl
  · obtain ⟨a, C, n, rfl, hn, T, hno, ha, q⟩ := h
    refine ⟨_, pss_cons (ps_expr (pe_clsfn (by rfl) gF TF GF hr bF pass0 (pa_cons (pv 0) (pa_cons (pe_joined (.cons pe_str (.cons (pe_fmtV (pv 1)) .nil))) pa_nil))))
      (pss_cons (ps_ost (pv 0) (pv 1)) (pss_one (ps_ost (pv 0) pe_str))), ?_⟩
    refine ⟨.ref a, rfl, _, rfl, fits_of (n := 100) (by decide +kernel) (by decide), ?_⟩
    refine fmtV_at (i := 1) rfl hn fun y hy => ?_
    refine ⟨y, rfl, fits_of (app_fits (n := 100) (by decide +kernel) hy) (by decide), ?_⟩
    refine ⟨a, C, _, rfl, T.o, T.w, ha, fun dx ndx ne => ?_⟩
    have e1 : (upd (upd H dx (exd dx [("word", .str "FarError")])) a (exo a C (some dx))) a = some (exo a C (some dx)) := upd_same
    have e2 : (upd (upd H dx (exd dx [("word", .str "FarError")])) a (exo a C (some dx))) dx = some (exd dx [("word", .str "FarError")]) := by rw [upd_ne ne, upd_same]
    refine ⟨n, rfl, .ref a, rfl, a, C, rfl, T.o, hno, .inr ⟨dx, _, e1, e2, by show 1 ≤ 900; decide, ?_⟩⟩
    refine ⟨.ref a, rfl, a, C, rfl, T.o, T.w, .inr ⟨dx, _, by rw [upd_ne ne.symm]; exact e1, upd_same, by show 2 ≤ 900; decide, ?_⟩⟩
    refine q _ dx ndx (by rw [upd_ne ne.symm, upd_ne ne.symm]; exact e1) upd_same fun b o nb hb => ?_
    have nbd : b ≠ dx := ne_of_none hb ndx
    rw [upd_ne nbd, upd_ne nbd, upd_ne nb, upd_ne nbd]
    exact hb
end
theorem bg_raise {K : PySem.W.Frag} {C t : Addr} {i : Nat} {σ : L2.St} {xs : List V} {H : Hp} {E : XK} (e : ErrT K C) (n1 : PySem.W.findIn K (.ref C) "mating" = some none) (ht : H t = some (.tup xs)) (hx : ∀ y ∈ xs, MV y) (hl : xs.length ≤ 20) (hσ : σ[i]? = some (some (.ref t)))
    (q2 : ∀ (H' : Hp) (d : Addr), Same H H' → H d = none → H' d = some (.xd (bgF (.ref t))) → E (.ref C) (some d) H') : (tMkO C (spBgInit K) [] (tCons (tVar i) tNil)) σ H (fun cls d H' => E cls d H') := by
  refine ⟨.ref t, hσ, by show 1 ≤ 1000; decide, fun a na => ?_⟩
  refine ⟨a, C, t, xs, rfl, same_upd na _ _ ht, hx, hl, e, n1, upd_same, fun H' dx ndx ea ed kp => ⟨rfl, dx, bgF (.ref t), ea, ed, (same_upd na).free ndx, ?_⟩⟩
  refine q2 _ dx (fun b o hb' => ?_) ((same_upd na).free ndx) upd_same
  have nba : b ≠ a := ne_of_none hb' na
  have nbd : b ≠ dx := ne_of_none hb' ((same_upd na).free ndx)
  rw [upd_ne nbd, del_ne nba]
  exact kp b o nba (by rw [upd_ne nba]; exact hb')
theorem fu_raise {K : PySem.W.Frag} {C : Addr} {ta : TE} {σ : L2.St} {n : V} {H : Hp} {E : XK} (e : ErrT K C) (n1 : PySem.W.findIn K (.ref C) "most" = some none) (hn : FV n) (hσ : ∀ Q : VK, Q n H → ta σ H Q)
    (q2 : ∀ (H' : Hp) (d : Addr), Same H H' → H d = none → H' d = some (.xd (fuF n)) → E (.ref C) (some d) H') : (tMkO C (spFuInit K) [] (tCons ta tNil)) σ H (fun cls d H' => E cls d H') := by
  refine hσ _ ⟨by show 1 ≤ 1000; decide, fun a na => ?_⟩
  refine ⟨a, C, n, rfl, hn, e, n1, upd_same, fun H' dx ndx ea ed kp => ⟨rfl, dx, fuF n, ea, ed, (same_upd na).free ndx, ?_⟩⟩
  refine q2 _ dx (fun b o hb' => ?_) ((same_upd na).free ndx) upd_same
  have nba : b ≠ a := ne_of_none hb' na
  have nbd : b ≠ dx := ne_of_none hb' ((same_upd na).free ndx)
  rw [upd_ne nbd, del_ne nba]
  exact kp b o nba (by rw [upd_ne nba]; exact hb')
theorem bg_wordE (x : V) : (bgF x).lookup ("word" : Str) = some (.str "BadMating") := by
  unfold bgF
  rw [lookup_put, if_pos rfl]
theorem bg_fldE (x : V) : (bgF x).lookup ("mating" : Str) = some x := by
  unfold bgF
  rw [lookup_put, if_neg (by decide +kernel), lookup_put, if_pos rfl]
theorem fu_wordE (x : V) : (fuF x).lookup ("word" : Str) = some (.str "Full") := by
  unfold fuF
  rw [lookup_put, if_pos rfl]
theorem fu_fldE (x : V) : (fuF x).lookup ("most" : Str) = some x := by
  unfold fuF
  rw [lookup_put, if_neg (by decide +kernel), lookup_put, if_pos rfl]
/-! ### _law_fields of the three errors of a road -/
structure OthBnE (K : PySem.W.Frag) (mg : Str → Option Value) (C c0 c1 c2 : Addr) : Prop where
  g_NoMating : mg "NoMating" = some (.ref c0)
  g_NoFamily : mg "NoFamily" = some (.ref c1)
  g_TooMuch : mg "TooMuch" = some (.ref c2)
structure OthBgE (K : PySem.W.Frag) (mg : Str → Option Value) (C c0 c1 c2 c3 c4 c5 c6 : Addr) : Prop where
  g_BadNumber : mg "BadNumber" = some (.ref c0)
  g_NoMating : mg "NoMating" = some (.ref c1)
  g_NoFamily : mg "NoFamily" = some (.ref c2)
  g_TooMuch : mg "TooMuch" = some (.ref c3)
  g_BadName : mg "BadName" = some (.ref c4)
  g_Taken : mg "Taken" = some (.ref c5)
  g_NoRoad : mg "NoRoad" = some (.ref c6)
  no : ∀ D ∈ [c0, c1, c2, c3, c4, c5, c6], PySem.W.kitOne K (.ref C) (.ref D) = some false
structure OthFuE (K : PySem.W.Frag) (mg : Str → Option Value) (C c0 c1 c2 c3 c4 c5 c6 c7 c8 c9 c10 c11 c12 c13 c14 c15 c16 : Addr) : Prop where
  g_BadNumber : mg "BadNumber" = some (.ref c0)
  g_NoMating : mg "NoMating" = some (.ref c1)
  g_NoFamily : mg "NoFamily" = some (.ref c2)
  g_TooMuch : mg "TooMuch" = some (.ref c3)
  g_BadName : mg "BadName" = some (.ref c4)
  g_Taken : mg "Taken" = some (.ref c5)
  g_NoRoad : mg "NoRoad" = some (.ref c6)
  g_BadMating : mg "BadMating" = some (.ref c7)
  g_BadPlace : mg "BadPlace" = some (.ref c8)
  g_BadStretch : mg "BadStretch" = some (.ref c9)
  g_BadMove : mg "BadMove" = some (.ref c10)
  g_BadMoves : mg "BadMoves" = some (.ref c11)
  g_BadText : mg "BadText" = some (.ref c12)
  g_BadBoard : mg "BadBoard" = some (.ref c13)
  g_BadCounts : mg "BadCounts" = some (.ref c14)
  g_BadSide : mg "BadSide" = some (.ref c15)
  g_NoSide : mg "NoSide" = some (.ref c16)
  no : ∀ D ∈ [c0, c1, c2, c3, c4, c5, c6, c7, c8, c9, c10, c11, c12, c13, c14, c15, c16], PySem.W.kitOne K (.ref C) (.ref D) = some false
section
variable {P : Program} {w : World} {K : PySem.W.Frag} {mg : Str → Option Value} {base : Heap}
theorem ok_fieldsBgE {f CF C fI c0 c1 c2 c3 c4 c5 c6 dd : Addr} {fd fdI : FuncData} {p : Addr × Obj} {N : List Str} (x : V) (D : DefAt K mg "_law_fields" s_fields P_fields f fd) (B : Bn mg) (T : ErT K mg CF C fI fdI "BadMating" N) (O : OthBgE K mg C c0 c1 c2 c3 c4 c5 c6)
    (n1 : PySem.W.findIn K (.ref C) "mating" = some none) (hH : Held p C dd) : FnP P w K mg base p 1 f fd P_fields (spFieldsG p dd (fun f => f = bgF x) (fun _ v _ => v = x)) := by
  refine Fun.okP D.F sc_fields (fun vs H Q E h => ?_) (fun cdv A outer s H vs Q E hr h => ?_)
  · obtain ⟨fs, rfl, _⟩ := h
    rfl
  · obtain ⟨fs, rfl, hd, rfl, q⟩ := h
    refine ⟨_, (pss_cons (ps_if (pt_val (pe_callB (call_heldT hH List.mem_cons_self T.c) (by rfl) B.isinstance (by decide +kernel) (pa_cons (pv 0) (pa_cons (pe_tup (pa_cons (pe_glob (v := .ref c0) (by rfl) O.g_BadNumber rfl) (pa_cons (pe_glob (v := .ref c1) (by rfl) O.g_NoMating rfl) (pa_cons (pe_glob (v := .ref c2) (by rfl) O.g_NoFamily rfl) (pa_cons (pe_glob (v := .ref c3) (by rfl) O.g_TooMuch rfl) pa_nil))))) pa_nil)))) (pss_one ps_never) pss_nil)
      (pss_cons (ps_if (pt_val (pe_callB (call_heldT hH List.mem_cons_self T.c) (by rfl) B.isinstance (by decide +kernel) (pa_cons (pv 0) (pa_cons (pe_tup (pa_cons (pe_glob (v := .ref c4) (by rfl) O.g_BadName rfl) (pa_cons (pe_glob (v := .ref c5) (by rfl) O.g_Taken rfl) (pa_cons (pe_glob (v := .ref c6) (by rfl) O.g_NoRoad rfl) pa_nil)))) pa_nil)))) (pss_one ps_never) pss_nil)
      (pss_cons (ps_if (pt_val (pe_callB (call_held1 hH List.mem_cons_self T.c) (by rfl) B.isinstance (by decide +kernel) (pa_cons (pv 0) (pa_cons (pe_glob (v := .ref C) (by rfl) T.gC rfl) pa_nil)))) (pss_one (ps_ret (pe_heldf hH List.mem_cons_self T.x n1 (pv 0)))) pss_nil) pss_never))), ?_⟩
    have s0 : Same H H := fun b o hb => hb
    refine ⟨.ref p.1, rfl, by show 4 ≤ sizeLine; decide, fun tp0 ntp0 => ?_⟩
    have s1 := s0.trans (same_upd (o := .tup [.ref c0, .ref c1, .ref c2, .ref c3]) ntp0)
    refine ⟨tp0, _, [.ref c0, .ref c1, .ref c2, .ref c3], false, bgF x, rfl, upd_same, (.cons (.own _) (.cons (.own _) (.cons (.own _) (.cons (.own _) .nil)))), any_no (ds := [c0, c1, c2, c3]) fun D hD => O.no D (by revert hD; simp only [List.mem_cons, List.not_mem_nil, or_false]; intro hD; rcases hD with h | h | h | h <;> simp [h]), s1 _ _ hd, _, rfl, iteF ?_⟩
    refine ⟨.ref p.1, rfl, by show 3 ≤ sizeLine; decide, fun tp1 ntp1 => ?_⟩
    have s2 := s1.trans (same_upd (o := .tup [.ref c4, .ref c5, .ref c6]) ntp1)
    refine ⟨tp1, _, [.ref c4, .ref c5, .ref c6], false, bgF x, rfl, upd_same, (.cons (.own _) (.cons (.own _) (.cons (.own _) .nil))), any_no (ds := [c4, c5, c6]) fun D hD => O.no D (by revert hD; simp only [List.mem_cons, List.not_mem_nil, or_false]; intro hD; rcases hD with h | h | h <;> simp [h]), s2 _ _ hd, _, rfl, iteF ?_⟩
    refine ⟨.ref p.1, rfl, C, true, bgF x, rfl, by simp [PySem.W.kitOne], s2 _ _ hd, _, rfl, iteT ?_⟩
    exact ⟨.ref p.1, rfl, rfl, bgF x, x, s2 _ _ hd, bg_fldE x, q _ _ s2 rfl⟩
theorem ok_fieldsFuE {f CF C fI c0 c1 c2 c3 c4 c5 c6 c7 c8 c9 c10 c11 c12 c13 c14 c15 c16 dd : Addr} {fd fdI : FuncData} {p : Addr × Obj} {N : List Str} (x : V) (D : DefAt K mg "_law_fields" s_fields P_fields f fd) (B : Bn mg) (T : ErT K mg CF C fI fdI "Full" N) (O : OthFuE K mg C c0 c1 c2 c3 c4 c5 c6 c7 c8 c9 c10 c11 c12 c13 c14 c15 c16)
    (n1 : PySem.W.findIn K (.ref C) "most" = some none) (hH : Held p C dd) : FnP P w K mg base p 1 f fd P_fields (spFieldsG p dd (fun f => f = fuF x) (fun _ v _ => v = x)) := by
  refine Fun.okP D.F sc_fields (fun vs H Q E h => ?_) (fun cdv A outer s H vs Q E hr h => ?_)
  · obtain ⟨fs, rfl, _⟩ := h
    rfl
  · obtain ⟨fs, rfl, hd, rfl, q⟩ := h
    refine ⟨_, (pss_cons (ps_if (pt_val (pe_callB (call_heldT hH List.mem_cons_self T.c) (by rfl) B.isinstance (by decide +kernel) (pa_cons (pv 0) (pa_cons (pe_tup (pa_cons (pe_glob (v := .ref c0) (by rfl) O.g_BadNumber rfl) (pa_cons (pe_glob (v := .ref c1) (by rfl) O.g_NoMating rfl) (pa_cons (pe_glob (v := .ref c2) (by rfl) O.g_NoFamily rfl) (pa_cons (pe_glob (v := .ref c3) (by rfl) O.g_TooMuch rfl) pa_nil))))) pa_nil)))) (pss_one ps_never) pss_nil)
      (pss_cons (ps_if (pt_val (pe_callB (call_heldT hH List.mem_cons_self T.c) (by rfl) B.isinstance (by decide +kernel) (pa_cons (pv 0) (pa_cons (pe_tup (pa_cons (pe_glob (v := .ref c4) (by rfl) O.g_BadName rfl) (pa_cons (pe_glob (v := .ref c5) (by rfl) O.g_Taken rfl) (pa_cons (pe_glob (v := .ref c6) (by rfl) O.g_NoRoad rfl) pa_nil)))) pa_nil)))) (pss_one ps_never) pss_nil)
      (pss_cons (ps_if (pt_val (pe_callB (call_held1 hH List.mem_cons_self T.c) (by rfl) B.isinstance (by decide +kernel) (pa_cons (pv 0) (pa_cons (pe_glob (v := .ref c7) (by rfl) O.g_BadMating rfl) pa_nil)))) (pss_one ps_never) pss_nil)
      (pss_cons (ps_if (pt_val (pe_callB (call_held1 hH List.mem_cons_self T.c) (by rfl) B.isinstance (by decide +kernel) (pa_cons (pv 0) (pa_cons (pe_glob (v := .ref c8) (by rfl) O.g_BadPlace rfl) pa_nil)))) (pss_one ps_never) pss_nil)
      (pss_cons (ps_if (pt_val (pe_callB (call_held1 hH List.mem_cons_self T.c) (by rfl) B.isinstance (by decide +kernel) (pa_cons (pv 0) (pa_cons (pe_glob (v := .ref c9) (by rfl) O.g_BadStretch rfl) pa_nil)))) (pss_one ps_never) pss_nil)
      (pss_cons (ps_if (pt_val (pe_callB (call_held1 hH List.mem_cons_self T.c) (by rfl) B.isinstance (by decide +kernel) (pa_cons (pv 0) (pa_cons (pe_glob (v := .ref c10) (by rfl) O.g_BadMove rfl) pa_nil)))) (pss_one ps_never) pss_nil)
      (pss_cons (ps_if (pt_val (pe_callB (call_heldT hH List.mem_cons_self T.c) (by rfl) B.isinstance (by decide +kernel) (pa_cons (pv 0) (pa_cons (pe_tup (pa_cons (pe_glob (v := .ref c11) (by rfl) O.g_BadMoves rfl) (pa_cons (pe_glob (v := .ref c12) (by rfl) O.g_BadText rfl) pa_nil))) pa_nil)))) (pss_one ps_never) pss_nil)
      (pss_cons (ps_if (pt_val (pe_callB (call_heldT hH List.mem_cons_self T.c) (by rfl) B.isinstance (by decide +kernel) (pa_cons (pv 0) (pa_cons (pe_tup (pa_cons (pe_glob (v := .ref c13) (by rfl) O.g_BadBoard rfl) (pa_cons (pe_glob (v := .ref c14) (by rfl) O.g_BadCounts rfl) pa_nil))) pa_nil)))) (pss_one ps_never) pss_nil)
      (pss_cons (ps_if (pt_val (pe_callB (call_heldT hH List.mem_cons_self T.c) (by rfl) B.isinstance (by decide +kernel) (pa_cons (pv 0) (pa_cons (pe_tup (pa_cons (pe_glob (v := .ref c15) (by rfl) O.g_BadSide rfl) (pa_cons (pe_glob (v := .ref c16) (by rfl) O.g_NoSide rfl) pa_nil))) pa_nil)))) (pss_one ps_never) pss_nil)
      (pss_one (ps_ret (pe_ifExp (pt_val (pe_callB (call_held1 hH List.mem_cons_self T.c) (by rfl) B.isinstance (by decide +kernel) (pa_cons (pv 0) (pa_cons (pe_glob (v := .ref C) (by rfl) T.gC rfl) pa_nil)))) (pe_heldf hH List.mem_cons_self T.x n1 (pv 0)) pe_non)))))))))))), ?_⟩
    have s0 : Same H H := fun b o hb => hb
    refine ⟨.ref p.1, rfl, by show 4 ≤ sizeLine; decide, fun tp0 ntp0 => ?_⟩
    have s1 := s0.trans (same_upd (o := .tup [.ref c0, .ref c1, .ref c2, .ref c3]) ntp0)
    refine ⟨tp0, _, [.ref c0, .ref c1, .ref c2, .ref c3], false, fuF x, rfl, upd_same, (.cons (.own _) (.cons (.own _) (.cons (.own _) (.cons (.own _) .nil)))), any_no (ds := [c0, c1, c2, c3]) fun D hD => O.no D (by revert hD; simp only [List.mem_cons, List.not_mem_nil, or_false]; intro hD; rcases hD with h | h | h | h <;> simp [h]), s1 _ _ hd, _, rfl, iteF ?_⟩
    refine ⟨.ref p.1, rfl, by show 3 ≤ sizeLine; decide, fun tp1 ntp1 => ?_⟩
    have s2 := s1.trans (same_upd (o := .tup [.ref c4, .ref c5, .ref c6]) ntp1)
    refine ⟨tp1, _, [.ref c4, .ref c5, .ref c6], false, fuF x, rfl, upd_same, (.cons (.own _) (.cons (.own _) (.cons (.own _) .nil))), any_no (ds := [c4, c5, c6]) fun D hD => O.no D (by revert hD; simp only [List.mem_cons, List.not_mem_nil, or_false]; intro hD; rcases hD with h | h | h <;> simp [h]), s2 _ _ hd, _, rfl, iteF ?_⟩
    refine ⟨.ref p.1, rfl, c7, false, fuF x, rfl, O.no c7 (by simp), s2 _ _ hd, _, rfl, iteF ?_⟩
    refine ⟨.ref p.1, rfl, c8, false, fuF x, rfl, O.no c8 (by simp), s2 _ _ hd, _, rfl, iteF ?_⟩
    refine ⟨.ref p.1, rfl, c9, false, fuF x, rfl, O.no c9 (by simp), s2 _ _ hd, _, rfl, iteF ?_⟩
    refine ⟨.ref p.1, rfl, c10, false, fuF x, rfl, O.no c10 (by simp), s2 _ _ hd, _, rfl, iteF ?_⟩
    refine ⟨.ref p.1, rfl, by show 2 ≤ sizeLine; decide, fun tp2 ntp2 => ?_⟩
    have s3 := s2.trans (same_upd (o := .tup [.ref c11, .ref c12]) ntp2)
    refine ⟨tp2, _, [.ref c11, .ref c12], false, fuF x, rfl, upd_same, (.cons (.own _) (.cons (.own _) .nil)), any_no (ds := [c11, c12]) fun D hD => O.no D (by revert hD; simp only [List.mem_cons, List.not_mem_nil, or_false]; intro hD; rcases hD with h | h <;> simp [h]), s3 _ _ hd, _, rfl, iteF ?_⟩
    refine ⟨.ref p.1, rfl, by show 2 ≤ sizeLine; decide, fun tp3 ntp3 => ?_⟩
    have s4 := s3.trans (same_upd (o := .tup [.ref c13, .ref c14]) ntp3)
    refine ⟨tp3, _, [.ref c13, .ref c14], false, fuF x, rfl, upd_same, (.cons (.own _) (.cons (.own _) .nil)), any_no (ds := [c13, c14]) fun D hD => O.no D (by revert hD; simp only [List.mem_cons, List.not_mem_nil, or_false]; intro hD; rcases hD with h | h <;> simp [h]), s4 _ _ hd, _, rfl, iteF ?_⟩
    refine ⟨.ref p.1, rfl, by show 2 ≤ sizeLine; decide, fun tp4 ntp4 => ?_⟩
    have s5 := s4.trans (same_upd (o := .tup [.ref c15, .ref c16]) ntp4)
    refine ⟨tp4, _, [.ref c15, .ref c16], false, fuF x, rfl, upd_same, (.cons (.own _) (.cons (.own _) .nil)), any_no (ds := [c15, c16]) fun D hD => O.no D (by revert hD; simp only [List.mem_cons, List.not_mem_nil, or_false]; intro hD; rcases hD with h | h <;> simp [h]), s5 _ _ hd, _, rfl, iteF ?_⟩
    refine ⟨.ref p.1, rfl, C, true, fuF x, rfl, by simp [PySem.W.kitOne], s5 _ _ hd, _, rfl, iteT ?_⟩
    exact ⟨.ref p.1, rfl, rfl, fuF x, x, s5 _ _ hd, fu_fldE x, q _ _ s5 rfl⟩
end

/-! ### a road that is none: need_road refuses (behind 82x_need, 76_roaderrs) -/
def goodLen (n : V) : Prop := ∃ i : Int, n = .int i ∧ 0 ≤ i ∧ i ≤ 1000000000000000000
/-- four values, told as a mating -/
abbrev Q4 := V × V × V × V
def q4 (x : Q4) : List V := [x.1, x.2.1, x.2.2.1, x.2.2.2]
def IBq (x : Q4) : Prop := IB x.1 ∧ IB x.2.1 ∧ IB x.2.2.1 ∧ IB x.2.2.2
abbrev isM (n : Int) (x : Q4) : Bool := isMat n x.1 x.2.1 x.2.2.1 x.2.2.2
def Mqs (H : Hp) (ts : List Addr) (qs : List Q4) : Prop := Paired (fun t x => H t = some (.tup (q4 x))) ts qs
theorem Mqs.keep {H H' : Hp} (k : KeepT H H') : ∀ {ts : List Addr} {qs : List Q4}, Mqs H ts qs → Mqs H' ts qs
  | _, _, .nil => .nil
  | _, _, .cons h r => .cons (k _ _ h) (Mqs.keep k r)
theorem Mqs.length {H : Hp} : ∀ {ts : List Addr} {qs : List Q4}, Mqs H ts qs → ts.length = qs.length
  | _, _, .nil => rfl
  | _, _, .cons _ r => congrArg (· + 1) (Mqs.length r)
theorem Mqs.at {H : Hp} : ∀ {ts : List Addr} {qs : List Q4}, Mqs H ts qs → ∀ (i : Nat) (t : Addr), ts[i]? = some t → ∃ x, qs[i]? = some x ∧ H t = some (.tup (q4 x))
  | _, _, .nil, i, t, h => by simp at h
  | _, _, .cons (b := x) h r, 0, t, e => by
    cases e
    exact ⟨x, rfl, h⟩
  | _, _, .cons h r, i + 1, t, e => Mqs.at r i t e
/-- what refuses a road, and with what -/
inductive RdBad (x : V) (ts : List Addr) (qs : List Q4) : Str → V → Prop
  | num : ¬ goodLen x → RdBad x ts qs "BadNumber" x
  | mat {n : Int} {j : Nat} {t : Addr} {q : Q4} : x = .int n → 0 ≤ n → n ≤ 1000000000000000000 → ts[j]? = some t → qs[j]? = some q → isM n q = false → (∀ i q', i < j → qs[i]? = some q' → isM n q' = true) → RdBad x ts qs "BadMating" (.ref t)
  | full {n : Int} : x = .int n → 0 ≤ n → n ≤ 1000000000000000000 → (∀ q ∈ qs, isM n q = true) → 24 < qs.length → RdBad x ts qs "Full" (.int 24)
/-- the error with this word and this value -/
def ErrIs (CB CG CU : Addr) (word : Str) (v : V) (C : Addr) (fs : Fds) : Prop := (word = "BadNumber" ∧ C = CB ∧ fs = bnF v) ∨ (word = "BadMating" ∧ C = CG ∧ fs = bgF v) ∨ (word = "Full" ∧ C = CU ∧ fs = fuF v)
/-- E takes the error -/
def TakesE (CB CG CU : Addr) (H : Hp) (E : XK) (word : Str) (v : V) : Prop := ∀ (C : Addr) (fs : Fds) (H' : Hp) (d : Addr), ErrIs CB CG CU word v C fs → Same H H' → H d = none → H' d = some (.xd fs) → E (.ref C) (some d) H'
theorem TakesE.same {CB CG CU : Addr} {H H1 : Hp} {E : XK} {word : Str} {v : V} (h : TakesE CB CG CU H E word v) (s : Same H H1) : TakesE CB CG CU H1 E word v := fun C fs H' d e s' nd ed => h C fs H' d e (s.trans s') (s.free nd) ed
/-- a road in memory, a list or a tuple, told with any values -/
structure RqAt (H : Hp) (L : Addr) (ts : List Addr) (qs : List Q4) : Prop where
  at_L : H L = some (.lst (ts.map V.ref)) ∨ H L = some (.tup (ts.map V.ref))
  mq : Mqs H ts qs
  ib : ∀ q ∈ qs, IBq q
  len : qs.length ≤ 1000
theorem RqAt.same {H H' : Hp} {L : Addr} {ts : List Addr} {qs : List Q4} (h : RqAt H L ts qs) (s : Same H H') : RqAt H' L ts qs := ⟨h.at_L.imp (s _ _) (s _ _), h.mq.keep (fun b xs hb => s _ _ hb), h.ib, h.len⟩
def spMatX (CB CG CU : Addr) : Sp := fun vs H Q E => ∃ (n : Int) (t : Addr) (q : Q4), vs = [.int n, .ref t] ∧ 0 ≤ n ∧ n ≤ 1000000000000000000 ∧ H t = some (.tup (q4 q)) ∧ IBq q ∧ (isM n q = true → ∀ H', Same H H' → Q .non H') ∧ (isM n q = false → TakesE CB CG CU H E "BadMating" (.ref t))
section
variable {P : Program} {w : World} {K : PySem.W.Frag} {mg : Str → Option Value} {base : Heap} {CB CG CU : Addr}
theorem ok_matX {f fM CF fI : Addr} {fd fdM fdI : FuncData} (D : DefAt K mg "need_mating" s_need_mating P_need_mating f fd) (D_is_mating : DefAt K mg "is_mating" s_is_mating P_is_mating fM fdM) (B : Bn mg) (Tg : ErT K mg CF CG fI fdI "BadMating" N_bginit) (n2 : PySem.W.findIn K (.ref CG) "mating" = some none) (GG : FnOk P w K mg base CX0 2 fI fdI N_bginit (spBgInit K)) : FnOk P w K mg base (L2.CX P w) 4 f fd P_need_mating (spMatX CB CG CU) := by
  have G_is_mating : FnOk P w K mg base CX0 1 fM fdM P_is_mating spIsMat := ok_is_mating D_is_mating B
  refine D.F.okX sc_need_mating (fun vs H Q E h => ?_) (fun cdv A outer s H vs Q E hr h => ?_)
  · obtain ⟨n, t, q, rfl, _⟩ := h
    rfl
  · obtain ⟨n, t, q, rfl, n0, n1, et, ⟨i1, i2, i3, i4⟩, q1, q2⟩ := h
    refine ⟨_, (pss_one (ps_if (pt_not (pt_val (pe_call G_is_mating (hr.mono (by omega)) (by rfl) D_is_mating.g D_is_mating.F.kp D_is_mating.b .nil pass0 (pa_cons (pv 0) (pa_cons (pv 1) pa_nil))))) (pss_one (ps_raise rfl (takes_of rfl rfl rfl rfl) (pmk_oex Tg.e.o Tg.iC Tg.tI GG (hr.mono (by omega)) Tg.bI .nil pass0 (by rfl) Tg.gC (pa_cons (pv 1) pa_nil)))) pss_nil)), ?_⟩
    refine ⟨.int n, rfl, .ref t, rfl, n, t, q.1, q.2.1, q.2.2.1, q.2.2.2, rfl, by omega, et, i1, i2, i3, i4, fun H3 s3 => ?_⟩
    cases e : isM n q with
    | true =>
      rw [show isMat n q.1 q.2.1 q.2.2.1 q.2.2.2 = true from e]
      exact ⟨true, rfl, iteF (q1 e _ s3)⟩
    | false =>
      rw [show isMat n q.1 q.2.1 q.2.2.1 q.2.2.2 = false from e]
      refine ⟨false, rfl, iteT ?_⟩
      refine bg_raise (σ := [some (.int n), some (.ref t)]) (i := 1) Tg.e n2 (s3 _ _ et) (fun y hy => ?_) (by show 4 ≤ 20; decide) rfl fun H' d s nd ed => (q2 e).same s3 _ _ _ _ (.inr (.inl ⟨rfl, rfl, rfl⟩)) s nd ed
      have hy : y ∈ [q.1, q.2.1, q.2.2.1, q.2.2.2] := hy
      simp only [List.mem_cons, List.not_mem_nil, or_false] at hy
      rcases hy with rfl | rfl | rfl | rfl
      · exact .inl i1.fv
      · exact .inl i2.fv
      · exact .inl i3.fv
      · exact .inl i4.fv
end

/-! ### _law_odd: what is no length (behind 82r_refuse) -/
abbrev N_odd : List Str := ["_law_draw", "_law_big"]
abbrev P_odd : List Str := ["_law_draw"]
theorem sc_odd : FnScope N_odd P_odd (defScope s_odd) := ⟨rfl, rfl, rfl, by decide +kernel, rfl, by decide +kernel, by decide +kernel⟩
def spOddL : Sp := fun vs H Q _ => ∃ (d l : Addr), vs = [.ref d] ∧ Draw H d l ∧ ∀ (x : V) (H' : Hp), IB x → ¬ goodLen x → Draw H' d l → Keep d H H' → Q x H'
theorem no_len {i : Int} (h : i < 0 ∨ 1000000000000000000 < i) : ¬ goodLen (.int i) := fun ⟨j, e, a, b⟩ => by
  cases e
  omega
section
variable {P : Program} {w : World} {K : PySem.W.Frag} {mg : Str → Option Value} {base : Heap}
theorem ok_oddL {f fP : Addr} {fd fdP : FuncData} (D : DefAt K mg "_law_odd" s_odd P_odd f fd) (D_pull : DefAt K mg "_law_pull" s_pull P_pull fP fdP) (B : Bn mg) : FnOk P w K mg base CX0 2 f fd P_odd spOddL := by
  have G_pull : FnOk P w K mg base CX0 1 fP fdP P_pull spPull := ok_pull D_pull B
  refine D.F.ok sc_odd (fun vs H Q E h => ?_) (fun cdv A outer s H vs Q E hr h => ?_)
  · obtain ⟨d, l, rfl, _⟩ := h
    rfl
  · obtain ⟨d, l, rfl, hD, q⟩ := h
    refine ⟨_, (pss_cons (ps_set (i := 1) sc_odd.nd rfl (.inl rfl) (pe_op op_add pe_int (pe_call G_pull (hr.mono (by omega)) (by rfl) D_pull.g D_pull.F.kp D_pull.b .nil pass0 (pa_cons (pv 0) (pa_cons (pe_op op_pow pe_int pe_int) pa_nil)))))
      (pss_one (ps_ret (pe_ix ix_list (pe_lst (pa_cons (pe_un un_neg pe_int) (pa_cons pe_bl (pa_cons pe_bl (pa_cons (pe_op op_sub pe_int (pv 1)) (pa_cons (pe_op op_sub pe_int (pe_op op_mul (pv 1) (pe_op op_pow pe_int pe_int))) (pa_cons (pe_op op_add (pe_op op_pow pe_int pe_int) (pv 1)) (pa_cons (pe_op op_add (pe_op op_pow pe_int pe_int) (pv 1)) pa_nil)))))))) (pe_call G_pull (hr.mono (by omega)) (by rfl) D_pull.g D_pull.F.kp D_pull.b .nil pass0 (pa_cons (pv 0) (pa_cons pe_int pa_nil))) (fun _ _ => rfl))))), ?_⟩
    refine ⟨.ref d, rfl, 10, 9, rfl, rfl, ⟨by decide, by decide, by decide⟩, d, l, _, rfl, hD, by decide, by decide, fun b H1 b0 b1 D1 k1 => ?_⟩
    have b1' : b < 1000000000 := b1
    refine ⟨1, b, rfl, rfl, ?_⟩
    refine ⟨1, rfl, .int (1 + b), rfl, 0, 1 + b, rfl, rfl, .int (1 + b), rfl, 10, 20, rfl, rfl, ⟨by decide, by decide, by decide⟩, 1 + b, _, rfl, rfl, .inl ⟨by omega, by omega⟩, 0, _, rfl, rfl, 10, 18, rfl, rfl, ⟨by decide, by decide, by decide⟩, .int (1 + b), rfl, _, 1 + b, rfl, rfl, 10, 29, rfl, rfl, ⟨by decide, by decide, by decide⟩, .int (1 + b), rfl, _, 1 + b, rfl, rfl, by show 7 ≤ sizeLine; decide, fun L nL => ?_⟩
    refine ⟨.ref d, rfl, d, l, 7, rfl, D1.same (same_upd nL), by decide, by decide, fun v H2 v0 v1 D2 k2 => ?_⟩
    obtain ⟨x, hx, ib, nb⟩ : ∃ x : V, atI [V.int (-1), V.bl true, V.bl false, V.int (0 - (1 + b)), V.int (0 - (1 + b) * 10 ^ (20 : Int).toNat), V.int (10 ^ (18 : Int).toNat + (1 + b)), V.int (10 ^ (29 : Int).toNat + (1 + b))] v = some x ∧ IB x ∧ ¬ goodLen x := by
      rcases (show v = 0 ∨ v = 1 ∨ v = 2 ∨ v = 3 ∨ v = 4 ∨ v = 5 ∨ v = 6 by omega) with rfl | rfl | rfl | rfl | rfl | rfl | rfl
      · exact ⟨_, atI_nat (j := 0) rfl, .int (by decide), no_len (by omega)⟩
      · exact ⟨_, atI_nat (j := 1) rfl, .inr ⟨_, rfl⟩, fun ⟨_, e, _⟩ => by cases e⟩
      · exact ⟨_, atI_nat (j := 2) rfl, .inr ⟨_, rfl⟩, fun ⟨_, e, _⟩ => by cases e⟩
      · exact ⟨_, atI_nat (j := 3) rfl, .int (by omega), no_len (by omega)⟩
      · rw [show (10 : Int) ^ (20 : Int).toNat = 100000000000000000000 by decide]
        exact ⟨_, atI_nat (j := 4) rfl, .int (by omega), no_len (by omega)⟩
      · rw [show (10 : Int) ^ (18 : Int).toNat = 1000000000000000000 by decide]
        exact ⟨_, atI_nat (j := 5) rfl, .int (by omega), no_len (by omega)⟩
      · rw [show (10 : Int) ^ (29 : Int).toNat = 100000000000000000000000000000 by decide]
        exact ⟨_, atI_nat (j := 6) rfl, .int (by omega), no_len (by omega)⟩
    exact ⟨L, _, v, x, rfl, rfl, SqL.of (k2.of upd_same (D1.ne_new nL)), hx, q _ _ ib nb D2 (k1.trans ((keepS (same_upd nL)).trans k2))⟩
end

/-! ### BadMating, Full and NoMating in one why (behind 76_roaderrs, 75n_nomating, 70n_why) -/
def I28 (CG CU CM : Addr) : Addr → Fds → Str → (V → Hp → Prop) → Prop := fun C fs word Fld => (∃ x, C = CG ∧ fs = bgF x ∧ word = "BadMating" ∧ Fld = fun v _ => v = x) ∨ (∃ x, C = CU ∧ fs = fuF x ∧ word = "Full" ∧ Fld = fun v _ => v = x) ∨ ∃ x, C = CM ∧ fs = nmF x ∧ word = "NoMating" ∧ Fld = fun v _ => v = x
theorem whyI28 {P : Program} {w : World} {K : PySem.W.Frag} {mg : Str → Option Value} {base : Heap} {f CF CI CG CU CM fG fU fM b0 b1 b2 b3 b4 b5 b6 c0 c1 c2 c3 c4 c5 c6 c7 c8 c9 c10 c11 c12 c13 c14 c15 c16 d0 d1 d3 : Addr} {fd fdG fdU fdM : FuncData} {NG NU NM : List Str}
    (D : DefAt K mg "_law_fields" s_fields P_fields f fd) (B : Bn mg) (Tg : ErT K mg CF CG fG fdG "BadMating" NG) (Og : OthBgE K mg CG b0 b1 b2 b3 b4 b5 b6) (n1 : PySem.W.findIn K (.ref CG) "mating" = some none)
    (Tu : ErT K mg CF CU fU fdU "Full" NU) (Ou : OthFuE K mg CU c0 c1 c2 c3 c4 c5 c6 c7 c8 c9 c10 c11 c12 c13 c14 c15 c16) (n2 : PySem.W.findIn K (.ref CU) "most" = some none)
    (Tm : LrT K mg CF CI CM fM fdM "NoMating" NM) (Om : OthNm K mg CM d0 d1 d3) (n3 : PySem.W.findIn K (.ref CM) "number" = some none) :
    ∀ C fs word Fld, I28 CG CU CM C fs word Fld → WhyI P w K mg base CF CI f fd C fs word Fld := by
  rintro C fs word Fld (⟨x, rfl, rfl, rfl, rfl⟩ | ⟨x, rfl, rfl, rfl, rfl⟩ | ⟨x, rfl, rfl, rfl, rfl⟩)
  · exact ⟨⟨true, Tg.m, fun z => by cases z⟩, Tg.x, Tg.e.w, bg_wordE x, fun v H H' _ h => h, fun p dd hH => ok_fieldsBgE x D B Tg Og n1 hH⟩
  · exact ⟨⟨true, Tu.m, fun z => by cases z⟩, Tu.x, Tu.e.w, fu_wordE x, fun v H H' _ h => h, fun p dd hH => ok_fieldsFuE x D B Tu Ou n2 hH⟩
  · exact ⟨⟨false, Tm.m0, fun _ => Tm.m⟩, Tm.x, Tm.e.w, nm_word x, fun v H H' _ h => h, fun p dd hH => ok_fieldsNm x D B Tm Om n3 hH⟩

/-! ### mate_as, mate, strike refused (behind rd5, rd6, 82r_refuse, 75n_nomating) -/
def spMateAsR (C5 CG CU : Addr) : Sp := fun vs H _ E => ∃ (g st t : Addr) (n i : Int) (S : StL) (k : V) (c : Int) (q : Q4), vs = [.ref g, .int i, .ref t] ∧ RoAt C5 H g st n S k c ∧ RoW n S ∧ H t = some (.tup (q4 q)) ∧ IBq q ∧
  ((isM n q = false ∧ TakesE CG CG CU H E "BadMating" (.ref t)) ∨ (isM n q = true ∧ 24 ≤ S.length ∧ TakesE CG CG CU H E "Full" (.int 24)))
def spMateR (C5 CG CU : Addr) : Sp := fun vs H _ E => ∃ (g st : Addr) (n : Int) (S : StL) (k : V) (c : Int) (q : Q4), vs = [.ref g, q.1, q.2.1, q.2.2.1, q.2.2.2] ∧ RoAt C5 H g st n S k c ∧ RoW n S ∧ IBq q ∧
  ∀ (H1 : Hp) (t : Addr), Same H H1 → H t = none → H1 t = some (.tup (q4 q)) → (isM n q = false ∧ TakesE CG CG CU H1 E "BadMating" (.ref t)) ∨ (isM n q = true ∧ 24 ≤ S.length ∧ TakesE CG CG CU H1 E "Full" (.int 24))
def spStrikeR (C5 CM : Addr) : Sp := fun vs H _ E => ∃ (g st : Addr) (n : Int) (S : StL) (k : V) (c : Int) (x : V), vs = [.ref g, x] ∧ RoAt C5 H g st n S k c ∧ FV x ∧ (∀ i : Int, x = .int i → sget S i = none) ∧
  ∀ (H' : Hp) (d : Addr), Same H H' → H d = none → H' d = some (.xd (nmF x)) → E (.ref CM) (some d) H'
section
variable {P : Program} {w : World} {K : PySem.W.Frag} {mg : Str → Option Value} {base : Heap} {C5 CG CU CM : Addr}
theorem ok_MateAsR {f fB fM fI CF fGi fUi : Addr} {fd fdB fdM fdI fdGi fdUi : FuncData} {tok : Tok} (F : Fun K "mate_as" "Road.mate_as" s_Ro_mate_as f fd) (TRo_ : RoT K mg C5) (M_Ro_become : Meth K C5 "become" fB) (G_Ro_become : FnOk P w K mg base CX0 1 fB fdB P_Ro_become (spBecome C5)) (b_Ro_become : Binds K fdB P_Ro_become [])
    (D_need_mating : DefAt K mg "need_mating" s_need_mating P_need_mating fM fdM) (D_is_mating : DefAt K mg "is_mating" s_is_mating P_is_mating fI fdI) (g_MOST : mg "MOST" = some (.int 24 tok)) (B : Bn mg)
    (Tg : ErT K mg CF CG fGi fdGi "BadMating" N_bginit) (n2 : PySem.W.findIn K (.ref CG) "mating" = some none) (GG : FnOk P w K mg base CX0 2 fGi fdGi N_bginit (spBgInit K))
    (Tu : ErT K mg CF CU fUi fdUi "Full" N_fuinit) (n3 : PySem.W.findIn K (.ref CU) "most" = some none) (GU : FnOk P w K mg base CX0 2 fUi fdUi N_fuinit (spFuInit K)) : FnOk P w K mg base (L2.CX P w) 6 f fd P_Ro_mate_as (spMateAsR C5 CG CU) := by
  have G_need_mating : FnOk P w K mg base (L2.CX P w) 4 fM fdM P_need_mating (spMatX CG CG CU) := ok_matX D_need_mating D_is_mating B Tg n2 GG
  refine F.okX sc_Ro_mate_as (fun vs H Q E h => ?_) (fun cdv A outer s H vs Q E hr h => ?_)
  · obtain ⟨g, st, t, n, i, S, k, c, q, rfl, _⟩ := h
    rfl
  · obtain ⟨g, st, t, n, i, S, k, c, q, rfl, fa, wf, ht, ib, qq⟩ := h
    refine ⟨_, (pss_cons (ps_expr (pe_call G_need_mating (hr.mono (by omega)) (by rfl) D_need_mating.g D_need_mating.F.kp D_need_mating.b .nil (passes_call (takes_of rfl rfl rfl rfl) fun _ _ _ _ h => h) (pa_cons (pe_fld (pv 0) rfl) (pa_cons (pv 2) pa_nil))))
      (pss_cons (ps_if (pt_cmpR op_ge (pe_callB call_lenDk (by rfl) B.len (by decide +kernel) (pa_cons (pe_fld (pv 0) rfl) pa_nil)) (pe_glob (v := .int _) (by rfl) g_MOST ⟨_, rfl⟩) (nomark _)) (pss_one (ps_raise rfl (takes_of rfl rfl rfl rfl) (pmk_oex Tu.e.o Tu.iC Tu.tI GU (hr.mono (by omega)) Tu.bI .nil pass0 (by rfl) Tu.gC (pa_cons (pe_glob (v := .int _) (by rfl) g_MOST ⟨_, rfl⟩) pa_nil)))) pss_nil)
      (pss_one (ps_expr (pe_meth (pv 0) TRo_.cl M_Ro_become G_Ro_become (hr.mono (by omega)) b_Ro_become .nil pass0 (pa_cons (pe_fld (pv 0) rfl) (pa_cons (DStar.pe_dstar (pe_fld (pv 0) rfl) (pv 1) (pv 2)) pa_nil))))))), ?_⟩
    obtain ⟨⟨dx, ea⟩, kvs, es, sd⟩ := id fa
    refine ⟨.ref g, rfl, g, C5, dx, _, .int n, rfl, ea, TRo_.cl, TRo_.nE, rfl, .ref t, rfl, n, t, q, rfl, wf.n0, wf.n1, ht, ib, fun h1 H1 s1 => ?_, fun h0 => ?_⟩
    · rcases qq with ⟨z, _⟩ | ⟨_, hl, tk⟩
      · rw [h1] at z
        cases z
      · obtain ⟨⟨dx1, ea1⟩, kvs1, es1, sd1⟩ := fa.same s1
        have el := sd1.length
        refine ⟨.ref g, rfl, g, C5, dx1, _, .ref st, rfl, ea1, TRo_.cl, TRo_.nS, rfl, st, kvs1, rfl, es1, ?_⟩
        refine ⟨(kvs1.length : Int), 24, rfl, rfl, _, rfl, ite2 (fun _ => ?_) (fun h => absurd (decide_eq_true (show (24 : Int) ≤ (kvs1.length : Int) by omega)) h)⟩
        exact fu_raise Tu.e n3 (.inl ⟨24, rfl, by decide⟩) (fun Q q => q) fun H' d s nd ed => (tk.same s1) _ _ _ _ (.inr (.inr ⟨rfl, rfl, rfl⟩)) s nd ed
    · rcases qq with ⟨_, tk⟩ | ⟨z, _⟩
      · exact tk
      · rw [h0] at z
        cases z
theorem ok_MateR {f fN fA : Addr} {fd fdN fdA : FuncData} {dvs : List V} {kws : List (Str × V)} (F : FunD K "mate" "Road.mate" (defArgs s_Ro_mate) (defBody s_Ro_mate) (defScope s_Ro_mate) dvs kws f fd) (TRo_ : RoT K mg C5) (M_Ro_next_number : Meth K C5 "next_number" fN) (G_Ro_next_number : FnOk P w K mg base CX0 1 fN fdN P_Ro_next_number (spNext C5)) (b_Ro_next_number : Binds K fdN P_Ro_next_number [])
    (M_Ro_mate_as : Meth K C5 "mate_as" fA) (GX_Ro_mate_as : FnOk P w K mg base (L2.CX P w) 6 fA fdA P_Ro_mate_as (spMateAsR C5 CG CU)) (b_Ro_mate_as : Binds K fdA P_Ro_mate_as []) : FnOk P w K mg base (L2.CX P w) 7 f fd P_Ro_mate (spMateR C5 CG CU) := by
  refine F.ok (CX := L2.CX P w) (k := 6) sc_Ro_mate (fun vs H Q E h => ?_) (fun cdv A outer s H vs Q E hr h => ?_)
  · obtain ⟨g, st, n, S, k, c, q, rfl, _⟩ := h
    rfl
  · obtain ⟨g, st, n, S, k, c, q, rfl, fa, wf, ib, qq⟩ := h
    refine ⟨_, (pss_cons (ps_set (i := 5) sc_Ro_mate.nd rfl (.inl rfl) (pe_meth0 (pv 0) TRo_.cl M_Ro_next_number G_Ro_next_number (hr.mono (by omega)) b_Ro_next_number .nil pass0))
      (pss_cons (ps_expr (pe_meth (pv 0) TRo_.cl M_Ro_mate_as GX_Ro_mate_as (hr.mono (by omega)) b_Ro_mate_as .nil (passes_call (takes_of rfl rfl rfl rfl) fun _ _ _ _ h => h) (pa_cons (pv 5) (pa_cons (pe_tup (pa_cons (pv 1) (pa_cons (pv 2) (pa_cons (pv 3) (pa_cons (pv 4) pa_nil))))) pa_nil))))
      (pss_one (ps_ret (pv 5))))), ?_⟩
    obtain ⟨dx, ea⟩ := fa.at_g
    have hlen := wf.len
    refine ⟨.ref g, rfl, g, dx, _, rfl, ea, rfl, g, st, n, S, k, c, rfl, fa, by omega, wf.low, fun H1 s1 => ?_⟩
    refine ⟨.ref g, rfl, g, dx, _, rfl, s1 _ _ ea, rfl, .int (nxt S), rfl, q.1, rfl, q.2.1, rfl, q.2.2.1, rfl, q.2.2.2, rfl, by show 4 ≤ sizeLine; decide, fun t nt => ?_⟩
    have s2 := same_upd (H := H1) (o := .tup (q4 q)) nt
    have s12 := s1.trans s2
    exact ⟨g, st, t, n, nxt S, S, k, c, q, rfl, fa.same s12, wf, upd_same, ib, qq _ t s12 (s1.free nt) upd_same⟩
theorem ok_StrikeR {f fB CF CI fMi : Addr} {fd fdB fdMi : FuncData} (F : Fun K "strike" "Road.strike" s_Ro_strike f fd) (TRo_ : RoT K mg C5) (M_Ro_become : Meth K C5 "become" fB) (G_Ro_become : FnOk P w K mg base CX0 1 fB fdB P_Ro_become (spBecome C5)) (b_Ro_become : Binds K fdB P_Ro_become []) (B : Bn mg)
    (Tm : LrT K mg CF CI CM fMi fdMi "NoMating" N_nminit) (n4 : PySem.W.findIn K (.ref CM) "number" = some none) (GM : FnOk P w K mg base CX0 2 fMi fdMi N_nminit (spNmInit K)) : FnOk P w K mg base (L2.CX P w) 5 f fd P_Ro_strike (spStrikeR C5 CM) := by
  refine F.okX sc_Ro_strike (fun vs H Q E h => ?_) (fun cdv A outer s H vs Q E hr h => ?_)
  · obtain ⟨g, st, n, S, k, c, x, rfl, _⟩ := h
    rfl
  · obtain ⟨g, st, n, S, k, c, x, rfl, fa, fx, no, qq⟩ := h
    have hu := hu_of hr
    refine ⟨_, (pss_cons (ps_if (PW.pt (pw_or (pt_val (pe_callB call_isi (by rfl) B.isinstance (by decide +kernel) (pa_cons (pv 1) (pa_cons (pe_bltn (v := .ty "bool") (by rfl) B.bool (by decide +kernel) rfl) pa_nil)))) (pw_or1 (pt_cmp (pc_dnotin hu (pv 1) (pe_fld (pv 0) rfl)))))) (pss_one (ps_raise rfl (takes_of rfl rfl rfl rfl) (pmk_lex Tm.e.o Tm.iC Tm.tI GM (hr.mono (by omega)) Tm.bI .nil pass0 (by rfl) Tm.gC (pa_cons (pv 1) pa_nil)))) pss_nil)
      (pss_one (ps_expr (pe_meth (pv 0) TRo_.cl M_Ro_become G_Ro_become (hr.mono (by omega)) b_Ro_become .nil pass0 (pa_cons (pe_fld (pv 0) rfl) (pa_cons (pe_lock (pe_dc (own := [("k", 2)]) (g := gName 2) (by rfl) sc_Ro_strike.nd (pi_keys (pe_fld (pv 0) rfl)) (blkOk_by (own := [("k", 2)]) (N := N_Ro_strike) (sc := defScope s_Ro_strike) (by decide +kernel)) (fun _ _ _ _ _ => (pg_name (i := 2) sc_Ro_strike.nd rfl (.inl rfl))) (fun _ _ _ _ _ => (pts_one (pt_cmpR op_ne (pv 2) (pv 1) (nomark _)))) (fun _ _ _ _ _ => (pv 2)) (fun _ _ _ _ _ => (pe_dget hu (pe_fldK (K := K) rfl (pv 0) rfl) (pv 2) (fun _ _ => rfl))))) pa_nil)))))), ?_⟩
    obtain ⟨⟨dx, ea⟩, kvs, es, sd⟩ := id fa
    have bad := nm_raise (σ := [some (.ref g), some x]) (i := 1) Tm.e n4 fx rfl qq
    rcases id fx with ⟨i, rfl, hi⟩ | ⟨b, rfl⟩
    · refine ⟨.int i, rfl, _, _, _, _, false, rfl, ClsV.ty _, TyX.base (TyOf.int _), kit_ty (by decide +kernel), _, rfl, iteF ?_⟩
      refine ⟨.int i, rfl, .ref g, rfl, g, C5, dx, _, .ref st, rfl, ea, TRo_.cl, TRo_.nS, rfl, st, none, rfl, ?_, _, rfl, iteT ?_⟩
      · have z := DGet.k (H := H) (k := Sum.inl i) es
        rw [(sd.get i).1 (no i rfl)] at z
        exact z
      · exact bad
    · refine ⟨.bl b, rfl, _, _, _, _, true, rfl, ClsV.ty _, TyX.base (TyOf.bl _), kit_ty (by decide +kernel), _, rfl, iteT ?_⟩
      exact bad
end

/-! ### _law_any, _law_odd -/
abbrev N_any : List Str := ["_law_draw", "_law_some"]
abbrev P_any : List Str := ["_law_draw", "_law_some"]
theorem sc_any : FnScope N_any P_any (defScope s_any) := ⟨rfl, rfl, rfl, by decide +kernel, rfl, by decide +kernel, by decide +kernel⟩
def spAny : Sp := fun vs H Q _ => ∃ (d l L : Addr) (xs : List V), vs = [.ref d, .ref L] ∧ Draw H d l ∧ H L = some (.lst xs) ∧ L ≠ d ∧ 1 ≤ xs.length ∧ xs.length ≤ 1000 ∧ ∀ (x : V) (H' : Hp), x ∈ xs → Draw H' d l → Keep d H H' → Q x H'
section
variable {P : Program} {w : World} {K : PySem.W.Frag} {mg : Str → Option Value} {base : Heap}
theorem ok_any {f fP : Addr} {fd fdP : FuncData} (D : DefAt K mg "_law_any" s_any P_any f fd) (D_pull : DefAt K mg "_law_pull" s_pull P_pull fP fdP) (B : Bn mg) : FnOk P w K mg base CX0 2 f fd P_any spAny := by
  have G_pull : FnOk P w K mg base CX0 1 fP fdP P_pull spPull := ok_pull D_pull B
  refine D.F.ok sc_any (fun vs H Q E h => ?_) (fun cdv A outer s H vs Q E hr h => ?_)
  · obtain ⟨d, l, L, xs, rfl, _⟩ := h
    rfl
  · obtain ⟨d, l, L, xs, rfl, hD, hL, nL, l1, l2, q⟩ := h
    refine ⟨_, (pss_one (ps_ret (pe_ix ix_list (pv 1) (pe_call G_pull (hr.mono (by omega)) (by rfl) D_pull.g D_pull.F.kp D_pull.b .nil pass0 (pa_cons (pv 0) (pa_cons (pe_callB call_len_seq (by rfl) B.len (by decide +kernel) (pa_cons (pv 1) pa_nil)) pa_nil))) (fun _ _ => rfl)))), ?_⟩
    refine ⟨.ref L, rfl, .ref d, rfl, .ref L, rfl, L, xs, rfl, .inl (SqL.of hL), d, l, _, rfl, hD, by omega, by omega, fun v H1 v0 v1 D1 k1 => ?_⟩
    obtain ⟨j, rfl⟩ : ∃ j : Nat, v = (j : Int) := ⟨v.toNat, by omega⟩
    have hj : j < xs.length := by omega
    exact ⟨L, xs, (j : Int), xs[j], rfl, rfl, SqL.of (k1.of hL nL), atI_nat (List.getElem?_eq_getElem hj), q _ _ (List.getElem_mem hj) D1 k1⟩
end

/-! ### the law's table of code objects -/
theorem tabs_keep {T : List (Addr × Str)} {H H' : Hp} {d l : Addr} (t : LamX.Tabs T H) (D : Draw H d l) (k : Keep d H H') : LamX.Tabs T H' := fun p hp => by
  obtain ⟨ps, h1, h2, h3⟩ := t p hp
  obtain ⟨ns, i, z, s, W⟩ := D
  refine ⟨ps, k.of h1 (ne_of h1 W.at_d (fun e => by cases e)), h2, fun pos cv hc => ?_⟩
  obtain ⟨c, e1, e2⟩ := h3 pos cv hc
  exact ⟨c, e1, k.of e2 (ne_of e2 W.at_d (fun e => by unfold LamX.CodeO at e; cases e))⟩
theorem draw_extN {H H' : Hp} {d l : Addr} (D : Draw H d l) (e : LamX.ExtN H H') : Draw H' d l := by
  obtain ⟨ns, i, z, s, W⟩ := D
  exact ⟨ns, i, z, s, { W with at_d := e _ _ W.at_d (fun _ q => by cases q), at_l := e _ _ W.at_l (fun _ q => by cases q) }⟩
abbrev lamQ : Str := (("law" : Str) ++ ".<locals>.") ++ "<lambda>"
/-- xs.append(e) inside a lambda: the reading must not speak of the lambda's own frame -/
theorem pe_appK {X : Cx} {K : PySem.W.Frag} {o e : Expr} {to : TE} {t : TA} {apos cpos : Pos} (hK : X.K = K) (ho : PE X o to) (ha : PA X [e] t)
    (hbase : attributeBase o "append" X.env (eval o X.env) = eval o X.env := by rfl)
    (hfew : ((backTo cpos (starEach [e] X.env)).all (fun x => !x.1) && (backToKw cpos (keywordEach [] X.env)).all (fun x => x.1.isSome)
      && decide ([e].length + ([] : List Keyword).length + (if ([] : List Keyword).isEmpty then 0 else 1) < 30)) = true := by rfl)
    (hline : (apos.endLine == cpos.line) = true := by rfl) (hs : starEach [e] X.env = (false, eval e X.env) :: starEach [] X.env := by rfl) (hplain : (backTo cpos (starEach [] X.env)).any (·.1) = false := by rfl) :
    PE X (.Call (.Attribute o "append" apos) [e] [] cpos) (tBM K "list" rAppend to t) := by
  subst hK
  exact pe_bm PySem.F.plainAttrs_list PySem.F.slot_list_append PySem.F.type_list_append mt_append ho ha hbase hfew hline hs hplain

/-! ### a list stored anew, beside the table and the drawing -/
/-! ### a folding stands while the drawing goes on -/
/-- all but tables and the drawing list stands -/
def KeepD (H H' : Hp) : Prop := ∀ b o, H b = some o → (∀ ps, o ≠ .tbl ps) → (∀ (l : Addr) (i z s : Int), o ≠ .lst [.ref l, .int i, .int z, .int s]) → H' b = some o
theorem KeepD.trans {H H1 H2 : Hp} (a : KeepD H H1) (b : KeepD H1 H2) : KeepD H H2 := fun c o h t n => b c o (a c o h t n) t n
theorem KeepD.ext {H H' : Hp} (e : LamX.ExtN H H') : KeepD H H' := fun b o h t _ => e b o h t
theorem KeepD.same {H H' : Hp} (s : Same H H') : KeepD H H' := fun b o h _ _ => s b o h
theorem KeepD.draw {H H' : Hp} {d l : Addr} (D : Draw H d l) (k : Keep d H H') : KeepD H H' := fun b o h _ n => k.of h fun z => by
  obtain ⟨_, i, zz, s, W⟩ := D
  rw [z, W.at_d] at h
  exact n _ _ _ _ (Option.some.inj h).symm
theorem KeepD.ints {H H' : Hp} (k : KeepD H H') {b : Addr} {xs : List Int} (h : H b = some (.lst (xs.map V.int))) : H' b = some (.lst (xs.map V.int)) :=
  k _ _ h (fun _ z => by cases z) fun l i z s e => by
    cases xs with
    | nil => cases e
    | cons x r => cases e
theorem KeepD.tup {H H' : Hp} (k : KeepD H H') : KeepT H H' := fun b xs h => k _ _ h (fun _ z => by cases z) (fun _ _ _ _ z => by cases z)
theorem FV.ty {K : PySem.W.Frag} {H : Hp} {x : V} (h : FV x) : ∃ t, TyX K H x t ∧ PySem.W.kitOne K t (.type "bool") = some (isB x) := by
  rcases h with ⟨i, rfl, hi⟩ | ⟨b, rfl⟩
  · exact ⟨_, TyX.base (TyOf.int _), kit_ty (r := false) (by decide +kernel)⟩
  · exact ⟨_, TyX.base (TyOf.bl _), kit_ty (r := true) (by decide +kernel)⟩
theorem FV.dat {x : V} (h : FV x) : ∃ D : PyData, ∀ (H : Hp) (n : Nat), Rp H n x D := by
  rcases h with ⟨i, rfl, _⟩ | ⟨b, rfl⟩
  · exact ⟨_, fun H n => .int n i⟩
  · exact ⟨_, fun H n => .bl n b⟩
mutual
theorem Rp.extN {H H' : Hp} (e : LamX.ExtN H H') : ∀ {n : Nat} {v : V} {d : PyData}, Rp H n v d → Rp H' n v d
  | _, _, _, .non n => .non n
  | _, _, _, .bl n b => .bl n b
  | _, _, _, .int n i => .int n i
  | _, _, _, .str n x => .str n x
  | _, _, _, .lst h l r => .lst (e _ _ h (fun _ z => by cases z)) l (RpAll.extN e r)
  | _, _, _, .tup h l r => .tup (e _ _ h (fun _ z => by cases z)) l (RpAll.extN e r)
theorem RpAll.extN {H H' : Hp} (e : LamX.ExtN H H') : ∀ {n : Nat} {vs : List V} {ds : List PyData}, RpAll H n vs ds → RpAll H' n vs ds
  | _, _, _, .nil n => .nil n
  | _, _, _, .cons h r => .cons (Rp.extN e h) (RpAll.extN e r)
end

/-! ### _law_deed: a mating and a lambda that mates so -/
abbrev N_deed : List Str := ["_law_draw", "_law_road", "_law_length", "_law_some", "_law_flips", "_law_many", "_law_one", "_law_other"]
abbrev P_deed : List Str := ["_law_draw", "_law_road", "_law_length"]
theorem sc_deed : FnScope N_deed P_deed (defScope s_deed) := ⟨rfl, rfl, rfl, by decide +kernel, rfl, by decide +kernel, by decide +kernel⟩
abbrev deedQ : Str := (("_law_deed" : Str) ++ ".<locals>.") ++ "<lambda>"
def retVal : Stmt → Expr
  | .Return (some e) _ => e
  | .If _ (s :: _) _ _ => (match s with | .Return (some e) _ => e | _ => .Constant .none 0 ⟨0, 0, 0, 0⟩)
  | _ => .Constant .none 0 ⟨0, 0, 0, 0⟩
def tup2nd : Expr → Expr
  | .Tuple (_ :: e :: _) _ _ => e
  | e => e
def lamA : Expr → Arguments
  | .Lambda a _ _ _ => a
  | _ => { posonlyargs := [], args := [], vararg := none, kwonlyargs := [], kw_defaults := [], kwarg := none, defaults := [] }
def lamB : Expr → Expr
  | .Lambda _ b _ _ => b
  | e => e
def lamS : Expr → Scope
  | .Lambda _ _ s _ => s
  | _ => { kind := .function, names := [], isGenerator := false, isCoroutine := false }
abbrev dE1 : Expr := tup2nd (retVal ((defBody s_deed).getD 3 (.Pass ⟨0, 0, 0, 0⟩)))
abbrev dE2 : Expr := tup2nd (retVal ((defBody s_deed).getD 4 (.Pass ⟨0, 0, 0, 0⟩)))
abbrev dFr1 : List Str := ["_law_many", "_law_one", "_law_other", "_law_road"]
abbrev dFr2 : List Str := ["_law_flips", "_law_many", "_law_one", "_law_other", "_law_road"]
abbrev dF1 (cl : List (Str × Addr)) (c : Addr) : LF := ⟨deedQ, lamA dE1, lamB dE1, lamS dE1, cl, c⟩
abbrev dF2 (cl : List (Str × Addr)) (c : Addr) : LF := ⟨deedQ, lamA dE2, lamB dE2, lamS dE2, cl, c⟩
def spDeed (T : List (Addr × Str)) : Sp := fun vs H Q _ => ∃ (d l g : Addr) (n : Int), vs = [.ref d, .ref g, .int n] ∧ Draw H d l ∧ 0 ≤ n ∧ n ≤ 1000000000000000000 ∧ LamX.Tabs T H ∧
  ∀ (G : Hp) (t tm f c : Addr) (q : Q4) (cl : List (Str × Addr)), Draw G d l → LamX.Tabs T G → (∀ b o, H b = some o → b ≠ d → (∀ ps, o ≠ .tbl ps) → G b = some o) → G t = some (.tup [.ref tm, .ref f]) → G tm = some (.tup (q4 q)) → IBq q →
    ((q.2.2.2 = .int 0 ∧ G f = some (LamO f (dF1 cl c)) ∧ CellsT cl dFr1 [q.2.2.1, q.1, q.2.1, .ref g] G) ∨ (G f = some (LamO f (dF2 cl c)) ∧ CellsT cl dFr2 [q.2.2.2, q.2.2.1, q.1, q.2.1, .ref g] G)) →
    G c = some (LamX.CodeO c deedQ) → Q (.ref t) G
section
open PySem.Spec PyProof.Rows LamX NdefX
variable {P : Program} {w : World} {K : PySem.W.Frag} {mg : Str → Option Value} {base : Heap}
theorem ok_deed {f fP fA fM c Pd : Addr} {fdP fdA fdM : FuncData} {T : List (Addr × Str)} {kV doc pm ct oc : Value} {an od : Option Addr} {osl : Array (Option Value)}
    (lk : K.lookup f = some ⟨oc, od, .func (PySem.W.fnOf "_law_deed" "_law_deed" (defArgs s_deed) (defBody s_deed) (defScope s_deed) .none kV doc pm an (.ref c) ct), osl⟩) (hcd : PySem.W.codeIn K (.ref c) "_law_deed" = true)
    (TBl : LamX.TabB base mg c Pd) (hml : (Pd, deedQ) ∈ T) (hul : ∀ p ∈ T, p.1 = Pd → p.2 = deedQ) (D_pull : DefAt K mg "_law_pull" s_pull P_pull fP fdP) (D_any : DefAt K mg "_law_any" s_any P_any fA fdA) (D_mating : DefAt K mg "_law_mating" s_mating P_mating fM fdM) (B : Bn mg) :
    FnOk P w K mg base CX0 4 f (PySem.W.fnOf "_law_deed" "_law_deed" (defArgs s_deed) (defBody s_deed) (defScope s_deed) .none kV doc pm an (.ref c) ct) P_deed (spDeed T) := by
  have G_pull : FnOk P w K mg base CX0 1 fP fdP P_pull spPull := ok_pull D_pull B
  have G_any : FnOk P w K mg base CX0 2 fA fdA P_any spAny := ok_any D_any D_pull B
  have G_mating : FnOk P w K mg base CX0 2 fM fdM P_mating spMating := ok_mating D_mating D_pull B
  refine fn_okR (Y := [1, 4, 5, 6, 7]) lk hcd sc_deed (by decide +kernel) (fun vs H Q E h => ?_) (fun A outer s H vs Q E hr h => ?_)
  · obtain ⟨d, l, g, n, rfl, _⟩ := h
    rfl
  · obtain ⟨d, l, g, n, rfl, hD, n0, n1, hT, q⟩ := h
    refine ⟨_, (pr_seq (ps_asg (pe_tup (pa_cons pe_int (pa_cons pe_int (pa_cons pe_int (pa_cons pe_int pa_nil))))) (pg_tup (by rfl) (pgs_cons (pg_name (i := 6) sc_deed.nd rfl (.inr rfl)) (pgs_cons (pg_name (i := 7) sc_deed.nd rfl (.inr rfl)) (pgs_cons (pg_name (i := 5) sc_deed.nd rfl (.inr rfl)) (pgs_cons (pg_name (i := 4) sc_deed.nd rfl (.inr rfl)) pgs_nil))))))
      (pr_cut (ps_if (pt_cmpR op_gt (pv 2) pe_int (nomark _)) (pss_one (ps_asg (pe_call G_mating (hr.mono (by omega)) (by rfl) D_mating.g D_mating.F.kp D_mating.b .nil pass0 (pa_cons (pv 0) (pa_cons (pe_callB (call_min2 rfl) (by rfl) B.min (by decide +kernel) (pa_cons (pv 2) (pa_cons pe_int pa_nil))) pa_nil))) (pg_tup (by rfl) (pgs_cons (pg_name (i := 6) sc_deed.nd rfl (.inr rfl)) (pgs_cons (pg_name (i := 7) sc_deed.nd rfl (.inr rfl)) (pgs_cons (pg_name (i := 5) sc_deed.nd rfl (.inr rfl)) (pgs_cons (pg_name (i := 4) sc_deed.nd rfl (.inr rfl)) pgs_nil))))))) pss_nil)
      (pr_cut (ps_if (pt_cmpR op_eq (pe_call G_pull (hr.mono (by omega)) (by rfl) D_pull.g D_pull.F.kp D_pull.b .nil pass0 (pa_cons (pv 0) (pa_cons pe_int pa_nil))) pe_int (nomark _)) (pss_cons (ps_set (i := 3) sc_deed.nd rfl (.inl rfl) (pe_lst (pa_cons (pe_tup (pa_cons (pe_un un_neg pe_int) (pa_cons (pv 7) (pa_cons (pv 5) (pa_cons pe_int pa_nil))))) (pa_cons (pe_tup (pa_cons (pv 6) (pa_cons (pv 2) (pa_cons (pv 5) (pa_cons pe_int pa_nil))))) (pa_cons (pe_tup (pa_cons (pv 6) (pa_cons (pv 7) (pa_cons pe_int (pa_cons pe_int pa_nil))))) (pa_cons (pe_tup (pa_cons (pv 6) (pa_cons (pv 7) (pa_cons (pv 5) (pa_cons pe_int pa_nil))))) pa_nil))))))
      (pss_one (ps_asg (pe_call G_any (hr.mono (by omega)) (by rfl) D_any.g D_any.F.kp D_any.b .nil pass0 (pa_cons (pv 0) (pa_cons (pe_op op_cat (pv 3) (pe_lst (pa_cons (pe_tup (pa_cons pe_bl (pa_cons pe_int (pa_cons pe_int (pa_cons pe_int pa_nil))))) (pa_cons (pe_tup (pa_cons pe_int (pa_cons pe_int (pa_cons (pe_op op_add (pv 2) pe_int) (pa_cons pe_int pa_nil))))) (pa_cons (pe_tup (pa_cons pe_int (pa_cons pe_int (pa_cons pe_int (pa_cons pe_bl pa_nil))))) pa_nil))))) pa_nil))) (pg_tup (by rfl) (pgs_cons (pg_name (i := 6) sc_deed.nd rfl (.inr rfl)) (pgs_cons (pg_name (i := 7) sc_deed.nd rfl (.inr rfl)) (pgs_cons (pg_name (i := 5) sc_deed.nd rfl (.inr rfl)) (pgs_cons (pg_name (i := 4) sc_deed.nd rfl (.inr rfl)) pgs_nil)))))))) pss_nil)
      (pr_if (PW.pt (pw_and (pt_cmpR op_eq (pe_call G_pull (hr.mono (by omega)) (by rfl) D_pull.g D_pull.F.kp D_pull.b .nil pass0 (pa_cons (pv 0) (pa_cons pe_int pa_nil))) pe_int (nomark _)) (pw_and1 (pt_cmpR (op_eqD hr.units) (pv 4) pe_int (nomark _))))) (pr_ret (pe_tup (pa_cons (pe_tup (pa_cons (pv 6) (pa_cons (pv 7) (pa_cons (pv 5) (pa_cons pe_int pa_nil))))) (pa_cons (pe_lamV TBl rfl hml hul (show LamX.LamS (defScope s_deed) _ from LamX.lamS_by (by decide +kernel)) rfl) pa_nil))))
      (pr_ret (pe_tup (pa_cons (pe_tup (pa_cons (pv 6) (pa_cons (pv 7) (pa_cons (pv 5) (pa_cons (pv 4) pa_nil))))) (pa_cons (pe_lamV TBl rfl hml hul (show LamX.LamS (defScope s_deed) _ from LamX.lamS_by (by decide +kernel)) rfl) pa_nil)))))))), ?_⟩
    have four : (4 : Nat) ≤ sizeLine := by decide
    refine ⟨four, fun t0 nt0 => ?_⟩
    have s1 := same_upd (H := H) (o := .tup [.int 0, .int 0, .int 1, .int 0]) nt0
    have e1 : (upd H t0 (.tup [.int 0, .int 0, .int 1, .int 0])) t0 = some (.tup [.int 0, .int 0, .int 1, .int 0]) := upd_same
    generalize upd H t0 (.tup [.int 0, .int 0, .int 1, .int 0]) = H1 at s1 e1
    have D1 := hD.same s1
    have T1 := hT.ext s1
    refine ⟨_, _, rfl, SqT.of e1, rfl, .int 0, _, rfl, .int 0, _, rfl, .int 1, _, rfl, .int 0, _, rfl, rfl, ?_⟩
    -- within the road
    refine ⟨fun σ G => ∃ o p m f : Int, σ = [some (.ref d), some (.ref g), some (.int n), none, some (.int f), some (.int m), some (.int o), some (.int p)] ∧ (o.natAbs < 2 ^ 200 ∧ p.natAbs < 2 ^ 200 ∧ m.natAbs < 2 ^ 200 ∧ f.natAbs < 2 ^ 200) ∧ Draw G d l ∧ LamX.Tabs T G ∧ Keep d H1 G, ?_, ?_⟩
    · refine ⟨.int n, rfl, _, _, rfl, rfl, _, rfl, ite2 (fun c => ?_) (fun c => ?_)⟩
      · have c' : n > 0 := of_decide_eq_true c
        have hmn : 1 ≤ (if (12 : Int) < n then 12 else n) ∧ (if (12 : Int) < n then 12 else n) ≤ 12 := by split <;> omega
        refine ⟨.ref d, rfl, .int n, rfl, n, 12, rfl, d, l, _, rfl, D1, hmn.1, by omega, fun H2 t o p m f D2 k2 et mt => ?_⟩
        have h1 := mt.m1
        have h2 := mt.o0
        have h3 := mt.o1
        have h4 := mt.p0
        have h5 := mt.p1
        have h6 := mt.f01
        exact ⟨_, _, rfl, SqT.of et, rfl, .int o, _, rfl, .int p, _, rfl, .int m, _, rfl, .int f, _, rfl, rfl, o, p, m, f, rfl, ⟨by omega, by omega, by omega, by omega⟩, D2, tabs_keep T1 D1 k2, k2⟩
      · exact ⟨0, 0, 1, 0, rfl, ⟨by decide, by decide, by decide, by decide⟩, D1, T1, Keep.refl _ _⟩
    rintro σ G ⟨o, p, m, f, rfl, bd, DG, TG, kG⟩
    -- some that are none
    refine ⟨fun σ G2 => ∃ (y3 : Option V) (q : Q4), σ = [some (.ref d), some (.ref g), some (.int n), y3, some q.2.2.2, some q.2.2.1, some q.1, some q.2.1] ∧ IBq q ∧ Draw G2 d l ∧ LamX.Tabs T G2 ∧ Keep d H1 G2, ?_, ?_⟩
    · refine ⟨.ref d, rfl, d, l, 5, rfl, DG, by decide, by decide, fun v G2 v0 v1 D2 k2 => ?_⟩
      have T2 := tabs_keep TG DG k2
      have k12 := kG.trans k2
      refine ⟨rfl, _, rfl, ite2 (fun c => ?_) (fun c => ?_)⟩
      · refine ⟨1, rfl, .int p, rfl, .int m, rfl, four, fun u1 nu1 => ?_⟩
        have s_u1 := same_upd (H := G2) (o := .tup [.int (-1), .int p, .int m, .int 0]) nu1
        have e_u1 : (upd G2 u1 (.tup [.int (-1), .int p, .int m, .int 0])) u1 = some (.tup [.int (-1), .int p, .int m, .int 0]) := upd_same
        generalize upd G2 u1 (.tup [.int (-1), .int p, .int m, .int 0]) = K1 at s_u1 e_u1
        refine ⟨.int o, rfl, .int n, rfl, .int m, rfl, four, fun u2 nu2 => ?_⟩
        have s_u2 := same_upd (H := K1) (o := .tup [.int o, .int n, .int m, .int 1]) nu2
        have e_u2 : (upd K1 u2 (.tup [.int o, .int n, .int m, .int 1])) u2 = some (.tup [.int o, .int n, .int m, .int 1]) := upd_same
        generalize upd K1 u2 (.tup [.int o, .int n, .int m, .int 1]) = K2 at s_u2 e_u2
        refine ⟨.int o, rfl, .int p, rfl, four, fun u3 nu3 => ?_⟩
        have s_u3 := same_upd (H := K2) (o := .tup [.int o, .int p, .int 0, .int 0]) nu3
        have e_u3 : (upd K2 u3 (.tup [.int o, .int p, .int 0, .int 0])) u3 = some (.tup [.int o, .int p, .int 0, .int 0]) := upd_same
        generalize upd K2 u3 (.tup [.int o, .int p, .int 0, .int 0]) = K3 at s_u3 e_u3
        refine ⟨.int o, rfl, .int p, rfl, .int m, rfl, four, fun u4 nu4 => ?_⟩
        have s_u4 := same_upd (H := K3) (o := .tup [.int o, .int p, .int m, .int 2]) nu4
        have e_u4 : (upd K3 u4 (.tup [.int o, .int p, .int m, .int 2])) u4 = some (.tup [.int o, .int p, .int m, .int 2]) := upd_same
        generalize upd K3 u4 (.tup [.int o, .int p, .int m, .int 2]) = K4 at s_u4 e_u4
        refine ⟨four, fun L nL => ?_⟩
        have s_L := same_upd (H := K4) (o := .lst [.ref u1, .ref u2, .ref u3, .ref u4]) nL
        have e_L : (upd K4 L (.lst [.ref u1, .ref u2, .ref u3, .ref u4])) L = some (.lst [.ref u1, .ref u2, .ref u3, .ref u4]) := upd_same
        generalize upd K4 L (.lst [.ref u1, .ref u2, .ref u3, .ref u4]) = K5 at s_L e_L
        refine ⟨.ref d, rfl, .ref L, rfl, four, fun u5 nu5 => ?_⟩
        have s_u5 := same_upd (H := K5) (o := .tup [.bl true, .int 0, .int 1, .int 0]) nu5
        have e_u5 : (upd K5 u5 (.tup [.bl true, .int 0, .int 1, .int 0])) u5 = some (.tup [.bl true, .int 0, .int 1, .int 0]) := upd_same
        generalize upd K5 u5 (.tup [.bl true, .int 0, .int 1, .int 0]) = K6 at s_u5 e_u5
        refine ⟨.int n, rfl, _, _, rfl, rfl, four, fun u6 nu6 => ?_⟩
        have s_u6 := same_upd (H := K6) (o := .tup [.int 0, .int 0, .int (n + 1), .int 1]) nu6
        have e_u6 : (upd K6 u6 (.tup [.int 0, .int 0, .int (n + 1), .int 1])) u6 = some (.tup [.int 0, .int 0, .int (n + 1), .int 1]) := upd_same
        generalize upd K6 u6 (.tup [.int 0, .int 0, .int (n + 1), .int 1]) = K7 at s_u6 e_u6
        refine ⟨four, fun u7 nu7 => ?_⟩
        have s_u7 := same_upd (H := K7) (o := .tup [.int 0, .int 0, .int 1, .bl true]) nu7
        have e_u7 : (upd K7 u7 (.tup [.int 0, .int 0, .int 1, .bl true])) u7 = some (.tup [.int 0, .int 0, .int 1, .bl true]) := upd_same
        generalize upd K7 u7 (.tup [.int 0, .int 0, .int 1, .bl true]) = K8 at s_u7 e_u7
        refine ⟨by show 3 ≤ sizeLine; decide, fun M nM => ?_⟩
        have s_M := same_upd (H := K8) (o := .lst [.ref u5, .ref u6, .ref u7]) nM
        have e_M : (upd K8 M (.lst [.ref u5, .ref u6, .ref u7])) M = some (.lst [.ref u5, .ref u6, .ref u7]) := upd_same
        generalize upd K8 M (.lst [.ref u5, .ref u6, .ref u7]) = K9 at s_M e_M
        have s59 := ((s_u5.trans s_u6).trans s_u7).trans s_M
        refine ⟨L, M, _, _, rfl, rfl, s59 _ _ e_L, e_M, by show 4 + 3 ≤ sizeLine; decide, fun A nA => ?_⟩
        have s_A := same_upd (H := K9) (o := .lst ([.ref u1, .ref u2, .ref u3, .ref u4] ++ [.ref u5, .ref u6, .ref u7])) nA
        have e_A : (upd K9 A (.lst ([.ref u1, .ref u2, .ref u3, .ref u4] ++ [.ref u5, .ref u6, .ref u7]))) A = some (.lst ([.ref u1, .ref u2, .ref u3, .ref u4] ++ [.ref u5, .ref u6, .ref u7])) := upd_same
        generalize upd K9 A (.lst ([.ref u1, .ref u2, .ref u3, .ref u4] ++ [.ref u5, .ref u6, .ref u7])) = KA at s_A e_A
        have s7A := s_M.trans s_A
        have s6A := s_u7.trans s7A
        have s5A := s_u6.trans s6A
        have s4A := (s_L.trans s_u5).trans s5A
        have s3A := s_u4.trans s4A
        have s2A := s_u3.trans s3A
        have s1A := s_u2.trans s2A
        have sA := s_u1.trans s1A
        have DA := D2.same sA
        have TA := T2.ext sA
        have nAd : A ≠ d := (draw_apart (D2.same (s_u1.trans ((s_u2.trans ((s_u3.trans s_u4).trans (s_L.trans s59)))))) nA).1.symm
        refine ⟨d, l, A, _, rfl, DA, e_A, nAd, by show 1 ≤ 7; decide, by show 7 ≤ 1000; decide, fun y G3 hy D3 k3 => ?_⟩
        have kt := DA.keepT k3
        have T3 := tabs_keep TA DA k3
        have k13 := (k12.trans (keepS sA)).trans k3
        have fin : ∀ (u : Addr) (q : Q4), KA u = some (.tup (q4 q)) → IBq q → y = .ref u → ∃ (u : Addr) (q : Q4), y = .ref u ∧ G3 u = some (.tup (q4 q)) ∧ IBq q := fun u q e i z => ⟨u, q, z, kt _ _ e, i⟩
        obtain ⟨u, q', rfl, eu, iu⟩ : ∃ (u : Addr) (q : Q4), y = .ref u ∧ G3 u = some (.tup (q4 q)) ∧ IBq q := by
          have hy : y ∈ [V.ref u1, V.ref u2, V.ref u3, V.ref u4, V.ref u5, V.ref u6, V.ref u7] := hy
          simp only [List.mem_cons, List.mem_nil_iff, or_false] at hy
          have i0 : ∀ i : Int, i.natAbs < 2 ^ 200 → IB (.int i) := fun i h => .int h
          rcases hy with z | z | z | z | z | z | z
          · exact fin u1 (.int (-1), .int p, .int m, .int 0) (s1A _ _ e_u1) ⟨i0 _ (by decide), i0 _ bd.2.1, i0 _ bd.2.2.1, i0 _ (by decide)⟩ z
          · exact fin u2 (.int o, .int n, .int m, .int 1) (s2A _ _ e_u2) ⟨i0 _ bd.1, i0 _ (by omega), i0 _ bd.2.2.1, i0 _ (by decide)⟩ z
          · exact fin u3 (.int o, .int p, .int 0, .int 0) (s3A _ _ e_u3) ⟨i0 _ bd.1, i0 _ bd.2.1, i0 _ (by decide), i0 _ (by decide)⟩ z
          · exact fin u4 (.int o, .int p, .int m, .int 2) (s4A _ _ e_u4) ⟨i0 _ bd.1, i0 _ bd.2.1, i0 _ bd.2.2.1, i0 _ (by decide)⟩ z
          · exact fin u5 (.bl true, .int 0, .int 1, .int 0) (s5A _ _ e_u5) ⟨.inr ⟨true, rfl⟩, i0 _ (by decide), i0 _ (by decide), i0 _ (by decide)⟩ z
          · exact fin u6 (.int 0, .int 0, .int (n + 1), .int 1) (s6A _ _ e_u6) ⟨i0 _ (by decide), i0 _ (by decide), i0 _ (by omega), i0 _ (by decide)⟩ z
          · exact fin u7 (.int 0, .int 0, .int 1, .bl true) (s7A _ _ e_u7) ⟨i0 _ (by decide), i0 _ (by decide), i0 _ (by decide), .inr ⟨true, rfl⟩⟩ z
        exact ⟨_, _, rfl, SqT.of eu, rfl, q'.1, _, rfl, q'.2.1, _, rfl, q'.2.2.1, _, rfl, q'.2.2.2, _, rfl, rfl, _, q', rfl, iu, D3, T3, k13⟩
      · exact ⟨_, (.int o, .int p, .int m, .int f), rfl, ⟨.int bd.1, .int bd.2.1, .int bd.2.2.1, .int bd.2.2.2⟩, D2, T2, k12⟩
    rintro σ G2 ⟨y3, q4', rfl, ib, D2, T2, k2⟩
    refine ⟨.ref d, rfl, d, l, 3, rfl, D2, by decide, by decide, fun v G3 v0 v1 D3 k3 => ?_⟩
    have T3 := tabs_keep T2 D2 k3
    have k13 := k2.trans k3
    obtain ⟨z4, dz, sz⟩ : ∃ z, Dp K G3 q4'.2.2.2 z ∧ SeqAt.shaped z = true := by
      rcases ib.2.2.2 with ⟨i, e, _⟩ | ⟨b, e⟩
      · rw [e]
        exact ⟨_, .int i, rfl⟩
      · rw [e]
        exact ⟨_, .bl b, rfl⟩
    refine ⟨rfl, _, rfl, ite2 (fun c1 => ?_) (fun c1 => ?_)⟩
    · refine ⟨q4'.2.2.2, rfl, z4, .int 0, dz, .int 0, sz, rfl, _, rfl, ite2 (fun c2 => ?_) (fun c2 => ?_)⟩
      · skip
        refine ⟨q4'.1, rfl, q4'.2.1, rfl, q4'.2.2.1, rfl, four, fun tm ntm => ?_⟩
        have a1 := same_upd (H := G3) (o := .tup (q4 (q4'.1, q4'.2.1, q4'.2.2.1, .int 0))) ntm
        have b1 : (upd G3 tm (.tup (q4 (q4'.1, q4'.2.1, q4'.2.2.1, .int 0)))) tm = some (.tup (q4 (q4'.1, q4'.2.1, q4'.2.2.1, .int 0))) := upd_same
        refine ⟨T3.ext a1, fun fl c' H4 eN T4 f0 f1 c1 => ⟨by show 2 ≤ sizeLine; decide, fun t nt => ?_⟩⟩
        have b4 := eN _ _ b1 fun _ z => by cases z
        have D4 := D3.same a1
        have a5 := same_upd (H := H4) (o := .tup [.ref tm, .ref fl]) nt
        have b5 : (upd H4 t (.tup [.ref tm, .ref fl])) t = some (.tup [.ref tm, .ref fl]) := upd_same
        generalize upd H4 t (.tup [.ref tm, .ref fl]) = H5 at a5 b5
        refine ⟨fun i hi => ?_, fun G inj ext alt tell => ?_⟩
        · have hi : i = 1 ∨ i = 4 ∨ i = 5 ∨ i = 6 ∨ i = 7 := by simpa using hi
          rcases hi with rfl | rfl | rfl | rfl | rfl <;> exact ⟨_, rfl⟩
        · have DG5 : Draw G d l := ((draw_extN D4 eN).same a5).same ext
          refine q G t tm fl c' (q4'.1, q4'.2.1, q4'.2.2.1, .int 0) _ DG5 ((T4.ext a5).ext ext) (fun b o hb nb nt2 => ?_) (ext _ _ b5) (ext _ _ (a5 _ _ b4)) ⟨ib.1, ib.2.1, ib.2.2.1, .int (by decide)⟩ (.inl ⟨rfl, ext _ _ (a5 _ _ f1), cellsT_of (Y := [1, 4, 5, 6, 7]) (sc := lamS dE1) inj tell (by decide +kernel) (by decide +kernel) rfl fun i y hy => ?_⟩) (ext _ _ (a5 _ _ c1))
          · exact ext _ _ (a5 _ _ (eN _ _ (a1 _ _ (k13 _ _ nb (s1 _ _ hb))) nt2))
          · match i, hy with
            | 0, rfl => exact ⟨5, by decide, q4'.2.2.1, rfl, rfl, rfl⟩
            | 1, rfl => exact ⟨6, by decide, q4'.1, rfl, rfl, rfl⟩
            | 2, rfl => exact ⟨7, by decide, q4'.2.1, rfl, rfl, rfl⟩
            | 3, rfl => exact ⟨1, by decide, .ref g, rfl, rfl, rfl⟩
            | i + 4, hy => cases hy
      · skip
        refine ⟨q4'.1, rfl, q4'.2.1, rfl, q4'.2.2.1, rfl, q4'.2.2.2, rfl, four, fun tm ntm => ?_⟩
        have a1 := same_upd (H := G3) (o := .tup (q4 (q4'.1, q4'.2.1, q4'.2.2.1, q4'.2.2.2))) ntm
        have b1 : (upd G3 tm (.tup (q4 (q4'.1, q4'.2.1, q4'.2.2.1, q4'.2.2.2)))) tm = some (.tup (q4 (q4'.1, q4'.2.1, q4'.2.2.1, q4'.2.2.2))) := upd_same
        refine ⟨T3.ext a1, fun fl c' H4 eN T4 f0 f1 c1 => ⟨by show 2 ≤ sizeLine; decide, fun t nt => ?_⟩⟩
        have b4 := eN _ _ b1 fun _ z => by cases z
        have D4 := D3.same a1
        have a5 := same_upd (H := H4) (o := .tup [.ref tm, .ref fl]) nt
        have b5 : (upd H4 t (.tup [.ref tm, .ref fl])) t = some (.tup [.ref tm, .ref fl]) := upd_same
        generalize upd H4 t (.tup [.ref tm, .ref fl]) = H5 at a5 b5
        refine ⟨fun i hi => ?_, fun G inj ext alt tell => ?_⟩
        · have hi : i = 1 ∨ i = 4 ∨ i = 5 ∨ i = 6 ∨ i = 7 := by simpa using hi
          rcases hi with rfl | rfl | rfl | rfl | rfl <;> exact ⟨_, rfl⟩
        · have DG5 : Draw G d l := ((draw_extN D4 eN).same a5).same ext
          refine q G t tm fl c' (q4'.1, q4'.2.1, q4'.2.2.1, q4'.2.2.2) _ DG5 ((T4.ext a5).ext ext) (fun b o hb nb nt2 => ?_) (ext _ _ b5) (ext _ _ (a5 _ _ b4)) ib (.inr ⟨ext _ _ (a5 _ _ f1), cellsT_of (Y := [1, 4, 5, 6, 7]) (sc := lamS dE2) inj tell (by decide +kernel) (by decide +kernel) rfl fun i y hy => ?_⟩) (ext _ _ (a5 _ _ c1))
          · exact ext _ _ (a5 _ _ (eN _ _ (a1 _ _ (k13 _ _ nb (s1 _ _ hb))) nt2))
          · match i, hy with
            | 0, rfl => exact ⟨4, by decide, q4'.2.2.2, rfl, rfl, rfl⟩
            | 1, rfl => exact ⟨5, by decide, q4'.2.2.1, rfl, rfl, rfl⟩
            | 2, rfl => exact ⟨6, by decide, q4'.1, rfl, rfl, rfl⟩
            | 3, rfl => exact ⟨7, by decide, q4'.2.1, rfl, rfl, rfl⟩
            | 4, rfl => exact ⟨1, by decide, .ref g, rfl, rfl, rfl⟩
            | i + 5, hy => cases hy
    · skip
      refine ⟨q4'.1, rfl, q4'.2.1, rfl, q4'.2.2.1, rfl, q4'.2.2.2, rfl, four, fun tm ntm => ?_⟩
      have a1 := same_upd (H := G3) (o := .tup (q4 (q4'.1, q4'.2.1, q4'.2.2.1, q4'.2.2.2))) ntm
      have b1 : (upd G3 tm (.tup (q4 (q4'.1, q4'.2.1, q4'.2.2.1, q4'.2.2.2)))) tm = some (.tup (q4 (q4'.1, q4'.2.1, q4'.2.2.1, q4'.2.2.2))) := upd_same
      refine ⟨T3.ext a1, fun fl c' H4 eN T4 f0 f1 c1 => ⟨by show 2 ≤ sizeLine; decide, fun t nt => ?_⟩⟩
      have b4 := eN _ _ b1 fun _ z => by cases z
      have D4 := D3.same a1
      have a5 := same_upd (H := H4) (o := .tup [.ref tm, .ref fl]) nt
      have b5 : (upd H4 t (.tup [.ref tm, .ref fl])) t = some (.tup [.ref tm, .ref fl]) := upd_same
      generalize upd H4 t (.tup [.ref tm, .ref fl]) = H5 at a5 b5
      refine ⟨fun i hi => ?_, fun G inj ext alt tell => ?_⟩
      · have hi : i = 1 ∨ i = 4 ∨ i = 5 ∨ i = 6 ∨ i = 7 := by simpa using hi
        rcases hi with rfl | rfl | rfl | rfl | rfl <;> exact ⟨_, rfl⟩
      · have DG5 : Draw G d l := ((draw_extN D4 eN).same a5).same ext
        refine q G t tm fl c' (q4'.1, q4'.2.1, q4'.2.2.1, q4'.2.2.2) _ DG5 ((T4.ext a5).ext ext) (fun b o hb nb nt2 => ?_) (ext _ _ b5) (ext _ _ (a5 _ _ b4)) ib (.inr ⟨ext _ _ (a5 _ _ f1), cellsT_of (Y := [1, 4, 5, 6, 7]) (sc := lamS dE2) inj tell (by decide +kernel) (by decide +kernel) rfl fun i y hy => ?_⟩) (ext _ _ (a5 _ _ c1))
        · exact ext _ _ (a5 _ _ (eN _ _ (a1 _ _ (k13 _ _ nb (s1 _ _ hb))) nt2))
        · match i, hy with
          | 0, rfl => exact ⟨4, by decide, q4'.2.2.2, rfl, rfl, rfl⟩
          | 1, rfl => exact ⟨5, by decide, q4'.2.2.1, rfl, rfl, rfl⟩
          | 2, rfl => exact ⟨6, by decide, q4'.1, rfl, rfl, rfl⟩
          | 3, rfl => exact ⟨7, by decide, q4'.2.1, rfl, rfl, rfl⟩
          | 4, rfl => exact ⟨1, by decide, .ref g, rfl, rfl, rfl⟩
          | i + 5, hy => cases hy
end

/-! ### Road.__repr__; repr of a road (behind rd4_road) -/
abbrev N_Ro_repr : List Str := ["self"]
abbrev P_Ro_repr : List Str := ["self"]
theorem sc_Ro_repr : FnScope N_Ro_repr P_Ro_repr (defScope s_Ro_repr) := ⟨rfl, rfl, rfl, by decide +kernel, rfl, by decide +kernel, by decide +kernel⟩
def roShow (n k : Int) : Str := ((((Str.empty ++ "Road(") ++ toString n) ++ " places, ") ++ toString k) ++ " matings)"
def spRoRepr (C5 : Addr) : Sp := fun vs H Q _ => ∃ (g st : Addr) (n : Int) (S : StL) (k : V) (c : Int), vs = [.ref g] ∧ RoAt C5 H g st n S k c ∧ 0 ≤ n ∧ n ≤ 1000000000000000000 ∧ S.length ≤ 24 ∧ Q (.str (roShow n S.length)) H
theorem small_log {i : Int} (h0 : 0 ≤ i) (h1 : i ≤ 1000000000000000000) : i.natAbs.log2 < 1920 := by
  have a : i.natAbs < 2 ^ 64 := by omega
  by_cases z : i.natAbs = 0
  · rw [z]
    decide
  · exact Nat.lt_trans ((Nat.log2_lt z).mpr a) (by decide)
section
variable {P : Program} {w : World} {K : PySem.W.Frag} {mg : Str → Option Value} {base : Heap} {C5 : Addr}
theorem ok_RoRepr {f : Addr} {fd : FuncData} (F : Fun K "__repr__" "Road.__repr__" s_Ro_repr f fd) (TRo_ : RoT K mg C5) (B : Bn mg) : FnOk P w K mg base CX0 1 f fd P_Ro_repr (spRoRepr C5) := by
  refine F.ok sc_Ro_repr (fun vs H Q E h => ?_) (fun cdv A outer s H vs Q E hr h => ?_)
  · obtain ⟨g, st, n, S, k, c, rfl, _⟩ := h
    rfl
  · obtain ⟨g, st, n, S, k, c, rfl, fa, n0, n1, hl, qq⟩ := h
    refine ⟨_, (pss_one (ps_ret (pe_joined (.cons pe_str (.cons (pe_fmt (pe_fld (pv 0) rfl)) (.cons pe_str (.cons (pe_fmt (pe_callB call_lenDk (by rfl) B.len (by decide +kernel) (pa_cons (pe_fld (pv 0) rfl) pa_nil))) (.cons pe_str .nil)))))))), ?_⟩
    obtain ⟨⟨dx, ea⟩, kvs, es, sd⟩ := id fa
    have lnum : ∀ i : Int, 0 ≤ i → i < 10 ^ 20 → (Str.ofString (toString i)).length ≤ 20 := fun i h0 h1 => PyProof.Rows.toString_length_le h0 (by decide) h1
    have l1 := lnum n n0 (by omega)
    have l2 := lnum (S.length : Nat) (by omega) (by omega)
    have c1 : (Str.ofString "Road(").length = 5 := by decide
    have c2 : (Str.ofString " places, ").length = 9 := by decide
    have c3 : (Str.ofString " matings)").length = 9 := by decide
    have c0 : Str.empty.length = 0 := by decide
    have big : 100 ≤ sizeLine := by decide
    have lk := sd.length
    refine ⟨_, rfl, by simp only [Str.length_append]; omega, .ref g, rfl, g, C5, dx, _, .int n, rfl, ea, TRo_.cl, TRo_.nE, rfl, .inr ⟨n, rfl, small_log n0 n1, _, rfl, by simp only [Str.length_append]; omega, ?_⟩⟩
    refine ⟨_, rfl, by simp only [Str.length_append]; omega, .ref g, rfl, g, C5, dx, _, .ref st, rfl, ea, TRo_.cl, TRo_.nS, rfl, st, kvs, rfl, es, .inr ⟨_, rfl, small_log (by omega) (by omega), _, rfl, ?_, ?_⟩⟩
    · rw [lk]
      simp only [Str.length_append]
      omega
    · rw [lk]
      exact ⟨_, rfl, by simp only [Str.length_append]; omega, qq⟩
end
/-- repr(road) -/
def rReprRo (C5 : Addr) : List V → Hp → VK → Prop := fun xs H Q => ∃ (g st : Addr) (n : Int) (S : StL) (k : V) (c : Int), xs = [.ref g] ∧ RoAt C5 H g st n S k c ∧ 0 ≤ n ∧ n ≤ 1000000000000000000 ∧ S.length ≤ 24 ∧ Q (.str (roShow n S.length)) H
section
variable {X : Cx} {C5 f : Addr} {fd : FuncData} {n : Nat}
theorem call_reprRo_ (cl : Cls X.K C5) (M : Meth X.K C5 "__repr__" f) (F : FnOk X.prog X.w X.K X.mg X.base CX0 n f fd P_Ro_repr (spRoRepr C5)) (hr : Room (n + 1) X.A) (hb : Binds X.K fd P_Ro_repr []) : CallR X (.builtin "repr") (rReprRo C5) := by
  intro pins s σ H xs us Q I r hq
  obtain ⟨g, st, m0, S, k, c, rfl, ra, n0, n1, hl, q⟩ := hq
  cases r with
  | cons r rr =>
  cases rr
  cases r
  obtain ⟨⟨dx, ha⟩, _⟩ := id ra
  obtain ⟨mA, J, _⟩ := ins_get I.hok ha
  obtain ⟨od, J, _⟩ := J.look
  obtain ⟨m, hF⟩ := I.fr
  have r1 := hr.in1
  have hsp : spRoRepr C5 [.ref g] H (fun v H' => v = .str (roShow m0 S.length) ∧ H' = H) E0 := ⟨g, st, m0, S, k, c, rfl, ra, n0, n1, hl, rfl, rfl⟩
  have r2 : Vals [V.ref g] [Value.ref g] := .cons rfl .nil
  have e0 : Env0 X.prog X.w X.K X.mg X.base X.A.in1 X.stack s H := by
    have e := I.env0
    exact ⟨e.frames, e.mod, e.bs, e.bsz, e.funs, e.frf, e.hok, e.bare⟩
  refine PySem.W.repr_K r1.units0 hF I.ok.mod.kin J M.at_ M.fn (wpAny_mono (wpAny_call (codeAny_mono (F.run X.A.in1 X.stack s H ⟨[.ref g], []⟩ [.ref g] [.ref g] _ E0 r1 e0 (by
    have := hb s [.ref g] I.kIn rfl
    simpa using this) r2 hsp) fun r s' hq => ?_)) (fun r s' z => z) fun _ _ e => e)
  cases r with
  | error e => exact pass0 pins σ H s e s' I hq
  | ok fl =>
    cases fl with
    | ret z =>
      obtain ⟨z, H', I', rz, ez, eh⟩ := I.after hq
      subst ez
      subst eh
      obtain ⟨tk, rfl⟩ := rz
      exact ⟨.str _, _, I', ⟨tk, rfl⟩, q⟩
    | next => exact False.elim hq
    | brk => exact False.elim hq
    | cont => exact False.elim hq
end

/-! ### y in d, y an int, a text or a truth (a truth is found as 0 or 1) -/
section
open PySem.Spec PyProof.Rows PpSet
def wideIs : Key → Value → Bool
  | .inl k, .bool b => decide (k = b2 b)
  | k, v => keyIs k v
theorem wideIs_shape {k : Key} {v : Value} (h : wideIs k v = true) : keyIs k v = true ∨ ∃ b, v = .bool b ∧ k = Sum.inl (b2 b) := by
  cases k with
  | inl i =>
    cases v with
    | bool b => exact .inr ⟨b, rfl, congrArg Sum.inl (of_decide_eq_true h)⟩
    | _ => exact .inl h
  | inr x => exact .inl h
theorem wideIs_of {k : Key} {v : Value} (h : keyIs k v = true) : wideIs k v = true := by
  rcases keyIs_shape h with ⟨i, t, rfl, rfl⟩ | ⟨x, t, rfl, rfl⟩ <;> exact h
theorem wide_eq {k k2 : Key} {v : Value} (h : keyIs k2 v = true) : wideIs k v = keyIs k v := by
  rcases keyIs_shape h with ⟨i, t, rfl, rfl⟩ | ⟨x, t, rfl, rfl⟩
  · cases k <;> rfl
  · cases k <;> rfl
def wideKind (prog : Program) (w : World) : PySem.KeyKind prog w Key where
  is := wideIs
  hash := keyH w
  inj := fun v a b ha hb => by
    rcases wideIs_shape ha with ha | ⟨x, rfl, rfl⟩
    · rcases wideIs_shape hb with hb | ⟨y, rfl, rfl⟩
      · exact (mixKind prog w).inj v a b ha hb
      · rcases keyIs_shape ha with ⟨i, t, rfl, e⟩ | ⟨x, t, rfl, e⟩ <;> exact nomatch e
    · rcases wideIs_shape hb with hb | ⟨y, e, rfl⟩
      · rcases keyIs_shape hb with ⟨i, t, rfl, e⟩ | ⟨x, t, rfl, e⟩ <;> exact nomatch e
      · rw [Value.bool.inj e]
  byValue := fun k v h => by
    rcases wideIs_shape h with h | ⟨b, rfl, rfl⟩
    · exact (mixKind prog w).byValue k v h
    · rfl
  pyHash := fun hv h => by
    rcases wideIs_shape hv with hv | ⟨b, rfl, rfl⟩
    · exact (mixKind prog w).pyHash hv h
    · exact pyHash_bool h
  eqBool := fun {A E s a b u v Q} hu hv h => by
    rcases wideIs_shape hu with hu | ⟨x, rfl, rfl⟩
    · rcases wideIs_shape hv with hv | ⟨y, rfl, rfl⟩
      · exact (mixKind prog w).eqBool hu hv h
      · rcases keyIs_shape hu with ⟨i, t, rfl, rfl⟩ | ⟨z, t, rfl, rfl⟩
        · refine eqAt_V (y := .int i) (x := .bl y) (u := .int i t) (v := .bool y) ⟨t, rfl⟩ rfl rfl rfl _ _ _ _ ?_
          have e : eqV (.int i) (.bl y) = decide ((Sum.inl i : Key) = Sum.inl (b2 y)) := by rw [key_ll]; cases y <;> rfl
          rw [e]
          exact h
        · refine eqAt_V (y := .str z) (x := .bl y) (u := .str z t) (v := .bool y) ⟨t, rfl⟩ rfl rfl rfl _ _ _ _ ?_
          have e : eqV (.str z) (.bl y) = decide ((Sum.inr z : Key) = Sum.inl (b2 y)) := by rw [key_rl]; rfl
          rw [e]
          exact h
    · rcases wideIs_shape hv with hv | ⟨y, rfl, rfl⟩
      · rcases keyIs_shape hv with ⟨i, t, rfl, rfl⟩ | ⟨z, t, rfl, rfl⟩
        · refine eqAt_V (y := .bl x) (x := .int i) (u := .bool x) (v := .int i t) rfl ⟨t, rfl⟩ rfl rfl _ _ _ _ ?_
          have e : eqV (.bl x) (.int i) = decide ((Sum.inl (b2 x) : Key) = Sum.inl i) := by rw [key_ll]; cases x <;> rfl
          rw [e]
          exact h
        · refine eqAt_V (y := .bl x) (x := .str z) (u := .bool x) (v := .str z t) rfl ⟨t, rfl⟩ rfl rfl _ _ _ _ ?_
          have e : eqV (.bl x) (.str z) = decide ((Sum.inl (b2 x) : Key) = Sum.inr z) := by rw [key_lr]; rfl
          rw [e]
          exact h
      · refine eqAt_V (y := .bl x) (x := .bl y) (u := .bool x) (v := .bool y) rfl rfl rfl rfl _ _ _ _ ?_
        have e : eqV (.bl x) (.bl y) = decide ((Sum.inl (b2 x) : Key) = Sum.inl (b2 y)) := by rw [key_ll]; cases x <;> cases y <;> rfl
        rw [e]
        exact h
  «strs» := fun k x t v h => by
    rcases wideIs_shape h with h | ⟨b, e, _⟩
    · have e := (mixKind prog w).strs k x t v h
      rcases keyIs_shape h with ⟨i, u, rfl, e2⟩ | ⟨y, u, rfl, e2⟩
      · exact nomatch e2
      · exact e
    · exact nomatch e
theorem map_wide {P : Program} {w : World} {h : Heap} {a : Addr} {f : Key → Option Value} (m : h.MapOf (mixKind P w) a f) : h.MapOf (wideKind P w) a f := by
  obtain ⟨o, es, ep, ho, ex, hd, ks, hf⟩ := m
  refine ⟨o, es, ep, ho, ex, hd, fun e he => ?_, fun k => ?_⟩
  · obtain ⟨k, h1, h2⟩ := ks e he
    exact ⟨k, wideIs_of h1, h2⟩
  · rw [← hf k]
    unfold findBy
    congr 1
    obtain ⟨l⟩ := es
    have all : ∀ e ∈ l, wideIs k e.key = keyIs k e.key := fun e he => by
      obtain ⟨k2, h1, _⟩ := ks e (by simpa using he)
      exact wide_eq h1
    simp only [List.find?_toArray]
    clear ks hf hd
    show l.find? (fun e => wideIs k e.key) = l.find? (fun e => keyIs k e.key)
    induction l with
    | nil => rfl
    | cons e r ih =>
      rw [List.find?_cons, List.find?_cons, all e List.mem_cons_self, ih fun x hx => all x (List.mem_cons_of_mem _ hx)]
def keyB : V → Option Key
  | .int i => some (.inl i)
  | .bl b => some (.inl (b2 b))
  | .str x => some (.inr x)
  | _ => none
theorem keyB_is {y : V} {k : Key} {u : Value} (h : keyB y = some k) (r : RelV y u) : wideIs k u = true := by
  cases y with
  | int i =>
    cases h
    obtain ⟨t, rfl⟩ := r
    exact keyIs_int i t
  | bl b =>
    cases h
    cases (show u = .bool b from r)
    exact decide_eq_true rfl
  | str x =>
    cases h
    obtain ⟨t, rfl⟩ := r
    exact keyIs_str x t
  | _ => cases h
def tDInB (ty td : TE) : TE := fun σ H Q => ty σ H fun y H1 => td σ H1 fun x H2 => ∃ a kvs k, x = .ref a ∧ H2 a = some (.dK kvs) ∧ keyB y = some k ∧ Q (.bl (valV kvs k).isSome) H2
theorem pc_dinB {X : Cx} {i o : Expr} {ty td : TE} (hi : PE X i ty) (ho : PE X o td) : PC X .In i o (tDInB ty td) := by
  refine ⟨fun pins s σ H Q I h => ?_⟩
  refine thn (hi.run pins s σ H _ I h) fun iv s1 ⟨y, H1, I1, ry, q1⟩ => thn (ho.run pins s1 σ H1 _ I1 q1) fun u s2 ⟨x, H2, I2, rx, a, kvs, k, ex, e, ky, q2⟩ => ?_
  subst ex
  obtain rfl : u = Value.ref a := rx
  obtain ⟨_, hd, vs, rel, dd⟩ := dk_of I2.hok e
  refine wpAny_in_of (knd := wideKind X.prog X.w) (keyB_is ky ry) hd (map_wide dd.mapOf) ?_
  rw [← (rel.val k).isSome_eq]
  exact ⟨.bl (valV kvs k).isSome, H2, I2.tok _, rfl, q2⟩
end

/-! ### max of a tuple of ints -/
section
open PySem.Spec PyProof.Rows
variable {prog : Program} {w : World} {A : Around} {E : Value → Shared → Prop} {s : Shared} {l : Addr}
theorem iter_tup {its : Array Value} {Q : Value → Shared → Prop} (hl : s.heap.IsTuple l its)
    (h : ∀ s₂ : Shared, s₂ = { s with heap := s.heap.push { cls := .type "tuple_iterator", data := .fields #[.ref l, .int 0 0] } } →
      (s₂.heap.IsTupleIter s.heap.objs.size l 0 ∧ s₂.heap.IsTuple l its) → (∀ b ∈ [s.heap.objs.size, l], b < s₂.heap.objs.size) → l ≠ s.heap.objs.size → Q (.ref s.heap.objs.size) s₂) :
    wpAny (model prog w) A (pyIter (.ref l)) Q E s := by
  have hlt : l < s.heap.objs.size := by obtain ⟨_, e, _⟩ := hl; exact Heap.lt_size e
  refine wpAny_pyIter_tuple hl (h _ rfl ⟨⟨_, Heap.get?_push_size _ rfl, rfl, rfl⟩, hl.push _⟩ (fun b hb => ?_) (Nat.ne_of_lt hlt))
  show b < (s.heap.push _).objs.size
  rw [Heap.size_push]
  rcases List.mem_cons.mp hb with rfl | hb
  · exact Nat.lt_succ_self _
  · rcases List.mem_cons.mp hb with rfl | hb
    · exact Nat.lt_succ_of_lt hlt
    · cases hb
theorem kept_old {ob : Obj} {h' : Heap} (hk : ∀ b o, b ∉ [s.heap.objs.size] → (s.heap.push ob).get? b = some o → h'.get? b = some o) :
    ∀ b o, s.heap.get? b = some o → h'.get? b = some o := fun b o e => by
  refine hk b o (fun hm => ?_) (Heap.get?_push_of_some _ e)
  rcases List.mem_cons.mp hm with e1 | hm
  · exact absurd (e1 ▸ Heap.lt_size e) (Nat.lt_irrefl _)
  · cases hm
theorem max_tupInts {xs : Array (Int × Tok)} {Q : Value → Shared → Prop} (hh : A.handled = none) (hl : s.heap.IsTuple l (intItems xs)) (hne : 0 < xs.size)
    (h : ∀ v h' tk, (intItems xs)[argBest (fun i j => decide (numAt xs i > numAt xs j)) (xs.size - 1)]? = some v → (∀ b o, s.heap.get? b = some o → h'.get? b = some o) → Q v { s with heap := h', toks := tk }) :
    wpAny (model prog w) A (call (.builtin "max") [.ref l]) Q E s := by
  refine call_max_walk (iter_tup hl fun s₂ e st hfp hlI => ?_)
  subst e
  refine ⟨_, _, _, _, _, _, _, rfl, Walks.tuple (A := A.in1) hh _ l hlI (intItems xs), st, hfp, by simpa [intItems] using hne, CmpOf.ints_gt (numAt xs) (fun _ _ => intItems_at), fun v h' tk hP hk => ?_⟩
  exact h v h' tk (by simpa [intItems] using hP) (kept_old hk)
theorem max_rawT {its : List Value} {ns : List Int} {Q : Value → Shared → Prop} (hh : A.handled = none) (hl : s.heap.IsTuple l its.toArray) (hi : IntsAre its ns) (hne : 0 < ns.length)
    (h : ∀ h' tk M t', (∀ b o, s.heap.get? b = some o → h'.get? b = some o) → M ∈ ns → (∀ a, a ∈ ns → a ≤ M) → Q (.int M t') { s with heap := h', toks := tk }) : wpAny (model prog w) A (call (.builtin "max") [.ref l]) Q E s := by
  obtain ⟨xs, e⟩ := hi.allInts.items
  have hn : numsOf (intItems xs).toList = ns := by rw [← e]; exact hi.numsOf
  rw [nums_intItems] at hn
  subst hn
  rw [e] at hl
  have hsz : 0 < xs.size := by simpa using hne
  refine max_tupInts hh hl hsz fun v h' tk hv hk => ?_
  obtain ⟨t, rfl⟩ := intItems_at hv
  obtain ⟨h1, h2⟩ := argBest_gt (numAt xs) (xs.size - 1)
  refine h h' tk _ t hk ?_ fun a ha => ?_
  · rw [numAt_eq]; exact PySem.getD_mem (by rw [List.length_map, Array.length_toList]; omega)
  · obtain ⟨j, hj, rfl⟩ := mem_getD ha
    rw [List.length_map, Array.length_toList] at hj
    rw [← numAt_eq]; exact h2 j (by omega)
end
def rMaxT (K : PySem.W.Frag) : List V → Hp → VK → Prop := fun vs H Q => ∃ (a : Addr) (ns : List Int), vs = [V.ref a] ∧ SqT K H a (ns.map V.int) ∧ 0 < ns.length ∧ ∀ m, m ∈ ns → (∀ y, y ∈ ns → y ≤ m) → Q (.int m) H
theorem cr_maxT {X : Cx} (hc : X.calm = true) : CallR X (.builtin "max") (rMaxT X.K) := by
  intro pins s σ H vs us Q I r h
  obtain ⟨a, ns, rfl, hs, hne, q⟩ := h
  obtain ⟨its, rv, hl, _⟩ := I.tuple hs
  rw [Vals.ref1 r]
  exact max_rawT (I.ok.hd hc) hl rv.ints hne fun h' tk m t' hk h1 h2 => ⟨.int _, H, I.kept hk, ⟨_, rfl⟩, q m h1 h2⟩

/-! ### min of a tuple of ints, max of a dict with int keys -/
section
open PySem.Spec PyProof.Rows
variable {prog : Program} {w : World} {A : Around} {E : Value → Shared → Prop} {s : Shared} {l : Addr}
theorem min_rawT {its : List Value} {ns : List Int} {Q : Value → Shared → Prop} (hh : A.handled = none) (hl : s.heap.IsTuple l its.toArray) (hi : IntsAre its ns) (hne : 0 < ns.length)
    (h : ∀ h' tk M t', (∀ b o, s.heap.get? b = some o → h'.get? b = some o) → M ∈ ns → (∀ a, a ∈ ns → M ≤ a) → Q (.int M t') { s with heap := h', toks := tk }) : wpAny (model prog w) A (call (.builtin "min") [.ref l]) Q E s := by
  obtain ⟨xs, e⟩ := hi.allInts.items
  have hn : numsOf (intItems xs).toList = ns := by rw [← e]; exact hi.numsOf
  rw [nums_intItems] at hn
  subst hn
  rw [e] at hl
  have hsz : 0 < xs.size := by simpa using hne
  refine call_min_walk (iter_tup hl fun s2 z st hfp hI => ?_)
  subst z
  refine ⟨_, _, _, _, _, _, _, rfl, Walks.tuple (A := A.in1) hh _ l hI (intItems xs), st, hfp, by simpa [intItems] using hsz, CmpOf.ints_lt (numAt xs) (fun _ _ => intItems_at), fun v h' tk hP hk => ?_⟩
  have hv : (intItems xs)[argBest (fun i j => decide (numAt xs i < numAt xs j)) (xs.size - 1)]? = some v := by simpa [intItems] using hP
  obtain ⟨t, rfl⟩ := intItems_at hv
  obtain ⟨c1, c2⟩ := argBest_lt (numAt xs) (xs.size - 1)
  refine h h' tk _ t (kept_old hk) ?_ fun a ha => ?_
  · rw [numAt_eq]
    exact PySem.getD_mem (by rw [List.length_map, Array.length_toList]; omega)
  · obtain ⟨j, hj, rfl⟩ := mem_getD ha
    rw [List.length_map, Array.length_toList] at hj
    rw [← numAt_eq]
    exact c2 j (by omega)
end
def rMinT (K : PySem.W.Frag) : List V → Hp → VK → Prop := fun vs H Q => ∃ (a : Addr) (ns : List Int), vs = [V.ref a] ∧ SqT K H a (ns.map V.int) ∧ 0 < ns.length ∧ ∀ m, m ∈ ns → (∀ y, y ∈ ns → m ≤ y) → Q (.int m) H
theorem cr_minT {X : Cx} (hc : X.calm = true) : CallR X (.builtin "min") (rMinT X.K) := by
  intro pins s σ H vs us Q I r h
  obtain ⟨a, ns, rfl, hs, hne, q⟩ := h
  obtain ⟨its, rv, hl, _⟩ := I.tuple hs
  rw [Vals.ref1 r]
  exact min_rawT (I.ok.hd hc) hl rv.ints hne fun h' tk m t' hk h1 h2 => ⟨.int _, H, I.kept hk, ⟨_, rfl⟩, q m h1 h2⟩
section
open PySem.Spec PyProof.Rows
def rMaxDk : List V → Hp → VK → Prop := fun vs H Q => ∃ (a : Addr) (kvs : List (Key × V)) (js : List Int), vs = [V.ref a] ∧ H a = some (.dK kvs) ∧ kvs.map (·.1) = js.map Sum.inl ∧ js ≠ [] ∧ ∀ m, m ∈ js → (∀ y ∈ js, y ≤ m) → Q (.int m) H
theorem cr_maxDk {X : Cx} (hc : X.calm = true) : CallR X (.builtin "max") rMaxDk := by
  intro pins s σ H vs us Q I r h
  obtain ⟨a, kvs, js, rfl, ea, ek, ne, q⟩ := h
  rw [Vals.ref1 r]
  obtain ⟨_, hsys, ws, rel, dd⟩ := dk_of I.hok ea
  obtain ⟨ep, at_⟩ := dd.dictAt
  obtain ⟨ob, es, ho, _, _, _, _, _⟩ := id at_
  have la : a < s.heap.objs.size := Heap.lt_size ho
  have keys : ws.map (·.1) = js.map Sum.inl := (KV.keys rel).symm.trans ek
  have lw : ws.length = js.length := by simpa using congrArg List.length keys
  have lj : 0 < js.length := List.length_pos_iff.mpr ne
  have num : ∀ (i : Nat) (v : Value), (∃ k x, ws[i]? = some (k, x) ∧ (mixKind X.prog X.w).is k v = true) → ∃ t, v = Value.int (js.getD i 0) t := fun i v ⟨k, x, hk, hv⟩ => by
    have z : (js.map (Sum.inl : Int → Key))[i]? = some k := by rw [← keys, List.getElem?_map, hk]; rfl
    rw [List.getElem?_map] at z
    obtain ⟨j, hj, ej⟩ := Option.map_eq_some_iff.mp z
    subst ej
    obtain ⟨t, ev⟩ := Value.isInt_shape (k := j) (v := v) hv
    exact ⟨t, by rw [ev, List.getD_eq_getElem?_getD, hj]; rfl⟩
  refine call_max_walk (wpAny_pyIter_dict (knd := mixKind X.prog X.w) hsys at_ ?_)
  refine ⟨_, _, _, _, _, _, _, rfl, Walks.dictKeys (knd := mixKind X.prog X.w) (A := X.A.in1) (I.ok.hd hc) s.heap.objs.size a (Nat.ne_of_lt la) ws ep,
    ⟨⟨_, Heap.get?_push_size _ rfl, rfl, rfl⟩, at_.keep fun b u e => Heap.get?_push_of_some _ e⟩, fun b hb => ?_, by omega, CmpOf.ints_gt (fun i => js.getD i 0) num, fun v h' tk hP hk => ?_⟩
  · have hb : b = s.heap.objs.size ∨ b = a := by simpa using hb
    refine Nat.lt_of_lt_of_eq (m := s.heap.objs.size + 1) ?_ (Heap.size_push _ _).symm
    rcases hb with z | z
    · rw [z]
      exact Nat.lt_succ_self _
    · rw [z]
      exact Nat.lt_succ_of_lt la
  · obtain ⟨t, rfl⟩ := num _ v hP
    obtain ⟨c1, c2⟩ := argBest_gt (fun i => js.getD i 0) (ws.length - 1)
    refine ⟨.int _, H, I.kept (t' := tk) (kept_old hk), ⟨t, rfl⟩, q _ (PySem.getD_mem (by omega)) fun y hy => ?_⟩
    obtain ⟨i, hi, e⟩ := List.mem_iff_getElem.mp hy
    have e2 : js.getD i 0 = y := by rw [List.getD_eq_getElem?_getD, List.getElem?_eq_getElem hi, ← e]; rfl
    rw [← e2]
    exact c2 i (by omega)
end

/-! ### the two lambdas of _law_deed, called (behind cl2_deed) -/
section
open PySem.Spec PyProof.Rows LamX NdefX
variable {P : Program} {w : World} {K : PySem.W.Frag} {mg : Str → Option Value} {base : Heap} {C5 fMt f c g : Addr} {fdMt : FuncData} {dsM : List Value} {sp : Sp} {H : Hp} {cl : List (Str × Addr)} {o p m t : V} {Q : VK} {E : XK}
theorem ask_one {g0 : List Value → List Value → List Value} (TRo_ : RoT K mg C5) (M : Meth K C5 "mate" fMt) (G : FnOk P w K mg base (L2.CX P w) 7 fMt fdMt P_Ro_mate sp) (b : Binds K fdMt P_Ro_mate dsM) (dv : Vals [.int 0] dsM)
    (hf : H f = some (LamO f (dF1 cl c))) (hc : H c = some (CodeO c deedQ)) (C : CellsT cl dFr1 [m, o, p, .ref g] H) {dx : Addr} {fs : List (Str × V)} (eg : offC (clA cl) H g = some (.ins C5 dx fs)) (nl : fs.lookup ("mate" : Str) = none)
    (h : sp [.ref g, o, p, m, .int 0] (offC (clA cl) H) (fun v H1 => (∀ b ∈ clA cl, H1 b = none) → Q v (backC (clA cl) H H1)) (fun cls d H1 => (∀ b ∈ clA cl, H1 b = none) → E cls d (backC (clA cl) H H1))) : CloRuns P w K mg base (L2.CX P w) 9 f H Q E := by
  refine clo_run (N := dFr1) (k := 8) (F := dF1 cl c) (show NScope dFr1 [] dFr1 (lamS dE1) from nscope_by (by decide +kernel)) hf hc C (fun _ _ => rfl) (fun A outer s hr =>
    pe_meth (pe_var (i := 3) rfl (.inr (.inr rfl))) TRo_.cl M G (hr.mono (by omega)) b dv (passes_call (takes_of rfl rfl rfl rfl) fun _ _ _ _ h => h) (pa_cons (pe_var (i := 1) rfl (.inr (.inr rfl))) (pa_cons (pe_var (i := 2) rfl (.inr (.inr rfl))) (pa_cons (pe_var (i := 0) rfl (.inr (.inr rfl))) pa_nil)))) ?_
  exact ⟨.ref g, rfl, g, dx, fs, rfl, eg, nl, o, rfl, p, rfl, m, rfl, h⟩
theorem ask_two (TRo_ : RoT K mg C5) (M : Meth K C5 "mate" fMt) (G : FnOk P w K mg base (L2.CX P w) 7 fMt fdMt P_Ro_mate sp) {g0 : List Value → List Value → List Value} (kb : KBn K fdMt P_Ro_mate 4 ["turned"] g0 (fun vs zs => vs ++ zs))
    (hf : H f = some (LamO f (dF2 cl c))) (hc : H c = some (CodeO c deedQ)) (C : CellsT cl dFr2 [t, m, o, p, .ref g] H) {dx : Addr} {fs : List (Str × V)} (eg : offC (clA cl) H g = some (.ins C5 dx fs)) (nl : fs.lookup ("mate" : Str) = none)
    (h : sp [.ref g, o, p, m, t] (offC (clA cl) H) (fun v H1 => (∀ b ∈ clA cl, H1 b = none) → Q v (backC (clA cl) H H1)) (fun cls d H1 => (∀ b ∈ clA cl, H1 b = none) → E cls d (backC (clA cl) H H1))) : CloRuns P w K mg base (L2.CX P w) 9 f H Q E := by
  refine clo_run (N := dFr2) (k := 8) (F := dF2 cl c) (show NScope dFr2 [] dFr2 (lamS dE2) from nscope_by (by decide +kernel)) hf hc C (fun _ _ => rfl) (fun A outer s hr =>
    pe_methK (pe_var (i := 4) rfl (.inr (.inr rfl))) TRo_.cl M G (hr.mono (by omega)) kb (passes_call (takes_of rfl rfl rfl rfl) fun _ _ _ _ h => h) (pa_cons (pe_var (i := 2) rfl (.inr (.inr rfl))) (pa_cons (pe_var (i := 3) rfl (.inr (.inr rfl))) (pa_cons (pe_var (i := 1) rfl (.inr (.inr rfl))) pa_nil))) (pk_cons (pe_var (i := 0) rfl (.inr (.inr rfl))) pk_nil)) ?_
  exact ⟨.ref g, rfl, g, dx, fs, rfl, eg, nl, o, rfl, p, rfl, m, rfl, t, rfl, rfl, rfl, h⟩
end
/-- x() inside a lambda: the reading speaks of nothing of its frame -/
theorem pe_cloK {X : Cx} {P : Program} {w : World} {K : PySem.W.Frag} {mg : Str → Option Value} {base : Heap} {k j i : Nat} {x : Str} {E : XK} {p pos : Pos} (e1 : X.prog = P) (e2 : X.w = w) (e3 : X.K = K) (e4 : X.mg = mg) (e5 : X.base = base)
    (hr : Room j X.A) (hk : k ≤ j) (hx : Passes (L2.CX P w) X E) (hN : X.N[i]? = some x) (hv : Vis X.env.scope x)
    (hd : (x == ("__debug__" : Str)) = false := by decide) (hcd : (x == ("__classdict__" : Str)) = false := by decide) : PE X (.Call (.Name x p) [] [] pos) (tClo P w K mg base (L2.CX P w) k i E) := by
  subst e1 e2 e3 e4 e5
  exact pe_clo hr hk hx hN hv hd hcd

section
open PySem.Spec PyProof.Rows LamX NdefX
variable {P : Program} {w : World} {K : PySem.W.Frag} {mg : Str → Option Value} {base : Heap} {C5 fMt f c g : Addr} {fdMt : FuncData} {dsM : List Value} {sp : Sp} {H : Hp} {cl : List (Str × Addr)} {o p m t : V} {Q : VK} {E : XK}
/-- either lambda of _law_deed, called -/
theorem ask_any {g0 : List Value → List Value → List Value} (TRo_ : RoT K mg C5) (M : Meth K C5 "mate" fMt) (G : FnOk P w K mg base (L2.CX P w) 7 fMt fdMt P_Ro_mate sp) (b : Binds K fdMt P_Ro_mate dsM) (dv : Vals [.int 0] dsM) (kb : KBn K fdMt P_Ro_mate 4 ["turned"] g0 (fun vs zs => vs ++ zs))
    (alt : (t = .int 0 ∧ H f = some (LamO f (dF1 cl c)) ∧ CellsT cl dFr1 [m, o, p, .ref g] H) ∨ (H f = some (LamO f (dF2 cl c)) ∧ CellsT cl dFr2 [t, m, o, p, .ref g] H)) (hc : H c = some (CodeO c deedQ)) {dx : Addr} {fs : List (Str × V)} (eg : offC (clA cl) H g = some (.ins C5 dx fs)) (nl : fs.lookup ("mate" : Str) = none)
    (h : sp [.ref g, o, p, m, t] (offC (clA cl) H) (fun v H1 => (∀ b ∈ clA cl, H1 b = none) → Q v (backC (clA cl) H H1)) (fun cls d H1 => (∀ b ∈ clA cl, H1 b = none) → E cls d (backC (clA cl) H H1))) : ∃ F, H f = some (LamO f F) ∧ CloRuns P w K mg base (L2.CX P w) 9 f H Q E := by
  rcases alt with ⟨rfl, h1, h2⟩ | ⟨h1, h2⟩
  · exact ⟨_, h1, ask_one (g0 := g0) TRo_ M G b dv h1 hc h2 eg nl h⟩
  · exact ⟨_, h1, ask_two TRo_ M G kb h1 hc h2 eg nl h⟩
theorem ask_cells (alt : (t = .int 0 ∧ H f = some (LamO f (dF1 cl c)) ∧ CellsT cl dFr1 [m, o, p, .ref g] H) ∨ (H f = some (LamO f (dF2 cl c)) ∧ CellsT cl dFr2 [t, m, o, p, .ref g] H)) : AllC (clA cl) H := by
  rcases alt with ⟨_, _, h2⟩ | ⟨_, h2⟩
  · exact h2.allC
  · exact h2.allC
theorem CellsT.keep {fr : List Str} {ws : List V} {H' : Hp} (h : CellsT cl fr ws H) (k : ∀ b u, H b = some (CellO b u) → H' b = some (CellO b u)) : CellsT cl fr ws H' :=
  ⟨h.len, fun p hp => (h.all p hp).imp fun u e => k _ _ e, h.inj, fun i y v h1 h2 => by
    obtain ⟨c, u, a, b, e⟩ := h.has i y v h1 h2
    exact ⟨c, u, a, b, k _ _ e⟩⟩
/-- the road without the cells -/
theorem RoAt.off {cs : List Addr} {st : Addr} {n : Int} {S : StL} {k : V} {cc : Int} (x : AllC cs H) (h : RoAt C5 H g st n S k cc) : RoAt C5 (offC cs H) g st n S k cc := by
  obtain ⟨⟨dx, e⟩, kvs, e1, e2⟩ := h
  exact ⟨⟨dx, (x.offE e fun u z => by unfold CellO at z; cases z).2⟩, kvs, (x.offE e1 fun u z => by unfold CellO at z; cases z).2, e2.keep fun b xs hb => (x.offE hb fun u z => by unfold CellO at z; cases z).2⟩
theorem RoAt.back {H1 : Hp} {cs : List Addr} {st : Addr} {n : Int} {S : StL} {k : V} {cc : Int} (n1 : ∀ b ∈ cs, H1 b = none) (h : RoAt C5 H1 g st n S k cc) : RoAt C5 (backC cs H H1) g st n S k cc := by
  have out : ∀ {b : Addr} {o : HO}, H1 b = some o → backC cs H H1 b = some o := fun {b o} e => by
    rw [backC_out fun z => ?_]
    · exact e
    · rw [n1 b z] at e
      cases e
  obtain ⟨⟨dx, e⟩, kvs, e1, e2⟩ := h
  exact ⟨⟨dx, out e⟩, kvs, out e1, e2.keep fun b xs hb => out hb⟩
theorem keep_back {H1 : Hp} {cs : List Addr} (k : Keep g (offC cs H) H1) : Keep g H (backC cs H H1) := fun b o nb hb => by
  by_cases z : b ∈ cs
  · rw [backC_in z]
    exact hb
  · rw [backC_out z]
    exact k b o nb (by rw [offC_out z]; exact hb)
theorem same_back {H1 : Hp} {cs : List Addr} (k : Same (offC cs H) H1) : Same H (backC cs H H1) := fun b o hb => by
  by_cases z : b ∈ cs
  · rw [backC_in z]
    exact hb
  · rw [backC_out z]
    exact k b o (by rw [offC_out z]; exact hb)
theorem back_at {H1 : Hp} {cs : List Addr} (n1 : ∀ b ∈ cs, H1 b = none) {b : Addr} {o : HO} (e : H1 b = some o) : backC cs H H1 b = some o := by
  rw [backC_out fun z => ?_]
  · exact e
  · rw [n1 b z] at e
    cases e
end

/-! ### what stands through the law: the drawing, its tables, the road and the dict of what is held -/
def KeepO (H H' : Hp) : Prop := ∀ b o, H b = some o → (∀ xs, o ≠ .lst xs) → (∀ ps, o ≠ .tbl ps) → H' b = some o
theorem KeepO.trans {H H1 H2 : Hp} (a : KeepO H H1) (b : KeepO H1 H2) : KeepO H H2 := fun c o h n m => b c o (a c o h n m) n m
theorem KeepO.same {H H' : Hp} (s : Same H H') : KeepO H H' := fun b o h _ _ => s b o h
theorem KeepO.extN {H H' : Hp} (s : LamX.ExtN H H') : KeepO H H' := fun b o h _ n => s b o h n
theorem KeepO.lst {H H' : Hp} {d : Addr} {xs : List V} (e : H d = some (.lst xs)) (k : Keep d H H') : KeepO H H' := fun b o h n _ => k _ _ (fun z => by rw [z, e] at h; cases h; exact n _ rfl) h
theorem KeepO.draw {H H' : Hp} {d l : Addr} (D : Draw H d l) (k : Keep d H H') : KeepO H H' := by
  obtain ⟨ns, i, z, s, W⟩ := D
  exact .lst W.at_d k
theorem KeepO.tup {H H' : Hp} (k : KeepO H H') : KeepT H H' := fun b xs hb => k b _ hb (fun _ z => by cases z) (fun _ z => by cases z)
theorem RoAt.keepO {C5 : Addr} {H H' : Hp} {g st : Addr} {n : Int} {S : StL} {k : V} {c : Int} (h : RoAt C5 H g st n S k c) (s : KeepO H H') : RoAt C5 H' g st n S k c := by
  obtain ⟨⟨dx, e⟩, kvs, e1, e2⟩ := h
  exact ⟨⟨dx, s _ _ e (fun _ z => by cases z) (fun _ z => by cases z)⟩, kvs, s _ _ e1 (fun _ z => by cases z) (fun _ z => by cases z), e2.keep s.tup⟩
theorem tabs_not {T : List (Addr × Str)} {H H' : Hp} {g : Addr} {o : HO} (t : LamX.Tabs T H) (eg : H g = some o) (n1 : ∀ ps, o ≠ .tbl ps) (n2 : ∀ c q, o ≠ LamX.CodeO c q) (k : Keep g H H') : LamX.Tabs T H' := fun p hp => by
  obtain ⟨ps, h1, h2, h3⟩ := t p hp
  refine ⟨ps, k.of h1 (ne_of h1 eg (fun e => n1 _ e.symm)), h2, fun pos cv hc => ?_⟩
  obtain ⟨c, e1, e2⟩ := h3 pos cv hc
  exact ⟨c, e1, k.of e2 (ne_of e2 eg (fun e => n2 _ _ e.symm))⟩
theorem RoW.drop {n : Int} {S : StL} (h : RoW n S) (i : Int) : RoW n (sdrop S i) :=
  ⟨h.n0, h.n1, sdrop_keys h.up, fun s hs => h.low s (List.mem_filter.mp hs).1, Nat.le_trans (sdrop_length S i) h.len, fun s hs => h.ok s (List.mem_filter.mp hs).1⟩
theorem same_new {H : Hp} {x dx C : Addr} (nx : H x = none) (nd : H dx = none) : Same H (upd (upd H dx (.own x)) x (.ins C dx [])) := fun b o h => by
  rw [upd_ne (ne_of_none h nx), upd_ne (ne_of_none h nd)]
  exact h
theorem Std.ents30 {H : Hp} : ∀ {kvs : List (Key × V)} {S : StL}, Std H kvs S → ∃ ks : List (Int × Addr), kvs = ks.map entK ∧ Paired (fun (e : Int × Addr) (s : Int × M4) => e.1 = s.1 ∧ H e.2 = some (t4 s.2)) ks S
  | _, _, .nil => ⟨[], rfl, .nil⟩
  | _, _, .cons (a := kv) (b := s) ⟨h1, t, h2, h3⟩ r => by
    obtain ⟨ks, e, p⟩ := Std.ents30 r
    refine ⟨(s.1, t) :: ks, ?_, .cons ⟨rfl, h3⟩ p⟩
    rw [e, List.map_cons]
    congr 1
    exact Prod.ext h1 h2
theorem ents_keys30 {H : Hp} : ∀ {ks : List (Int × Addr)} {S : StL}, Paired (fun (e : Int × Addr) (s : Int × M4) => e.1 = s.1 ∧ H e.2 = some (t4 s.2)) ks S → ks.map (·.1) = S.map (·.1)
  | _, _, .nil => rfl
  | _, _, .cons h r => by rw [List.map_cons, List.map_cons, ents_keys30 r, h.1]
theorem ls_of {H H1 H5 : Hp} (k : Same H1 H5) : ∀ {as : List Addr} {ks : List (Int × Addr)}, Paired (fun (t : Addr) (e : Int × Addr) => H1 t = some (.tup [.int e.1, .ref e.2])) as ks → Same H1 H5 → ∀ {S : StL}, Paired (fun (e : Int × Addr) (s : Int × M4) => e.1 = s.1 ∧ H e.2 = some (t4 s.2)) ks S → Same H H5 → Ls H5 as S := by
  intro as ks pa
  induction pa with
  | nil =>
    intro _ S pk _
    cases pk
    exact .nil
  | cons h r ih =>
    intro _ S pk k2
    cases pk with
    | cons h2 r2 =>
      refine .cons ⟨_, ?_, k2 _ _ h2.2⟩ (ih k r2 k2)
      rw [← h2.1]
      exact k _ _ h
def sD (s : Int × M4) : PyData := .tuple [.int s.1, t4P s.2]
theorem Ls.rp30 {H : Hp} {m : Nat} : ∀ {us : List Addr} {S : StL}, Ls H us S → RpAll H (m + 2) (us.map V.ref) (S.map sD)
  | _, _, .nil => .nil _
  | _, _, .cons ⟨t, e1, e2⟩ r => .cons (.tup e1 (by show 2 ≤ 100000; decide) (.cons (.int _ _) (.cons (.tup e2 (by show 4 ≤ 100000; decide) (.cons (.int _ _) (.cons (.int _ _) (.cons (.int _ _) (.cons (.int _ _) (.nil _)))))) (.nil _)))) (Ls.rp30 r)
/-- the road's matings S, the held matings S2 -/
structure W28 (T : List (Addr × Str)) (C5 d l g h : Addr) (n : Int) (S S2 : StL) (G : Hp) : Prop where
  dr : Draw G d l
  tb : LamX.Tabs T G
  ro : ∃ st k c, RoAt C5 G g st n S k c ∧ st ≠ h
  wf : RoW n S
  hd : ∃ kvs, G h = some (.dK kvs) ∧ Std G kvs S2
section
variable {T : List (Addr × Str)} {C5 d l g h : Addr} {n : Int} {S S2 : StL} {G G' : Hp}
theorem W28.keepO (w : W28 T C5 d l g h n S S2 G) (D : Draw G' d l) (t : LamX.Tabs T G') (k : KeepO G G') : W28 T C5 d l g h n S S2 G' := by
  obtain ⟨st, k', c, r, ap⟩ := w.ro
  obtain ⟨kvs, e, s⟩ := w.hd
  exact ⟨D, t, ⟨st, k', c, r.keepO k, ap⟩, w.wf, kvs, k _ _ e (fun _ z => by cases z) (fun _ z => by cases z), s.keep k.tup⟩
theorem W28.same (w : W28 T C5 d l g h n S S2 G) (s : Same G G') : W28 T C5 d l g h n S S2 G' := w.keepO (w.dr.same s) (w.tb.ext s) (.same s)
theorem W28.draw (w : W28 T C5 d l g h n S S2 G) (D : Draw G' d l) (k : Keep d G G') : W28 T C5 d l g h n S S2 G' := w.keepO D (tabs_keep w.tb w.dr k) (.draw w.dr k)
theorem W28.ext (w : W28 T C5 d l g h n S S2 G) (s : LamX.ExtN G G') (t : LamX.Tabs T G') : W28 T C5 d l g h n S S2 G' := w.keepO (draw_extN w.dr s) t (.extN s)
theorem W28.lst (w : W28 T C5 d l g h n S S2 G) {r : Addr} {xs : List V} (e : G r = some (.lst xs)) (h1 : r ≠ d) (h2 : r ≠ l) (k : Keep r G G') : W28 T C5 d l g h n S S2 G' :=
  w.keepO (draw_keepR w.dr h1.symm h2.symm k) (tabs_not w.tb e (fun _ z => by cases z) (fun _ _ z => by unfold LamX.CodeO at z; cases z) k) (.lst e k)
theorem draw_ins {H H' : Hp} {o : HO} {r : Addr} (D : Draw H d l) (e : H r = some o) (n : ∀ xs, o ≠ .lst xs) (k : Keep r H H') : Draw H' d l := by
  obtain ⟨ns, i, z, s, W⟩ := id D
  exact draw_keepR D (ne_of W.at_d e fun z => n _ z.symm) (ne_of W.at_l e fun z => n _ z.symm) k
/-- the road has other matings -/
theorem W28.road (w : W28 T C5 d l g h n S S2 G) {S' : StL} {st' : Addr} {k' : V} {c' : Int} (r : RoAt C5 G' g st' n S' k' c') (ap : st' ≠ h) (wf : RoW n S') (k : Keep g G G') : W28 T C5 d l g h n S' S2 G' := by
  obtain ⟨st, _, _, ⟨⟨dx, eg⟩, _⟩, _⟩ := w.ro
  obtain ⟨kvs, e, s⟩ := w.hd
  exact ⟨draw_ins w.dr eg (fun _ z => by cases z) k, tabs_not w.tb eg (fun _ z => by cases z) (fun _ _ z => by unfold LamX.CodeO at z; cases z) k, ⟨st', k', c', r, ap⟩, wf, kvs, k.of e (ne_of e eg fun z => by cases z), s.keep fun b xs hb => k.of hb (ne_of hb eg fun z => by cases z)⟩
/-- other matings are held -/
theorem W28.held (w : W28 T C5 d l g h n S S2 G) {kvs' : List (Key × V)} {S' : StL} (e' : G' h = some (.dK kvs')) (s' : Std G kvs' S') (k : Keep h G G') : W28 T C5 d l g h n S S' G' := by
  obtain ⟨st, k0, c, r, ap⟩ := w.ro
  obtain ⟨kvs, e, s⟩ := w.hd
  obtain ⟨⟨dx, eg⟩, kv2, e2, s2⟩ := r
  have kt : KeepT G G' := fun b xs hb => k.of hb (ne_of hb e fun z => by cases z)
  exact ⟨draw_ins w.dr e (fun _ z => by cases z) k, tabs_not w.tb e (fun _ z => by cases z) (fun _ _ z => by unfold LamX.CodeO at z; cases z) k, ⟨st, k0, c, ⟨⟨dx, k.of eg (ne_of eg e fun z => by cases z)⟩, kv2, k.of e2 ap, s2.keep kt⟩, ap⟩, w.wf, kvs', e', s'.keep kt⟩
end
/-- the lambda that was given back, with its cells -/
structure AskAt (g fl cd : Addr) (q : Q4) (cl : List (Str × Addr)) (H : Hp) : Prop where
  alt : (q.2.2.2 = .int 0 ∧ H fl = some (LamO fl (dF1 cl cd)) ∧ CellsT cl dFr1 [q.2.2.1, q.1, q.2.1, .ref g] H) ∨ (H fl = some (LamO fl (dF2 cl cd)) ∧ CellsT cl dFr2 [q.2.2.2, q.2.2.1, q.1, q.2.1, .ref g] H)
  code : H cd = some (LamX.CodeO cd deedQ)
theorem AskAt.keepO {g fl cd : Addr} {q : Q4} {cl : List (Str × Addr)} {H H' : Hp} (h : AskAt g fl cd q cl H) (k : KeepO H H') : AskAt g fl cd q cl H' := by
  have kc : ∀ b u, H b = some (CellO b u) → H' b = some (CellO b u) := fun b u e => k _ _ e (fun _ z => by unfold CellO at z; cases z) (fun _ z => by unfold CellO at z; cases z)
  refine ⟨?_, k _ _ h.code (fun _ z => by unfold LamX.CodeO at z; cases z) (fun _ z => by unfold LamX.CodeO at z; cases z)⟩
  rcases h.alt with ⟨a, b, c⟩ | ⟨b, c⟩
  · exact .inl ⟨a, k _ _ b (fun _ z => by unfold LamO at z; cases z) (fun _ z => by unfold LamO at z; cases z), c.keep kc⟩
  · exact .inr ⟨k _ _ b (fun _ z => by unfold LamO at z; cases z) (fun _ z => by unfold LamO at z; cases z), c.keep kc⟩
theorem isM_true {n : Int} {q : Q4} (h : isM n q = true) : ∃ x : M4, q = (.int x.1, .int x.2.1, .int x.2.2.1, .int x.2.2.2) ∧ Mok n x := by
  obtain ⟨o, p, m, f⟩ := q
  cases o with
  | int o => cases p with
    | int p => cases m with
      | int m => cases f with
        | int f =>
          have z : (f = 0 ∨ f = 1) ∧ 1 ≤ m ∧ 0 ≤ o ∧ 0 ≤ p ∧ o + m ≤ n ∧ p + m ≤ n := of_decide_eq_true h
          exact ⟨(o, p, m, f), rfl, z⟩
        | _ => exact absurd h (by intro z; cases z)
      | _ => exact absurd h (by intro z; cases z)
    | _ => exact absurd h (by intro z; cases z)
  | _ => exact absurd h (by intro z; cases z)
theorem IB.rp28 {x : V} (h : IB x) : ∃ D : PyData, ∀ (H : Hp) (m : Nat), Rp H m x D := by
  rcases h with ⟨i, rfl, _⟩ | ⟨b, rfl⟩
  · exact ⟨_, fun H m => .int _ _⟩
  · exact ⟨_, fun H m => .bl _ _⟩
theorem IBq.rp28 {q : Q4} (h : IBq q) : ∃ D : PyData, ∀ (H : Hp) (t : Addr) (m : Nat), H t = some (.tup (q4 q)) → Rp H (m + 1) (.ref t) D := by
  obtain ⟨d1, r1⟩ := h.1.rp28
  obtain ⟨d2, r2⟩ := h.2.1.rp28
  obtain ⟨d3, r3⟩ := h.2.2.1.rp28
  obtain ⟨d4, r4⟩ := h.2.2.2.rp28
  exact ⟨.tuple [d1, d2, d3, d4], fun H t m e => .tup e (by show 4 ≤ 100000; decide) (.cons (r1 _ _) (.cons (r2 _ _) (.cons (r3 _ _) (.cons (r4 _ _) (.nil _)))))⟩
theorem nxt_is {S : StL} {M : Int} (h1 : M = 0 ∨ M ∈ S.map (·.1)) (h0 : 0 ≤ M) (h2 : ∀ y ∈ S.map (·.1), y ≤ M) : M + 1 = nxt S := by
  unfold nxt
  rw [← max_is h0 h1 h2]
theorem nxt_le {S : StL} {i : Int} (i0 : 0 ≤ i) (h : ∀ s ∈ S, s.1 ≤ i) : nxt S ≤ i + 1 := by
  unfold nxt
  rcases fold_max_in (S.map (·.1)) 0 with z | z
  · rw [z]
    omega
  · obtain ⟨s, hs, e⟩ := List.mem_map.mp z
    have := h s hs
    omega

/-! ### law (behind i28_why, rw1_refuse, cl2_deed .. cl5_asks) -/
-- LAMHEAD: (T := T) (TT := TWhyM (I28 CG CU CM)) (k := 10) (by rfl) D_why.g D_why.F.kp lkW hcW D_why.b sc_why rfl (.inl rfl) (why_givesM (k := 3) (hr.mono (by omega)) Tg.gF Tm.gM D_fields (whyI28 D_fields B Tg Og n1 Tu Ou n2 Tm Om n3)) TB rfl mT huT (hr.mono (by omega)) (show LamX.LamS (defScope s_law) _ from LamX.lamS_by (by decide +kernel)) rfl (fun _ _ _ _ _ => rfl)
abbrev N_law : List Str := ["_law_script", "_law_draw", "_law_length", "_law_held", "_law_turn", "_law_due", "_law_mating_here", "_law_good", "_law_name", "_law_ask", "_law_number", "_law_road", "_law_told", "_law_one"]
abbrev P_law : List Str := ["_law_script"]
theorem sc_law : FnScope N_law P_law (defScope s_law) := ⟨rfl, rfl, rfl, by decide +kernel, rfl, by decide +kernel, by decide +kernel⟩
def spLaw28 (K : PySem.W.Frag) (T : List (Addr × Str)) : Sp := fun vs H Q _ => ∃ (a : Addr) (ns : List Int), vs = [.ref a] ∧ SqL K H a (ns.map V.int) ∧ ns.length ≤ 63 ∧ LamX.Tabs T H ∧ ∀ H', Q (.bl true) H'
abbrev sl28 (a d : Addr) (n : Int) (h : Addr) (y4 y5 y6 y7 y8 y9 y10 : Option V) (g : Addr) (y12 : Option V) : List (Option V) := [some (.ref a), some (.ref d), some (.int n), some (.ref h), y4, y5, y6, y7, y8, y9, y10, some (.ref g), y12, none]
section
open PySem.Spec PyProof.Rows
variable {P : Program} {w : World} {K : PySem.W.Frag} {mg : Str → Option Value} {base : Heap}
theorem ok_law {f fO fP fA fL fOd fDe fW fF fRi fSk fMt fLn fMs fRp gG gU gM CF CI CG CU CM C5 c Pl b0 b1 b2 b3 b4 b5 b6 e0 e1 e2 e3 e4 e5 e6 e7 e8 e9 e10 e11 e12 e13 e14 e15 e16 d0 d1 d3 : Addr} {fdO fdP fdA fdL fdOd fdDe fdW fdF fdRi fdSk fdMt fdLn fdMs fdRp gdG gdU gdM : FuncData} {T : List (Addr × Str)} {dsM : List Value} {g0 : List Value → List Value → List Value} {kV doc pm ct oc : Value} {an od : Option Addr} {osl : Array (Option Value)}
    (lk : K.lookup f = some ⟨oc, od, .func (PySem.W.fnOf "law" "law" (defArgs s_law) (defBody s_law) (defScope s_law) .none kV doc pm an (.ref c) ct), osl⟩) (hcd : PySem.W.codeIn K (.ref c) "law" = true) (TB : LamX.TabB base mg c Pl) (mT : (Pl, lamQ) ∈ T) (huT : ∀ p ∈ T, p.1 = Pl → p.2 = lamQ)
    (D_open : DefAt K mg "_law_open" s_open P_open fO fdO) (D_pull : DefAt K mg "_law_pull" s_pull P_pull fP fdP) (D_any : DefAt K mg "_law_any" s_any P_any fA fdA) (D_like : DefAt K mg "_law_like" s_like P_like fL fdL)
    (D_odd : DefAt K mg "_law_odd" s_odd P_odd fOd fdOd) (D_deed : DefAt K mg "_law_deed" s_deed P_deed fDe fdDe) (G_deed : FnOk P w K mg base CX0 4 fDe fdDe P_deed (spDeed T)) (D_why : DefAt K mg "_law_why" s_why P_why fW fdW) (D_fields : DefAt K mg "_law_fields" s_fields P_fields fF fdF)
    (Tg : ErT K mg CF CG gG gdG "BadMating" N_bginit) (Og : OthBgE K mg CG b0 b1 b2 b3 b4 b5 b6) (n1 : PySem.W.findIn K (.ref CG) "mating" = some none)
    (Tu : ErT K mg CF CU gU gdU "Full" N_fuinit) (Ou : OthFuE K mg CU e0 e1 e2 e3 e4 e5 e6 e7 e8 e9 e10 e11 e12 e13 e14 e15 e16) (n2 : PySem.W.findIn K (.ref CU) "most" = some none)
    (Tm : LrT K mg CF CI CM gM gdM "NoMating" N_nminit) (Om : OthNm K mg CM d0 d1 d3) (n3 : PySem.W.findIn K (.ref CM) "number" = some none)
    (TRo_ : RoT K mg C5) (mkRo_ : Mk K C5 fRi) (G_Ro_init : FnOk P w K mg base CX0 4 fRi fdRi P_Ro_init (spRoInit C5)) (b_Ro_init : Binds K fdRi P_Ro_init [])
    (M_Ro_mate : Meth K C5 "mate" fMt) (GB_Ro_mate : FnOk P w K mg base (L2.CX P w) 7 fMt fdMt P_Ro_mate (fun vs H Q E => spMate C5 vs H Q E ∨ spMateR C5 CG CU vs H Q E)) (b_Ro_mate : Binds K fdMt P_Ro_mate dsM) (dv_mate : Vals [.int 0] dsM) (kb_Ro_mate : KBn K fdMt P_Ro_mate 4 ["turned"] g0 (fun vs zs => vs ++ zs))
    (M_Ro_strike : Meth K C5 "strike" fSk) (GX_Ro_strike : FnOk P w K mg base (L2.CX P w) 5 fSk fdSk P_Ro_strike (fun vs H Q E => spStrike C5 vs H Q E ∨ spStrikeR C5 CM vs H Q E)) (b_Ro_strike : Binds K fdSk P_Ro_strike [])
    (M_Ro_length : Meth K C5 "length" fLn) (G_Ro_length : FnOk P w K mg base CX0 1 fLn fdLn P_Ro_length (spRoLen C5)) (b_Ro_length : Binds K fdLn P_Ro_length []) (M_Ro_matings : Meth K C5 "matings" fMs) (G_Ro_matings : FnOk P w K mg base CX0 1 fMs fdMs P_Ro_matings (spMatings C5)) (b_Ro_matings : Binds K fdMs P_Ro_matings [])
    (M_Ro_repr : Meth K C5 "__repr__" fRp) (G_Ro_repr : FnOk P w K mg base CX0 1 fRp fdRp P_Ro_repr (spRoRepr C5)) (b_Ro_repr : Binds K fdRp P_Ro_repr []) (zR : mg "repr" = none) (B : Bn mg) :
    FnOk P w K mg base CX0 15 f (PySem.W.fnOf "law" "law" (defArgs s_law) (defBody s_law) (defScope s_law) .none kV doc pm an (.ref c) ct) P_law (spLaw28 K T) := by
  have G_open : FnOk P w K mg base CX0 1 fO fdO P_open (spOpen K) := ok_open D_open B
  have G_pull : FnOk P w K mg base CX0 1 fP fdP P_pull spPull := ok_pull D_pull B
  have G_any : FnOk P w K mg base CX0 2 fA fdA P_any spAny := ok_any D_any D_pull B
  have G_odd : FnOk P w K mg base CX0 2 fOd fdOd P_odd spOddL := ok_oddL D_odd D_pull B
  have G_like : FnOk P w K mg base CX0 6 fL fdL P_like (spLike 5) := ok_like D_like B 5
  obtain ⟨ocW, odW, kVW, docW, pmW, anW, cdvW, ctW, oslW, rfl, lkW, hcW⟩ := D_why.F.ex
  refine fn_of lk hcd sc_law (fun vs H Q E h => ?_) (fun A outer s H vs Q E hr h => ?_)
  · obtain ⟨a, ns, rfl, _⟩ := h
    rfl
  · obtain ⟨a, ns, rfl, hS, hlen, hPt, q⟩ := h
    suffices hh : ∃ t, PSs (cxOf CX0 P w K mg base N_law "law" (defScope s_law) f (.ref c) A outer s H E).nox (defBody s_law) t ∧ t { nx := fun _ H' => Q .non H', rt := Q } (L2.start N_law [.ref a]) H by
      obtain ⟨t, h1, h2⟩ := hh
      exact ⟨t, h1.nox, h2⟩
    have hu := hu_of hr
    refine ⟨_, (pss_cons (ps_set (i := 1) sc_law.nd rfl (.inl rfl) (pe_call G_open (hr.mono (by omega)) (by rfl) D_open.g D_open.F.kp D_open.b .nil pass0 (pa_cons (pv 0) pa_nil)))
      (C8.pss_cut (ps_set (i := 2) sc_law.nd rfl (.inl rfl) (pe_call G_any (hr.mono (by omega)) (by rfl) D_any.g D_any.F.kp D_any.b .nil pass0 (pa_cons (pv 1) (pa_cons (pe_lst (pa_cons (pe_op op_pow pe_int pe_int) (pa_cons (pe_call G_pull (hr.mono (by omega)) (by rfl) D_pull.g D_pull.F.kp D_pull.b .nil pass0 (pa_cons (pv 1) (pa_cons pe_int pa_nil))) (pa_cons pe_int pa_nil)))) pa_nil))))
      (C8.pss_cut (ps_asg (pe_tup (pa_cons (pe_make mkRo_ G_Ro_init (hr.mono (by omega)) (by rfl) TRo_.gC b_Ro_init .nil pass0 (pa_cons (pv 2) pa_nil)) (pa_cons pe_dnewK pa_nil))) (pg_tup (by rfl) (pgs_cons (pg_name (i := 11) sc_law.nd rfl (.inr rfl)) (pgs_cons (pg_name (i := 3) sc_law.nd rfl (.inl rfl)) pgs_nil))))
      (pss_cons (ps_for PassesOwn.never rfl (pi_range1 (by rfl) B.range (pa_cons pe_int pa_nil)) (pg_name (i := 4) sc_law.nd rfl (.inl rfl)) (C8.pss_cut (ps_set (i := 10) sc_law.nd rfl (.inr rfl) (pe_call G_any (hr.mono (by omega)) (by rfl) D_any.g D_any.F.kp D_any.b .nil pass0 (pa_cons (pv 1) (pa_cons (pe_op op_cat (pe_callB (call_sortedDI rfl) (by rfl) B.sorted (by decide +kernel) (pa_cons (pv 3) pa_nil)) (pe_lst (pa_cons pe_int (pa_cons (pe_op op_add (pe_callB call_lenDk (by rfl) B.len (by decide +kernel) (pa_cons (pv 3) pa_nil)) pe_int) (pa_cons (pe_call G_odd (hr.mono (by omega)) (by rfl) D_odd.g D_odd.F.kp D_odd.b .nil pass0 (pa_cons (pv 1) pa_nil)) pa_nil))))) pa_nil))))
      (C8.pss_cut (ps_if (pt_cmpR op_eq (pe_call G_pull (hr.mono (by omega)) (by rfl) D_pull.g D_pull.F.kp D_pull.b .nil pass0 (pa_cons (pv 1) (pa_cons pe_int pa_nil))) pe_int (nomark _)) (C8.pss_cut (ps_set (i := 5) sc_law.nd rfl (.inl rfl) (pe_ifExp (PW.pt (pw_and (pt_cmp (pc_dinB (pv 10) (pv 3))) (pw_and1 (pt_not (pt_val (pe_callB call_isi (by rfl) B.isinstance (by decide +kernel) (pa_cons (pv 10) (pa_cons (pe_bltn (v := .ty "bool") (by rfl) B.bool (by decide +kernel) rfl) pa_nil)))))))) (pe_tup (pa_cons pe_str (pa_cons pe_non pa_nil))) (pe_tup (pa_cons pe_str (pa_cons (pv 10) pa_nil)))))
      (C8.pss_cut (ps_set (i := 12) sc_law.nd rfl (.inr rfl) (pe_lst pa_nil))
      (C8.pss_cut (ps_if (pt_not (pt_val (pe_call G_like (hr.mono (by omega)) (by rfl) D_like.g D_like.F.kp D_like.b .nil pass0 (pa_cons (LamX.pe_lamcall (T := T) (TT := TWhyM (I28 CG CU CM)) (k := 10) (by rfl) D_why.g D_why.F.kp lkW hcW D_why.b sc_why rfl (.inl rfl) (why_givesM (k := 3) (hr.mono (by omega)) Tg.gF Tm.gM D_fields (whyI28 D_fields B Tg Og n1 Tu Ou n2 Tm Om n3)) TB rfl mT huT (hr.mono (by omega)) (show LamX.LamS (defScope s_law) _ from LamX.lamS_by (by decide +kernel)) rfl (fun _ _ _ _ _ => rfl) (fun A1 outer1 s1 H1 E1 f1 c1 hr1 => (pe_appK (K := K) rfl (pv 12) (pa_cons (pe_meth (pv 11) TRo_.cl M_Ro_strike GX_Ro_strike (hr1.mono (by omega)) b_Ro_strike .nil (passes_call (takes_of rfl rfl rfl rfl) fun _ _ _ _ h => h) (pa_cons (pv 10) pa_nil)) pa_nil)))) (pa_cons (pv 5) pa_nil))))) (pss_one (ps_ret pe_bl)) pss_nil)
      (pss_one (ps_if (pt_cmpR op_eq (pe_ix ix_tup (pv 5) pe_int (fun _ _ => rfl)) pe_str (nomark _)) (pss_cons (ps_if (pt_cmpR (op_neD hr.units) (pv 12) (pe_lst (pa_cons pe_non pa_nil)) (nomark _)) (pss_one (ps_ret pe_bl)) pss_nil)
      (pss_one (ps_expr (pe_dpop1 (pv 3) (pv 10) ⟨rfl, rfl, rfl, rfl⟩)))) pss_nil))))) (C8.pss_cut (ps_asg (pe_call G_deed (hr.mono (by omega)) (by rfl) D_deed.g D_deed.F.kp D_deed.b .nil pass0 (pa_cons (pv 1) (pa_cons (pv 11) (pa_cons (pv 2) pa_nil)))) (pg_tup (by rfl) (pgs_cons (pg_name (i := 6) sc_law.nd rfl (.inl rfl)) (pgs_cons (pg_name (i := 9) sc_law.nd rfl (.inr rfl)) pgs_nil))))
      (C8.pss_cut (ps_set (i := 7) sc_law.nd rfl (.inl rfl) (pe_and (pe_not (pe_callB (cr_any rfl) (by rfl) B.any (by decide +kernel) (pa_cons (pe_lc (own := [("_law_one", 13)]) (g := gName 13) (by rfl) sc_law.nd (pi_tup (pv 6)) (blkOk_by (own := [("_law_one", 13)]) (N := N_law) (sc := defScope s_law) (by decide +kernel)) (fun _ _ _ _ _ => (pg_name (i := 13) sc_law.nd rfl (.inl rfl))) (fun _ _ _ _ _ => pts_nil) (fun _ _ _ _ _ => (pe_callB (show CallR _ _ (rIsi K) from call_isi) (by rfl) B.isinstance (by decide +kernel) (pa_cons (pv 13) (pa_cons (pe_bltn (v := .ty "bool") (by rfl) B.bool (by decide +kernel) rfl) pa_nil))))) pa_nil))) (pe_and (pe_cmpR op_ge (pe_ix ix_tup (pv 6) pe_int (fun _ _ => rfl)) pe_int (nomark _)) (pe_one (pe_cmpR op_in_seq (pe_ix ix_tup (pv 6) pe_int (fun _ _ => rfl)) (pe_tup (pa_cons pe_int (pa_cons pe_int pa_nil))) (by rfl))))))
      (C8.pss_cut (ps_set (i := 7) sc_law.nd rfl (.inl rfl) (pe_and (pv 7) (pe_and (pe_cmpR op_ge (pe_callB (cr_minT rfl) (by rfl) B.min (by decide +kernel) (pa_cons (pe_slice sl_tup (pv 6) po_none (po_some pe_int)) pa_nil)) pe_int (nomark _)) (pe_one (pe_cmpR op_le (pe_op op_add (pe_callB (cr_maxT rfl) (by rfl) B.max (by decide +kernel) (pa_cons (pe_slice sl_tup (pv 6) po_none (po_some pe_int)) pa_nil)) (pe_ix ix_tup (pv 6) pe_int (fun _ _ => rfl))) (pv 2) (nomark _))))))
      (C8.pss_cut (ps_set (i := 5) sc_law.nd rfl (.inl rfl) (pe_ifExp (pt_not (pt_val (pv 7))) (pe_tup (pa_cons pe_str (pa_cons (pv 6) pa_nil))) (pe_ifExp (pt_cmpR op_gt (pe_callB call_lenDk (by rfl) B.len (by decide +kernel) (pa_cons (pv 3) pa_nil)) pe_int (nomark _)) (pe_tup (pa_cons pe_str (pa_cons pe_int pa_nil))) (pe_tup (pa_cons pe_str (pa_cons pe_non pa_nil))))))
      (C8.pss_cut (ps_set (i := 12) sc_law.nd rfl (.inr rfl) (pe_lst pa_nil))
      (C8.pss_cut (ps_if (pt_not (pt_val (pe_call G_like (hr.mono (by omega)) (by rfl) D_like.g D_like.F.kp D_like.b .nil pass0 (pa_cons (LamX.pe_lamcall (T := T) (TT := TWhyM (I28 CG CU CM)) (k := 10) (by rfl) D_why.g D_why.F.kp lkW hcW D_why.b sc_why rfl (.inl rfl) (why_givesM (k := 3) (hr.mono (by omega)) Tg.gF Tm.gM D_fields (whyI28 D_fields B Tg Og n1 Tu Ou n2 Tm Om n3)) TB rfl mT huT (hr.mono (by omega)) (show LamX.LamS (defScope s_law) _ from LamX.lamS_by (by decide +kernel)) rfl (fun _ _ _ _ _ => rfl) (fun A1 outer1 s1 H1 E1 f1 c1 hr1 => (pe_appK (K := K) rfl (pv 12) (pa_cons (pe_cloK (P := P) (w := w) (K := K) (mg := mg) (base := base) (k := 9) (j := 9) (i := 9) rfl rfl rfl rfl rfl (hr1.mono (by omega)) (Nat.le_refl _) (passes_call (takes_of rfl rfl rfl rfl) fun _ _ _ _ h => h) rfl (by first | exact .inl rfl | exact .inr (.inl rfl) | exact .inr (.inr rfl))) pa_nil)))) (pa_cons (pv 5) pa_nil))))) (pss_one (ps_ret pe_bl)) pss_nil)
      (pss_one (ps_if (pt_cmpR op_eq (pe_ix ix_tup (pv 5) pe_int (fun _ _ => rfl)) pe_str (nomark _)) (pss_cons (ps_dput hu (pv 3) (pe_op op_add (pe_callB (cr_max rfl) (by rfl) B.max (by decide +kernel) (pa_cons (pe_op op_cat (pe_lst (pa_cons pe_int pa_nil)) (pe_callB (call_sortedDI rfl) (by rfl) B.sorted (by decide +kernel) (pa_cons (pv 3) pa_nil))) pa_nil)) pe_int) (pv 6) rfl)
      (pss_one (ps_if (pt_not (pt_val (pe_call G_like (hr.mono (by omega)) (by rfl) D_like.g D_like.F.kp D_like.b .nil pass0 (pa_cons (pv 12) (pa_cons (pe_lst (pa_cons (pe_callB (cr_maxDk rfl) (by rfl) B.max (by decide +kernel) (pa_cons (pv 3) pa_nil)) pa_nil)) pa_nil))))) (pss_one (ps_ret pe_bl)) pss_nil))) pss_nil)))))))))
      (C8.pss_cut (ps_expr (pe_bm0 PySem.F.plainAttrs_list PySem.F.slot_list_clear PySem.F.type_list_clear mt_clear (pe_meth0 (pv 11) TRo_.cl M_Ro_matings G_Ro_matings (hr.mono (by omega)) b_Ro_matings .nil pass0)))
      (C8.pss_cut (ps_set (i := 8) sc_law.nd rfl (.inl rfl) (pe_op op_add_str (pe_op op_add_str (pe_op op_add_str (pe_op op_add_str pe_str (pe_callTy call_str_int (by rfl) B.str (by decide +kernel) (pa_cons (pv 2) pa_nil))) pe_str) (pe_callTy call_str_int (by rfl) B.str (by decide +kernel) (pa_cons (pe_callB call_lenDk (by rfl) B.len (by decide +kernel) (pa_cons (pv 3) pa_nil)) pa_nil))) pe_str))
      (pss_one (ps_if (pt_not (pt_val (pe_call G_like (hr.mono (by omega)) (by rfl) D_like.g D_like.F.kp D_like.b .nil pass0 (pa_cons (pe_lst (pa_cons (pe_meth0 (pv 11) TRo_.cl M_Ro_matings G_Ro_matings (hr.mono (by omega)) b_Ro_matings .nil pass0) (pa_cons (pe_meth0 (pv 11) TRo_.cl M_Ro_length G_Ro_length (hr.mono (by omega)) b_Ro_length .nil pass0) (pa_cons (pe_callB (call_reprRo_ TRo_.cl M_Ro_repr G_Ro_repr (hr.mono (by omega)) b_Ro_repr) (by rfl) zR (by decide +kernel) (pa_cons (pv 11) pa_nil)) pa_nil)))) (pa_cons (pe_lst (pa_cons (pe_callB (cr_sortedK rfl) (by rfl) B.sorted (by decide +kernel) (pa_cons (pe_bm0 PySem.F.plainAttrs_dict PySem.F.slot_dict_items PySem.F.type_dict_items mt_itemsK (pv 3)) pa_nil)) (pa_cons (pv 2) (pa_cons (pv 8) pa_nil)))) pa_nil))))) (pss_one (ps_ret pe_bl)) pss_nil)))))))
      (pss_one (ps_ret pe_bl)))))), ?_⟩
    have two : 2 ≤ sizeLine := by decide
    refine ⟨.ref a, rfl, a, ns, rfl, hS, hlen, fun H1 d l sm nd nl hD => ?_⟩
    have T1 : LamX.Tabs T H1 := hPt.ext sm
    -- the length
    refine ⟨fun σ G => ∃ n : Int, σ = [some (.ref a), some (.ref d), some (.int n), none, none, none, none, none, none, none, none, none, none, none] ∧ Draw G d l ∧ LamX.Tabs T G ∧ 0 ≤ n ∧ n ≤ 1000000000000000000, ?_, ?_⟩
    · refine ⟨.ref d, rfl, 10, 18, rfl, rfl, ⟨by decide, by decide, by decide⟩, .ref d, rfl, d, l, 13, rfl, hD, by decide, by decide, fun v G1 v0 v1 D1 k1 => ⟨by show 3 ≤ sizeLine; decide, fun L nL => ?_⟩⟩
      have s1 := same_upd (H := G1) (o := .lst [.int (10 ^ 18), .int v, .int 12]) nL
      refine ⟨d, l, L, _, rfl, D1.same s1, upd_same, (draw_apart D1 nL).1.symm, by show 1 ≤ 3; decide, by show 3 ≤ 1000; decide, fun x G2 hx D2 k2 => ?_⟩
      have T2 := tabs_keep ((tabs_keep T1 hD k1).ext s1) (D1.same s1) k2
      have hx : x = .int (10 ^ 18) ∨ x = .int v ∨ x = .int 12 := by simpa using hx
      rcases hx with rfl | rfl | rfl
      · exact ⟨_, rfl, D2, T2, by decide, by decide⟩
      · exact ⟨_, rfl, D2, T2, v0, by omega⟩
      · exact ⟨_, rfl, D2, T2, by decide, by decide⟩
    clear hD T1 sm nd nl
    rintro σ G ⟨n, rfl, D, T1, n0, n1'⟩
    -- the road
    refine ⟨fun σ G => ∃ g h : Addr, σ = sl28 a d n h none none none none none none none g none ∧ W28 T C5 d l g h n [] [] G, ?_, ?_⟩
    · refine ⟨.int n, rfl, fun g dg ng ndg nex => ?_⟩
      have s1 := same_new (C := C5) ng ndg
      have eg : (upd (upd G dg (.own g)) g (.ins C5 dg [])) g = some (.ins C5 dg []) := upd_same
      generalize upd (upd G dg (.own g)) g (.ins C5 dg []) = G1 at s1 eg
      refine ⟨g, dg, n, rfl, eg, n0, n1', fun G2 st eg2 es nst k2 => ?_⟩
      have D2 := draw_ins (D.same s1) eg (fun _ z => by cases z) k2
      have T2 := tabs_not (T1.ext s1) eg (fun _ z => by cases z) (fun _ _ z => by unfold LamX.CodeO at z; cases z) k2
      refine ⟨rfl, fun h nh => ⟨two, fun t nt => ?_⟩⟩
      have s3 := same_upd (H := G2) (o := .dK []) nh
      have eh : (upd G2 h (.dK [])) h = some (.dK []) := upd_same
      generalize upd G2 h (.dK []) = G3 at s3 eh nt
      have s4 := same_upd (H := G3) (o := .tup [.ref g, .ref h]) nt
      have et : (upd G3 t (.tup [.ref g, .ref h])) t = some (.tup [.ref g, .ref h]) := upd_same
      generalize upd G3 t (.tup [.ref g, .ref h]) = G4 at s4 et
      have s34 := s3.trans s4
      refine ⟨t, _, rfl, SqT.of et, rfl, .ref g, _, rfl, .ref h, _, rfl, rfl, g, h, rfl, ⟨D2.same s34, T2.ext s34, ⟨st, _, _, ⟨⟨dg, s34 _ _ eg2⟩, [], s34 _ _ es, .nil⟩, ne_of_none es nh⟩, ⟨n0, n1', .nil, (fun _ z => nomatch z), by decide, (fun _ z => nomatch z)⟩, [], s4 _ _ eh, .nil⟩⟩
    clear D T1
    rintro σ G ⟨g, h, rfl, W⟩
    refine ⟨30, rfl, by decide, by decide, for_range (lo := 0) (n := 30) (fun i σ G => ∃ (S : StL) (y4 y5 y6 y7 y8 y9 y10 y12 : Option V), σ = sl28 a d n h y4 y5 y6 y7 y8 y9 y10 g y12 ∧ W28 T C5 d l g h n S S G ∧ ∀ s ∈ S, s.1 ≤ (i : Int))
      ⟨[], none, none, none, none, none, none, none, none, rfl, W, fun _ z => nomatch z⟩ ?_ ?_⟩
    · clear W
      rintro i σ G hi ⟨S, y4, y5, y6, y7, y8, y9, y10, y12, rfl, W, up⟩
      -- a number
      refine ⟨fun σ G => ∃ x : V, σ = sl28 a d n h (some (.int (0 + (i : Int)))) y5 y6 y7 y8 y9 (some x) g y12 ∧ IB x ∧ W28 T C5 d l g h n S S G, ?_, ?_⟩
      · obtain ⟨kvs, eh, sd⟩ := W.hd
        have lk := sd.length
        have l24 := W.wf.len
        refine ⟨.ref d, rfl, .ref h, rfl, h, kvs, S.map (·.1), rfl, .inl eh, sd.keys, by rw [List.length_map]; omega, fun ys p pm pw np => ?_⟩
        have s1 := same_upd (H := G) (o := .lst (ys.map V.int)) np
        have ep : (upd G p (.lst (ys.map V.int))) p = some (.lst (ys.map V.int)) := upd_same
        generalize upd G p (.lst (ys.map V.int)) = G1 at s1 ep
        have W1 := W.same s1
        refine ⟨.ref h, rfl, h, kvs, rfl, s1 _ _ eh, _, _, rfl, rfl, .ref d, rfl, d, l, rfl, W1.dr, fun z G2 ibz _ D2 k2 => ⟨by show 3 ≤ sizeLine; decide, fun L nL => ?_⟩⟩
        have W2 := W1.draw D2 k2
        have ep2 : G2 p = some (.lst (ys.map V.int)) := k2.of ep (draw_apart W.dr np).1.symm
        have s3 := same_upd (H := G2) (o := .lst [.int 0, .int ((kvs.length : Int) + 1), z]) nL
        have eL : (upd G2 L (.lst [.int 0, .int ((kvs.length : Int) + 1), z])) L = some (.lst [.int 0, .int ((kvs.length : Int) + 1), z]) := upd_same
        generalize upd G2 L (.lst [.int 0, .int ((kvs.length : Int) + 1), z]) = G3 at s3 eL
        have ly : ys.length = S.length := by rw [pm.length_eq, List.length_map]
        refine ⟨p, L, _, _, rfl, rfl, s3 _ _ ep2, eL, by rw [List.length_map]; exact Nat.le_trans (show ys.length + 3 ≤ 63 by omega) (by decide), fun M nM => ?_⟩
        have s4 := same_upd (H := G3) (o := .lst (ys.map V.int ++ [.int 0, .int ((kvs.length : Int) + 1), z])) nM
        have eM : (upd G3 M (.lst (ys.map V.int ++ [.int 0, .int ((kvs.length : Int) + 1), z]))) M = some (.lst (ys.map V.int ++ [.int 0, .int ((kvs.length : Int) + 1), z])) := upd_same
        have ap := draw_apart (W2.dr.same s3) nM
        generalize upd G3 M (.lst (ys.map V.int ++ [.int 0, .int ((kvs.length : Int) + 1), z])) = G4 at s4 eM
        have W4 := W2.same (s3.trans s4)
        refine ⟨d, l, M, _, rfl, W4.dr, eM, ap.1.symm, by rw [List.length_append]; show 1 ≤ _ + 3; omega, by rw [List.length_append, List.length_map]; show _ + 3 ≤ 1000; omega, fun x G5 hx D5 k5 => ?_⟩
        refine ⟨x, rfl, ?_, W4.draw D5 k5⟩
        rcases List.mem_append.mp hx with hx | hx
        · obtain ⟨y, hy, rfl⟩ := List.mem_map.mp hx
          obtain ⟨s, hs, rfl⟩ := List.mem_map.mp (pm.mem_iff.mp hy)
          have b1 := up s hs
          have b2 := W.wf.low s hs
          exact .inl ⟨_, rfl, by omega⟩
        · have hx : x = .int 0 ∨ x = .int ((kvs.length : Int) + 1) ∨ x = z := by simpa using hx
          rcases hx with rfl | rfl | rfl
          · exact .inl ⟨_, rfl, by decide⟩
          · exact .inl ⟨_, rfl, by omega⟩
          · exact ibz
      clear W
      rintro σ G ⟨x, rfl, ibx, W⟩
      -- a mating struck or told
      refine ⟨fun σ G => ∃ (S : StL) (y5 y6 y7 y9 y12 : Option V), σ = sl28 a d n h (some (.int (0 + (i : Int)))) y5 y6 y7 y8 y9 (some x) g y12 ∧ W28 T C5 d l g h n S S G ∧ ∀ s ∈ S, s.1 ≤ (i : Int) + 1, ?_, ?_⟩
      · obtain ⟨kvs, eh, sd⟩ := W.hd
        have fx := ibx.fv
        refine ⟨.ref d, rfl, d, l, 5, rfl, W.dr, by decide, by decide, fun v G1 v0 v1 D1 k1 => ⟨rfl, _, rfl, ite2 (fun _ => ?_) (fun _ => ?_)⟩⟩
        · have W1 := W.draw D1 k1
          clear W eh sd kvs
          -- what is due
          refine ⟨fun σ G => ∃ t : Addr, σ = sl28 a d n h (some (.int (0 + (i : Int)))) (some (.ref t)) y6 y7 y8 y9 (some x) g y12 ∧ W28 T C5 d l g h n S S G ∧
            ((∃ j m, x = .int j ∧ sget S j = some m ∧ G t = some (.tup [.str "", .non])) ∨ ((∀ j, x = .int j → sget S j = none) ∧ G t = some (.tup [.str "NoMating", x]))), ?_, ?_⟩
          · obtain ⟨kvs, eh, sd⟩ := W1.hd
            have yes : ∀ {Q' : VK}, (∀ t, Q' (.ref t) (upd G1 t (.tup [.str "", .non]))) → (tTup (tCons (tC (.str "")) (tCons (tC .non) tNil))) (sl28 a d n h (some (.int (0 + (i : Int)))) y5 y6 y7 y8 y9 (some x) g y12) G1 Q' := fun hq => ⟨two, fun t nt => hq t⟩
            have no : (∀ j, x = .int j → sget S j = none) → ∀ t, G1 t = none → (W28 T C5 d l g h n S S (upd G1 t (.tup [.str "NoMating", x])) ∧ ((∃ j m, x = .int j ∧ sget S j = some m ∧ (upd G1 t (.tup [.str "NoMating", x])) t = some (.tup [.str "", .non])) ∨ ((∀ j, x = .int j → sget S j = none) ∧ (upd G1 t (.tup [.str "NoMating", x])) t = some (.tup [.str "NoMating", x])))) :=
              fun z t nt => ⟨W1.same (same_upd nt), .inr ⟨z, upd_same⟩⟩
            clear yes
            rcases id fx with ⟨j, rfl, hj⟩ | ⟨b, rfl⟩
            · refine ⟨.int j, rfl, .ref h, rfl, h, kvs, Sum.inl j, rfl, eh, rfl, _, rfl, ?_⟩
              cases ej : sget S j with
              | none =>
                rw [(sd.get j).1 ej]
                refine iteF (iteF ⟨.int j, rfl, two, fun t nt => ?_⟩)
                obtain ⟨w1, w2⟩ := no (fun j' z => by cases z; exact ej) t nt
                exact ⟨t, rfl, w1, w2⟩
              | some m =>
                obtain ⟨tm, hv, _⟩ := (sd.get j).2 m ej
                rw [hv]
                refine iteT ⟨.int j, rfl, _, _, _, _, false, rfl, ClsV.ty _, TyX.base (TyOf.int _), kit_ty (by decide +kernel), _, rfl, iteT ⟨two, fun t nt => ?_⟩⟩
                exact ⟨t, rfl, W1.same (same_upd nt), .inl ⟨j, m, rfl, ej, upd_same⟩⟩
            · refine ⟨.bl b, rfl, .ref h, rfl, h, kvs, _, rfl, eh, rfl, _, rfl, ite2 (fun _ => ?_) (fun _ => ?_)⟩
              · refine ⟨.bl b, rfl, _, _, _, _, true, rfl, ClsV.ty _, TyX.base (TyOf.bl _), kit_ty (by decide +kernel), _, rfl, iteF ⟨.bl b, rfl, two, fun t nt => ?_⟩⟩
                obtain ⟨w1, w2⟩ := no (fun j' z => by cases z) t nt
                exact ⟨t, rfl, w1, w2⟩
              · refine iteF ⟨.bl b, rfl, two, fun t nt => ?_⟩
                obtain ⟨w1, w2⟩ := no (fun j' z => by cases z) t nt
                exact ⟨t, rfl, w1, w2⟩
          clear W1
          rintro σ G ⟨t, rfl, W, due⟩
          -- told
          refine ⟨fun σ G => ∃ A : Addr, σ = sl28 a d n h (some (.int (0 + (i : Int)))) (some (.ref t)) y6 y7 y8 y9 (some x) g (some (.ref A)) ∧ W28 T C5 d l g h n S S G ∧ G A = some (.lst []) ∧ A ≠ d ∧ A ≠ l ∧
            ((∃ j m, x = .int j ∧ sget S j = some m ∧ G t = some (.tup [.str "", .non])) ∨ ((∀ j, x = .int j → sget S j = none) ∧ G t = some (.tup [.str "NoMating", x]))), ?_, ?_⟩
          · refine ⟨Nat.zero_le _, fun A nA => ?_⟩
            have s1 := same_upd (H := G) (o := .lst []) nA
            have ap := draw_apart W.dr nA
            refine ⟨A, rfl, W.same s1, upd_same, ap.1.symm, ap.2.symm, ?_⟩
            rcases due with ⟨j, m, e1, e2, e3⟩ | ⟨e1, e2⟩
            · exact .inl ⟨j, m, e1, e2, s1 _ _ e3⟩
            · exact .inr ⟨e1, s1 _ _ e2⟩
          clear W due
          rintro σ G ⟨A, rfl, W, eA, nAd, nAl, due⟩
          -- what the striking tells
          refine ⟨fun σ G => σ = sl28 a d n h (some (.int (0 + (i : Int)))) (some (.ref t)) y6 y7 y8 y9 (some x) g (some (.ref A)) ∧
            ((∃ j m, x = .int j ∧ sget S j = some m ∧ G t = some (.tup [.str "", .non]) ∧ G A = some (.lst [.non]) ∧ W28 T C5 d l g h n (sdrop S j) S G) ∨ (G t = some (.tup [.str "NoMating", x]) ∧ W28 T C5 d l g h n S S G)), ?_, ?_⟩
          · refine ⟨W.tb, fun H1 x1 T1 t0 nt0 R hR => ?_⟩
            have W1 := W.ext x1 T1
            have eA1 := x1 _ _ eA (fun _ z => by cases z)
            have s2 := same_upd (H := H1) (o := .tup [.str "", .non]) nt0
            have e0 : (upd H1 t0 (.tup [.str "", .non])) t0 = some (.tup [.str "", .non]) := upd_same
            generalize upd H1 t0 (.tup [.str "", .non]) = H2 at s2 e0
            have W2 := W1.same s2
            have eA2 := s2 _ _ eA1
            obtain ⟨st, k, cc, r, ap⟩ := W2.ro
            obtain ⟨⟨dx, eg⟩, _⟩ := id r
            have lS := W2.wf.len
            refine ⟨.ref A, rfl, .inl ⟨rfl, _, SqL.of eA2⟩, .ref g, rfl, g, dx, _, rfl, eg, rfl, x, rfl, ?_⟩
            rcases due with ⟨j, m, rfl, ej, et⟩ | ⟨no, et⟩
            · refine .inl ⟨g, st, n, j, S, k, cc, m, rfl, r, W2.wf.up, by omega, ej, fun H3 st' r' kp nst' => ?_⟩
              have et2 := s2 _ _ (x1 _ _ et (fun _ z => by cases z))
              have eh2 := W2.hd
              obtain ⟨kvs, eh, _⟩ := eh2
              have W3 : W28 T C5 d l g h n (sdrop S j) S H3 := W2.road r' (ne_of_none eh nst').symm (W2.wf.drop j) kp
              have eA3 := kp.of eA2 (ne_of eA2 eg (fun z => by cases z))
              have et3 := kp.of et2 (ne_of et2 eg (fun z => by cases z))
              have e03 := kp.of e0 (ne_of e0 eg (fun z => by cases z))
              refine ⟨A, [], .non, rfl, rfl, eA3, by show 0 < sizeLine; decide, hR _ _ ?_⟩
              have k4 : Keep A H3 (upd H3 A (.lst ([] ++ [.non]))) := Keep.upd
              have eA4 : (upd H3 A (.lst ([] ++ [.non]))) A = some (.lst [.non]) := upd_same
              generalize upd H3 A (.lst ([] ++ [.non])) = H4 at k4 eA4
              have W4 := W3.lst eA3 nAd nAl k4
              have et4 := k4.of et3 (ne_of et3 eA3 (fun z => by cases z))
              have e04 := k4.of e03 (ne_of e03 eA3 (fun z => by cases z))
              refine ⟨.ref t, rfl, .ref t0, .ref t, .tuple [.str "", .none], rfl, .tup e04 (by show 2 ≤ 100000; decide) (.cons (.str _ _) (.cons (.non _) (.nil _))), .tup et4 (by show 2 ≤ 100000; decide) (.cons (.str _ _) (.cons (.non _) (.nil _))), fun H9 s9 => ⟨true, rfl, iteF ⟨rfl, .inl ⟨j, m, rfl, ej, s9 _ _ et4, s9 _ _ eA4, W4.same s9⟩⟩⟩⟩
            · refine .inr ⟨g, st, n, S, k, cc, x, rfl, r, fx, no, fun H3 dd s3 ndd edd => ⟨CM, dd, nmF x, "NoMating", fun v _ => v = x, rfl, rfl, edd, .inr (.inr ⟨x, rfl, rfl, rfl, rfl⟩), fun H4 t1 v s4 ev e1 => ?_⟩⟩
              subst ev
              have s24 := s3.trans s4
              have et4 := s24 _ _ (s2 _ _ (x1 _ _ et (fun _ z => by cases z)))
              obtain ⟨dv, rv⟩ : ∃ dv, ∀ m, Rp H4 m v dv := by
                rcases fx with ⟨i, rfl, _⟩ | ⟨b, rfl⟩
                · exact ⟨_, fun m => .int _ _⟩
                · exact ⟨_, fun m => .bl _ _⟩
              refine ⟨.ref t, rfl, .ref t1, .ref t, .tuple [.str "NoMating", dv], rfl, .tup e1 (by show 2 ≤ 100000; decide) (.cons (.str _ _) (.cons (rv _) (.nil _))), .tup et4 (by show 2 ≤ 100000; decide) (.cons (.str _ _) (.cons (rv _) (.nil _))), fun H9 s9 => ⟨true, rfl, iteF ⟨rfl, .inr ⟨s9 _ _ et4, W2.same (s24.trans s9)⟩⟩⟩⟩
          clear W due eA
          rintro σ G ⟨rfl, ⟨j, m, rfl, ej, et, eA, W⟩ | ⟨et, W⟩⟩
          · refine ⟨.ref t, rfl, t, _, 0, .str "", rfl, rfl, SqT.of et, atI_nat (j := 0) rfl, rfl, _, rfl, ite2 (fun _ => ?_) (fun c => absurd (decide_eq_true rfl) c)⟩
            obtain ⟨kvs, eh, sd⟩ := W.hd
            obtain ⟨tm, hv, _⟩ := (sd.get j).2 m ej
            refine ⟨.ref A, rfl, by show 1 ≤ sizeLine; decide, fun L nL => ?_⟩
            have s1 := same_upd (H := G) (o := .lst [.non]) nL
            have eL : (upd G L (.lst [.non])) L = some (.lst [.non]) := upd_same
            generalize upd G L (.lst [.non]) = G2 at s1 eL
            have W2 := W.same s1
            have eh2 := s1 _ _ eh
            refine ⟨.list [.none], .list [.none], .lst (SqL.of (s1 _ _ eA)) (.cons .non .nil), .lst (SqL.of eL) (.cons .non .nil), rfl, rfl, _, rfl, iteF ?_⟩
            refine ⟨.ref h, rfl, h, rfl, .inl ⟨_, .inl eh2⟩, .int j, rfl, kvs, Sum.inl j, _, eh2, rfl, hv, ?_⟩
            have kh : Keep h G2 (upd G2 h (.dK (dropK kvs (Sum.inl j)))) := Keep.upd
            have sd3 := Std.drop (i := j) (sd.keep (H' := G2) (fun b xs hb => s1 _ _ hb))
            exact ⟨sdrop S j, _, _, _, _, _, rfl, W2.held upd_same sd3 kh, fun s hs => by have := up s (List.mem_filter.mp hs).1; omega⟩
          · refine ⟨.ref t, rfl, t, _, 0, .str "NoMating", rfl, rfl, SqT.of et, atI_nat (j := 0) rfl, rfl, _, rfl, ite2 (fun c => absurd c (by decide)) (fun _ => ?_)⟩
            exact ⟨S, _, _, _, _, _, rfl, W, fun s hs => by have := up s hs; omega⟩
        · have W1 := W.draw D1 k1
          clear W eh sd kvs
          -- the deed
          refine ⟨fun σ G => ∃ (tm fl cd : Addr) (q : Q4) (cl : List (Str × Addr)), σ = sl28 a d n h (some (.int (0 + (i : Int)))) y5 (some (.ref tm)) y7 y8 (some (.ref fl)) (some x) g y12 ∧ W28 T C5 d l g h n S S G ∧ G tm = some (.tup (q4 q)) ∧ IBq q ∧ AskAt g fl cd q cl G, ?_, ?_⟩
          · refine ⟨.ref d, rfl, .ref g, rfl, .int n, rfl, d, l, g, n, rfl, W1.dr, n0, n1', W1.tb, fun G2 t tm f c q cl D2 T2 k2 et etm ib alt ec => ⟨t, _, rfl, SqT.of et, rfl, .ref tm, _, rfl, .ref f, _, rfl, rfl, tm, f, c, q, cl, rfl, W1.keepO D2 T2 ?_, etm, ib, ⟨alt, ec⟩⟩⟩
            obtain ⟨ns', i', z', sd', Wd⟩ := id W1.dr
            exact fun b o hb m1 m2 => k2 b o hb (fun z => by rw [z, Wd.at_d] at hb; cases hb; exact m1 _ rfl) m2
          clear W1
          rintro σ G ⟨tm, fl, cd, q, cl, rfl, W, etm, ib, ask⟩
          -- is it good
          refine ⟨fun σ G2 => ∃ b : Bool, σ = sl28 a d n h (some (.int (0 + (i : Int)))) y5 (some (.ref tm)) (some (.bl b)) y8 (some (.ref fl)) (some x) g y12 ∧ Same G G2 ∧ (b = true → ∃ o p m f : Int, q = (.int o, .int p, .int m, .int f) ∧ 1 ≤ m ∧ (f = 0 ∨ f = 1)) ∧ (b = false → isM n q = false), ?_, ?_⟩
          · refine ⟨.ref tm, rfl, tm, rfl, ⟨_, SqT.of etm⟩, fun L nL => lc_tup (K := K) (a := tm) (xs := q4 q) (fun i G2 => Same G G2 ∧ G2 L = some (.lst ((((q4 q).map isB).take i).map V.bl))) ⟨same_upd nL, upd_same⟩ (fun i G2 _ ⟨sm, _⟩ => SqT.of (sm _ _ etm)) ?_ ?_⟩
            · rintro i' x' G2 hx ⟨sm, e2⟩
              have hi' : i' < 4 := (List.getElem?_eq_some_iff.mp hx).1
              have hib : IB x' := by
                have z : x' = q.1 ∨ x' = q.2.1 ∨ x' = q.2.2.1 ∨ x' = q.2.2.2 := by simpa [q4] using List.mem_of_getElem? hx
                rcases z with rfl | rfl | rfl | rfl
                · exact ib.1
                · exact ib.2.1
                · exact ib.2.2.1
                · exact ib.2.2.2
              obtain ⟨ty, h1, h2⟩ := hib.ty (K := K) (H := G2)
              refine ⟨rfl, x', rfl, _, _, _, _, isB x', rfl, ClsV.ty _, h1, h2, _, e2, sz_lt (by rw [List.length_map, List.length_take]; omega), fun b o' hb => ?_, ?_⟩
              · rw [upd_ne (ne_of_none hb nL)]
                exact sm _ _ hb
              · rw [upd_same, List.take_add_one, List.getElem?_map, hx, List.map_append]
                rfl
            · rintro G2 ⟨sm, e2⟩
              have e2 : G2 L = some (.lst (((q4 q).map isB).map V.bl)) := by
                rw [show ((q4 q).map isB).take (q4 q).length = (q4 q).map isB from rfl] at e2
                exact e2
              refine ⟨L, _, rfl, SqL.of e2, _, rfl, _, rfl, ?_⟩
              cases hb : ((q4 q).map isB).any id with
              | true => exact iteF ⟨false, rfl, sm, (fun z => by cases z), fun _ => isMat_b hb⟩
              | false =>
                refine iteT ?_
                obtain ⟨o', p', m', f'⟩ := q
                obtain ⟨ib1, ib2, ib3, ib4⟩ := ib
                simp only [q4, List.map_cons, List.map_nil, List.any_cons, List.any_nil, id, Bool.or_false, Bool.or_eq_false_iff] at hb
                obtain ⟨b1, b2', b3', b4'⟩ := hb
                obtain ⟨o', rfl, _⟩ := allInt ib1 b1
                obtain ⟨p', rfl, _⟩ := allInt ib2 b2'
                obtain ⟨m', rfl, _⟩ := allInt ib3 b3'
                obtain ⟨f', rfl, _⟩ := allInt ib4 b4'
                have et2 := sm _ _ etm
                refine ⟨.ref tm, rfl, tm, _, 2, .int m', rfl, rfl, SqT.of et2, atI_nat (j := 2) rfl, m', 1, rfl, rfl, _, rfl, ite2 (fun c => ?_) (fun c => ?_)⟩
                · have hm : 1 ≤ m' := of_decide_eq_true c
                  refine ⟨.ref tm, rfl, tm, _, 3, .int f', rfl, rfl, SqT.of et2, atI_nat (j := 3) rfl, two, fun t2 nt2 => ⟨t2, _, rfl, .inr (SqT.of upd_same), rfl, rfl, ?_⟩⟩
                  rw [if_neg (by decide), inV01]
                  exact ⟨_, rfl, sm.trans (same_upd nt2), fun z => ⟨o', p', m', f', rfl, hm, of_decide_eq_true z⟩, fun z => decide_eq_false fun y => of_decide_eq_false z y.1⟩
                · have c : decide (1 ≤ m') = false := by simpa using c
                  exact ⟨false, rfl, sm, (fun z => by cases z), fun _ => decide_eq_false fun y => of_decide_eq_false c y.2.1⟩
          rintro σ G2 ⟨b, rfl, s2, bt, bf⟩
          refine ⟨fun σ G2 => σ = sl28 a d n h (some (.int (0 + (i : Int)))) y5 (some (.ref tm)) (some (.bl (isM n q))) y8 (some (.ref fl)) (some x) g y12 ∧ Same G G2, ?_, ?_⟩
          · refine ⟨.bl b, rfl, b, rfl, ?_⟩
            cases b with
            | false =>
              rw [bf rfl]
              exact iteF ⟨rfl, s2⟩
            | true =>
              obtain ⟨o', p', m', f', rfl, hm, hf⟩ := bt rfl
              have et2 := s2 _ _ etm
              refine iteT ⟨.ref tm, rfl, 2, rfl, tm, _, rfl, SqT.of et2, (show ¬ ((0 : Nat) = 0 ∧ (2 : Nat) = 4) by decide), fun u nu => ⟨u, [o', p'], rfl, SqT.of upd_same, Nat.zero_lt_succ _, fun mn hmn lmn => ?_⟩⟩
              have s3 := s2.trans (same_upd (o := .tup (cutV (q4 (.int o', .int p', .int m', .int f')) none (some 2))) nu)
              have et3 := s3 _ _ etm
              generalize upd G2 u (.tup (cutV (q4 (.int o', .int p', .int m', .int f')) none (some 2))) = G3 at s3 et3
              have no := lmn o' (by simp)
              have np := lmn p' (by simp)
              have hmn : mn = o' ∨ mn = p' := by simpa using hmn
              refine ⟨mn, 0, rfl, rfl, _, rfl, ite2 (fun c => ?_) (fun c => ?_)⟩
              · have hc : 0 ≤ mn := of_decide_eq_true c
                refine ⟨.ref tm, rfl, 2, rfl, tm, _, rfl, SqT.of et3, (show ¬ ((0 : Nat) = 0 ∧ (2 : Nat) = 4) by decide), fun u2 nu2 => ⟨u2, [o', p'], rfl, SqT.of upd_same, Nat.zero_lt_succ _, fun mx hmx lmx => ?_⟩⟩
                have s4 := s3.trans (same_upd (o := .tup (cutV (q4 (.int o', .int p', .int m', .int f')) none (some 2))) nu2)
                have et4 := s4 _ _ etm
                generalize upd G3 u2 (.tup (cutV (q4 (.int o', .int p', .int m', .int f')) none (some 2))) = G4 at s4 et4
                have xo := lmx o' (by simp)
                have xp := lmx p' (by simp)
                have hmx : mx = o' ∨ mx = p' := by simpa using hmx
                refine ⟨.ref tm, rfl, tm, _, 2, .int m', rfl, rfl, SqT.of et4, atI_nat (j := 2) rfl, mx, m', rfl, rfl, .int n, rfl, _, _, rfl, rfl, ?_, s4⟩
                rw [show isM n (.int o', .int p', .int m', .int f') = decide (mx + m' ≤ n) from decide_eq_decide.mpr ⟨fun z => by rcases hmx with rfl | rfl <;> omega, fun z => ⟨hf, hm, by omega, by omega, by omega, by omega⟩⟩]
                rfl
              · have c : decide (0 ≤ mn) = false := by simpa using c
                rw [show isM n (.int o', .int p', .int m', .int f') = decide (0 ≤ mn) from decide_eq_decide.mpr ⟨fun z => by rcases hmn with rfl | rfl <;> omega, fun z => absurd (decide_eq_true z) (by rw [c]; decide)⟩, c]
                exact ⟨rfl, s3⟩
          clear s2 bt bf
          rintro σ G2 ⟨rfl, s2⟩
          -- what is due
          refine ⟨fun σ G2 => ∃ t : Addr, σ = sl28 a d n h (some (.int (0 + (i : Int)))) (some (.ref t)) (some (.ref tm)) (some (.bl (isM n q))) y8 (some (.ref fl)) (some x) g y12 ∧ Same G G2 ∧
            ((isM n q = false ∧ G2 t = some (.tup [.str "BadMating", .ref tm])) ∨ (isM n q = true ∧ 24 ≤ S.length ∧ G2 t = some (.tup [.str "Full", .int 24])) ∨ (isM n q = true ∧ S.length < 24 ∧ G2 t = some (.tup [.str "", .non]))), ?_, ?_⟩
          · refine ⟨.bl (isM n q), rfl, isM n q, rfl, ?_⟩
            obtain ⟨kvs, eh, sd⟩ := W.hd
            have lk := sd.length
            cases hq : isM n q with
            | false => exact iteT ⟨.ref tm, rfl, two, fun t nt => ⟨t, rfl, s2.trans (same_upd nt), .inl ⟨rfl, upd_same⟩⟩⟩
            | true =>
              refine iteF ⟨.ref h, rfl, h, kvs, rfl, s2 _ _ eh, _, _, rfl, rfl, _, rfl, ite2 (fun c => ?_) (fun c => ?_)⟩
              · have c : 23 < (kvs.length : Int) := of_decide_eq_true c
                exact ⟨two, fun t nt => ⟨t, rfl, s2.trans (same_upd nt), .inr (.inl ⟨rfl, by omega, upd_same⟩)⟩⟩
              · have c : ¬ 23 < (kvs.length : Int) := fun z => c (decide_eq_true z)
                exact ⟨two, fun t nt => ⟨t, rfl, s2.trans (same_upd nt), .inr (.inr ⟨rfl, by omega, upd_same⟩)⟩⟩
          clear s2
          rintro σ G2 ⟨t, rfl, s2, due⟩
          have W2 := W.same s2
          have etm2 := s2 _ _ etm
          have ask2 := ask.keepO (.same s2)
          clear W etm ask s2
          -- told
          refine ⟨fun σ G => ∃ A : Addr, σ = sl28 a d n h (some (.int (0 + (i : Int)))) (some (.ref t)) (some (.ref tm)) (some (.bl (isM n q))) y8 (some (.ref fl)) (some x) g (some (.ref A)) ∧ Same G2 G ∧ G A = some (.lst []) ∧ A ≠ d ∧ A ≠ l, ?_, ?_⟩
          · refine ⟨Nat.zero_le _, fun A nA => ?_⟩
            have ap := draw_apart W2.dr nA
            exact ⟨A, rfl, same_upd nA, upd_same, ap.1.symm, ap.2.symm⟩
          rintro σ G ⟨A, rfl, s3, eA, nAd, nAl⟩
          have W := W2.same s3
          have etm := s3 _ _ etm2
          have ask := ask2.keepO (.same s3)
          have due : ((isM n q = false ∧ G t = some (.tup [.str "BadMating", .ref tm])) ∨ (isM n q = true ∧ 24 ≤ S.length ∧ G t = some (.tup [.str "Full", .int 24])) ∨ (isM n q = true ∧ S.length < 24 ∧ G t = some (.tup [.str "", .non]))) := by
            rcases due with ⟨e1, e2⟩ | ⟨e1, e2, e3⟩ | ⟨e1, e2, e3⟩
            · exact .inl ⟨e1, s3 _ _ e2⟩
            · exact .inr (.inl ⟨e1, e2, s3 _ _ e3⟩)
            · exact .inr (.inr ⟨e1, e2, s3 _ _ e3⟩)
          clear W2 etm2 ask2 s3
          -- what the mating tells
          refine ⟨fun σ G => σ = sl28 a d n h (some (.int (0 + (i : Int)))) (some (.ref t)) (some (.ref tm)) (some (.bl (isM n q))) y8 (some (.ref fl)) (some x) g (some (.ref A)) ∧
            ((∃ x4 : M4, S.length < 24 ∧ Mok n x4 ∧ G tm = some (t4 x4) ∧ G t = some (.tup [.str "", .non]) ∧ G A = some (.lst [.int (nxt S)]) ∧ W28 T C5 d l g h n (S ++ [(nxt S, x4)]) S G) ∨ (∃ (u : Str) (v : V), u ≠ "" ∧ G t = some (.tup [.str u, v]) ∧ W28 T C5 d l g h n S S G)), ?_, ?_⟩
          · refine ⟨W.tb, fun H1 x1 T1 t0 nt0 R hR => ?_⟩
            have W1 := W.ext x1 T1
            have eA1 := x1 _ _ eA (fun _ z => by cases z)
            have s2 := same_upd (H := H1) (o := .tup [.str "", .non]) nt0
            have e0 : (upd H1 t0 (.tup [.str "", .non])) t0 = some (.tup [.str "", .non]) := upd_same
            generalize upd H1 t0 (.tup [.str "", .non]) = H2 at s2 e0
            have W2 := W1.same s2
            have eA2 := s2 _ _ eA1
            have etm2 := s2 _ _ (x1 _ _ etm (fun _ z => by cases z))
            have ask2 := ask.keepO ((KeepO.extN x1).trans (.same s2))
            have kt2 : ∀ xs, G t = some (.tup xs) → H2 t = some (.tup xs) := fun xs e => s2 _ _ (x1 _ _ e (fun _ z => by cases z))
            obtain ⟨st, k, cc, r, ap⟩ := W2.ro
            obtain ⟨kvs, eh, _⟩ := W2.hd
            have all := ask_cells ask2.alt
            have rO := r.off all
            obtain ⟨⟨dx, eg⟩, _⟩ := id rO
            obtain ⟨⟨dx2, eg2⟩, _⟩ := id r
            obtain ⟨Dq, rq⟩ := IBq.rp28 ib
            refine ⟨.ref A, rfl, .inl ⟨rfl, _, SqL.of eA2⟩, Exists.elim (ask_any (g0 := g0) TRo_ M_Ro_mate GB_Ro_mate b_Ro_mate dv_mate kb_Ro_mate ask2.alt ask2.code eg rfl ?_) fun F z => ⟨fl, F, rfl, z.1, z.2⟩⟩
            rcases due with ⟨hq, et⟩ | ⟨hq, hl, et⟩ | ⟨hq, hl, et⟩
            · refine .inr ⟨g, st, n, S, k, cc, q, rfl, rO, W2.wf, ib, fun H3 t3 s3 nt3 et3 => .inl ⟨hq, fun C fs H4 dd err s4 ndd edd gn => ?_⟩⟩
              obtain ⟨rfl, rfl⟩ : C = CG ∧ fs = bgF (.ref t3) := by
                rcases err with ⟨z, _⟩ | ⟨_, a1, a2⟩ | ⟨z, _⟩
                · exact absurd z (by decide)
                · exact ⟨a1, a2⟩
                · exact absurd z (by decide)
              have s24 := same_back (s3.trans s4)
              have et3' := back_at (H := H2) gn (s4 _ _ et3)
              refine ⟨C, dd, bgF (.ref t3), "BadMating", fun v _ => v = .ref t3, rfl, rfl, back_at gn edd, .inl ⟨.ref t3, rfl, rfl, rfl, rfl⟩, fun H5 t1 v s5 ev e1 => ?_⟩
              subst ev
              have s25 := s24.trans s5
              exact ⟨.ref t, rfl, .ref t1, .ref t, .tuple [.str "BadMating", Dq], rfl, .tup e1 (by show 2 ≤ 100000; decide) (.cons (.str _ _) (.cons (rq _ _ _ (s5 _ _ et3')) (.nil _))), .tup (s25 _ _ (kt2 _ et)) (by show 2 ≤ 100000; decide) (.cons (.str _ _) (.cons (rq _ _ _ (s25 _ _ etm2)) (.nil _))),
                fun H9 s9 => ⟨true, rfl, iteF ⟨rfl, .inr ⟨"BadMating", .ref tm, by decide, s9 _ _ (s25 _ _ (kt2 _ et)), W2.same (s25.trans s9)⟩⟩⟩⟩
            · refine .inr ⟨g, st, n, S, k, cc, q, rfl, rO, W2.wf, ib, fun H3 t3 s3 nt3 et3 => .inr ⟨hq, hl, fun C fs H4 dd err s4 ndd edd gn => ?_⟩⟩
              obtain ⟨rfl, rfl⟩ : C = CU ∧ fs = fuF (.int 24) := by
                rcases err with ⟨z, _⟩ | ⟨z, _⟩ | ⟨_, a1, a2⟩
                · exact absurd z (by decide)
                · exact absurd z (by decide)
                · exact ⟨a1, a2⟩
              have s24 := same_back (s3.trans s4)
              refine ⟨C, dd, fuF (.int 24), "Full", fun v _ => v = .int 24, rfl, rfl, back_at gn edd, .inr (.inl ⟨.int 24, rfl, rfl, rfl, rfl⟩), fun H5 t1 v s5 ev e1 => ?_⟩
              subst ev
              have s25 := s24.trans s5
              exact ⟨.ref t, rfl, .ref t1, .ref t, .tuple [.str "Full", .int 24], rfl, .tup e1 (by show 2 ≤ 100000; decide) (.cons (.str _ _) (.cons (.int _ _) (.nil _))), .tup (s25 _ _ (kt2 _ et)) (by show 2 ≤ 100000; decide) (.cons (.str _ _) (.cons (.int _ _) (.nil _))),
                fun H9 s9 => ⟨true, rfl, iteF ⟨rfl, .inr ⟨"Full", .int 24, by decide, s9 _ _ (s25 _ _ (kt2 _ et)), W2.same (s25.trans s9)⟩⟩⟩⟩
            · obtain ⟨x4, rfl, mok⟩ := isM_true hq
              refine .inl ⟨g, st, n, S, k, cc, x4, rfl, rO, W2.wf, hl, mok, fun H3 st' r' kp nst' gn => ?_⟩
              have kb : Keep g H2 (backC (clA cl) H2 H3) := keep_back kp
              have rb := r'.back (H := H2) gn
              have ehO := (all.offE eh fun u z => by unfold CellO at z; cases z).2
              have wf' : RoW n (S ++ [(nxt S, x4)]) := W2.wf.snoc (fun s hs => nxt_gt hs) (nxt_1 S) hl mok
              have W3 := W2.road rb (ne_of_none ehO nst').symm wf' kb
              generalize backC (clA cl) H2 H3 = H4 at kb rb W3
              have eA4 := kb.of eA2 (ne_of eA2 eg2 (fun z => by cases z))
              have et4 := kb.of (kt2 _ et) (ne_of (kt2 _ et) eg2 (fun z => by cases z))
              have etm4 := kb.of etm2 (ne_of etm2 eg2 (fun z => by cases z))
              have e04 := kb.of e0 (ne_of e0 eg2 (fun z => by cases z))
              refine ⟨A, [], .int (nxt S), rfl, rfl, eA4, by show 0 < sizeLine; decide, hR _ _ ?_⟩
              have k5 : Keep A H4 (upd H4 A (.lst ([] ++ [.int (nxt S)]))) := Keep.upd
              have eA5 : (upd H4 A (.lst ([] ++ [.int (nxt S)]))) A = some (.lst [.int (nxt S)]) := upd_same
              generalize upd H4 A (.lst ([] ++ [.int (nxt S)])) = H5 at k5 eA5
              have W5 := W3.lst eA4 nAd nAl k5
              have et5 := k5.of et4 (ne_of et4 eA4 (fun z => by cases z))
              have etm5 := k5.of etm4 (ne_of etm4 eA4 (fun z => by cases z))
              have e05 := k5.of e04 (ne_of e04 eA4 (fun z => by cases z))
              exact ⟨.ref t, rfl, .ref t0, .ref t, .tuple [.str "", .none], rfl, .tup e05 (by show 2 ≤ 100000; decide) (.cons (.str _ _) (.cons (.non _) (.nil _))), .tup et5 (by show 2 ≤ 100000; decide) (.cons (.str _ _) (.cons (.non _) (.nil _))),
                fun H9 s9 => ⟨true, rfl, iteF ⟨rfl, .inl ⟨x4, hl, mok, s9 _ _ etm5, s9 _ _ et5, s9 _ _ eA5, W5.same s9⟩⟩⟩⟩
          clear W due eA etm ask
          rintro σ G ⟨rfl, ⟨x4, hl, mok, etm, et, eA, W⟩ | ⟨u, v', hu', et, W⟩⟩
          · refine ⟨.ref t, rfl, t, _, 0, .str "", rfl, rfl, SqT.of et, atI_nat (j := 0) rfl, rfl, _, rfl, ite2 (fun _ => ?_) (fun c => absurd (decide_eq_true rfl) c)⟩
            obtain ⟨kvs, eh, sd⟩ := W.hd
            have lk := sd.length
            have wl := W.wf.low
            have up0 : ∀ s ∈ S, s.1 ≤ (i : Int) := up
            refine ⟨.ref tm, rfl, .ref h, rfl, by show 1 ≤ sizeLine; decide, fun L nL => ?_⟩
            have s1 := same_upd (H := G) (o := .lst [.int 0]) nL
            have eL : (upd G L (.lst [.int 0])) L = some (.lst [.int 0]) := upd_same
            generalize upd G L (.lst [.int 0]) = G1 at s1 eL
            refine ⟨.ref h, rfl, h, kvs, S.map (·.1), rfl, .inl (s1 _ _ eh), sd.keys, by rw [List.length_map]; omega, fun ys p pm pw np => ?_⟩
            have s2 := same_upd (H := G1) (o := .lst (ys.map V.int)) np
            have ep : (upd G1 p (.lst (ys.map V.int))) p = some (.lst (ys.map V.int)) := upd_same
            generalize upd G1 p (.lst (ys.map V.int)) = G2 at s2 ep
            have ly : ys.length = S.length := by rw [pm.length_eq, List.length_map]
            refine ⟨L, p, _, _, rfl, rfl, s2 _ _ eL, ep, by rw [List.length_map]; exact Nat.le_trans (show 1 + ys.length ≤ 63 by omega) (by decide), fun M nM => ?_⟩
            have s3 := same_upd (H := G2) (o := .lst ([.int 0] ++ ys.map V.int)) nM
            have eM : (upd G2 M (.lst ([.int 0] ++ ys.map V.int))) M = some (.lst ((0 :: ys).map V.int)) := upd_same
            generalize upd G2 M (.lst ([.int 0] ++ ys.map V.int)) = G3 at s3 eM
            refine ⟨M, 0 :: ys, rfl, SqL.of eM, Nat.zero_lt_succ _, fun mx hmx lmx => ?_⟩
            have emx : mx + 1 = nxt S := nxt_is (by
              rcases List.mem_cons.mp hmx with z | z
              · exact .inl z
              · exact .inr (pm.mem_iff.mp z)) (lmx 0 List.mem_cons_self) fun y hy => lmx y (List.mem_cons_of_mem _ (pm.mem_iff.mpr hy))
            have s13 := (s1.trans s2).trans s3
            have eh3 := s13 _ _ eh
            refine ⟨mx, 1, rfl, rfl, h, _, rfl, DPut.k (k := Sum.inl (mx + 1)) eh3 (sz_lt (by omega)), ?_⟩
            rw [emx]
            have vn : valV kvs (Sum.inl (nxt S)) = none := (sd.get (nxt S)).1 (sget_not fun s hs => Int.ne_of_lt (nxt_gt hs))
            rw [putK_new _ vn]
            have W3 := W.same s13
            have sd3 : Std G3 (kvs ++ [(Sum.inl (nxt S), .ref tm)]) (S ++ [(nxt S, x4)]) := Std.snoc ⟨rfl, tm, rfl, s13 _ _ etm⟩ (sd.keep fun b xs hb => s13 _ _ hb)
            have k4 : Keep h G3 (upd G3 h (.dK (kvs ++ [(Sum.inl (nxt S), .ref tm)]))) := Keep.upd
            have eh4 : (upd G3 h (.dK (kvs ++ [(Sum.inl (nxt S), .ref tm)]))) h = some (.dK (kvs ++ [(Sum.inl (nxt S), .ref tm)])) := upd_same
            generalize upd G3 h (.dK (kvs ++ [(Sum.inl (nxt S), .ref tm)])) = G4 at k4 eh4
            have W4 := W3.held eh4 sd3 k4
            have eA4 := k4.of (s13 _ _ eA) (ne_of (s13 _ _ eA) eh3 (fun z => by cases z))
            refine ⟨.ref A, rfl, .ref h, rfl, h, _, (S ++ [(nxt S, x4)]).map (·.1), rfl, eh4, sd3.keys, by simp, fun mx2 hm2 lm2 => ⟨by show 1 ≤ sizeLine; decide, fun L2' nL2 => ?_⟩⟩
            have em2 : mx2 = nxt S := by
              have z1 : nxt S ≤ mx2 := lm2 _ (by simp)
              rw [List.map_append] at hm2
              rcases List.mem_append.mp hm2 with z | z
              · obtain ⟨s, hs, e⟩ := List.mem_map.mp z
                have := nxt_gt hs
                omega
              · simpa using z
            subst em2
            have s5 := same_upd (H := G4) (o := .lst [.int (nxt S)]) nL2
            have e5 : (upd G4 L2' (.lst [.int (nxt S)])) L2' = some (.lst [.int (nxt S)]) := upd_same
            refine ⟨.ref A, .ref L2', .list [.int (nxt S)], rfl, .lst (s5 _ _ eA4) (by show 1 ≤ 100000; decide) (.cons (.int _ _) (.nil _)), .lst e5 (by show 1 ≤ 100000; decide) (.cons (.int _ _) (.nil _)), fun H9 s9 => ⟨true, rfl, iteF ⟨S ++ [(nxt S, x4)], _, _, _, _, _, rfl, W4.same (s5.trans s9), fun s hs => ?_⟩⟩⟩
            rcases List.mem_append.mp hs with z | z
            · have := up0 s z
              omega
            · rw [List.mem_singleton.mp z]
              exact nxt_le (by omega) up0
          · refine ⟨.ref t, rfl, t, _, 0, .str u, rfl, rfl, SqT.of et, atI_nat (j := 0) rfl, rfl, _, rfl, ite2 (fun c => ?_) (fun _ => ?_)⟩
            · have z : V.str u = V.str "" := of_decide_eq_true c
              exact absurd (V.str.inj z) hu'
            · exact ⟨S, _, _, _, _, _, rfl, W, fun s hs => by have := up s hs; omega⟩
      clear W up
      rintro σ G ⟨S, y5, y6, y7, y9, y12, rfl, W, up⟩
      have l24 := W.wf.len
      refine ⟨fun σ G => σ = sl28 a d n h (some (.int (0 + (i : Int)))) y5 y6 y7 y8 y9 (some x) g y12 ∧ W28 T C5 d l g h n S S G, ?_, ?_⟩
      · obtain ⟨st, k, cc, r, ap⟩ := W.ro
        obtain ⟨⟨dx, eg⟩, _⟩ := id r
        refine ⟨.ref g, rfl, g, dx, _, rfl, eg, rfl, g, st, n, S, k, cc, rfl, r, W.wf.up, by omega, fun G1 r1 us s1 nr er ls => ⟨.inl ⟨rfl, _, SqL.of er⟩, r1, us.map V.ref, rfl, rfl, er, rfl, ?_⟩⟩
        have ap := draw_apart W.dr nr
        exact (W.same s1).lst er ap.1.symm ap.2.symm Keep.upd
      clear W
      rintro σ G ⟨rfl, W⟩
      obtain ⟨kvs, eh, sd⟩ := W.hd
      have lk := sd.length
      have lnum : ∀ j : Int, 0 ≤ j → j < 10 ^ 20 → (Str.ofString (toString j)).length ≤ 20 := fun j h0 h1 => PyProof.Rows.toString_length_le h0 (by decide) h1
      have l1 := lnum n W.wf.n0 (by have := W.wf.n1; omega)
      have l2 := lnum (S.length : Nat) (by omega) (by omega)
      have c1 : (Str.ofString "Road(").length = 5 := by decide
      have c2 : (Str.ofString " places, ").length = 9 := by decide
      have c3 : (Str.ofString " matings)").length = 9 := by decide
      have big : 100 ≤ sizeLine := by decide
      refine ⟨fun σ G => σ = sl28 a d n h (some (.int (0 + (i : Int)))) y5 y6 y7 (some (.str (roShow n S.length))) y9 (some x) g y12 ∧ W28 T C5 d l g h n S S G, ?_, ?_⟩
      · refine ⟨.int n, rfl, n, rfl, small_log W.wf.n0 W.wf.n1, _, _, rfl, rfl, by omega, _, _, rfl, rfl, by simp only [Str.length_append]; omega, .ref h, rfl, h, kvs, rfl, eh, ?_⟩
        rw [lk]
        refine ⟨_, rfl, small_log (by omega) (by omega), _, _, rfl, rfl, by simp only [Str.length_append]; omega, _, _, rfl, rfl, by simp only [Str.length_append]; omega, rfl, W⟩
      clear W eh sd lk
      rintro σ G ⟨rfl, W⟩
      obtain ⟨kvs, eh, sd⟩ := W.hd
      have lk := sd.length
      obtain ⟨st, k, cc, r, ap⟩ := W.ro
      obtain ⟨⟨dx, eg⟩, _⟩ := id r
      refine ⟨.ref g, rfl, g, dx, _, rfl, eg, rfl, g, st, n, S, k, cc, rfl, r, W.wf.up, by omega, fun G1 r1 us s1 nr er ls => ?_⟩
      have eg1 := s1 _ _ eg
      refine ⟨.ref g, rfl, g, dx, _, rfl, eg1, rfl, g, dx, st, n, k, cc, rfl, eg1, .ref g, rfl, g, st, n, S, k, cc, rfl, r.same s1, W.wf.n0, W.wf.n1, l24, by show 3 ≤ sizeLine; decide, fun L1 nL1 => ?_⟩
      have s2 := same_upd (H := G1) (o := .lst [.ref r1, .int n, .str (roShow n S.length)]) nL1
      have e2 : (upd G1 L1 (.lst [.ref r1, .int n, .str (roShow n S.length)])) L1 = some (.lst [.ref r1, .int n, .str (roShow n S.length)]) := upd_same
      generalize upd G1 L1 (.lst [.ref r1, .int n, .str (roShow n S.length)]) = G2 at s2 e2
      have s12 := s1.trans s2
      have eh2 := s12 _ _ eh
      have sd2 := sd.keep (H' := G2) (fun b xs hb => s12 _ _ hb)
      obtain ⟨ks, rfl, pk⟩ := Std.ents30 sd2
      have lks := pk.length
      refine ⟨.ref h, rfl, .inr (.inr (.inl ⟨rfl, .inl ⟨_, eh2⟩⟩)), h, _, rfl, rfl, eh2, fun p np => ?_⟩
      have s3 := same_upd (H := G2) (o := L2.DX.itemsO p h) np
      refine ⟨p, h, ks, rfl, upd_same, s3 _ _ eh2, by omega, by rw [ents_keys30 pk]; exact W.wf.up, fun G4 L3 as s4 nL3 eL3 pa => ⟨.int n, rfl, .str (roShow n S.length), rfl, by show 3 ≤ sizeLine; decide, fun L2' nL2 => ?_⟩⟩
      have s5 := same_upd (H := G4) (o := .lst [.ref L3, .int n, .str (roShow n S.length)]) nL2
      have e5 : (upd G4 L2' (.lst [.ref L3, .int n, .str (roShow n S.length)])) L2' = some (.lst [.ref L3, .int n, .str (roShow n S.length)]) := upd_same
      generalize upd G4 L2' (.lst [.ref L3, .int n, .str (roShow n S.length)]) = G5 at s5 e5
      have s25 := s3.trans (s4.trans s5)
      have lsa : Ls G5 as S := ls_of s5 pa s5 pk s25
      have lal := lsa.length
      have lus := ls.length
      refine ⟨.ref L1, .ref L2', .list [.list (S.map sD), .int n, .str (roShow n S.length)], rfl, .lst (s25 _ _ e2) (by show 3 ≤ 100000; decide) (.cons (.lst (s25 _ _ (s2 _ _ er)) (by rw [List.length_map]; omega) (Ls.rp30 (m := 1) (ls.keep fun b xs hb => s25 _ _ (s2 _ _ hb)))) (.cons (.int _ _) (.cons (.str _ _) (.nil _)))),
        .lst e5 (by show 3 ≤ 100000; decide) (.cons (.lst (s5 _ _ eL3) (by rw [List.length_map]; omega) (Ls.rp30 (m := 1) lsa)) (.cons (.int _ _) (.cons (.str _ _) (.nil _)))), fun G9 s9 => ⟨true, rfl, iteF ⟨S, _, _, _, _, _, _, _, _, rfl, W.same ((s12.trans s25).trans s9), fun s hs => by have := up s hs; omega⟩⟩⟩
    · rintro σ G ⟨S, y4, y5, y6, y7, y8, y9, y10, y12, rfl, W, up⟩
      exact q G
end

/-! ### a def that answers by the one word and refuses by the other (from 36u_lenset) -/
section
variable {P : Program} {w : World} {K : PySem.W.Frag} {mg : Str → Option Value} {base : Heap}
/-- what answers by the one word and refuses by the other -/
theorem FnOk.both {j k m : Nat} {f : Addr} {fd : FuncData} {ps : List Str} {sp1 sp2 : Sp} (F1 : FnOk P w K mg base CX0 j f fd ps sp1) (F2 : FnOk P w K mg base (L2.CX P w) k f fd ps sp2) (hj : j ≤ m) (hk : k ≤ m) : FnOk P w K mg base (L2.CX P w) m f fd ps (fun vs H Q E => sp1 vs H Q E ∨ sp2 vs H Q E) := by
  refine ⟨fun vs H Q E h => ?_, fun A outer s H args us vs Q E hr he hb hv h => ?_⟩
  · rcases h with h | h
    · exact F1.len _ _ _ _ h
    · exact F2.len _ _ _ _ h
  · rcases h with h | h
    · refine codeAny_mono (F1.run A outer s H args us vs Q E (hr.mono hj) he hb hv h) fun r s' c => ?_
      cases r with
      | error e => exact (show False from c).elim
      | ok fl => cases fl <;> exact c
    · exact F2.run A outer s H args us vs Q E (hr.mono hk) he hb hv h
end

/-! ### how the class Road binds; the law with its two tables -/
abbrev TT28 (Pl Pd : Addr) : List (Addr × Str) := [(Pl, lamQ), (Pd, deedQ)]
def spLawT2 (K : PySem.W.Frag) (Pl Pd : Addr) : Sp := fun vs H Q _ => ∃ (a : Addr) (ns : List Int), vs = [.ref a] ∧ SqL K H a (ns.map V.int) ∧ ns.length ≤ 63 ∧ H Pl = some (.tbl #[]) ∧ H Pd = some (.tbl #[]) ∧ ∀ H', Q (.bl true) H'
theorem sp28 {K : PySem.W.Frag} {Pl Pd : Addr} : ∀ vs H Q E, spLawT2 K Pl Pd vs H Q E → spLaw28 K (TT28 Pl Pd) vs H Q E := fun vs H Q E ⟨a, ns, h1, h2, h3, h4, h5, h6⟩ => ⟨a, ns, h1, h2, h3, fun p hp => by
  rcases List.mem_cons.mp hp with z | z
  · rw [z]
    exact LamX.TabS.nil h4
  · rw [List.mem_singleton.mp z]
    exact LamX.TabS.nil h5, h6⟩
theorem hu28l {Pl Pd : Addr} (ne : Pl ≠ Pd) : ∀ p ∈ TT28 Pl Pd, p.1 = Pl → p.2 = lamQ := fun p hp e => by
  rcases List.mem_cons.mp hp with z | z
  · rw [z]
  · rw [List.mem_singleton.mp z] at e
    exact absurd e.symm ne
theorem hu28d {Pl Pd : Addr} (ne : Pl ≠ Pd) : ∀ p ∈ TT28 Pl Pd, p.1 = Pd → p.2 = deedQ := fun p hp e => by
  rcases List.mem_cons.mp hp with z | z
  · rw [z] at e
    exact absurd e ne
  · rw [List.mem_singleton.mp z]
theorem ro_init_binds {K : PySem.W.Frag} {f : Addr} {fd : FuncData} (F : FunD K "__init__" "Road.__init__" (defArgs s_Ro_init) (defBody s_Ro_init) (defScope s_Ro_init) [.int 0] [] f fd) : Binds K fd P_Ro_init [] := by
  obtain ⟨ds, v, b⟩ := F.binds1 (ps := P_Ro_init) 2 1 (by simp) rfl fun T kV doc pm an cdv ct us its hu hi => match us, hu, its, hi with | [_, _], _, [_], _ => ⟨_, rfl, rfl⟩
  cases v
  exact b
theorem mate_binds {K : PySem.W.Frag} {f : Addr} {fd : FuncData} (F : FunD K "mate" "Road.mate" (defArgs s_Ro_mate) (defBody s_Ro_mate) (defScope s_Ro_mate) [] [("turned", .int 0)] f fd) : ∃ ds, Vals [.int 0] ds ∧ Binds K fd P_Ro_mate ds :=
  F.binds0 (ps := P_Ro_mate) 4 (by simp) rfl fun D doc pm an cdv ct us ks hu hk => match us, hu, ks, hk with | [_, _, _, _], _, [_], _ => ⟨_, _, _, _, _, _, rfl, rfl, rfl⟩
theorem mate_kbinds {K : PySem.W.Frag} {f : Addr} {fd : FuncData} (F : FunD K "mate" "Road.mate" (defArgs s_Ro_mate) (defBody s_Ro_mate) (defScope s_Ro_mate) [] [("turned", .int 0)] f fd) : KBn K fd P_Ro_mate 4 ["turned"] (fun us ws => us ++ ws) (fun vs zs => vs ++ zs) := by
  obtain ⟨mv, b⟩ := F.kbinds0 (ps := P_Ro_mate) 4 ["turned"] [] (fun vs _ zs => vs ++ zs) (by simp) (fun q hq => (by cases hq)) (fun r1 _ r3 => r1.append r3) fun D doc pm an cdv ct us mv ws hu hm hw => match us, hu, mv, hm, ws, hw with | [_, _, _, _], _, [], _, [_], _ => rfl
  exact b

/-! ### the head by a run: what the top leaves, told by names -/
theorem len1 {α : Type} {M : List α → Prop} (h : ∀ a, M [a]) : ∀ us : List α, us.length = 1 → M us
  | [a], _ => h a
theorem len2 {α : Type} {M : List α → Prop} (h : ∀ a b, M [a, b]) : ∀ us : List α, us.length = 2 → M us
  | [a, b], _ => h a b
theorem len3 {α : Type} {M : List α → Prop} (h : ∀ a b c, M [a, b, c]) : ∀ us : List α, us.length = 3 → M us
  | [a, b, c], _ => h a b c
section
variable {K : PySem.W.Frag} {fas : List He.Fa} {fns : List He.DefD}
theorem raw_of {x q : Str} {ar : Arguments} {bd : List Stmt} {sc : Scope} {f : Addr} {fd : FuncData} (F : FunD K x q ar bd sc [] [] f fd) :
    ∃ oc od osl kV doc pm an cd ct, K.lookup f = some ⟨oc, od, .func (PySem.W.fnOf x q ar bd sc .none kV doc pm an cd ct), osl⟩ ∧ PySem.W.codeIn K cd q = true ∧ PySem.W.keepIn K (.ref f) = true := by
  obtain ⟨⟨oc, od, dV, kV, doc, pm, an, cd, ct, osl, rfl, hlk, hco, hdf, _⟩, hkp⟩ := F
  rcases hdf with ⟨_, hz⟩ | ⟨hne, _⟩
  · subst hz
    exact ⟨oc, od, osl, kV, doc, pm, an, cd, ct, hlk, hco, hkp⟩
  · exact absurd rfl hne
theorem say_def (c : He.SaysD fas fns K) (i : Nat) {x : Str} {st : Stmt} (e : fns[i]? = some (dD x st)) :
    ∃ oc od osl kV doc pm an cd ct, K.lookup (He.ga K x) = some ⟨oc, od, .func (PySem.W.fnOf x x (defArgs st) (defBody st) (defScope st) .none kV doc pm an cd ct), osl⟩ ∧ PySem.W.codeIn K cd x = true ∧ PySem.W.keepIn K (.ref (He.ga K x)) = true := by
  obtain ⟨fd, F⟩ := c.def_ i e
  exact raw_of F
theorem say_meth (c : He.SaysD fas fns K) (i : Nat) {C m q : Str} {st : Stmt} (e : fns[i]? = some (dM C m q st)) :
    ∃ oc od osl kV doc pm an cd ct, K.lookup (He.ma K (He.ga K C) m) = some ⟨oc, od, .func (PySem.W.fnOf m q (defArgs st) (defBody st) (defScope st) .none kV doc pm an cd ct), osl⟩ ∧ PySem.W.codeIn K cd q = true ∧ PySem.W.keepIn K (.ref (He.ma K (He.ga K C) m)) = true := by
  obtain ⟨fd, F⟩ := c.def_ i e
  exact raw_of F
theorem say_far (c : He.SaysD fas fns K) (i : Nat) {C m q : Str} {st : Stmt} (e : fns[i]? = some (dMs C m q st)) :
    ∃ fd, FunD K m q (defArgs st) (defBody st) (defScope st) [.str ""] [] (He.ma K (He.ga K C) m) fd := by
  obtain ⟨fd, F⟩ := c.def_ i e
  exact ⟨fd, F⟩
theorem say_law (c : He.SaysD fas fns K) (i : Nat) {x : Str} {st : Stmt} (e : fns[i]? = some (dD x st)) :
    ∃ oc od osl kV doc pm an ct, K.lookup (He.ga K x) = some ⟨oc, od, .func (PySem.W.fnOf x x (defArgs st) (defBody st) (defScope st) .none kV doc pm an (.ref (He.cT K (x, none)).1) ct), osl⟩ ∧ PySem.W.codeIn K (.ref (He.cT K (x, none)).1) x = true ∧ PySem.W.keepIn K (.ref (He.ga K x)) = true := by
  obtain ⟨oc, od, osl, kV, doc, pm, an, cd, ct, h1, h2, h3⟩ := say_def c i e
  obtain ⟨z, rfl⟩ := He.codeIn_ref h2
  have hz : He.codeOf K (x, none) = z := He.codeOf_eq (p := (x, none)) h1 rfl
  have hz2 : (He.cT K (x, none)).1 = z := hz
  rw [hz2]
  exact ⟨oc, od, osl, kV, doc, pm, an, ct, h1, h2, h3⟩
theorem say_int (c : He.SaysD fas fns K) (j : Nat) {x : Str} {i : Int} (e : fas[j]? = some (.int x i)) : ∃ t, PySem.W.nsIn K mainGlobals x = some (some (.int i t)) := by
  have q : (match PySem.W.nsIn K mainGlobals x with | some (some (.int u _)) => decide (u = i) | _ => false) = true := c.fact j e
  split at q
  · rename_i k t hk
    have hki := of_decide_eq_true q
    subst hki
    exact ⟨t, hk⟩
  · cases q
theorem all_at {l : List Bool} (h : l.all (fun b => b) = true) (i : Nat) {b : Bool} (e : l[i]? = some b) : b = true := List.all_eq_true.mp h b (List.mem_of_getElem? e)
theorem errB_ok {C : Addr} (h : errB K C = true) : ErrT K C := by
  obtain ⟨h0, h⟩ := He.ba h
  obtain ⟨h1, h⟩ := He.ba h
  obtain ⟨h2, h⟩ := He.ba h
  obtain ⟨h3, h⟩ := He.ba h
  obtain ⟨h4, h5⟩ := He.ba h
  refine ⟨⟨?_, He.eqO_ok h1, of_decide_eq_true h2, of_decide_eq_true h3, h4⟩, He.eqO_ok h5⟩
  split at h0
  · rename_i t dd cd sl hC
    obtain ⟨g1, g⟩ := He.ba h0
    obtain ⟨g2, g⟩ := He.ba g
    obtain ⟨g3, g⟩ := He.ba g
    have e1 : t = "type" := of_decide_eq_true g1
    subst e1
    split at g
    · rename_i D bm y0 y1 y2 y3 n y5 hm hs
      obtain ⟨e2, g⟩ := He.ba g
      obtain ⟨e3, e4⟩ := He.ba g
      have e2' := of_decide_eq_true e2
      have e3' := of_decide_eq_true e3
      subst e2' e3'
      obtain ⟨nm, bs, mro, ns, qn, hd, sn, sub, ab, col, del⟩ := cd
      obtain ⟨sll⟩ := sl
      have e5 : mro = .ref D :: bm := hm
      have e6 : hd = true := g2
      have e7 : del = false := by
        cases del with
        | false => rfl
        | true => cases g3
      have e8 : sll = [y0, y1, y2, y3, some (.builtin "ValueError.__new__"), y5] := hs
      subst e5 e6 e7 e8
      exact ⟨nm, qn, ns, bs, bm, sn, sub, ab, col, dd, y0, y1, y2, y3, y5, hC, e4⟩
    · cases g
  · cases h0
theorem excB_ok {C : Addr} (h : excB K C = true) : ExcC K C := by
  obtain ⟨h0, h⟩ := He.ba h
  obtain ⟨h1, h⟩ := He.ba h
  obtain ⟨h2, h⟩ := He.ba h
  obtain ⟨h3, h4⟩ := He.ba h
  have x := xfB_ok h0
  exact ⟨x.ga, x.gg, x.exC, x.hdC, He.eqO_ok h1, He.eqO_ok h2, of_decide_eq_true h3, of_decide_eq_true h4⟩
theorem cfnB_ok {C f : Addr} {m : Str} (h : cfnB K C m f = true) : ClsFn K C m f := by
  obtain ⟨h0, h⟩ := He.ba h
  obtain ⟨h1, h⟩ := He.ba h
  obtain ⟨h2, h3⟩ := He.ba h
  refine ⟨He.eqO_ok h0, h1, ?_, h3⟩
  split at h2
  · rename_i g hg
    have e := of_decide_eq_true h2
    subst e
    exact hg
  · cases h2
theorem bltB_ok {T m b : String} (h : bltB K T m b = true) : PySem.W.findCls K (.type T) (.type "type") m = some (.val (.builtin b)) := by
  unfold bltB at h
  split at h
  · rename_i g hg
    have e := of_decide_eq_true h
    subst e
    exact hg
  · cases h
theorem far_binds {f : Addr} {fd : FuncData} (F : FunD K "__init__" "FarError.__init__" (defArgs s_farinit) (defBody s_farinit) (defScope s_farinit) [.str ""] [] f fd) : Binds K fd N_farinit [] := by
  obtain ⟨ds, v, b⟩ := F.binds1 (ps := N_farinit) 2 1 (by simp) rfl fun T kV doc pm an cdv ct us its hu hi => match us, hu, its, hi with | [_, _], _, [_], _ => ⟨_, rfl, rfl⟩
  cases v
  exact b
end
/-! ### the hook: what the names reach, and the statics -/
structure SaysY (fas : List He.Fa) (fns : List He.DefD) (ex : PySem.W.Frag → List Bool) (h : Heap) (K : PySem.W.Frag) : Prop where
  d : He.SaysD fas fns K
  more : (ex K).all (fun b => b) = true
  hd : PySem.W.codeHdIn K (He.cT K lawAt).1 (He.cT K lawAt).2 = true
  out : K.lookup (He.cT K lawAt).2 = none
  mt : h.get? (He.cT K lawAt).2 = some (PySem.W.tabObj #[])
  hd2 : PySem.W.codeHdIn K (He.cT K lawAt2).1 (He.cT K lawAt2).2 = true
  out2 : K.lookup (He.cT K lawAt2).2 = none
  mt2 : h.get? (He.cT K lawAt2).2 = some (PySem.W.tabObj #[])
  ne : (He.cT K lawAt2).2 ≠ (He.cT K lawAt).2
abbrev AlY : Type := He.AlD × Bool
def obsY (fas : List He.Fa) (fns : List He.DefD) (ex : PySem.W.Frag → List Bool) (g : Addr → Option Obj) : AlY := (He.obsD fas fns (seenY g), (ex (seenY g)).all (fun b => b) && tabY g (seenY g))
theorem saysY_of {fas : List He.Fa} {fns : List He.DefD} {ex : PySem.W.Frag → List Bool} {h : Heap} (e : obsY fas fns ex h.get? = (He.valD fns, true)) : SaysY fas fns ex h (seenY h.get?) := by
  have e1 : He.obsD fas fns (seenY h.get?) = He.valD fns := congrArg (fun z : AlY => z.1) e
  have e2 : ((ex (seenY h.get?)).all (fun b => b) && tabY h.get? (seenY h.get?)) = true := congrArg (fun z : AlY => z.2) e
  obtain ⟨m1, m2⟩ := He.ba e2
  obtain ⟨p1, p2⟩ := He.ba m2
  obtain ⟨p3, p4⟩ := He.ba p2
  obtain ⟨m3, m4⟩ := He.ba p1
  obtain ⟨m6, m7⟩ := He.ba p3
  have some_tab : ∀ {a : Addr}, (h.get? a).any He.emptyTab = true → ∃ u, h.get? a = some u ∧ He.emptyTab u = true := fun {a} m => by
    cases q : h.get? a with
    | none =>
      rw [q] at m
      cases m
    | some u =>
      rw [q] at m
      exact ⟨u, rfl, m⟩
  obtain ⟨u, hu, hv⟩ := some_tab m4
  obtain ⟨u2, hu2, hv2⟩ := some_tab m7
  refine ⟨e1, m1, m3, He.frT_none hu hv, hu.trans (congrArg some (He.emptyTab_eq hv)), m6, He.frT_none hu2 hv2, hu2.trans (congrArg some (He.emptyTab_eq hv2)), fun z => ?_⟩
  rw [z, Nat.beq_refl] at p4
  cases p4
def hookY (fas : List He.Fa) (fns : List He.DefD) (ex : PySem.W.Frag → List Bool) : PySem.W.Hook where
  α := AlY
  obs := fun s => obsY fas fns ex s.heap.get?
  val := fun _ => (He.valD fns, true)
  says := fun _ h => ∃ K : PySem.W.Frag, K.In h ∧ SaysY fas fns ex h K
  of := fun _ _ e => ⟨_, He.frT_in, saysY_of e⟩
  keeps := fun _ _ _ ⟨K, a, b⟩ k => ⟨K, PySem.W.Frag.In.keeps a k, b.d, b.more, b.hd, b.out, k _ _ b.mt, b.hd2, b.out2, k _ _ b.mt2, b.ne⟩
theorem obsY_eq {fas : List He.Fa} {fns : List He.DefD} {ex : PySem.W.Frag → List Bool} (s : PySem.W.SharedT) : obsY fas fns ex (HandSHeadRun.getT s) = (hookY fas fns ex).obs s.abs := by
  have e : HandSHeadRun.getT s = s.abs.heap.get? := funext (HandSHeadRun.getT_eq s)
  rw [e]
  rfl
/-! ### the run by parts: each looks at one thing -/
section
open HandSHeadRun PyProof.Rows PySem.Calls PySem.W
theorem run_parts {r : PySem.W.OpenRow} {q : Program} {M : Nat} {loose : List Str} {fas : List He.Fa} {fns : List He.DefD} {ex : PySem.W.Frag → List Bool} (e1 : SeenEq r q M loose) (e2 : PartEq r.prog M (fun s => okY fas fns ex (getT s) (seenY (getT s))) fun _ => true)
    (e4 : PartEq r.prog M (fun s => fns.map fun d => He.fnW (seenY (getT s)) d.at_) fun _ => fns.map He.DefD.val) (w : World) : RunEq r q (hookY fas fns ex) (fun s => obsY fas fns ex (getT s)) M loose w := fun os => by
  obtain ⟨s, hs, h1⟩ := Option.map_eq_some_iff.mp (e1 w os)
  have at_s : ∀ {β : Type} {f : PySem.W.SharedT → β} {v : World → β}, PartEq r.prog M f v → f s = v w := fun h => by
    have z := h w os
    rw [hs] at z
    exact Option.some.inj z
  obtain ⟨a1, a2⟩ := Prod.mk.inj h1
  obtain ⟨b1, b2⟩ := He.ba (show (((fas.all fun f => f.ok (seenY (getT s))) && fns.all fun d => d.ok (seenY (getT s))) && ((ex (seenY (getT s))).all (fun b => b) && tabY (getT s) (seenY (getT s)))) = true from at_s e2)
  rw [hs]
  exact congrArg some (Prod.ext a1 (Prod.ext a2 (Prod.ext (Prod.ext b1 (at_s e4)) b2)))
end
/-! ### own errors over LookupError, looked at -/
section
variable {K : PySem.W.Frag}
theorem isRefV_ok {v : Value} (h : isRefV v = true) : ∃ c, v = .ref c := by
  cases v with
  | ref c => exact ⟨c, rfl⟩
  | _ => cases h
theorem refs_off : ∀ l : List Value, ∃ cs : List Addr, l = cs.map Value.ref ++ l.dropWhile isRefV
  | [] => ⟨[], rfl⟩
  | v :: r => by
    cases h : isRefV v with
    | false => exact ⟨[], by rw [List.dropWhile_cons, if_neg (by rw [h]; decide)]; rfl⟩
    | true =>
      obtain ⟨c, rfl⟩ := isRefV_ok h
      obtain ⟨cs, e⟩ := refs_off r
      refine ⟨c :: cs, ?_⟩
      rw [List.dropWhile_cons, if_pos h]
      exact congrArg (Value.ref c :: ·) e
theorem overB_ok {l : List Value} (h : overB l = true) : LkE.Over l := by
  obtain ⟨cs, e⟩ := refs_off l
  rw [show l.dropWhile isRefV = lkTail from beq_iff_eq.mp h] at e
  exact ⟨cs, e⟩
theorem lexB_ok {C : Addr} (h : lexB K C = true) : LerT K C := by
  obtain ⟨h0, h⟩ := He.ba h
  obtain ⟨h1, h⟩ := He.ba h
  obtain ⟨h2, h⟩ := He.ba h
  obtain ⟨h3, h⟩ := He.ba h
  obtain ⟨h4, h5⟩ := He.ba h
  refine ⟨⟨?_, He.eqO_ok h1, of_decide_eq_true h2, of_decide_eq_true h3, h4⟩, He.eqO_ok h5⟩
  split at h0
  · rename_i t dd cd sl hC
    obtain ⟨g1, g⟩ := He.ba h0
    obtain ⟨g2, g⟩ := He.ba g
    obtain ⟨g3, g⟩ := He.ba g
    have e1 : t = "type" := of_decide_eq_true g1
    subst e1
    split at g
    · rename_i D bm y0 y1 y2 y3 n y5 hm hs
      obtain ⟨e2, g⟩ := He.ba g
      obtain ⟨e3, e4⟩ := He.ba g
      have e2' := of_decide_eq_true e2
      have e3' := of_decide_eq_true e3
      subst e2' e3'
      obtain ⟨nm, bs, mro, ns, qn, hd, sn, sub, ab, col, del⟩ := cd
      obtain ⟨sll⟩ := sl
      have e5 : mro = .ref D :: bm := hm
      have e6 : hd = true := g2
      have e7 : del = false := by
        cases del with
        | false => rfl
        | true => cases g3
      have e8 : sll = [y0, y1, y2, y3, some (.builtin "LookupError.__new__"), y5] := hs
      subst e5 e6 e7 e8
      exact ⟨nm, qn, ns, bs, bm, sn, sub, ab, col, dd, y0, y1, y2, y3, y5, hC, overB_ok e4⟩
    · cases g
  · cases h0
theorem mis_binds {f : Addr} {fd : FuncData} (F : FunD K "__init__" "Missing.__init__" (defArgs s_misinit) (defBody s_misinit) (defScope s_misinit) [.str ""] [] f fd) : Binds K fd N_misinit [] := by
  obtain ⟨ds, v, b⟩ := F.binds1 (ps := N_misinit) 2 1 (by simp) rfl fun T kV doc pm an cdv ct us its hu hi => match us, hu, its, hi with | [_, _], _, [_], _ => ⟨_, rfl, rfl⟩
  cases v
  exact b
end
theorem all_mk {l : PySem.W.OpenLaw} {w : World} {K : PySem.W.Frag} {h : Heap} {mg : Str → Option Value} {fa : Addr}
    {f0 : Addr} {od0 an0 : Option Addr} {sl0 : Array (Option Value)} {oc0 kV0 dc0 pm0 ct0 cd0 : Value}
    {f1 : Addr} {od1 an1 : Option Addr} {sl1 : Array (Option Value)} {oc1 kV1 dc1 pm1 ct1 cd1 : Value}
    {f2 : Addr} {od2 an2 : Option Addr} {sl2 : Array (Option Value)} {oc2 kV2 dc2 pm2 ct2 cd2 : Value}
    {f3 : Addr} {od3 an3 : Option Addr} {sl3 : Array (Option Value)} {oc3 kV3 dc3 pm3 ct3 cd3 : Value}
    {f4 : Addr} {od4 an4 : Option Addr} {sl4 : Array (Option Value)} {oc4 kV4 dc4 pm4 ct4 cd4 : Value}
    {f5 : Addr} {od5 an5 : Option Addr} {sl5 : Array (Option Value)} {oc5 kV5 dc5 pm5 ct5 cd5 : Value}
    {f6 : Addr} {od6 an6 : Option Addr} {sl6 : Array (Option Value)} {oc6 kV6 dc6 pm6 ct6 cd6 : Value}
    {f7 : Addr} {od7 an7 : Option Addr} {sl7 : Array (Option Value)} {oc7 kV7 dc7 pm7 ct7 cd7 : Value}
    {f8 : Addr} {od8 an8 : Option Addr} {sl8 : Array (Option Value)} {oc8 kV8 dc8 pm8 ct8 : Value}
    {f9 : Addr} {od9 an9 : Option Addr} {sl9 : Array (Option Value)} {oc9 kV9 dc9 pm9 ct9 cd9 : Value}
    {f10 : Addr} {od10 an10 : Option Addr} {sl10 : Array (Option Value)} {oc10 kV10 dc10 pm10 ct10 cd10 : Value}
    {f11 : Addr} {od11 an11 : Option Addr} {sl11 : Array (Option Value)} {oc11 kV11 dc11 pm11 ct11 cd11 : Value}
    {f12 : Addr} {od12 an12 : Option Addr} {sl12 : Array (Option Value)} {oc12 kV12 dc12 pm12 ct12 cd12 : Value}
    {f13 : Addr} {od13 an13 : Option Addr} {sl13 : Array (Option Value)} {oc13 kV13 dc13 pm13 ct13 cd13 : Value}
    {f14 c Pt cLw PtL : Addr} {od14 an14 : Option Addr} {sl14 : Array (Option Value)} {oc14 kV14 dc14 pm14 ct14 : Value}
    {C_FarError f_FarError : Addr} {fdF : FuncData}
    {C_BadMating f_BadMating : Addr} {od_BadMating an_BadMating : Option Addr} {sl_BadMating : Array (Option Value)} {oc_BadMating kV_BadMating dc_BadMating pm_BadMating cd_BadMating ct_BadMating : Value}
    {C_Full f_Full : Addr} {od_Full an_Full : Option Addr} {sl_Full : Array (Option Value)} {oc_Full kV_Full dc_Full pm_Full cd_Full ct_Full : Value}
    {C_Missing f_Missing : Addr} {fdMi : FuncData}
    {C_NoMating f_NoMating : Addr} {od_NoMating an_NoMating : Option Addr} {sl_NoMating : Array (Option Value)} {oc_NoMating kV_NoMating dc_NoMating pm_NoMating cd_NoMating ct_NoMating : Value}
    {C_BadNumber C_NoFamily C_TooMuch C_BadName C_Taken C_NoRoad C_BadPlace C_BadStretch C_BadMove C_BadMoves C_BadText C_BadBoard C_BadCounts C_BadSide C_NoSide : Addr}
    {C_Road : Addr}
    {fm_Ro_become : Addr} {odm_Ro_become anm_Ro_become : Option Addr} {slm_Ro_become : Array (Option Value)} {ocm_Ro_become kVm_Ro_become dcm_Ro_become pmm_Ro_become ctm_Ro_become cdm_Ro_become : Value}
    {fm_Ro_next_number : Addr} {odm_Ro_next_number anm_Ro_next_number : Option Addr} {slm_Ro_next_number : Array (Option Value)} {ocm_Ro_next_number kVm_Ro_next_number dcm_Ro_next_number pmm_Ro_next_number ctm_Ro_next_number cdm_Ro_next_number : Value}
    {fm_Ro_matings : Addr} {odm_Ro_matings anm_Ro_matings : Option Addr} {slm_Ro_matings : Array (Option Value)} {ocm_Ro_matings kVm_Ro_matings dcm_Ro_matings pmm_Ro_matings ctm_Ro_matings cdm_Ro_matings : Value}
    {fm_Ro_length : Addr} {odm_Ro_length anm_Ro_length : Option Addr} {slm_Ro_length : Array (Option Value)} {ocm_Ro_length kVm_Ro_length dcm_Ro_length pmm_Ro_length ctm_Ro_length cdm_Ro_length : Value}
    {fm_Ro_mate_as : Addr} {odm_Ro_mate_as anm_Ro_mate_as : Option Addr} {slm_Ro_mate_as : Array (Option Value)} {ocm_Ro_mate_as kVm_Ro_mate_as dcm_Ro_mate_as pmm_Ro_mate_as ctm_Ro_mate_as cdm_Ro_mate_as : Value}
    {fm_Ro_strike : Addr} {odm_Ro_strike anm_Ro_strike : Option Addr} {slm_Ro_strike : Array (Option Value)} {ocm_Ro_strike kVm_Ro_strike dcm_Ro_strike pmm_Ro_strike ctm_Ro_strike cdm_Ro_strike : Value}
    {fm_Ro___repr__ : Addr} {odm_Ro___repr__ anm_Ro___repr__ : Option Addr} {slm_Ro___repr__ : Array (Option Value)} {ocm_Ro___repr__ kVm_Ro___repr__ dcm_Ro___repr__ pmm_Ro___repr__ ctm_Ro___repr__ cdm_Ro___repr__ : Value}
    {fm_Ro___init__ : Addr} {fdm_Ro___init__ : FuncData}
    {fm_Ro_mate : Addr} {fdm_Ro_mate : FuncData}
    {tk_FAR : Tok}
    {tk_MOST : Tok}
    (X : K.In h) (G : h.Ns mainGlobals mg) (hfa : mg "law" = some (.ref fa)) (hT : h.get? Pt = some (PySem.W.tabObj #[]))
    (a0 : PySem.W.nsIn K mainGlobals "_law_open" = some (some (.ref f0))) (l0 : K.lookup f0 = some ⟨oc0, od0, .func (PySem.W.fnOf "_law_open" "_law_open" (defArgs s_open) (defBody s_open) (defScope s_open) .none kV0 dc0 pm0 an0 cd0 ct0), sl0⟩) (c0 : PySem.W.codeIn K cd0 "_law_open" = true) (k0 : PySem.W.keepIn K (.ref f0) = true)
    (a1 : PySem.W.nsIn K mainGlobals "_law_pull" = some (some (.ref f1))) (l1 : K.lookup f1 = some ⟨oc1, od1, .func (PySem.W.fnOf "_law_pull" "_law_pull" (defArgs s_pull) (defBody s_pull) (defScope s_pull) .none kV1 dc1 pm1 an1 cd1 ct1), sl1⟩) (c1 : PySem.W.codeIn K cd1 "_law_pull" = true) (k1 : PySem.W.keepIn K (.ref f1) = true)
    (a2 : PySem.W.nsIn K mainGlobals "_law_any" = some (some (.ref f2))) (l2 : K.lookup f2 = some ⟨oc2, od2, .func (PySem.W.fnOf "_law_any" "_law_any" (defArgs s_any) (defBody s_any) (defScope s_any) .none kV2 dc2 pm2 an2 cd2 ct2), sl2⟩) (c2 : PySem.W.codeIn K cd2 "_law_any" = true) (k2 : PySem.W.keepIn K (.ref f2) = true)
    (a3 : PySem.W.nsIn K mainGlobals "_law_like" = some (some (.ref f3))) (l3 : K.lookup f3 = some ⟨oc3, od3, .func (PySem.W.fnOf "_law_like" "_law_like" (defArgs s_like) (defBody s_like) (defScope s_like) .none kV3 dc3 pm3 an3 cd3 ct3), sl3⟩) (c3 : PySem.W.codeIn K cd3 "_law_like" = true) (k3 : PySem.W.keepIn K (.ref f3) = true)
    (a4 : PySem.W.nsIn K mainGlobals "_law_fields" = some (some (.ref f4))) (l4 : K.lookup f4 = some ⟨oc4, od4, .func (PySem.W.fnOf "_law_fields" "_law_fields" (defArgs s_fields) (defBody s_fields) (defScope s_fields) .none kV4 dc4 pm4 an4 cd4 ct4), sl4⟩) (c4 : PySem.W.codeIn K cd4 "_law_fields" = true) (k4 : PySem.W.keepIn K (.ref f4) = true)
    (a5 : PySem.W.nsIn K mainGlobals "_law_why" = some (some (.ref f5))) (l5 : K.lookup f5 = some ⟨oc5, od5, .func (PySem.W.fnOf "_law_why" "_law_why" (defArgs s_why) (defBody s_why) (defScope s_why) .none kV5 dc5 pm5 an5 cd5 ct5), sl5⟩) (c5 : PySem.W.codeIn K cd5 "_law_why" = true) (k5 : PySem.W.keepIn K (.ref f5) = true)
    (a6 : PySem.W.nsIn K mainGlobals "_law_mating" = some (some (.ref f6))) (l6 : K.lookup f6 = some ⟨oc6, od6, .func (PySem.W.fnOf "_law_mating" "_law_mating" (defArgs s_mating) (defBody s_mating) (defScope s_mating) .none kV6 dc6 pm6 an6 cd6 ct6), sl6⟩) (c6 : PySem.W.codeIn K cd6 "_law_mating" = true) (k6 : PySem.W.keepIn K (.ref f6) = true)
    (a7 : PySem.W.nsIn K mainGlobals "_law_odd" = some (some (.ref f7))) (l7 : K.lookup f7 = some ⟨oc7, od7, .func (PySem.W.fnOf "_law_odd" "_law_odd" (defArgs s_odd) (defBody s_odd) (defScope s_odd) .none kV7 dc7 pm7 an7 cd7 ct7), sl7⟩) (c7 : PySem.W.codeIn K cd7 "_law_odd" = true) (k7 : PySem.W.keepIn K (.ref f7) = true)
    (a8 : PySem.W.nsIn K mainGlobals "_law_deed" = some (some (.ref f8))) (l8 : K.lookup f8 = some ⟨oc8, od8, .func (PySem.W.fnOf "_law_deed" "_law_deed" (defArgs s_deed) (defBody s_deed) (defScope s_deed) .none kV8 dc8 pm8 an8 (.ref c) ct8), sl8⟩) (c8 : PySem.W.codeIn K (.ref c) "_law_deed" = true) (k8 : PySem.W.keepIn K (.ref f8) = true)
    (a9 : PySem.W.nsIn K mainGlobals "need_from" = some (some (.ref f9))) (l9 : K.lookup f9 = some ⟨oc9, od9, .func (PySem.W.fnOf "need_from" "need_from" (defArgs s_need_from) (defBody s_need_from) (defScope s_need_from) .none kV9 dc9 pm9 an9 cd9 ct9), sl9⟩) (c9 : PySem.W.codeIn K cd9 "need_from" = true) (k9 : PySem.W.keepIn K (.ref f9) = true)
    (a10 : PySem.W.nsIn K mainGlobals "need_within" = some (some (.ref f10))) (l10 : K.lookup f10 = some ⟨oc10, od10, .func (PySem.W.fnOf "need_within" "need_within" (defArgs s_need_within) (defBody s_need_within) (defScope s_need_within) .none kV10 dc10 pm10 an10 cd10 ct10), sl10⟩) (c10 : PySem.W.codeIn K cd10 "need_within" = true) (k10 : PySem.W.keepIn K (.ref f10) = true)
    (a11 : PySem.W.nsIn K mainGlobals "need_length" = some (some (.ref f11))) (l11 : K.lookup f11 = some ⟨oc11, od11, .func (PySem.W.fnOf "need_length" "need_length" (defArgs s_need_length) (defBody s_need_length) (defScope s_need_length) .none kV11 dc11 pm11 an11 cd11 ct11), sl11⟩) (c11 : PySem.W.codeIn K cd11 "need_length" = true) (k11 : PySem.W.keepIn K (.ref f11) = true)
    (a12 : PySem.W.nsIn K mainGlobals "need_mating" = some (some (.ref f12))) (l12 : K.lookup f12 = some ⟨oc12, od12, .func (PySem.W.fnOf "need_mating" "need_mating" (defArgs s_need_mating) (defBody s_need_mating) (defScope s_need_mating) .none kV12 dc12 pm12 an12 cd12 ct12), sl12⟩) (c12 : PySem.W.codeIn K cd12 "need_mating" = true) (k12 : PySem.W.keepIn K (.ref f12) = true)
    (a13 : PySem.W.nsIn K mainGlobals "is_mating" = some (some (.ref f13))) (l13 : K.lookup f13 = some ⟨oc13, od13, .func (PySem.W.fnOf "is_mating" "is_mating" (defArgs s_is_mating) (defBody s_is_mating) (defScope s_is_mating) .none kV13 dc13 pm13 an13 cd13 ct13), sl13⟩) (c13 : PySem.W.codeIn K cd13 "is_mating" = true) (k13 : PySem.W.keepIn K (.ref f13) = true)
    (a14 : PySem.W.nsIn K mainGlobals "law" = some (some (.ref f14))) (l14 : K.lookup f14 = some ⟨oc14, od14, .func (PySem.W.fnOf "law" "law" (defArgs s_law) (defBody s_law) (defScope s_law) .none kV14 dc14 pm14 an14 (.ref cLw) ct14), sl14⟩) (c14 : PySem.W.codeIn K (.ref cLw) "law" = true) (k14 : PySem.W.keepIn K (.ref f14) = true)
    (z0 : PySem.W.nsIn K mainGlobals "len" = some none) (z1 : PySem.W.nsIn K mainGlobals "list" = some none) (z2 : PySem.W.nsIn K mainGlobals "tuple" = some none) (z3 : PySem.W.nsIn K mainGlobals "bool" = some none)
    (z4 : PySem.W.nsIn K mainGlobals "int" = some none) (z5 : PySem.W.nsIn K mainGlobals "str" = some none) (z6 : PySem.W.nsIn K mainGlobals "isinstance" = some none) (z7 : PySem.W.nsIn K mainGlobals "all" = some none)
    (z8 : PySem.W.nsIn K mainGlobals "any" = some none) (z9 : PySem.W.nsIn K mainGlobals "range" = some none) (z10 : PySem.W.nsIn K mainGlobals "max" = some none) (z11 : PySem.W.nsIn K mainGlobals "min" = some none)
    (z12 : PySem.W.nsIn K mainGlobals "dict" = some none) (z13 : PySem.W.nsIn K mainGlobals "sorted" = some none) (zV : PySem.W.nsIn K mainGlobals "ValueError" = some none) (hP : PySem.W.codeHdIn K c Pt = true)
    (nP : K.lookup Pt = none) (hP2 : PySem.W.codeHdIn K cLw PtL = true) (nP2 : K.lookup PtL = none) (hT2 : h.get? PtL = some (PySem.W.tabObj #[]))
    (neP : PtL ≠ Pt) (gF : PySem.W.nsIn K mainGlobals "FarError" = some (some (.ref C_FarError))) (TF : ClsFn K C_FarError "__init__" f_FarError) (FF : FunD K "__init__" "FarError.__init__" (defArgs s_farinit) (defBody s_farinit) (defScope s_farinit) [.str ""] [] f_FarError fdF)
    (fF8 : PySem.W.findCls K (.type "ValueError") (.type "type") "__init__" = some (.val (.builtin "ValueError.__init__"))) (g_BadMating : PySem.W.nsIn K mainGlobals "BadMating" = some (some (.ref C_BadMating))) (E_BadMating : ErrT K C_BadMating) (XF_BadMating : XfC K C_BadMating)
    (EC_BadMating : ExcC K C_BadMating) (M_BadMating : PySem.W.exmOne K (.ref C_BadMating) (.ref C_FarError) = some true) (n_BadMating_mating : PySem.W.findIn K (.ref C_BadMating) "mating" = some none) (i_BadMating : PySem.W.findIn K (.ref C_BadMating) "__init__" = some (some (.ref f_BadMating)))
    (t_BadMating : PySem.W.typeIn K (.ref f_BadMating) = some (.type "function")) (l_BadMating : K.lookup f_BadMating = some ⟨oc_BadMating, od_BadMating, .func (PySem.W.fnOf "__init__" "BadMating.__init__" (defArgs s_bginit) (defBody s_bginit) (defScope s_bginit) .none kV_BadMating dc_BadMating pm_BadMating an_BadMating cd_BadMating ct_BadMating), sl_BadMating⟩) (c_BadMating : PySem.W.codeIn K cd_BadMating "BadMating.__init__" = true) (k_BadMating : PySem.W.keepIn K (.ref f_BadMating) = true)
    (g_Full : PySem.W.nsIn K mainGlobals "Full" = some (some (.ref C_Full))) (E_Full : ErrT K C_Full) (XF_Full : XfC K C_Full) (EC_Full : ExcC K C_Full)
    (M_Full : PySem.W.exmOne K (.ref C_Full) (.ref C_FarError) = some true) (n_Full_most : PySem.W.findIn K (.ref C_Full) "most" = some none) (i_Full : PySem.W.findIn K (.ref C_Full) "__init__" = some (some (.ref f_Full))) (t_Full : PySem.W.typeIn K (.ref f_Full) = some (.type "function"))
    (l_Full : K.lookup f_Full = some ⟨oc_Full, od_Full, .func (PySem.W.fnOf "__init__" "Full.__init__" (defArgs s_fuinit) (defBody s_fuinit) (defScope s_fuinit) .none kV_Full dc_Full pm_Full an_Full cd_Full ct_Full), sl_Full⟩) (c_Full : PySem.W.codeIn K cd_Full "Full.__init__" = true) (k_Full : PySem.W.keepIn K (.ref f_Full) = true) (gM : PySem.W.nsIn K mainGlobals "Missing" = some (some (.ref C_Missing)))
    (TMi : ClsFn K C_Missing "__init__" f_Missing) (FMi : FunD K "__init__" "Missing.__init__" (defArgs s_misinit) (defBody s_misinit) (defScope s_misinit) [.str ""] [] f_Missing fdMi) (fM8 : PySem.W.findCls K (.type "LookupError") (.type "type") "__init__" = some (.val (.builtin "LookupError.__init__"))) (zL : PySem.W.nsIn K mainGlobals "LookupError" = some none)
    (g_NoMating : PySem.W.nsIn K mainGlobals "NoMating" = some (some (.ref C_NoMating))) (E_NoMating : LerT K C_NoMating) (XF_NoMating : XfC K C_NoMating) (EC_NoMating : ExcC K C_NoMating)
    (M0_NoMating : PySem.W.exmOne K (.ref C_NoMating) (.ref C_FarError) = some false) (M_NoMating : PySem.W.exmOne K (.ref C_NoMating) (.ref C_Missing) = some true) (n_NoMating_number : PySem.W.findIn K (.ref C_NoMating) "number" = some none) (i_NoMating : PySem.W.findIn K (.ref C_NoMating) "__init__" = some (some (.ref f_NoMating)))
    (t_NoMating : PySem.W.typeIn K (.ref f_NoMating) = some (.type "function")) (l_NoMating : K.lookup f_NoMating = some ⟨oc_NoMating, od_NoMating, .func (PySem.W.fnOf "__init__" "NoMating.__init__" (defArgs s_nminit) (defBody s_nminit) (defScope s_nminit) .none kV_NoMating dc_NoMating pm_NoMating an_NoMating cd_NoMating ct_NoMating), sl_NoMating⟩) (c_NoMating : PySem.W.codeIn K cd_NoMating "NoMating.__init__" = true) (k_NoMating : PySem.W.keepIn K (.ref f_NoMating) = true)
    (g_BadNumber : PySem.W.nsIn K mainGlobals "BadNumber" = some (some (.ref C_BadNumber))) (g_NoFamily : PySem.W.nsIn K mainGlobals "NoFamily" = some (some (.ref C_NoFamily))) (g_TooMuch : PySem.W.nsIn K mainGlobals "TooMuch" = some (some (.ref C_TooMuch))) (g_BadName : PySem.W.nsIn K mainGlobals "BadName" = some (some (.ref C_BadName)))
    (g_Taken : PySem.W.nsIn K mainGlobals "Taken" = some (some (.ref C_Taken))) (g_NoRoad : PySem.W.nsIn K mainGlobals "NoRoad" = some (some (.ref C_NoRoad))) (g_BadPlace : PySem.W.nsIn K mainGlobals "BadPlace" = some (some (.ref C_BadPlace))) (g_BadStretch : PySem.W.nsIn K mainGlobals "BadStretch" = some (some (.ref C_BadStretch)))
    (g_BadMove : PySem.W.nsIn K mainGlobals "BadMove" = some (some (.ref C_BadMove))) (g_BadMoves : PySem.W.nsIn K mainGlobals "BadMoves" = some (some (.ref C_BadMoves))) (g_BadText : PySem.W.nsIn K mainGlobals "BadText" = some (some (.ref C_BadText))) (g_BadBoard : PySem.W.nsIn K mainGlobals "BadBoard" = some (some (.ref C_BadBoard)))
    (g_BadCounts : PySem.W.nsIn K mainGlobals "BadCounts" = some (some (.ref C_BadCounts))) (g_BadSide : PySem.W.nsIn K mainGlobals "BadSide" = some (some (.ref C_BadSide))) (g_NoSide : PySem.W.nsIn K mainGlobals "NoSide" = some (some (.ref C_NoSide))) (zf_repr : PySem.W.nsIn K mainGlobals "repr" = some none)
    (g_Road : PySem.W.nsIn K mainGlobals "Road" = some (some (.ref C_Road))) (cl_Road : Cls K C_Road) (mk_Road : PySem.W.makesIn K C_Road = true) (kc_Road : PySem.W.keepIn K (.ref C_Road) = true)
    (na_Ro_extent : PySem.W.findIn K (.ref C_Road) "extent" = some none) (na_Ro_standing : PySem.W.findIn K (.ref C_Road) "standing" = some none) (na_Ro_kept : PySem.W.findIn K (.ref C_Road) "kept" = some none) (na_Ro_foldings : PySem.W.findIn K (.ref C_Road) "foldings" = some none)
    (ma_Ro_become : PySem.W.findIn K (.ref C_Road) "become" = some (some (.ref fm_Ro_become))) (mi_Ro_become : PySem.W.isFn K (.ref fm_Ro_become) = true) (ml_Ro_become : K.lookup fm_Ro_become = some ⟨ocm_Ro_become, odm_Ro_become, .func (PySem.W.fnOf "become" "Road.become" (defArgs s_Ro_become) (defBody s_Ro_become) (defScope s_Ro_become) .none kVm_Ro_become dcm_Ro_become pmm_Ro_become anm_Ro_become cdm_Ro_become ctm_Ro_become), slm_Ro_become⟩) (mc_Ro_become : PySem.W.codeIn K cdm_Ro_become "Road.become" = true)
    (mp_Ro_become : PySem.W.keepIn K (.ref fm_Ro_become) = true) (ma_Ro_next_number : PySem.W.findIn K (.ref C_Road) "next_number" = some (some (.ref fm_Ro_next_number))) (mi_Ro_next_number : PySem.W.isFn K (.ref fm_Ro_next_number) = true) (ml_Ro_next_number : K.lookup fm_Ro_next_number = some ⟨ocm_Ro_next_number, odm_Ro_next_number, .func (PySem.W.fnOf "next_number" "Road.next_number" (defArgs s_Ro_next_number) (defBody s_Ro_next_number) (defScope s_Ro_next_number) .none kVm_Ro_next_number dcm_Ro_next_number pmm_Ro_next_number anm_Ro_next_number cdm_Ro_next_number ctm_Ro_next_number), slm_Ro_next_number⟩)
    (mc_Ro_next_number : PySem.W.codeIn K cdm_Ro_next_number "Road.next_number" = true) (mp_Ro_next_number : PySem.W.keepIn K (.ref fm_Ro_next_number) = true) (ma_Ro_matings : PySem.W.findIn K (.ref C_Road) "matings" = some (some (.ref fm_Ro_matings))) (mi_Ro_matings : PySem.W.isFn K (.ref fm_Ro_matings) = true)
    (ml_Ro_matings : K.lookup fm_Ro_matings = some ⟨ocm_Ro_matings, odm_Ro_matings, .func (PySem.W.fnOf "matings" "Road.matings" (defArgs s_Ro_matings) (defBody s_Ro_matings) (defScope s_Ro_matings) .none kVm_Ro_matings dcm_Ro_matings pmm_Ro_matings anm_Ro_matings cdm_Ro_matings ctm_Ro_matings), slm_Ro_matings⟩) (mc_Ro_matings : PySem.W.codeIn K cdm_Ro_matings "Road.matings" = true) (mp_Ro_matings : PySem.W.keepIn K (.ref fm_Ro_matings) = true) (ma_Ro_length : PySem.W.findIn K (.ref C_Road) "length" = some (some (.ref fm_Ro_length)))
    (mi_Ro_length : PySem.W.isFn K (.ref fm_Ro_length) = true) (ml_Ro_length : K.lookup fm_Ro_length = some ⟨ocm_Ro_length, odm_Ro_length, .func (PySem.W.fnOf "length" "Road.length" (defArgs s_Ro_length) (defBody s_Ro_length) (defScope s_Ro_length) .none kVm_Ro_length dcm_Ro_length pmm_Ro_length anm_Ro_length cdm_Ro_length ctm_Ro_length), slm_Ro_length⟩) (mc_Ro_length : PySem.W.codeIn K cdm_Ro_length "Road.length" = true) (mp_Ro_length : PySem.W.keepIn K (.ref fm_Ro_length) = true)
    (ma_Ro_mate_as : PySem.W.findIn K (.ref C_Road) "mate_as" = some (some (.ref fm_Ro_mate_as))) (mi_Ro_mate_as : PySem.W.isFn K (.ref fm_Ro_mate_as) = true) (ml_Ro_mate_as : K.lookup fm_Ro_mate_as = some ⟨ocm_Ro_mate_as, odm_Ro_mate_as, .func (PySem.W.fnOf "mate_as" "Road.mate_as" (defArgs s_Ro_mate_as) (defBody s_Ro_mate_as) (defScope s_Ro_mate_as) .none kVm_Ro_mate_as dcm_Ro_mate_as pmm_Ro_mate_as anm_Ro_mate_as cdm_Ro_mate_as ctm_Ro_mate_as), slm_Ro_mate_as⟩) (mc_Ro_mate_as : PySem.W.codeIn K cdm_Ro_mate_as "Road.mate_as" = true)
    (mp_Ro_mate_as : PySem.W.keepIn K (.ref fm_Ro_mate_as) = true) (ma_Ro_strike : PySem.W.findIn K (.ref C_Road) "strike" = some (some (.ref fm_Ro_strike))) (mi_Ro_strike : PySem.W.isFn K (.ref fm_Ro_strike) = true) (ml_Ro_strike : K.lookup fm_Ro_strike = some ⟨ocm_Ro_strike, odm_Ro_strike, .func (PySem.W.fnOf "strike" "Road.strike" (defArgs s_Ro_strike) (defBody s_Ro_strike) (defScope s_Ro_strike) .none kVm_Ro_strike dcm_Ro_strike pmm_Ro_strike anm_Ro_strike cdm_Ro_strike ctm_Ro_strike), slm_Ro_strike⟩)
    (mc_Ro_strike : PySem.W.codeIn K cdm_Ro_strike "Road.strike" = true) (mp_Ro_strike : PySem.W.keepIn K (.ref fm_Ro_strike) = true) (ma_Ro___repr__ : PySem.W.findIn K (.ref C_Road) "__repr__" = some (some (.ref fm_Ro___repr__))) (mi_Ro___repr__ : PySem.W.isFn K (.ref fm_Ro___repr__) = true)
    (ml_Ro___repr__ : K.lookup fm_Ro___repr__ = some ⟨ocm_Ro___repr__, odm_Ro___repr__, .func (PySem.W.fnOf "__repr__" "Road.__repr__" (defArgs s_Ro_repr) (defBody s_Ro_repr) (defScope s_Ro_repr) .none kVm_Ro___repr__ dcm_Ro___repr__ pmm_Ro___repr__ anm_Ro___repr__ cdm_Ro___repr__ ctm_Ro___repr__), slm_Ro___repr__⟩) (mc_Ro___repr__ : PySem.W.codeIn K cdm_Ro___repr__ "Road.__repr__" = true) (mp_Ro___repr__ : PySem.W.keepIn K (.ref fm_Ro___repr__) = true) (ma_Ro___init__ : PySem.W.findIn K (.ref C_Road) "__init__" = some (some (.ref fm_Ro___init__)))
    (mi_Ro___init__ : PySem.W.isFn K (.ref fm_Ro___init__) = true) (FD_Ro___init__ : FunD K "__init__" "Road.__init__" (defArgs s_Ro_init) (defBody s_Ro_init) (defScope s_Ro_init) [.int 0] [] fm_Ro___init__ fdm_Ro___init__) (ma_Ro_mate : PySem.W.findIn K (.ref C_Road) "mate" = some (some (.ref fm_Ro_mate))) (mi_Ro_mate : PySem.W.isFn K (.ref fm_Ro_mate) = true)
    (FD_Ro_mate : FunD K "mate" "Road.mate" (defArgs s_Ro_mate) (defBody s_Ro_mate) (defScope s_Ro_mate) [] [("turned", .int 0)] fm_Ro_mate fdm_Ro_mate) (self_BadMating : PySem.W.subIn K (.ref C_BadMating) (.ref C_BadMating) = some true) (ns_BadMating_BadNumber : PySem.W.subIn K (.ref C_BadMating) (.ref C_BadNumber) = some false) (nc_BadNumber : PySem.W.isClsIn K C_BadNumber = true)
    (nt_BadNumber : PySem.W.typeIn K (.ref C_BadNumber) = some (.type "type")) (ns_BadMating_NoMating : PySem.W.subIn K (.ref C_BadMating) (.ref C_NoMating) = some false) (nc_NoMating : PySem.W.isClsIn K C_NoMating = true) (nt_NoMating : PySem.W.typeIn K (.ref C_NoMating) = some (.type "type"))
    (ns_BadMating_NoFamily : PySem.W.subIn K (.ref C_BadMating) (.ref C_NoFamily) = some false) (nc_NoFamily : PySem.W.isClsIn K C_NoFamily = true) (nt_NoFamily : PySem.W.typeIn K (.ref C_NoFamily) = some (.type "type")) (ns_BadMating_TooMuch : PySem.W.subIn K (.ref C_BadMating) (.ref C_TooMuch) = some false)
    (nc_TooMuch : PySem.W.isClsIn K C_TooMuch = true) (nt_TooMuch : PySem.W.typeIn K (.ref C_TooMuch) = some (.type "type")) (ns_BadMating_BadName : PySem.W.subIn K (.ref C_BadMating) (.ref C_BadName) = some false) (nc_BadName : PySem.W.isClsIn K C_BadName = true)
    (nt_BadName : PySem.W.typeIn K (.ref C_BadName) = some (.type "type")) (ns_BadMating_Taken : PySem.W.subIn K (.ref C_BadMating) (.ref C_Taken) = some false) (nc_Taken : PySem.W.isClsIn K C_Taken = true) (nt_Taken : PySem.W.typeIn K (.ref C_Taken) = some (.type "type"))
    (ns_BadMating_NoRoad : PySem.W.subIn K (.ref C_BadMating) (.ref C_NoRoad) = some false) (nc_NoRoad : PySem.W.isClsIn K C_NoRoad = true) (nt_NoRoad : PySem.W.typeIn K (.ref C_NoRoad) = some (.type "type")) (self_Full : PySem.W.subIn K (.ref C_Full) (.ref C_Full) = some true)
    (ns_Full_BadNumber : PySem.W.subIn K (.ref C_Full) (.ref C_BadNumber) = some false) (ns_Full_NoMating : PySem.W.subIn K (.ref C_Full) (.ref C_NoMating) = some false) (ns_Full_NoFamily : PySem.W.subIn K (.ref C_Full) (.ref C_NoFamily) = some false) (ns_Full_TooMuch : PySem.W.subIn K (.ref C_Full) (.ref C_TooMuch) = some false)
    (ns_Full_BadName : PySem.W.subIn K (.ref C_Full) (.ref C_BadName) = some false) (ns_Full_Taken : PySem.W.subIn K (.ref C_Full) (.ref C_Taken) = some false) (ns_Full_NoRoad : PySem.W.subIn K (.ref C_Full) (.ref C_NoRoad) = some false) (ns_Full_BadMating : PySem.W.subIn K (.ref C_Full) (.ref C_BadMating) = some false)
    (nc_BadMating : PySem.W.isClsIn K C_BadMating = true) (nt_BadMating : PySem.W.typeIn K (.ref C_BadMating) = some (.type "type")) (ns_Full_BadPlace : PySem.W.subIn K (.ref C_Full) (.ref C_BadPlace) = some false) (nc_BadPlace : PySem.W.isClsIn K C_BadPlace = true)
    (nt_BadPlace : PySem.W.typeIn K (.ref C_BadPlace) = some (.type "type")) (ns_Full_BadStretch : PySem.W.subIn K (.ref C_Full) (.ref C_BadStretch) = some false) (nc_BadStretch : PySem.W.isClsIn K C_BadStretch = true) (nt_BadStretch : PySem.W.typeIn K (.ref C_BadStretch) = some (.type "type"))
    (ns_Full_BadMove : PySem.W.subIn K (.ref C_Full) (.ref C_BadMove) = some false) (nc_BadMove : PySem.W.isClsIn K C_BadMove = true) (nt_BadMove : PySem.W.typeIn K (.ref C_BadMove) = some (.type "type")) (ns_Full_BadMoves : PySem.W.subIn K (.ref C_Full) (.ref C_BadMoves) = some false)
    (nc_BadMoves : PySem.W.isClsIn K C_BadMoves = true) (nt_BadMoves : PySem.W.typeIn K (.ref C_BadMoves) = some (.type "type")) (ns_Full_BadText : PySem.W.subIn K (.ref C_Full) (.ref C_BadText) = some false) (nc_BadText : PySem.W.isClsIn K C_BadText = true)
    (nt_BadText : PySem.W.typeIn K (.ref C_BadText) = some (.type "type")) (ns_Full_BadBoard : PySem.W.subIn K (.ref C_Full) (.ref C_BadBoard) = some false) (nc_BadBoard : PySem.W.isClsIn K C_BadBoard = true) (nt_BadBoard : PySem.W.typeIn K (.ref C_BadBoard) = some (.type "type"))
    (ns_Full_BadCounts : PySem.W.subIn K (.ref C_Full) (.ref C_BadCounts) = some false) (nc_BadCounts : PySem.W.isClsIn K C_BadCounts = true) (nt_BadCounts : PySem.W.typeIn K (.ref C_BadCounts) = some (.type "type")) (ns_Full_BadSide : PySem.W.subIn K (.ref C_Full) (.ref C_BadSide) = some false)
    (nc_BadSide : PySem.W.isClsIn K C_BadSide = true) (nt_BadSide : PySem.W.typeIn K (.ref C_BadSide) = some (.type "type")) (ns_Full_NoSide : PySem.W.subIn K (.ref C_Full) (.ref C_NoSide) = some false) (nc_NoSide : PySem.W.isClsIn K C_NoSide = true)
    (nt_NoSide : PySem.W.typeIn K (.ref C_NoSide) = some (.type "type")) (self_NoMating : PySem.W.subIn K (.ref C_NoMating) (.ref C_NoMating) = some true) (ns_NoMating_BadNumber : PySem.W.subIn K (.ref C_NoMating) (.ref C_BadNumber) = some false) (g_FAR : PySem.W.nsIn K mainGlobals "FAR" = some (some (.int 1000000000000000000 tk_FAR)))
    (g_MOST : PySem.W.nsIn K mainGlobals "MOST" = some (some (.int 24 tk_MOST))) :
    LamX.LawAtS l w K CX0 15 63 "_law_script" mg fa h := by
  have e := hfa.symm.trans (PySem.W.mg_of X G a14)
  cases e
  have B : Bn mg := ⟨PySem.W.mg_none_of X G z0, PySem.W.mg_none_of X G z1, PySem.W.mg_none_of X G z2, PySem.W.mg_none_of X G z3, PySem.W.mg_none_of X G z4, PySem.W.mg_none_of X G z5, PySem.W.mg_none_of X G z6, PySem.W.mg_none_of X G z7, PySem.W.mg_none_of X G z8, PySem.W.mg_none_of X G z9, PySem.W.mg_none_of X G z10, PySem.W.mg_none_of X G z11, PySem.W.mg_none_of X G z12, PySem.W.mg_none_of X G z13⟩
  have F0 := fun_mk (st := s_open) l0 c0 k0
  have D_open : DefAt K mg "_law_open" s_open P_open _ _ := ⟨F0, F0.binds (ps := P_open) fun _ _ _ _ _ _ => by exact len1 (fun _ => rfl), PySem.W.mg_of X G a0⟩
  have F1 := fun_mk (st := s_pull) l1 c1 k1
  have D_pull : DefAt K mg "_law_pull" s_pull P_pull _ _ := ⟨F1, F1.binds (ps := P_pull) fun _ _ _ _ _ _ => by exact len2 (fun _ _ => rfl), PySem.W.mg_of X G a1⟩
  have F2 := fun_mk (st := s_any) l2 c2 k2
  have D_any : DefAt K mg "_law_any" s_any P_any _ _ := ⟨F2, F2.binds (ps := P_any) fun _ _ _ _ _ _ => by exact len2 (fun _ _ => rfl), PySem.W.mg_of X G a2⟩
  have F3 := fun_mk (st := s_like) l3 c3 k3
  have D_like : DefAt K mg "_law_like" s_like P_like _ _ := ⟨F3, F3.binds (ps := P_like) fun _ _ _ _ _ _ => by exact len2 (fun _ _ => rfl), PySem.W.mg_of X G a3⟩
  have F4 := fun_mk (st := s_fields) l4 c4 k4
  have D_fields : DefAt K mg "_law_fields" s_fields P_fields _ _ := ⟨F4, F4.binds (ps := P_fields) fun _ _ _ _ _ _ => by exact len1 (fun _ => rfl), PySem.W.mg_of X G a4⟩
  have F5 := fun_mk (st := s_why) l5 c5 k5
  have D_why : DefAt K mg "_law_why" s_why P_why _ _ := ⟨F5, F5.binds (ps := P_why) fun _ _ _ _ _ _ => by exact len1 (fun _ => rfl), PySem.W.mg_of X G a5⟩
  have F6 := fun_mk (st := s_mating) l6 c6 k6
  have D_mating : DefAt K mg "_law_mating" s_mating P_mating _ _ := ⟨F6, F6.binds (ps := P_mating) fun _ _ _ _ _ _ => by exact len2 (fun _ _ => rfl), PySem.W.mg_of X G a6⟩
  have F7 := fun_mk (st := s_odd) l7 c7 k7
  have D_odd : DefAt K mg "_law_odd" s_odd P_odd _ _ := ⟨F7, F7.binds (ps := P_odd) fun _ _ _ _ _ _ => by exact len1 (fun _ => rfl), PySem.W.mg_of X G a7⟩
  have F8 := fun_mk (st := s_deed) l8 c8 k8
  have D_deed : DefAt K mg "_law_deed" s_deed P_deed _ _ := ⟨F8, F8.binds (ps := P_deed) fun _ _ _ _ _ _ => by exact len3 (fun _ _ _ => rfl), PySem.W.mg_of X G a8⟩
  have F9 := fun_mk (st := s_need_from) l9 c9 k9
  have D_need_from : DefAt K mg "need_from" s_need_from P_need_from _ _ := ⟨F9, F9.binds (ps := P_need_from) fun _ _ _ _ _ _ => by exact len2 (fun _ _ => rfl), PySem.W.mg_of X G a9⟩
  have F10 := fun_mk (st := s_need_within) l10 c10 k10
  have D_need_within : DefAt K mg "need_within" s_need_within P_need_within _ _ := ⟨F10, F10.binds (ps := P_need_within) fun _ _ _ _ _ _ => by exact len3 (fun _ _ _ => rfl), PySem.W.mg_of X G a10⟩
  have F11 := fun_mk (st := s_need_length) l11 c11 k11
  have D_need_length : DefAt K mg "need_length" s_need_length P_need_length _ _ := ⟨F11, F11.binds (ps := P_need_length) fun _ _ _ _ _ _ => by exact len1 (fun _ => rfl), PySem.W.mg_of X G a11⟩
  have F12 := fun_mk (st := s_need_mating) l12 c12 k12
  have D_need_mating : DefAt K mg "need_mating" s_need_mating P_need_mating _ _ := ⟨F12, F12.binds (ps := P_need_mating) fun _ _ _ _ _ _ => by exact len2 (fun _ _ => rfl), PySem.W.mg_of X G a12⟩
  have F13 := fun_mk (st := s_is_mating) l13 c13 k13
  have D_is_mating : DefAt K mg "is_mating" s_is_mating P_is_mating _ _ := ⟨F13, F13.binds (ps := P_is_mating) fun _ _ _ _ _ _ => by exact len2 (fun _ _ => rfl), PySem.W.mg_of X G a13⟩
  have GF : ∀ base : Heap, FnOk l.prog w K mg base CX0 1 f_FarError _ N_farinit (spFarInit K) := fun base => ok_farinit FF (PySem.W.mg_none_of X G zV) fF8
  have GM : ∀ base : Heap, FnOk l.prog w K mg base CX0 1 f_Missing _ N_misinit (spMisInit K) := fun base => ok_misinit FMi (PySem.W.mg_none_of X G zL) fM8
  have FI_BadMating := fun_mk (x := "__init__") (qual := "BadMating.__init__") (st := s_bginit) l_BadMating c_BadMating k_BadMating
  have bI_BadMating := FI_BadMating.binds (ps := N_bginit) fun _ _ _ _ _ _ => by exact len2 (fun _ _ => rfl)
  have FI_Full := fun_mk (x := "__init__") (qual := "Full.__init__") (st := s_fuinit) l_Full c_Full k_Full
  have bI_Full := FI_Full.binds (ps := N_fuinit) fun _ _ _ _ _ _ => by exact len2 (fun _ _ => rfl)
  have FI_NoMating := fun_mk (x := "__init__") (qual := "NoMating.__init__") (st := s_nminit) l_NoMating c_NoMating k_NoMating
  have bI_NoMating := FI_NoMating.binds (ps := N_nminit) fun _ _ _ _ _ _ => by exact len2 (fun _ _ => rfl)
  have F_Ro_become := fun_mk (x := "become") (qual := "Road.become") (st := s_Ro_become) ml_Ro_become mc_Ro_become mp_Ro_become
  have b_Ro_become := F_Ro_become.binds (ps := P_Ro_become) fun _ _ _ _ _ _ => by exact len3 (fun _ _ _ => rfl)
  have M_Ro_become : Meth K C_Road "become" fm_Ro_become := ⟨ma_Ro_become, mi_Ro_become, mp_Ro_become⟩
  have F_Ro_next_number := fun_mk (x := "next_number") (qual := "Road.next_number") (st := s_Ro_next_number) ml_Ro_next_number mc_Ro_next_number mp_Ro_next_number
  have b_Ro_next_number := F_Ro_next_number.binds (ps := P_Ro_next_number) fun _ _ _ _ _ _ => by exact len1 (fun _ => rfl)
  have M_Ro_next_number : Meth K C_Road "next_number" fm_Ro_next_number := ⟨ma_Ro_next_number, mi_Ro_next_number, mp_Ro_next_number⟩
  have F_Ro_matings := fun_mk (x := "matings") (qual := "Road.matings") (st := s_Ro_matings) ml_Ro_matings mc_Ro_matings mp_Ro_matings
  have b_Ro_matings := F_Ro_matings.binds (ps := P_Ro_matings) fun _ _ _ _ _ _ => by exact len1 (fun _ => rfl)
  have M_Ro_matings : Meth K C_Road "matings" fm_Ro_matings := ⟨ma_Ro_matings, mi_Ro_matings, mp_Ro_matings⟩
  have F_Ro_length := fun_mk (x := "length") (qual := "Road.length") (st := s_Ro_length) ml_Ro_length mc_Ro_length mp_Ro_length
  have b_Ro_length := F_Ro_length.binds (ps := P_Ro_length) fun _ _ _ _ _ _ => by exact len1 (fun _ => rfl)
  have M_Ro_length : Meth K C_Road "length" fm_Ro_length := ⟨ma_Ro_length, mi_Ro_length, mp_Ro_length⟩
  have F_Ro_mate_as := fun_mk (x := "mate_as") (qual := "Road.mate_as") (st := s_Ro_mate_as) ml_Ro_mate_as mc_Ro_mate_as mp_Ro_mate_as
  have b_Ro_mate_as := F_Ro_mate_as.binds (ps := P_Ro_mate_as) fun _ _ _ _ _ _ => by exact len3 (fun _ _ _ => rfl)
  have M_Ro_mate_as : Meth K C_Road "mate_as" fm_Ro_mate_as := ⟨ma_Ro_mate_as, mi_Ro_mate_as, mp_Ro_mate_as⟩
  have F_Ro_strike := fun_mk (x := "strike") (qual := "Road.strike") (st := s_Ro_strike) ml_Ro_strike mc_Ro_strike mp_Ro_strike
  have b_Ro_strike := F_Ro_strike.binds (ps := P_Ro_strike) fun _ _ _ _ _ _ => by exact len2 (fun _ _ => rfl)
  have M_Ro_strike : Meth K C_Road "strike" fm_Ro_strike := ⟨ma_Ro_strike, mi_Ro_strike, mp_Ro_strike⟩
  have F_Ro_repr := fun_mk (x := "__repr__") (qual := "Road.__repr__") (st := s_Ro_repr) ml_Ro___repr__ mc_Ro___repr__ mp_Ro___repr__
  have b_Ro_repr := F_Ro_repr.binds (ps := P_Ro_repr) fun _ _ _ _ _ _ => by exact len1 (fun _ => rfl)
  have M_Ro_repr : Meth K C_Road "__repr__" fm_Ro___repr__ := ⟨ma_Ro___repr__, mi_Ro___repr__, mp_Ro___repr__⟩
  have mkRo_ : Mk K C_Road fm_Ro___init__ := ⟨mk_Road, ma_Ro___init__, mi_Ro___init__, kc_Road⟩
  have Tg : ErT K mg C_FarError C_BadMating f_BadMating _ "BadMating" N_bginit := ⟨PySem.W.mg_of X G gF, PySem.W.mg_of X G g_BadMating, E_BadMating, XF_BadMating, EC_BadMating, i_BadMating, t_BadMating, bI_BadMating, M_BadMating⟩
  have Tu : ErT K mg C_FarError C_Full f_Full _ "Full" N_fuinit := ⟨PySem.W.mg_of X G gF, PySem.W.mg_of X G g_Full, E_Full, XF_Full, EC_Full, i_Full, t_Full, bI_Full, M_Full⟩
  have Og : OthBgE K mg C_BadMating C_BadNumber C_NoMating C_NoFamily C_TooMuch C_BadName C_Taken C_NoRoad := ⟨PySem.W.mg_of X G g_BadNumber, PySem.W.mg_of X G g_NoMating, PySem.W.mg_of X G g_NoFamily, PySem.W.mg_of X G g_TooMuch, PySem.W.mg_of X G g_BadName, PySem.W.mg_of X G g_Taken, PySem.W.mg_of X G g_NoRoad, List.forall_mem_cons.mpr ⟨kit_no self_BadMating ns_BadMating_BadNumber nc_BadNumber nt_BadNumber, List.forall_mem_cons.mpr ⟨kit_no self_BadMating ns_BadMating_NoMating nc_NoMating nt_NoMating, List.forall_mem_cons.mpr ⟨kit_no self_BadMating ns_BadMating_NoFamily nc_NoFamily nt_NoFamily, List.forall_mem_cons.mpr ⟨kit_no self_BadMating ns_BadMating_TooMuch nc_TooMuch nt_TooMuch, List.forall_mem_cons.mpr ⟨kit_no self_BadMating ns_BadMating_BadName nc_BadName nt_BadName, List.forall_mem_cons.mpr ⟨kit_no self_BadMating ns_BadMating_Taken nc_Taken nt_Taken, List.forall_mem_cons.mpr ⟨kit_no self_BadMating ns_BadMating_NoRoad nc_NoRoad nt_NoRoad, fun _ h => (by cases h)⟩⟩⟩⟩⟩⟩⟩⟩
  have Ou : OthFuE K mg C_Full C_BadNumber C_NoMating C_NoFamily C_TooMuch C_BadName C_Taken C_NoRoad C_BadMating C_BadPlace C_BadStretch C_BadMove C_BadMoves C_BadText C_BadBoard C_BadCounts C_BadSide C_NoSide := ⟨PySem.W.mg_of X G g_BadNumber, PySem.W.mg_of X G g_NoMating, PySem.W.mg_of X G g_NoFamily, PySem.W.mg_of X G g_TooMuch, PySem.W.mg_of X G g_BadName, PySem.W.mg_of X G g_Taken, PySem.W.mg_of X G g_NoRoad, PySem.W.mg_of X G g_BadMating, PySem.W.mg_of X G g_BadPlace, PySem.W.mg_of X G g_BadStretch, PySem.W.mg_of X G g_BadMove, PySem.W.mg_of X G g_BadMoves, PySem.W.mg_of X G g_BadText, PySem.W.mg_of X G g_BadBoard, PySem.W.mg_of X G g_BadCounts, PySem.W.mg_of X G g_BadSide, PySem.W.mg_of X G g_NoSide, List.forall_mem_cons.mpr ⟨kit_no self_Full ns_Full_BadNumber nc_BadNumber nt_BadNumber, List.forall_mem_cons.mpr ⟨kit_no self_Full ns_Full_NoMating nc_NoMating nt_NoMating, List.forall_mem_cons.mpr ⟨kit_no self_Full ns_Full_NoFamily nc_NoFamily nt_NoFamily, List.forall_mem_cons.mpr ⟨kit_no self_Full ns_Full_TooMuch nc_TooMuch nt_TooMuch, List.forall_mem_cons.mpr ⟨kit_no self_Full ns_Full_BadName nc_BadName nt_BadName, List.forall_mem_cons.mpr ⟨kit_no self_Full ns_Full_Taken nc_Taken nt_Taken, List.forall_mem_cons.mpr ⟨kit_no self_Full ns_Full_NoRoad nc_NoRoad nt_NoRoad, List.forall_mem_cons.mpr ⟨kit_no self_Full ns_Full_BadMating nc_BadMating nt_BadMating, List.forall_mem_cons.mpr ⟨kit_no self_Full ns_Full_BadPlace nc_BadPlace nt_BadPlace, List.forall_mem_cons.mpr ⟨kit_no self_Full ns_Full_BadStretch nc_BadStretch nt_BadStretch, List.forall_mem_cons.mpr ⟨kit_no self_Full ns_Full_BadMove nc_BadMove nt_BadMove, List.forall_mem_cons.mpr ⟨kit_no self_Full ns_Full_BadMoves nc_BadMoves nt_BadMoves, List.forall_mem_cons.mpr ⟨kit_no self_Full ns_Full_BadText nc_BadText nt_BadText, List.forall_mem_cons.mpr ⟨kit_no self_Full ns_Full_BadBoard nc_BadBoard nt_BadBoard, List.forall_mem_cons.mpr ⟨kit_no self_Full ns_Full_BadCounts nc_BadCounts nt_BadCounts, List.forall_mem_cons.mpr ⟨kit_no self_Full ns_Full_BadSide nc_BadSide nt_BadSide, List.forall_mem_cons.mpr ⟨kit_no self_Full ns_Full_NoSide nc_NoSide nt_NoSide, fun _ h => (by cases h)⟩⟩⟩⟩⟩⟩⟩⟩⟩⟩⟩⟩⟩⟩⟩⟩⟩⟩
  have Tm : LrT K mg C_FarError C_Missing C_NoMating f_NoMating _ "NoMating" N_nminit := ⟨PySem.W.mg_of X G gF, PySem.W.mg_of X G gM, PySem.W.mg_of X G g_NoMating, E_NoMating, XF_NoMating, EC_NoMating, i_NoMating, t_NoMating, bI_NoMating, M0_NoMating, M_NoMating⟩
  have Om : OthNm K mg C_NoMating C_BadNumber C_NoFamily C_TooMuch := ⟨PySem.W.mg_of X G g_BadNumber, PySem.W.mg_of X G g_NoFamily, PySem.W.mg_of X G g_TooMuch, kit_no self_NoMating ns_NoMating_BadNumber nc_BadNumber nt_BadNumber⟩
  have TRo_ : RoT K mg C_Road := ⟨PySem.W.mg_of X G g_Road, cl_Road, na_Ro_extent, na_Ro_standing, na_Ro_kept, na_Ro_foldings⟩
  have M_Ro_mate : Meth K C_Road "mate" fm_Ro_mate := ⟨ma_Ro_mate, mi_Ro_mate, FD_Ro_mate.kp⟩
  refine ⟨PySem.W.fnOf "law" "law" (defArgs s_law) (defBody s_law) (defScope s_law) .none kV14 dc14 pm14 an14 (.ref cLw) ct14, [(cLw, PtL), (c, Pt)], spLawT2 K PtL Pt, fun p hp => ?_, fun p hp => ?_, fun p hp => ?_, fun s u => ?b, fun H a ns hl _ hH hS => ⟨a, ns, rfl, hS, hl, hH _ List.mem_cons_self, hH _ (List.mem_cons_of_mem _ List.mem_cons_self), fun _ => rfl⟩, fun base KB GB TB => ?ok⟩
  case ok =>
    have TBl := TB _ List.mem_cons_self
    have TBw := TB _ (List.mem_cons_of_mem _ List.mem_cons_self)
    have gFAR := PySem.W.mg_of X G g_FAR
    have gMOST := PySem.W.mg_of X G g_MOST
    have zR := PySem.W.mg_none_of X G zf_repr
    have GG : FnOk l.prog w K mg base CX0 _ _ _ _ _ := ok_bginit FI_BadMating (PySem.W.mg_of X G gF) TF (far_binds FF) (GF base)
    have GU : FnOk l.prog w K mg base CX0 _ _ _ _ _ := ok_fuinit FI_Full (PySem.W.mg_of X G gF) TF (far_binds FF) (GF base)
    have GNm : FnOk l.prog w K mg base CX0 _ _ _ _ _ := ok_nminit FI_NoMating (PySem.W.mg_of X G gM) TMi (mis_binds FMi) (GM base)
    have G_init : FnOk l.prog w K mg base CX0 _ _ _ _ _ := ok_RoInit FD_Ro___init__ TRo_ D_need_length D_need_from D_need_within gFAR B
    have b_init := ro_init_binds FD_Ro___init__
    obtain ⟨dsM, dv, b_mate⟩ := mate_binds FD_Ro_mate
    have kb := mate_kbinds FD_Ro_mate
    have G_bec : FnOk l.prog w K mg base CX0 _ _ _ _ _ := ok_Become F_Ro_become TRo_
    have G_nx : FnOk l.prog w K mg base CX0 _ _ _ _ _ := ok_Next F_Ro_next_number TRo_ B
    have G_len : FnOk l.prog w K mg base CX0 _ _ _ _ _ := ok_RoLen F_Ro_length TRo_
    have G_mats : FnOk l.prog w K mg base CX0 _ _ _ _ _ := ok_RoMatings F_Ro_matings TRo_ B
    have G_rpr : FnOk l.prog w K mg base CX0 _ _ _ _ _ := ok_RoRepr F_Ro_repr TRo_ B
    have G_ma : FnOk l.prog w K mg base CX0 _ _ _ _ _ := ok_MateAs F_Ro_mate_as TRo_ M_Ro_become G_bec b_Ro_become D_need_mating D_is_mating gMOST B
    have G_mate : FnOk l.prog w K mg base CX0 _ _ _ _ _ := ok_Mate FD_Ro_mate TRo_ M_Ro_next_number G_nx b_Ro_next_number M_Ro_mate_as G_ma b_Ro_mate_as
    have GX_ma : FnOk l.prog w K mg base (L2.CX l.prog w) _ _ _ _ _ := ok_MateAsR F_Ro_mate_as TRo_ M_Ro_become G_bec b_Ro_become D_need_mating D_is_mating gMOST B Tg n_BadMating_mating GG Tu n_Full_most GU
    have GX_mate : FnOk l.prog w K mg base (L2.CX l.prog w) _ _ _ _ _ := ok_MateR FD_Ro_mate TRo_ M_Ro_next_number G_nx b_Ro_next_number M_Ro_mate_as GX_ma b_Ro_mate_as
    have GB_mate : FnOk l.prog w K mg base (L2.CX l.prog w) _ _ _ _ _ := FnOk.both (m := 7) G_mate GX_mate (by decide) (by decide)
    have G_str : FnOk l.prog w K mg base CX0 _ _ _ _ _ := ok_Strike F_Ro_strike TRo_ M_Ro_become G_bec b_Ro_become B
    have GX_str : FnOk l.prog w K mg base (L2.CX l.prog w) _ _ _ _ _ := ok_StrikeR F_Ro_strike TRo_ M_Ro_become G_bec b_Ro_become B Tm n_NoMating_number GNm
    have GB_str : FnOk l.prog w K mg base (L2.CX l.prog w) _ _ _ _ _ := FnOk.both (m := 5) G_str GX_str (by decide) (by decide)
    have G_deed : FnOk l.prog w K mg base CX0 _ _ _ _ _ := ok_deed (T := TT28 PtL Pt) l8 c8 TBw (List.mem_cons_of_mem _ List.mem_cons_self) (hu28d neP) D_pull D_any D_mating B
    exact FnOk.imp (ok_law (T := TT28 PtL Pt) l14 c14 TBl List.mem_cons_self (hu28l neP) D_open D_pull D_any D_like D_odd D_deed G_deed D_why D_fields Tg Og n_BadMating_mating Tu Ou n_Full_most Tm Om n_NoMating_number TRo_ mkRo_ G_init b_init M_Ro_mate GB_mate b_mate dv kb M_Ro_strike GB_str b_Ro_strike M_Ro_length G_len b_Ro_length M_Ro_matings G_mats b_Ro_matings M_Ro_repr G_rpr b_Ro_repr zR B) sp28
  case b => exact .of_eq rfl
  · rcases List.mem_cons.mp hp with z | z
    · rw [z]; exact hT2
    · rw [List.mem_singleton.mp z]; exact hT
  · rcases List.mem_cons.mp hp with z | z
    · rw [z]; exact nP2
    · rw [List.mem_singleton.mp z]; exact nP
  · rcases List.mem_cons.mp hp with z | z
    · rw [z]; exact PySem.W.codeHd_of_K X hP2
    · rw [List.mem_singleton.mp z]; exact PySem.W.codeHd_of_K X hP
abbrev hkL : PySem.W.Hook := hookY faL fnL exL
def obL (s : PySem.W.SharedT) : AlY := obsY faL fnL exL (HandSHeadRun.getT s)
theorem obL_eq (s : PySem.W.SharedT) : obL s = hkL.obs s.abs := obsY_eq s
theorem all_of {w : World} {K : PySem.W.Frag} {h : Heap} {mg : Str → Option Value} {fa : Addr} (X : K.In h) (G : h.Ns mainGlobals mg) (hfa : mg "law" = some (.ref fa)) (c : SaysY faL fnL exL h K) :
    LamX.LawAtS PySem.Challenge.rw_farmates_k28_matings_told_and_struck w K CX0 15 63 "_law_script" mg fa h := by
  obtain ⟨oc0, od0, sl0, kV0, dc0, pm0, an0, cd0, ct0, l0, c0, k0⟩ := say_def c.d 0 (x := "_law_open") (st := s_open) rfl
  obtain ⟨oc1, od1, sl1, kV1, dc1, pm1, an1, cd1, ct1, l1, c1, k1⟩ := say_def c.d 1 (x := "_law_pull") (st := s_pull) rfl
  obtain ⟨oc2, od2, sl2, kV2, dc2, pm2, an2, cd2, ct2, l2, c2, k2⟩ := say_def c.d 2 (x := "_law_any") (st := s_any) rfl
  obtain ⟨oc3, od3, sl3, kV3, dc3, pm3, an3, cd3, ct3, l3, c3, k3⟩ := say_def c.d 3 (x := "_law_like") (st := s_like) rfl
  obtain ⟨oc4, od4, sl4, kV4, dc4, pm4, an4, cd4, ct4, l4, c4, k4⟩ := say_def c.d 4 (x := "_law_fields") (st := s_fields) rfl
  obtain ⟨oc5, od5, sl5, kV5, dc5, pm5, an5, cd5, ct5, l5, c5, k5⟩ := say_def c.d 5 (x := "_law_why") (st := s_why) rfl
  obtain ⟨oc6, od6, sl6, kV6, dc6, pm6, an6, cd6, ct6, l6, c6, k6⟩ := say_def c.d 6 (x := "_law_mating") (st := s_mating) rfl
  obtain ⟨oc7, od7, sl7, kV7, dc7, pm7, an7, cd7, ct7, l7, c7, k7⟩ := say_def c.d 7 (x := "_law_odd") (st := s_odd) rfl
  obtain ⟨oc8, od8, sl8, kV8, dc8, pm8, an8, ct8, l8, c8, k8⟩ := say_law c.d 8 (x := "_law_deed") (st := s_deed) rfl
  obtain ⟨oc9, od9, sl9, kV9, dc9, pm9, an9, cd9, ct9, l9, c9, k9⟩ := say_def c.d 9 (x := "need_from") (st := s_need_from) rfl
  obtain ⟨oc10, od10, sl10, kV10, dc10, pm10, an10, cd10, ct10, l10, c10, k10⟩ := say_def c.d 10 (x := "need_within") (st := s_need_within) rfl
  obtain ⟨oc11, od11, sl11, kV11, dc11, pm11, an11, cd11, ct11, l11, c11, k11⟩ := say_def c.d 11 (x := "need_length") (st := s_need_length) rfl
  obtain ⟨oc12, od12, sl12, kV12, dc12, pm12, an12, cd12, ct12, l12, c12, k12⟩ := say_def c.d 12 (x := "need_mating") (st := s_need_mating) rfl
  obtain ⟨oc13, od13, sl13, kV13, dc13, pm13, an13, cd13, ct13, l13, c13, k13⟩ := say_def c.d 13 (x := "is_mating") (st := s_is_mating) rfl
  obtain ⟨oc14, od14, sl14, kV14, dc14, pm14, an14, ct14, l14, c14, k14⟩ := say_law c.d 14 (x := "law") (st := s_law) rfl
  obtain ⟨fdF, FF⟩ := say_far c.d 15 (C := "FarError") (m := "__init__") (q := "FarError.__init__") (st := s_farinit) rfl
  obtain ⟨oc_BadMating, od_BadMating, sl_BadMating, kV_BadMating, dc_BadMating, pm_BadMating, an_BadMating, cd_BadMating, ct_BadMating, l_BadMating, c_BadMating, k_BadMating⟩ := say_meth c.d 16 (C := "BadMating") (m := "__init__") (q := "BadMating.__init__") (st := s_bginit) rfl
  obtain ⟨oc_Full, od_Full, sl_Full, kV_Full, dc_Full, pm_Full, an_Full, cd_Full, ct_Full, l_Full, c_Full, k_Full⟩ := say_meth c.d 17 (C := "Full") (m := "__init__") (q := "Full.__init__") (st := s_fuinit) rfl
  obtain ⟨fdMi, FMi⟩ := say_far c.d 18 (C := "Missing") (m := "__init__") (q := "Missing.__init__") (st := s_misinit) rfl
  obtain ⟨oc_NoMating, od_NoMating, sl_NoMating, kV_NoMating, dc_NoMating, pm_NoMating, an_NoMating, cd_NoMating, ct_NoMating, l_NoMating, c_NoMating, k_NoMating⟩ := say_meth c.d 19 (C := "NoMating") (m := "__init__") (q := "NoMating.__init__") (st := s_nminit) rfl
  obtain ⟨ocm_Ro_become, odm_Ro_become, slm_Ro_become, kVm_Ro_become, dcm_Ro_become, pmm_Ro_become, anm_Ro_become, cdm_Ro_become, ctm_Ro_become, ml_Ro_become, mc_Ro_become, mp_Ro_become⟩ := say_meth c.d 20 (C := "Road") (m := "become") (q := "Road.become") (st := s_Ro_become) rfl
  obtain ⟨ocm_Ro_next_number, odm_Ro_next_number, slm_Ro_next_number, kVm_Ro_next_number, dcm_Ro_next_number, pmm_Ro_next_number, anm_Ro_next_number, cdm_Ro_next_number, ctm_Ro_next_number, ml_Ro_next_number, mc_Ro_next_number, mp_Ro_next_number⟩ := say_meth c.d 21 (C := "Road") (m := "next_number") (q := "Road.next_number") (st := s_Ro_next_number) rfl
  obtain ⟨ocm_Ro_matings, odm_Ro_matings, slm_Ro_matings, kVm_Ro_matings, dcm_Ro_matings, pmm_Ro_matings, anm_Ro_matings, cdm_Ro_matings, ctm_Ro_matings, ml_Ro_matings, mc_Ro_matings, mp_Ro_matings⟩ := say_meth c.d 22 (C := "Road") (m := "matings") (q := "Road.matings") (st := s_Ro_matings) rfl
  obtain ⟨ocm_Ro_length, odm_Ro_length, slm_Ro_length, kVm_Ro_length, dcm_Ro_length, pmm_Ro_length, anm_Ro_length, cdm_Ro_length, ctm_Ro_length, ml_Ro_length, mc_Ro_length, mp_Ro_length⟩ := say_meth c.d 23 (C := "Road") (m := "length") (q := "Road.length") (st := s_Ro_length) rfl
  obtain ⟨ocm_Ro_mate_as, odm_Ro_mate_as, slm_Ro_mate_as, kVm_Ro_mate_as, dcm_Ro_mate_as, pmm_Ro_mate_as, anm_Ro_mate_as, cdm_Ro_mate_as, ctm_Ro_mate_as, ml_Ro_mate_as, mc_Ro_mate_as, mp_Ro_mate_as⟩ := say_meth c.d 24 (C := "Road") (m := "mate_as") (q := "Road.mate_as") (st := s_Ro_mate_as) rfl
  obtain ⟨ocm_Ro_strike, odm_Ro_strike, slm_Ro_strike, kVm_Ro_strike, dcm_Ro_strike, pmm_Ro_strike, anm_Ro_strike, cdm_Ro_strike, ctm_Ro_strike, ml_Ro_strike, mc_Ro_strike, mp_Ro_strike⟩ := say_meth c.d 25 (C := "Road") (m := "strike") (q := "Road.strike") (st := s_Ro_strike) rfl
  obtain ⟨ocm_Ro___repr__, odm_Ro___repr__, slm_Ro___repr__, kVm_Ro___repr__, dcm_Ro___repr__, pmm_Ro___repr__, anm_Ro___repr__, cdm_Ro___repr__, ctm_Ro___repr__, ml_Ro___repr__, mc_Ro___repr__, mp_Ro___repr__⟩ := say_meth c.d 26 (C := "Road") (m := "__repr__") (q := "Road.__repr__") (st := s_Ro_repr) rfl
  obtain ⟨fdm_Ro___init__, FD_Ro___init__⟩ := c.d.def_ 27 rfl
  obtain ⟨fdm_Ro_mate, FD_Ro_mate⟩ := c.d.def_ 28 rfl
  obtain ⟨tk_FAR, g_FAR⟩ := say_int c.d 61 (x := "FAR") (i := 1000000000000000000) rfl
  obtain ⟨tk_MOST, g_MOST⟩ := say_int c.d 62 (x := "MOST") (i := 24) rfl
  exact all_mk X G hfa c.mt
    (He.eqO_ok (c.d.fact 0 rfl)) l0 c0 k0 (He.eqO_ok (c.d.fact 1 rfl)) l1 c1 k1
    (He.eqO_ok (c.d.fact 2 rfl)) l2 c2 k2 (He.eqO_ok (c.d.fact 3 rfl)) l3 c3 k3
    (He.eqO_ok (c.d.fact 4 rfl)) l4 c4 k4 (He.eqO_ok (c.d.fact 5 rfl)) l5 c5 k5
    (He.eqO_ok (c.d.fact 6 rfl)) l6 c6 k6 (He.eqO_ok (c.d.fact 7 rfl)) l7 c7 k7
    (He.eqO_ok (c.d.fact 8 rfl)) l8 c8 k8 (He.eqO_ok (c.d.fact 9 rfl)) l9 c9 k9
    (He.eqO_ok (c.d.fact 10 rfl)) l10 c10 k10 (He.eqO_ok (c.d.fact 11 rfl)) l11 c11 k11
    (He.eqO_ok (c.d.fact 12 rfl)) l12 c12 k12 (He.eqO_ok (c.d.fact 13 rfl)) l13 c13 k13
    (He.eqO_ok (c.d.fact 14 rfl)) l14 c14 k14 (He.eqO_ok (c.d.fact 15 rfl)) (He.eqO_ok (c.d.fact 16 rfl)) (He.eqO_ok (c.d.fact 17 rfl)) (He.eqO_ok (c.d.fact 18 rfl))
    (He.eqO_ok (c.d.fact 19 rfl)) (He.eqO_ok (c.d.fact 20 rfl)) (He.eqO_ok (c.d.fact 21 rfl)) (He.eqO_ok (c.d.fact 22 rfl)) (He.eqO_ok (c.d.fact 23 rfl)) (He.eqO_ok (c.d.fact 24 rfl)) (He.eqO_ok (c.d.fact 25 rfl)) (He.eqO_ok (c.d.fact 26 rfl))
    (He.eqO_ok (c.d.fact 27 rfl)) (He.eqO_ok (c.d.fact 28 rfl)) (He.eqO_ok (c.d.fact 29 rfl)) c.hd c.out c.hd2 c.out2 c.mt2
    c.ne (He.eqO_ok (c.d.fact 30 rfl)) (cfnB_ok (all_at c.more 0 rfl)) FF (bltB_ok (all_at c.more 1 rfl)) (He.eqO_ok (c.d.fact 31 rfl)) (errB_ok (all_at c.more 2 rfl)) (xfB_ok (all_at c.more 3 rfl))
    (excB_ok (all_at c.more 4 rfl)) (of_decide_eq_true (all_at c.more 5 rfl)) (He.eqO_ok (c.d.fact 32 rfl)) (He.eqO_ok (all_at c.more 6 rfl)) (of_decide_eq_true (all_at c.more 7 rfl)) l_BadMating c_BadMating k_BadMating
    (He.eqO_ok (c.d.fact 33 rfl)) (errB_ok (all_at c.more 8 rfl)) (xfB_ok (all_at c.more 9 rfl)) (excB_ok (all_at c.more 10 rfl)) (of_decide_eq_true (all_at c.more 11 rfl)) (He.eqO_ok (c.d.fact 34 rfl)) (He.eqO_ok (all_at c.more 12 rfl)) (of_decide_eq_true (all_at c.more 13 rfl))
    l_Full c_Full k_Full (He.eqO_ok (c.d.fact 35 rfl)) (cfnB_ok (all_at c.more 14 rfl)) FMi (bltB_ok (all_at c.more 15 rfl)) (He.eqO_ok (c.d.fact 36 rfl))
    (He.eqO_ok (c.d.fact 37 rfl)) (lexB_ok (all_at c.more 16 rfl)) (xfB_ok (all_at c.more 17 rfl)) (excB_ok (all_at c.more 18 rfl)) (of_decide_eq_true (all_at c.more 19 rfl)) (of_decide_eq_true (all_at c.more 20 rfl)) (He.eqO_ok (c.d.fact 38 rfl)) (He.eqO_ok (all_at c.more 21 rfl))
    (of_decide_eq_true (all_at c.more 22 rfl)) l_NoMating c_NoMating k_NoMating (He.eqO_ok (c.d.fact 39 rfl)) (He.eqO_ok (c.d.fact 40 rfl)) (He.eqO_ok (c.d.fact 41 rfl)) (He.eqO_ok (c.d.fact 42 rfl))
    (He.eqO_ok (c.d.fact 43 rfl)) (He.eqO_ok (c.d.fact 44 rfl)) (He.eqO_ok (c.d.fact 45 rfl)) (He.eqO_ok (c.d.fact 46 rfl)) (He.eqO_ok (c.d.fact 47 rfl)) (He.eqO_ok (c.d.fact 48 rfl)) (He.eqO_ok (c.d.fact 49 rfl)) (He.eqO_ok (c.d.fact 50 rfl))
    (He.eqO_ok (c.d.fact 51 rfl)) (He.eqO_ok (c.d.fact 52 rfl)) (He.eqO_ok (c.d.fact 53 rfl)) (He.eqO_ok (c.d.fact 54 rfl)) (He.eqO_ok (c.d.fact 55 rfl)) (He.cls_ok (c.d.fact 56 rfl)) (all_at c.more 23 rfl) (all_at c.more 24 rfl)
    (He.eqO_ok (c.d.fact 57 rfl)) (He.eqO_ok (c.d.fact 58 rfl)) (He.eqO_ok (c.d.fact 59 rfl)) (He.eqO_ok (c.d.fact 60 rfl)) (He.eqO_ok (all_at c.more 25 rfl)) (all_at c.more 26 rfl) ml_Ro_become mc_Ro_become
    mp_Ro_become (He.eqO_ok (all_at c.more 27 rfl)) (all_at c.more 28 rfl) ml_Ro_next_number mc_Ro_next_number mp_Ro_next_number (He.eqO_ok (all_at c.more 29 rfl)) (all_at c.more 30 rfl)
    ml_Ro_matings mc_Ro_matings mp_Ro_matings (He.eqO_ok (all_at c.more 31 rfl)) (all_at c.more 32 rfl) ml_Ro_length mc_Ro_length mp_Ro_length
    (He.eqO_ok (all_at c.more 33 rfl)) (all_at c.more 34 rfl) ml_Ro_mate_as mc_Ro_mate_as mp_Ro_mate_as (He.eqO_ok (all_at c.more 35 rfl)) (all_at c.more 36 rfl) ml_Ro_strike
    mc_Ro_strike mp_Ro_strike (He.eqO_ok (all_at c.more 37 rfl)) (all_at c.more 38 rfl) ml_Ro___repr__ mc_Ro___repr__ mp_Ro___repr__ (He.eqO_ok (all_at c.more 39 rfl))
    (all_at c.more 40 rfl) FD_Ro___init__ (He.eqO_ok (all_at c.more 41 rfl)) (all_at c.more 42 rfl) FD_Ro_mate (of_decide_eq_true (all_at c.more 43 rfl)) (of_decide_eq_true (all_at c.more 44 rfl)) (all_at c.more 45 rfl)
    (of_decide_eq_true (all_at c.more 46 rfl)) (of_decide_eq_true (all_at c.more 47 rfl)) (all_at c.more 48 rfl) (of_decide_eq_true (all_at c.more 49 rfl)) (of_decide_eq_true (all_at c.more 50 rfl)) (all_at c.more 51 rfl) (of_decide_eq_true (all_at c.more 52 rfl)) (of_decide_eq_true (all_at c.more 53 rfl))
    (all_at c.more 54 rfl) (of_decide_eq_true (all_at c.more 55 rfl)) (of_decide_eq_true (all_at c.more 56 rfl)) (all_at c.more 57 rfl) (of_decide_eq_true (all_at c.more 58 rfl)) (of_decide_eq_true (all_at c.more 59 rfl)) (all_at c.more 60 rfl) (of_decide_eq_true (all_at c.more 61 rfl))
    (of_decide_eq_true (all_at c.more 62 rfl)) (all_at c.more 63 rfl) (of_decide_eq_true (all_at c.more 64 rfl)) (of_decide_eq_true (all_at c.more 65 rfl)) (of_decide_eq_true (all_at c.more 66 rfl)) (of_decide_eq_true (all_at c.more 67 rfl)) (of_decide_eq_true (all_at c.more 68 rfl)) (of_decide_eq_true (all_at c.more 69 rfl))
    (of_decide_eq_true (all_at c.more 70 rfl)) (of_decide_eq_true (all_at c.more 71 rfl)) (of_decide_eq_true (all_at c.more 72 rfl)) (of_decide_eq_true (all_at c.more 73 rfl)) (all_at c.more 74 rfl) (of_decide_eq_true (all_at c.more 75 rfl)) (of_decide_eq_true (all_at c.more 76 rfl)) (all_at c.more 77 rfl)
    (of_decide_eq_true (all_at c.more 78 rfl)) (of_decide_eq_true (all_at c.more 79 rfl)) (all_at c.more 80 rfl) (of_decide_eq_true (all_at c.more 81 rfl)) (of_decide_eq_true (all_at c.more 82 rfl)) (all_at c.more 83 rfl) (of_decide_eq_true (all_at c.more 84 rfl)) (of_decide_eq_true (all_at c.more 85 rfl))
    (all_at c.more 86 rfl) (of_decide_eq_true (all_at c.more 87 rfl)) (of_decide_eq_true (all_at c.more 88 rfl)) (all_at c.more 89 rfl) (of_decide_eq_true (all_at c.more 90 rfl)) (of_decide_eq_true (all_at c.more 91 rfl)) (all_at c.more 92 rfl) (of_decide_eq_true (all_at c.more 93 rfl))
    (of_decide_eq_true (all_at c.more 94 rfl)) (all_at c.more 95 rfl) (of_decide_eq_true (all_at c.more 96 rfl)) (of_decide_eq_true (all_at c.more 97 rfl)) (all_at c.more 98 rfl) (of_decide_eq_true (all_at c.more 99 rfl)) (of_decide_eq_true (all_at c.more 100 rfl)) (all_at c.more 101 rfl)
    (of_decide_eq_true (all_at c.more 102 rfl)) (of_decide_eq_true (all_at c.more 103 rfl)) (of_decide_eq_true (all_at c.more 104 rfl)) g_FAR g_MOST
-- SPLIT
theorem runL (w : World) : HandSHeadRun.RunEq RowL (PySem.W.view RowL.prog [76]) hkL obL 40000 looseL w := run_parts run1 run2 run4 w
end Fm
open PySem PySem.W PySem.Calls PyProof.Rows
set_option maxRecDepth 100000 in
set_option maxHeartbeats 0 in
theorem PySem.Challenge.cw_farmates_k28_matings_told_and_struck_holds : PySem.Challenge.rw_farmates_k28_matings_told_and_struck.Holds := by
  w_on; o_law
  refine HandSHeadRun.head_any (r := OpenLaw.row PySem.Challenge.rw_farmates_k28_matings_told_and_struck) (q := view (OpenLaw.row PySem.Challenge.rw_farmates_k28_matings_told_and_struck).prog [76]) (H := Fm.hkL) (ob := Fm.obL) (M := 40000) (loose := Fm.looseL) (d := HandSHeadRun.topDef (OpenLaw.row PySem.Challenge.rw_farmates_k28_matings_told_and_struck).prog 76) (kwd := []) Fm.obL_eq
    (by kernel_rfl) (fun s => by kernel_rfl) Fm.runL (by kernel_rfl) (by kernel_rfl) (by kernel_rfl) (by rfl) (by first | assumption | decide +kernel) (by decide +kernel) ⟨rfl, rfl, rfl, rfl, rfl, by decide +kernel⟩ ?hw ?hc
  case hw => w_witness2
  case hc =>
    refine LamX.walk_ofTsE (l := PySem.Challenge.rw_farmates_k28_matings_told_and_struck) (n := 63) (k := 15) (x := "_law_script") (CX := fun _ => L2.CX0) rfl (by decide) (by kernel_rfl) ⟨rfl, by decide, by decide⟩ ?F (fun _ _ _ _ _ z => z)
    intro w mg fa h Y G hm0
    obtain ⟨K, KX, c⟩ := Y
    have hm : mg ("law" : PySem.Str) = some (.ref fa) := by
      have en : (HandSHeadRun.topDef (OpenLaw.row PySem.Challenge.rw_farmates_k28_matings_told_and_struck).prog 76).name = ("law" : PySem.Str) := by kernel_rfl
      rw [← en]
      exact hm0
    exact ⟨K, KX, Fm.all_of KX G hm c⟩
