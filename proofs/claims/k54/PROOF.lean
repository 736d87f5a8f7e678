import PyProof.Rows.All
import Wide.All
import OpenK.AllK
import Wide.FinOn
import HandS.ForMost
import HandS.Codes
import HandS.IsInst
import HandS.Wide
import HandS.WideBits
import HandS.SetFor
import HandS.Strs
import HandS.Style
import HandS.ForExc
import HandS.ExcInit
import HandS.ExcIs
import HandS.ExcField
import HandS.FStr
import HandS.Defaults
import HandS.MakeKwOnly
import HandS.NoneIn
import HandS.OwnEq
import PyProof.InstNe
import HandS.Lambda
import HandS.Nested
import HandS.SetBool
import KE.KUnpackStar
import HandS.Small
import HandS.EndTab
import HandS.HotCalls
import HandS.FStrTup
import HandS.DictComp
import HandS.Iter
import HandS.Zip
import HandS.More
import HandS.DictTup
import HandS.ListItems
import HandS.Keys
import HandS.SortKw
import HandS.Walk
import HandS.Deep
import KE.DataMinMax
import KE.GoesEnum
import HandS.TryOnly
import KE.KMinKey
import HandS.Conv
import KE.KStateDown
import HandS.Head0
import HandS.Head1
import HandS.Head2
import HandS.HeadHook1
import HandS.HeadHook2
import HandS.HeadHook3
import HandS.HeadHook4
import HandS.HeadWalk
import PySem.Challenge.RW_farmates_k54_pages_written
set_option Elab.async false
set_option linter.all false
set_option maxRecDepth 100000
set_option maxHeartbeats 4000000
namespace Fm
open PySem L2
section
open HandSHeadRun PyProof.Rows PySem.Calls PySem.W

def top (i : Nat) : Stmt := PySem.Challenge.pw_farmates_k54_pages_written.main.body.getD i (.Pass ⟨0, 0, 0, 0⟩)

abbrev s_open : Stmt := top 82
abbrev s_pull : Stmt := top 83
abbrev s_like : Stmt := top 85
abbrev s_holds : Stmt := top 36
abbrev s_part : Stmt := top 35
abbrev s_farinit : Stmt := inClass (top 2) 0
abbrev s_bninit : Stmt := inClass (top 3) 0
abbrev s_is_mating : Stmt := top 29
abbrev s_need_from : Stmt := top 26
abbrev s_need_within : Stmt := top 27
abbrev s_need_length : Stmt := top 28
abbrev s_need_mating : Stmt := top 30
abbrev s_clipped : Stmt := top 39
abbrev s_mating : Stmt := top 88
abbrev s_Ro_init : Stmt := inClass (top 67) 0
abbrev s_Ro_become : Stmt := inClass (top 67) 1
abbrev s_Ro_next_number : Stmt := inClass (top 67) 2
abbrev s_Ro_length : Stmt := inClass (top 67) 11
abbrev s_Ro_matings : Stmt := inClass (top 67) 12
abbrev s_Ro_mate_as : Stmt := inClass (top 67) 5
abbrev s_Ro_mate : Stmt := inClass (top 67) 4
abbrev s_Ro_strike : Stmt := inClass (top 67) 6
abbrev s_Ro_trim : Stmt := inClass (top 67) 8
abbrev s_swelled : Stmt := top 38
abbrev s_Ro_swell : Stmt := inClass (top 67) 9
abbrev s_Ro_grow : Stmt := inClass (top 67) 7
abbrev s_Ro_twin : Stmt := inClass (top 67) 31
abbrev s_Ro_eq : Stmt := inClass (top 67) 32
abbrev lkTail : List Value := [.type "LookupError", .type "Exception", .type "BaseException", .type "object"]
abbrev s_why : Stmt := top 87
abbrev s_fields : Stmt := top 86
abbrev s_misinit : Stmt := inClass (top 17) 0
abbrev s_nminit : Stmt := inClass (top 18) 0
abbrev s_bginit : Stmt := inClass (top 5) 0
abbrev s_fuinit : Stmt := inClass (top 16) 0
abbrev s_erBadName : Stmt := inClass (top 4) 0
abbrev s_erTaken : Stmt := inClass (top 15) 0
abbrev s_erNoRoad : Stmt := inClass (top 19) 0
abbrev s_odd : Stmt := top 90
abbrev s_moved : Stmt := top 37
abbrev s_Ro_behind : Stmt := inClass (top 67) 10
abbrev s_any : Stmt := top 84
abbrev s_ends : Stmt := top 89
abbrev s_scaled : Stmt := top 91
abbrev s_is_name : Stmt := top 71
abbrev s_good_name : Stmt := top 93
abbrev s_room : Stmt := top 94
abbrev s_no_number : Stmt := top 96
abbrev s_clip : Stmt := top 95
abbrev s_taken_behind : Stmt := top 98
abbrev s_road_deed : Stmt := top 97
abbrev s_step : Stmt := top 99
abbrev s_very_road : Stmt := top 75
abbrev s_do_upon : Stmt := top 77
abbrev s_Df_init : Stmt := inClass (top 76) 0
abbrev s_Df_seat : Stmt := inClass (top 76) 1
abbrev s_Df_need_room : Stmt := inClass (top 76) 2
abbrev s_Df_change_road : Stmt := inClass (top 76) 4
abbrev s_Df_do : Stmt := inClass (top 76) 3
abbrev s_Ha_init : Stmt := inClass (top 78) 0
abbrev s_Ha_draft : Stmt := inClass (top 78) 1
abbrev s_Ha_do : Stmt := inClass (top 78) 2
abbrev s_Ha_together : Stmt := inClass (top 78) 3
abbrev s_Ha_names : Stmt := inClass (top 78) 6
abbrev s_Ha_very : Stmt := inClass (top 78) 7
abbrev s_Ha_road : Stmt := inClass (top 78) 8
abbrev s_Ha_len : Stmt := inClass (top 78) 15
abbrev s_hall_looks : Stmt := top 101
abbrev s_hall_name : Stmt := top 92
abbrev s_hall_deed : Stmt := top 100
abbrev s_Ha_steps : Stmt := inClass (top 78) 12
abbrev s_page : Stmt := top 80
abbrev s_law_page : Stmt := top 102
def turnsB (K : PySem.W.Frag) (a : Addr) : Bool := match K.lookup a with
  | some o => (match o.cls with | .type n => n == "tuple" | _ => false) && (match o.data with | .seq its _ => (match its.toList with | [.str x _, .str y _] => x == "straight" && y == "turned" | _ => false) | _ => false)
  | none => false
abbrev s_law : Stmt := top 103
def dD (x : Str) (st : Stmt) : He.DefD := { at_ := (x, none), name := x, qual := x, params := defArgs st, body := defBody st, scope := defScope st }
def dM (C m q : Str) (st : Stmt) : He.DefD := { at_ := (C, some m), name := m, qual := q, params := defArgs st, body := defBody st, scope := defScope st }
def dMs (C m q : Str) (st : Stmt) : He.DefD := { at_ := (C, some m), name := m, qual := q, params := defArgs st, body := defBody st, scope := defScope st, dfl := [.str ""] }
def errB (K : PySem.W.Frag) (C : Addr) : Bool := (match K.lookup C with
    | some ⟨.type t, _, .cls cd, sl⟩ => decide (t = "type") && (cd.hasDict && (!cd.hasDel && (match cd.mro, sl.toList with
      | .ref D :: bm, [_, _, _, _, some (.builtin n), _] => decide (D = C) && (decide (n = "ValueError.__new__") && PySem.HandSPX.refsVE bm)
      | _, _ => false)))
    | _ => false) && (He.eqO (PySem.W.findIn K (.ref C) "__setattr__") (some (some (.builtin "object.__setattr__"))) && (decide (PySem.W.subIn K (.ref C) (.type "BaseException") = some true) &&
  (decide (PySem.W.typeIn K (.ref C) = some (.type "type")) && (PySem.W.keepIn K (.ref C) && He.eqO (PySem.W.findIn K (.ref C) "word") (some none)))))
def excB (K : PySem.W.Frag) (C : Addr) : Bool := xfB K C && (He.eqO (PySem.W.findIn K (.ref C) "__class__") (some (some (.builtin "object.__class__"))) && (He.eqO (PySem.W.specialIn K (.builtin "object.__class__") "__get__") (some (some (.builtin "getset_descriptor.__get__"))) &&
  (decide (PySem.W.takesIn K (.builtin "object.__class__") = some true) && decide (PySem.W.mroIn K C (.type "object") = some true))))
def cfnB (K : PySem.W.Frag) (C : Addr) (m : Str) (f : Addr) : Bool := He.eqO (PySem.W.specialIn K (.ref C) "__getattribute__") (some (some (.builtin "type.__getattribute__"))) && (PySem.W.readsIn K C (.type "type") && ((match PySem.W.findCls K (.ref C) (.type "type") m with
    | some (.val (.ref g)) => decide (g = f)
    | _ => false) && PySem.W.keepIn K (.ref f)))
def bltB (K : PySem.W.Frag) (T m b : String) : Bool := match PySem.W.findCls K (.type T) (.type "type") m with
  | some (.val (.builtin g)) => decide (g = b)
  | _ => false
def lawAt : He.Defn := ("law", none)
def kidsY (o : Obj) : List Addr := match o.data with
  | .dict es _ => es.toList.flatMap fun e => He.refV e.val
  | .func fd => He.refV fd.code ++ (He.refV fd.defaults ++ He.refV fd.kwdefaults)
  | .cls cd => [cd.ns]
  | _ => []
def downY (g : Addr → Option Obj) (as : List Addr) : List Addr := as.flatMap fun a => match g a with
  | some o => kidsY o
  | none => []
def reachY (g : Addr → Option Obj) (a1 : List Addr) : List Addr := a1 ++ (downY g a1 ++ (downY g (downY g a1) ++ downY g (downY g (downY g a1))))
def seenY (g : Addr → Option Obj) : PySem.W.Frag := He.frT g (cStatics :: mainGlobals :: reachY g (downY g [mainGlobals]))
def tabY (g : Addr → Option Obj) (K : PySem.W.Frag) : Bool := PySem.W.codeHdIn K (He.cT K lawAt).1 (He.cT K lawAt).2 && (g (He.cT K lawAt).2).any He.emptyTab
def PartEq {β : Type} (p : Program) (M : Nat) (f : PySem.W.SharedT → β) (v : World → β) : Prop := ∀ (w : World) (os : OsState), (endF (stepQ (denQ tabQ) p w) M p w os).map f = some (v w)
def SeenEq (r : PySem.W.OpenRow) (q : Program) (M : Nat) (loose : List Str) : Prop := ∀ (w : World) (os : OsState),
  (endF (stepQ (denQ tabQ) r.prog w) M r.prog w os).map (fun s => (looksF r.prog (boot_heap w.params) s.abs, seenQ q loose (importedModules r.prog.main.body) (fun s => PySem.W.xlAt q [] s && PySem.W.recOk r.toRowW.records s) s.abs)) = some (true, PySem.W.openGood q loose)
def okY (fas : List He.Fa) (fns : List He.DefD) (ex : PySem.W.Frag → List Bool) (g : Addr → Option Obj) (K : PySem.W.Frag) : Bool := ((fas.all fun f => f.ok K) && fns.all fun d => d.ok K) && ((ex K).all (fun b => b) && tabY g K)
def isRefV : Value → Bool
  | .ref _ => true
  | _ => false
def overB (l : List Value) : Bool := l.dropWhile isRefV == lkTail
def lexB (K : PySem.W.Frag) (C : Addr) : Bool := (match K.lookup C with
    | some ⟨.type t, _, .cls cd, sl⟩ => decide (t = "type") && (cd.hasDict && (!cd.hasDel && (match cd.mro, sl.toList with
      | .ref D :: bm, [_, _, _, _, some (.builtin n), _] => decide (D = C) && (decide (n = "LookupError.__new__") && overB bm)
      | _, _ => false)))
    | _ => false) && (He.eqO (PySem.W.findIn K (.ref C) "__setattr__") (some (some (.builtin "object.__setattr__"))) && (decide (PySem.W.subIn K (.ref C) (.type "BaseException") = some true) &&
  (decide (PySem.W.typeIn K (.ref C) = some (.type "type")) && (PySem.W.keepIn K (.ref C) && He.eqO (PySem.W.findIn K (.ref C) "word") (some none)))))
def fnL0 : List He.DefD := [dD "_law_open" s_open, dD "_law_pull" s_pull, dD "_law_any" s_any, dD "_law_like" s_like, dD "_law_fields" s_fields, dD "_law_why" s_why, dD "_law_mating" s_mating, dD "_law_ends" s_ends, dD "_law_odd" s_odd, dD "_law_scaled" s_scaled, dD "_law_hall_name" s_hall_name, dD "_law_good_name" s_good_name, dD "_law_room" s_room, dD "_law_clip" s_clip, dD "_law_no_number" s_no_number, dD "_law_road_deed" s_road_deed, dD "_law_taken_behind" s_taken_behind, dD "_law_step" s_step, dD "_law_hall_deed" s_hall_deed, dD "_law_hall_looks" s_hall_looks, dD "need_from" s_need_from, dD "need_within" s_need_within, dD "need_length" s_need_length, dD "need_mating" s_need_mating, dD "is_mating" s_is_mating, dD "clipped" s_clipped, dD "part" s_part, dD "holds" s_holds, dD "swelled" s_swelled, dD "moved" s_moved]
def fnL1 : List He.DefD := [dD "is_name" s_is_name, dD "very_road" s_very_road, dD "do_upon" s_do_upon, dD "page" s_page, dD "_law_page" s_law_page, dD "law" s_law, dMs "FarError" "__init__" "FarError.__init__" s_farinit, dM "BadNumber" "__init__" "BadNumber.__init__" s_bninit, dM "BadMating" "__init__" "BadMating.__init__" s_bginit, dM "Full" "__init__" "Full.__init__" s_fuinit, dM "BadName" "__init__" "BadName.__init__" s_erBadName, dM "Taken" "__init__" "Taken.__init__" s_erTaken, dMs "Missing" "__init__" "Missing.__init__" s_misinit, dM "NoMating" "__init__" "NoMating.__init__" s_nminit, dM "NoRoad" "__init__" "NoRoad.__init__" s_erNoRoad, dM "Road" "become" "Road.become" s_Ro_become, dM "Road" "next_number" "Road.next_number" s_Ro_next_number, dM "Road" "matings" "Road.matings" s_Ro_matings, dM "Road" "length" "Road.length" s_Ro_length, dM "Road" "mate_as" "Road.mate_as" s_Ro_mate_as, dM "Road" "strike" "Road.strike" s_Ro_strike, dM "Road" "grow" "Road.grow" s_Ro_grow, dM "Road" "trim" "Road.trim" s_Ro_trim, dM "Road" "swell" "Road.swell" s_Ro_swell, dM "Road" "behind" "Road.behind" s_Ro_behind, dM "Road" "twin" "Road.twin" s_Ro_twin, dM "Road" "__eq__" "Road.__eq__" s_Ro_eq, { at_ := ("Road", some "__init__"), name := "__init__", qual := "Road.__init__", params := defArgs s_Ro_init, body := defBody s_Ro_init, scope := defScope s_Ro_init, dfl := [.int 0], kwd := [] }, { at_ := ("Road", some "mate"), name := "mate", qual := "Road.mate", params := defArgs s_Ro_mate, body := defBody s_Ro_mate, scope := defScope s_Ro_mate, dfl := [], kwd := [("turned", .int 0)] }, dM "Draft" "__init__" "Draft.__init__" s_Df_init]
def fnL2 : List He.DefD := [dM "Draft" "seat" "Draft.seat" s_Df_seat, dM "Draft" "need_room" "Draft.need_room" s_Df_need_room, dM "Draft" "do" "Draft.do" s_Df_do, dM "Draft" "change_road" "Draft.change_road" s_Df_change_road, dM "Hall" "draft" "Hall.draft" s_Ha_draft, dM "Hall" "together" "Hall.together" s_Ha_together, dM "Hall" "names" "Hall.names" s_Ha_names, dM "Hall" "very" "Hall.very" s_Ha_very, dM "Hall" "road" "Hall.road" s_Ha_road, dM "Hall" "__len__" "Hall.__len__" s_Ha_len, dM "Hall" "do" "Hall.do" s_Ha_do, dM "Hall" "steps" "Hall.steps" s_Ha_steps, { at_ := ("Hall", some "__init__"), name := "__init__", qual := "Hall.__init__", params := defArgs s_Ha_init, body := defBody s_Ha_init, scope := defScope s_Ha_init, dfl := [], kwd := [("most", .int 6)] }]
def fnL : List He.DefD := fnL0 ++ fnL1 ++ fnL2
def faL0 : List He.Fa := [.glo "_law_open", .glo "_law_pull", .glo "_law_any", .glo "_law_like", .glo "_law_fields", .glo "_law_why", .glo "_law_mating", .glo "_law_ends", .glo "_law_odd", .glo "_law_scaled", .glo "_law_hall_name", .glo "_law_good_name", .glo "_law_room", .glo "_law_clip", .glo "_law_no_number", .glo "_law_road_deed", .glo "_law_taken_behind", .glo "_law_step", .glo "_law_hall_deed", .glo "_law_hall_looks", .glo "need_from", .glo "need_within", .glo "need_length", .glo "need_mating", .glo "is_mating", .glo "clipped", .glo "part", .glo "holds", .glo "swelled", .glo "moved"]
def faL1 : List He.Fa := [.glo "is_name", .glo "very_road", .glo "do_upon", .glo "page", .glo "_law_page", .glo "law", .free "len", .free "list", .free "tuple", .free "bool", .free "int", .free "str", .free "isinstance", .free "all", .free "any", .free "range", .free "max", .free "min", .free "dict", .free "sorted", .free "ValueError", .glo "FarError", .glo "BadNumber", .noat "BadNumber" "number", .glo "BadMating", .noat "BadMating" "mating", .glo "Full", .noat "Full" "most", .glo "BadName", .noat "BadName" "name"]
def faL2 : List He.Fa := [.glo "Taken", .noat "Taken" "name", .glo "Missing", .free "LookupError", .glo "NoMating", .noat "NoMating" "number", .glo "NoRoad", .noat "NoRoad" "name", .glo "NoFamily", .glo "TooMuch", .glo "BadPlace", .glo "BadStretch", .glo "BadMove", .glo "BadMoves", .glo "BadText", .glo "BadBoard", .glo "BadCounts", .glo "BadSide", .glo "NoSide", .glo "TURNS", .free "enumerate", .glo "Road", .cls "Road", .noat "Road" "extent", .noat "Road" "standing", .noat "Road" "kept", .noat "Road" "foldings", .glo "Draft", .cls "Draft", .noat "Draft" "seats"]
def faL3 : List He.Fa := [.noat "Draft" "fresh", .noat "Draft" "most", .glo "Hall", .cls "Hall", .noat "Hall" "most", .noat "Hall" "fresh", .noat "Hall" "states", .noat "Hall" "now", .int "FAR" 1000000000000000000, .int "MOST" 24, .int "LONGEST_NAME" 6, .int "ROADS" 6, .str "LETTERS" "abcdefghijklmnopqrstuvwxyz"]
def faL : List He.Fa := faL0 ++ faL1 ++ faL2 ++ faL3
def exL0 (K : PySem.W.Frag) : List Bool := [cfnB K (He.ga K "FarError") "__init__" (He.ma K (He.ga K "FarError") "__init__"), bltB K "ValueError" "__init__" "ValueError.__init__", errB K (He.ga K "BadNumber"), xfB K (He.ga K "BadNumber"), excB K (He.ga K "BadNumber"), decide (PySem.W.exmOne K (.ref (He.ga K "BadNumber")) (.ref (He.ga K "FarError")) = some true), He.eqO (PySem.W.findIn K (.ref (He.ga K "BadNumber")) "__init__") (some (some (.ref (He.ma K (He.ga K "BadNumber") "__init__")))), decide (PySem.W.typeIn K (.ref (He.ma K (He.ga K "BadNumber") "__init__")) = some (.type "function")), errB K (He.ga K "BadMating"), xfB K (He.ga K "BadMating"), excB K (He.ga K "BadMating"), decide (PySem.W.exmOne K (.ref (He.ga K "BadMating")) (.ref (He.ga K "FarError")) = some true), He.eqO (PySem.W.findIn K (.ref (He.ga K "BadMating")) "__init__") (some (some (.ref (He.ma K (He.ga K "BadMating") "__init__")))), decide (PySem.W.typeIn K (.ref (He.ma K (He.ga K "BadMating") "__init__")) = some (.type "function")), errB K (He.ga K "Full"), xfB K (He.ga K "Full"), excB K (He.ga K "Full"), decide (PySem.W.exmOne K (.ref (He.ga K "Full")) (.ref (He.ga K "FarError")) = some true), He.eqO (PySem.W.findIn K (.ref (He.ga K "Full")) "__init__") (some (some (.ref (He.ma K (He.ga K "Full") "__init__")))), decide (PySem.W.typeIn K (.ref (He.ma K (He.ga K "Full") "__init__")) = some (.type "function")), errB K (He.ga K "BadName"), xfB K (He.ga K "BadName"), excB K (He.ga K "BadName"), decide (PySem.W.exmOne K (.ref (He.ga K "BadName")) (.ref (He.ga K "FarError")) = some true), He.eqO (PySem.W.findIn K (.ref (He.ga K "BadName")) "__init__") (some (some (.ref (He.ma K (He.ga K "BadName") "__init__")))), decide (PySem.W.typeIn K (.ref (He.ma K (He.ga K "BadName") "__init__")) = some (.type "function")), errB K (He.ga K "Taken"), xfB K (He.ga K "Taken"), excB K (He.ga K "Taken"), decide (PySem.W.exmOne K (.ref (He.ga K "Taken")) (.ref (He.ga K "FarError")) = some true)]
def exL1 (K : PySem.W.Frag) : List Bool := [He.eqO (PySem.W.findIn K (.ref (He.ga K "Taken")) "__init__") (some (some (.ref (He.ma K (He.ga K "Taken") "__init__")))), decide (PySem.W.typeIn K (.ref (He.ma K (He.ga K "Taken") "__init__")) = some (.type "function")), cfnB K (He.ga K "Missing") "__init__" (He.ma K (He.ga K "Missing") "__init__"), bltB K "LookupError" "__init__" "LookupError.__init__", lexB K (He.ga K "NoMating"), xfB K (He.ga K "NoMating"), excB K (He.ga K "NoMating"), decide (PySem.W.exmOne K (.ref (He.ga K "NoMating")) (.ref (He.ga K "FarError")) = some false), decide (PySem.W.exmOne K (.ref (He.ga K "NoMating")) (.ref (He.ga K "Missing")) = some true), He.eqO (PySem.W.findIn K (.ref (He.ga K "NoMating")) "__init__") (some (some (.ref (He.ma K (He.ga K "NoMating") "__init__")))), decide (PySem.W.typeIn K (.ref (He.ma K (He.ga K "NoMating") "__init__")) = some (.type "function")), lexB K (He.ga K "NoRoad"), xfB K (He.ga K "NoRoad"), excB K (He.ga K "NoRoad"), decide (PySem.W.exmOne K (.ref (He.ga K "NoRoad")) (.ref (He.ga K "FarError")) = some false), decide (PySem.W.exmOne K (.ref (He.ga K "NoRoad")) (.ref (He.ga K "Missing")) = some true), He.eqO (PySem.W.findIn K (.ref (He.ga K "NoRoad")) "__init__") (some (some (.ref (He.ma K (He.ga K "NoRoad") "__init__")))), decide (PySem.W.typeIn K (.ref (He.ma K (He.ga K "NoRoad") "__init__")) = some (.type "function")), PySem.W.makesIn K (He.ga K "Road"), PySem.W.keepIn K (.ref (He.ga K "Road")), He.eqO (PySem.W.findIn K (.ref (He.ga K "Road")) "become") (some (some (.ref (He.ma K (He.ga K "Road") "become")))), PySem.W.isFn K (.ref (He.ma K (He.ga K "Road") "become")), He.eqO (PySem.W.findIn K (.ref (He.ga K "Road")) "next_number") (some (some (.ref (He.ma K (He.ga K "Road") "next_number")))), PySem.W.isFn K (.ref (He.ma K (He.ga K "Road") "next_number")), He.eqO (PySem.W.findIn K (.ref (He.ga K "Road")) "matings") (some (some (.ref (He.ma K (He.ga K "Road") "matings")))), PySem.W.isFn K (.ref (He.ma K (He.ga K "Road") "matings")), He.eqO (PySem.W.findIn K (.ref (He.ga K "Road")) "length") (some (some (.ref (He.ma K (He.ga K "Road") "length")))), PySem.W.isFn K (.ref (He.ma K (He.ga K "Road") "length")), He.eqO (PySem.W.findIn K (.ref (He.ga K "Road")) "mate_as") (some (some (.ref (He.ma K (He.ga K "Road") "mate_as")))), PySem.W.isFn K (.ref (He.ma K (He.ga K "Road") "mate_as"))]
def exL2 (K : PySem.W.Frag) : List Bool := [He.eqO (PySem.W.findIn K (.ref (He.ga K "Road")) "strike") (some (some (.ref (He.ma K (He.ga K "Road") "strike")))), PySem.W.isFn K (.ref (He.ma K (He.ga K "Road") "strike")), He.eqO (PySem.W.findIn K (.ref (He.ga K "Road")) "grow") (some (some (.ref (He.ma K (He.ga K "Road") "grow")))), PySem.W.isFn K (.ref (He.ma K (He.ga K "Road") "grow")), He.eqO (PySem.W.findIn K (.ref (He.ga K "Road")) "trim") (some (some (.ref (He.ma K (He.ga K "Road") "trim")))), PySem.W.isFn K (.ref (He.ma K (He.ga K "Road") "trim")), He.eqO (PySem.W.findIn K (.ref (He.ga K "Road")) "swell") (some (some (.ref (He.ma K (He.ga K "Road") "swell")))), PySem.W.isFn K (.ref (He.ma K (He.ga K "Road") "swell")), He.eqO (PySem.W.findIn K (.ref (He.ga K "Road")) "behind") (some (some (.ref (He.ma K (He.ga K "Road") "behind")))), PySem.W.isFn K (.ref (He.ma K (He.ga K "Road") "behind")), He.eqO (PySem.W.findIn K (.ref (He.ga K "Road")) "twin") (some (some (.ref (He.ma K (He.ga K "Road") "twin")))), PySem.W.isFn K (.ref (He.ma K (He.ga K "Road") "twin")), He.eqO (PySem.W.findIn K (.ref (He.ga K "Road")) "__eq__") (some (some (.ref (He.ma K (He.ga K "Road") "__eq__")))), PySem.W.isFn K (.ref (He.ma K (He.ga K "Road") "__eq__")), He.eqO (PySem.W.findIn K (.ref (He.ga K "Road")) "__init__") (some (some (.ref (He.ma K (He.ga K "Road") "__init__")))), PySem.W.isFn K (.ref (He.ma K (He.ga K "Road") "__init__")), He.eqO (PySem.W.findIn K (.ref (He.ga K "Road")) "mate") (some (some (.ref (He.ma K (He.ga K "Road") "mate")))), PySem.W.isFn K (.ref (He.ma K (He.ga K "Road") "mate")), PySem.W.makesIn K (He.ga K "Draft"), PySem.W.keepIn K (.ref (He.ga K "Draft")), He.eqO (PySem.W.findIn K (.ref (He.ga K "Draft")) "__init__") (some (some (.ref (He.ma K (He.ga K "Draft") "__init__")))), PySem.W.isFn K (.ref (He.ma K (He.ga K "Draft") "__init__")), He.eqO (PySem.W.findIn K (.ref (He.ga K "Draft")) "seat") (some (some (.ref (He.ma K (He.ga K "Draft") "seat")))), PySem.W.isFn K (.ref (He.ma K (He.ga K "Draft") "seat")), He.eqO (PySem.W.findIn K (.ref (He.ga K "Draft")) "need_room") (some (some (.ref (He.ma K (He.ga K "Draft") "need_room")))), PySem.W.isFn K (.ref (He.ma K (He.ga K "Draft") "need_room")), He.eqO (PySem.W.findIn K (.ref (He.ga K "Draft")) "do") (some (some (.ref (He.ma K (He.ga K "Draft") "do")))), PySem.W.isFn K (.ref (He.ma K (He.ga K "Draft") "do")), He.eqO (PySem.W.findIn K (.ref (He.ga K "Draft")) "change_road") (some (some (.ref (He.ma K (He.ga K "Draft") "change_road")))), PySem.W.isFn K (.ref (He.ma K (He.ga K "Draft") "change_road"))]
def exL3 (K : PySem.W.Frag) : List Bool := [PySem.W.makesIn K (He.ga K "Hall"), PySem.W.keepIn K (.ref (He.ga K "Hall")), He.eqO (PySem.W.findIn K (.ref (He.ga K "Hall")) "draft") (some (some (.ref (He.ma K (He.ga K "Hall") "draft")))), PySem.W.isFn K (.ref (He.ma K (He.ga K "Hall") "draft")), He.eqO (PySem.W.findIn K (.ref (He.ga K "Hall")) "together") (some (some (.ref (He.ma K (He.ga K "Hall") "together")))), PySem.W.isFn K (.ref (He.ma K (He.ga K "Hall") "together")), He.eqO (PySem.W.findIn K (.ref (He.ga K "Hall")) "names") (some (some (.ref (He.ma K (He.ga K "Hall") "names")))), PySem.W.isFn K (.ref (He.ma K (He.ga K "Hall") "names")), He.eqO (PySem.W.findIn K (.ref (He.ga K "Hall")) "very") (some (some (.ref (He.ma K (He.ga K "Hall") "very")))), PySem.W.isFn K (.ref (He.ma K (He.ga K "Hall") "very")), He.eqO (PySem.W.findIn K (.ref (He.ga K "Hall")) "road") (some (some (.ref (He.ma K (He.ga K "Hall") "road")))), PySem.W.isFn K (.ref (He.ma K (He.ga K "Hall") "road")), He.eqO (PySem.W.findIn K (.ref (He.ga K "Hall")) "__len__") (some (some (.ref (He.ma K (He.ga K "Hall") "__len__")))), PySem.W.isFn K (.ref (He.ma K (He.ga K "Hall") "__len__")), He.eqO (PySem.W.findIn K (.ref (He.ga K "Hall")) "do") (some (some (.ref (He.ma K (He.ga K "Hall") "do")))), PySem.W.isFn K (.ref (He.ma K (He.ga K "Hall") "do")), He.eqO (PySem.W.findIn K (.ref (He.ga K "Hall")) "steps") (some (some (.ref (He.ma K (He.ga K "Hall") "steps")))), PySem.W.isFn K (.ref (He.ma K (He.ga K "Hall") "steps")), He.eqO (PySem.W.findIn K (.ref (He.ga K "Hall")) "__init__") (some (some (.ref (He.ma K (He.ga K "Hall") "__init__")))), PySem.W.isFn K (.ref (He.ma K (He.ga K "Hall") "__init__")), decide (PySem.W.subIn K (.ref (He.ga K "BadMating")) (.ref (He.ga K "BadMating")) = some true), decide (PySem.W.subIn K (.ref (He.ga K "BadMating")) (.ref (He.ga K "BadNumber")) = some false), PySem.W.isClsIn K (He.ga K "BadNumber"), decide (PySem.W.typeIn K (.ref (He.ga K "BadNumber")) = some (.type "type")), decide (PySem.W.subIn K (.ref (He.ga K "BadMating")) (.ref (He.ga K "NoMating")) = some false), PySem.W.isClsIn K (He.ga K "NoMating"), decide (PySem.W.typeIn K (.ref (He.ga K "NoMating")) = some (.type "type")), decide (PySem.W.subIn K (.ref (He.ga K "BadMating")) (.ref (He.ga K "NoFamily")) = some false), PySem.W.isClsIn K (He.ga K "NoFamily"), decide (PySem.W.typeIn K (.ref (He.ga K "NoFamily")) = some (.type "type"))]
def exL4 (K : PySem.W.Frag) : List Bool := [decide (PySem.W.subIn K (.ref (He.ga K "BadMating")) (.ref (He.ga K "TooMuch")) = some false), PySem.W.isClsIn K (He.ga K "TooMuch"), decide (PySem.W.typeIn K (.ref (He.ga K "TooMuch")) = some (.type "type")), decide (PySem.W.subIn K (.ref (He.ga K "BadMating")) (.ref (He.ga K "BadName")) = some false), PySem.W.isClsIn K (He.ga K "BadName"), decide (PySem.W.typeIn K (.ref (He.ga K "BadName")) = some (.type "type")), decide (PySem.W.subIn K (.ref (He.ga K "BadMating")) (.ref (He.ga K "Taken")) = some false), PySem.W.isClsIn K (He.ga K "Taken"), decide (PySem.W.typeIn K (.ref (He.ga K "Taken")) = some (.type "type")), decide (PySem.W.subIn K (.ref (He.ga K "BadMating")) (.ref (He.ga K "NoRoad")) = some false), PySem.W.isClsIn K (He.ga K "NoRoad"), decide (PySem.W.typeIn K (.ref (He.ga K "NoRoad")) = some (.type "type")), decide (PySem.W.subIn K (.ref (He.ga K "Full")) (.ref (He.ga K "Full")) = some true), decide (PySem.W.subIn K (.ref (He.ga K "Full")) (.ref (He.ga K "BadNumber")) = some false), decide (PySem.W.subIn K (.ref (He.ga K "Full")) (.ref (He.ga K "NoMating")) = some false), decide (PySem.W.subIn K (.ref (He.ga K "Full")) (.ref (He.ga K "NoFamily")) = some false), decide (PySem.W.subIn K (.ref (He.ga K "Full")) (.ref (He.ga K "TooMuch")) = some false), decide (PySem.W.subIn K (.ref (He.ga K "Full")) (.ref (He.ga K "BadName")) = some false), decide (PySem.W.subIn K (.ref (He.ga K "Full")) (.ref (He.ga K "Taken")) = some false), decide (PySem.W.subIn K (.ref (He.ga K "Full")) (.ref (He.ga K "NoRoad")) = some false), decide (PySem.W.subIn K (.ref (He.ga K "Full")) (.ref (He.ga K "BadMating")) = some false), PySem.W.isClsIn K (He.ga K "BadMating"), decide (PySem.W.typeIn K (.ref (He.ga K "BadMating")) = some (.type "type")), decide (PySem.W.subIn K (.ref (He.ga K "Full")) (.ref (He.ga K "BadPlace")) = some false), PySem.W.isClsIn K (He.ga K "BadPlace"), decide (PySem.W.typeIn K (.ref (He.ga K "BadPlace")) = some (.type "type")), decide (PySem.W.subIn K (.ref (He.ga K "Full")) (.ref (He.ga K "BadStretch")) = some false), PySem.W.isClsIn K (He.ga K "BadStretch"), decide (PySem.W.typeIn K (.ref (He.ga K "BadStretch")) = some (.type "type")), decide (PySem.W.subIn K (.ref (He.ga K "Full")) (.ref (He.ga K "BadMove")) = some false)]
def exL5 (K : PySem.W.Frag) : List Bool := [PySem.W.isClsIn K (He.ga K "BadMove"), decide (PySem.W.typeIn K (.ref (He.ga K "BadMove")) = some (.type "type")), decide (PySem.W.subIn K (.ref (He.ga K "Full")) (.ref (He.ga K "BadMoves")) = some false), PySem.W.isClsIn K (He.ga K "BadMoves"), decide (PySem.W.typeIn K (.ref (He.ga K "BadMoves")) = some (.type "type")), decide (PySem.W.subIn K (.ref (He.ga K "Full")) (.ref (He.ga K "BadText")) = some false), PySem.W.isClsIn K (He.ga K "BadText"), decide (PySem.W.typeIn K (.ref (He.ga K "BadText")) = some (.type "type")), decide (PySem.W.subIn K (.ref (He.ga K "Full")) (.ref (He.ga K "BadBoard")) = some false), PySem.W.isClsIn K (He.ga K "BadBoard"), decide (PySem.W.typeIn K (.ref (He.ga K "BadBoard")) = some (.type "type")), decide (PySem.W.subIn K (.ref (He.ga K "Full")) (.ref (He.ga K "BadCounts")) = some false), PySem.W.isClsIn K (He.ga K "BadCounts"), decide (PySem.W.typeIn K (.ref (He.ga K "BadCounts")) = some (.type "type")), decide (PySem.W.subIn K (.ref (He.ga K "Full")) (.ref (He.ga K "BadSide")) = some false), PySem.W.isClsIn K (He.ga K "BadSide"), decide (PySem.W.typeIn K (.ref (He.ga K "BadSide")) = some (.type "type")), decide (PySem.W.subIn K (.ref (He.ga K "Full")) (.ref (He.ga K "NoSide")) = some false), PySem.W.isClsIn K (He.ga K "NoSide"), decide (PySem.W.typeIn K (.ref (He.ga K "NoSide")) = some (.type "type")), decide (PySem.W.subIn K (.ref (He.ga K "NoMating")) (.ref (He.ga K "NoMating")) = some true), decide (PySem.W.subIn K (.ref (He.ga K "NoMating")) (.ref (He.ga K "BadNumber")) = some false), decide (PySem.W.subIn K (.ref (He.ga K "BadName")) (.ref (He.ga K "BadName")) = some true), decide (PySem.W.subIn K (.ref (He.ga K "BadName")) (.ref (He.ga K "BadNumber")) = some false), decide (PySem.W.subIn K (.ref (He.ga K "BadName")) (.ref (He.ga K "NoMating")) = some false), decide (PySem.W.subIn K (.ref (He.ga K "BadName")) (.ref (He.ga K "NoFamily")) = some false), decide (PySem.W.subIn K (.ref (He.ga K "BadName")) (.ref (He.ga K "TooMuch")) = some false), decide (PySem.W.subIn K (.ref (He.ga K "Taken")) (.ref (He.ga K "Taken")) = some true), decide (PySem.W.subIn K (.ref (He.ga K "Taken")) (.ref (He.ga K "BadNumber")) = some false), decide (PySem.W.subIn K (.ref (He.ga K "Taken")) (.ref (He.ga K "NoMating")) = some false)]
def exL6 (K : PySem.W.Frag) : List Bool := [decide (PySem.W.subIn K (.ref (He.ga K "Taken")) (.ref (He.ga K "NoFamily")) = some false), decide (PySem.W.subIn K (.ref (He.ga K "Taken")) (.ref (He.ga K "TooMuch")) = some false), decide (PySem.W.subIn K (.ref (He.ga K "Taken")) (.ref (He.ga K "BadName")) = some false), decide (PySem.W.subIn K (.ref (He.ga K "NoRoad")) (.ref (He.ga K "NoRoad")) = some true), decide (PySem.W.subIn K (.ref (He.ga K "NoRoad")) (.ref (He.ga K "BadNumber")) = some false), decide (PySem.W.subIn K (.ref (He.ga K "NoRoad")) (.ref (He.ga K "NoMating")) = some false), decide (PySem.W.subIn K (.ref (He.ga K "NoRoad")) (.ref (He.ga K "NoFamily")) = some false), decide (PySem.W.subIn K (.ref (He.ga K "NoRoad")) (.ref (He.ga K "TooMuch")) = some false), decide (PySem.W.subIn K (.ref (He.ga K "NoRoad")) (.ref (He.ga K "BadName")) = some false), decide (PySem.W.subIn K (.ref (He.ga K "NoRoad")) (.ref (He.ga K "Taken")) = some false), turnsB K (He.ga K "TURNS"), He.eqO (PySem.W.findIn K (.ref (He.ga K "Road")) "__ne__") (some (some (.builtin "object.__ne__"))), He.eqO (PySem.W.findIn K (.ref (He.ga K "Road")) "__class__") (some (some (.builtin "object.__class__"))), He.eqO (PySem.W.specialIn K (.builtin "object.__class__") "__get__") (some (some (.builtin "getset_descriptor.__get__"))), decide (PySem.W.takesIn K (.builtin "object.__class__") = some true), decide (PySem.W.mroIn K (He.ga K "Road") (.type "object") = some true)]
def exL (K : PySem.W.Frag) : List Bool := exL0 K ++ exL1 K ++ exL2 K ++ exL3 K ++ exL4 K ++ exL5 K ++ exL6 K
def looseL0 : List Str := ["_wall", "FarError", "BadNumber", "BadName", "BadMating", "BadPlace", "BadStretch", "BadMove", "BadMoves", "BadBoard", "BadCounts", "BadSide", "TooMuch", "BadText", "Taken", "Full", "Missing", "NoMating", "NoRoad", "NoSide", "NoFamily", "NothingLeft", "FAR", "MOST", "need_from", "need_within", "need_length", "is_mating", "need_mating", "need_place"]
def looseL1 : List Str := ["common", "normal", "back", "part", "holds", "moved", "swelled", "clipped", "need_road", "step_of", "end_of", "is_leader", "is_repeat", "halved", "merged", "led_back", "Front", "wide_front", "fault_of", "fold_down", "Folder", "Shares", "led_by", "wound", "led_pieces", "settled", "last_up_to", "joined", "first_ranks", "Folding"]
def looseL2 : List Str := ["Road", "LETTERS", "TURNS", "is_name", "ROADS", "LONGEST_NAME", "very_road", "Draft", "do_upon", "Hall", "page", "_law_open", "_law_pull", "_law_any", "_law_like", "_law_fields", "_law_why", "_law_mating", "_law_ends", "_law_odd", "_law_scaled", "_law_hall_name", "_law_good_name", "_law_room", "_law_clip", "_law_no_number", "_law_road_deed", "_law_taken_behind", "_law_step", "_law_hall_deed"]
def looseL3 : List Str := ["_law_hall_looks", "_law_page"]
def looseL : List Str := looseL0 ++ looseL1 ++ looseL2 ++ looseL3
abbrev RowL : PySem.W.OpenRow := PySem.W.OpenLaw.row PySem.Challenge.rw_farmates_k54_pages_written
theorem run1 : SeenEq RowL (PySem.W.view RowL.prog [103]) 40000 looseL := by
  intro w os
  kernel_rfl
theorem run2 : PartEq RowL.prog 40000 (fun s => okY faL fnL exL (HandSHeadRun.getT s) (seenY (HandSHeadRun.getT s))) fun _ => true := by
  intro w os
  kernel_rfl
theorem run4 : PartEq RowL.prog 40000 (fun s => fnL.map fun d => He.fnW (seenY (HandSHeadRun.getT s)) d.at_) fun _ => fnL.map He.DefD.val := by
  intro w os
  kernel_rfl
end
/-! ### what stands behind the top -/
structure DefAt (K : PySem.W.Frag) (mg : Str → Option Value) (x : Str) (st : Stmt) (ps : List Str) (f : Addr) (fd : FuncData) : Prop where
  F : Fun K x x st f fd
  b : Binds K fd ps []
  g : mg x = some (.ref f)
structure Bn (mg : Str → Option Value) : Prop where
  len : mg "len" = none
  list : mg "list" = none
  tuple : mg "tuple" = none
  bool : mg "bool" = none
  int : mg "int" = none
  str : mg "str" = none
  isinstance : mg "isinstance" = none
  all : mg "all" = none
  any : mg "any" = none
  range : mg "range" = none
  max : mg "max" = none
  min : mg "min" = none
  dict : mg "dict" = none
  sorted : mg "sorted" = none
/-! ### heaps -/
theorem same_upd {H : Hp} {p : Addr} {o : HO} (h : H p = none) : Same H (upd H p o) := fun b x e => by
  rw [upd_ne (ne_of_none e h)]
  exact e
/-- all but d stands as it stood -/
def Keep (d : Addr) (H H' : Hp) : Prop := ∀ b o, b ≠ d → H b = some o → H' b = some o
theorem Keep.refl (d : Addr) (H : Hp) : Keep d H H := fun _ _ _ h => h
theorem Keep.trans {d : Addr} {H H1 H2 : Hp} (a : Keep d H H1) (b : Keep d H1 H2) : Keep d H H2 := fun c o n h => b c o n (a c o n h)
theorem Keep.upd {d : Addr} {H : Hp} {o : HO} : Keep d H (upd H d o) := fun b x n h => by
  rw [upd_ne n]
  exact h
theorem keepS {d : Addr} {H H' : Hp} (a : Same H H') : Keep d H H' := fun b o _ h => a b o h
/-! ### the drawing -/
structure Drawn (H : Hp) (d l : Addr) (ns : List Int) (i z s : Int) : Prop where
  at_d : H d = some (.lst [.ref l, .int i, .int z, .int s])
  at_l : H l = some (.lst (ns.map V.int))
  len : ns.length ≤ 63
  i0 : 0 ≤ i
  z0 : 0 ≤ z
  s0 : 0 ≤ s
  s1 : s < 2147483629
def Draw (H : Hp) (d l : Addr) : Prop := ∃ ns i z s, Drawn H d l ns i z s
theorem Drawn.ne {H : Hp} {d l : Addr} {ns : List Int} {i z s : Int} (h : Drawn H d l ns i z s) : l ≠ d := by
  refine ne_of h.at_l h.at_d fun e => ?_
  cases ns with
  | nil => cases e
  | cons x r => cases e
theorem Drawn.same {H H' : Hp} {d l : Addr} {ns : List Int} {i z s : Int} (h : Drawn H d l ns i z s) (e : Same H H') : Drawn H' d l ns i z s := { h with at_d := e _ _ h.at_d, at_l := e _ _ h.at_l }
theorem Draw.same {H H' : Hp} {d l : Addr} (h : Draw H d l) (e : Same H H') : Draw H' d l := by
  obtain ⟨ns, i, z, s, h⟩ := h
  exact ⟨ns, i, z, s, h.same e⟩
/-- the drawing list stored anew -/
theorem Drawn.put {H : Hp} {d l : Addr} {ns : List Int} {i z s i' z' s' : Int} (h : Drawn H d l ns i z s) (hi : 0 ≤ i') (hz : 0 ≤ z') (h0 : 0 ≤ s') (h1 : s' < 2147483629) :
    Drawn (upd H d (.lst [.ref l, .int i', .int z', .int s'])) d l ns i' z' s' :=
  ⟨upd_same, (by rw [upd_ne h.ne]; exact h.at_l), h.len, hi, hz, h0, h1⟩
def spOpen (K : PySem.W.Frag) : Sp := fun vs H Q _ => ∃ (a : Addr) (ns : List Int), vs = [.ref a] ∧ SqL K H a (ns.map V.int) ∧ ns.length ≤ 63 ∧
  ∀ H' d l, Same H H' → H d = none → H l = none → Draw H' d l → Q (.ref d) H'
def spPull : Sp := fun vs H Q _ => ∃ (d l : Addr) (c : Int), vs = [.ref d, .int c] ∧ Draw H d l ∧ 1 ≤ c ∧ c < 2 ^ 100 ∧
  ∀ (v : Int) (H' : Hp), 0 ≤ v → v < c → Draw H' d l → Keep d H H' → Q (.int v) H'
/-! ### data that is compared, at most n deep -/
mutual
inductive Rp (H : Hp) : Nat → V → PyData → Prop
  | non (n : Nat) : Rp H n .non .none
  | bl (n : Nat) (b : Bool) : Rp H n (.bl b) (.bool b)
  | int (n : Nat) (i : Int) : Rp H n (.int i) (.int i)
  | str (n : Nat) (x : Str) : Rp H n (.str x) (.str x)
  | lst {n : Nat} {a : Addr} {xs : List V} {ds : List PyData} : H a = some (.lst xs) → xs.length ≤ 100000 → RpAll H n xs ds → Rp H (n + 1) (.ref a) (.list ds)
  | tup {n : Nat} {a : Addr} {xs : List V} {ds : List PyData} : H a = some (.tup xs) → xs.length ≤ 100000 → RpAll H n xs ds → Rp H (n + 1) (.ref a) (.tuple ds)
inductive RpAll (H : Hp) : Nat → List V → List PyData → Prop
  | nil (n : Nat) : RpAll H n [] []
  | cons {n : Nat} {v : V} {vs : List V} {d : PyData} {ds : List PyData} : Rp H n v d → RpAll H n vs ds → RpAll H n (v :: vs) (d :: ds)
end
mutual
theorem Rp.same {H H' : Hp} (e : Same H H') : ∀ {n : Nat} {v : V} {d : PyData}, Rp H n v d → Rp H' n v d
  | _, _, _, .non n => .non n
  | _, _, _, .bl n b => .bl n b
  | _, _, _, .int n i => .int n i
  | _, _, _, .str n x => .str n x
  | _, _, _, .lst h l r => .lst (e _ _ h) l (RpAll.same e r)
  | _, _, _, .tup h l r => .tup (e _ _ h) l (RpAll.same e r)
theorem RpAll.same {H H' : Hp} (e : Same H H') : ∀ {n : Nat} {vs : List V} {ds : List PyData}, RpAll H n vs ds → RpAll H' n vs ds
  | _, _, _, .nil n => .nil n
  | _, _, _, .cons h r => .cons (Rp.same e h) (RpAll.same e r)
end
theorem RpAll.length {H : Hp} : ∀ {n : Nat} {vs : List V} {ds : List PyData}, RpAll H n vs ds → vs.length = ds.length
  | _, _, _, .nil _ => rfl
  | _, _, _, .cons _ r => congrArg (· + 1) (RpAll.length r)
theorem RpAll.get {H : Hp} : ∀ {n : Nat} {vs : List V} {ds : List PyData}, RpAll H n vs ds → ∀ (i : Nat), i < ds.length → ∃ v d, vs[i]? = some v ∧ ds[i]? = some d ∧ Rp H n v d
  | _, _, _, .nil _, i, h => absurd h (Nat.not_lt_zero i)
  | _, _, _, .cons (v := v) (d := d) h r, 0, _ => ⟨v, d, rfl, rfl, h⟩
  | _, _, _, .cons h r, i + 1, hi => by
    obtain ⟨v, d, a, b, c⟩ := RpAll.get r i (Nat.lt_of_succ_lt_succ hi)
    exact ⟨v, d, a, b, c⟩
def spLike (n : Nat) : Sp := fun vs H Q _ => ∃ (a b : V) (d : PyData), vs = [a, b] ∧ Rp H n a d ∧ Rp H n b d ∧ ∀ H', Same H H' → Q (.bl true) H'
def spBot : Sp := fun _ _ _ _ => False
section
variable {P : Program} {w : World} {K : PySem.W.Frag} {mg : Str → Option Value} {base : Heap}
theorem ok_bot {f : Addr} {fd : FuncData} {ps : List Str} : FnOk P w K mg base CX0 0 f fd ps spBot := ⟨fun _ _ _ _ h => h.elim, fun _ _ _ _ _ _ _ _ _ _ _ _ _ h => h.elim⟩
end
theorem Draw.ne_new {H : Hp} {d l p : Addr} (h : Draw H d l) (n : H p = none) : p ≠ d := by
  obtain ⟨ns, i, z, s, h⟩ := h
  exact (ne_of_none h.at_d n).symm
theorem Keep.of {d : Addr} {H H' : Hp} (k : Keep d H H') {b : Addr} {o : HO} (h : H b = some o) (n : b ≠ d) : H' b = some o := k b o n h
theorem sz_lt {n : Nat} (h : n < 100000) : n < sizeLine := Nat.lt_of_lt_of_le h (by decide)

/-! ### _law_open -/
abbrev N_open : List Str := ["_law_script", "_law_seed", "_law_cell"]
abbrev P_open : List Str := ["_law_script"]
theorem sc_open : FnScope N_open P_open (defScope s_open) := ⟨rfl, rfl, rfl, by decide +kernel, rfl, by decide +kernel, by decide +kernel⟩
theorem cut63 (xs : List V) (h : xs.length ≤ 63) : cutV xs none (some 63) = xs := by
  unfold cutV
  rw [show HT.sIx xs.length xs.length (some 63) = min 63 xs.length from HT.sIx_nat xs.length xs.length 63, HT.sIx_none, Nat.min_eq_right h]
  show (xs.drop 0).take (xs.length - 0) = xs
  rw [List.drop_zero, Nat.sub_zero, List.take_length]
section
variable {P : Program} {w : World} {K : PySem.W.Frag} {mg : Str → Option Value} {base : Heap}
theorem ok_open {f : Addr} {fd : FuncData} (D : DefAt K mg "_law_open" s_open P_open f fd) (B : Bn mg) : FnOk P w K mg base CX0 1 f fd P_open (spOpen K) := by
  refine D.F.ok sc_open (fun vs H Q E h => ?_) (fun cdv A outer s H vs Q E hr h => ?_)
  · obtain ⟨a, ns, rfl, _⟩ := h
    rfl
  · obtain ⟨a, ns, rfl, hS, hlen, q⟩ := h
    refine ⟨_, (pss_cons (ps_set (i := 1) sc_open.nd rfl (.inl rfl) pe_int)
      (pss_cons (ps_for PassesOwn.never rfl (pi_list (pe_slice sl_list (pv 0) po_none (po_some pe_int))) (pg_name (i := 2) sc_open.nd rfl (.inl rfl)) (pss_one (ps_set (i := 1) sc_open.nd rfl (.inl rfl) (pe_op op_mod (pe_op op_add (pe_op op_add (pe_op op_mul (pv 1) pe_int) (pe_op op_mod (pv 2) pe_int)) pe_int) pe_int))))
      (pss_one (ps_ret (pe_lst (pa_cons (pe_callTy call_list_of (by rfl) B.list (by decide +kernel) (pa_cons (pe_slice sl_list (pv 0) po_none (po_some pe_int)) pa_nil)) (pa_cons pe_int (pa_cons pe_int (pa_cons (pv 1) pa_nil))))))))), ?_⟩
    refine ⟨.ref a, rfl, 63, rfl, a, ns.map V.int, rfl, hS, fun c nc => ?_⟩
    rw [cut63 _ (by rw [List.length_map]; exact hlen)]
    have s1 : Same H (upd H c (.lst (ns.map V.int))) := same_upd nc
    refine ⟨c, rfl, ⟨_, SqL.of upd_same⟩, for_list (K := K) (a := c) (xs := ns.map V.int) (fun i σ H2 => ∃ (sd : Int) (v : Option V), σ = [some (.ref a), some (.int sd), v] ∧ H2 = upd H c (.lst (ns.map V.int)) ∧ 0 ≤ sd ∧ sd < 2147483629)
      ⟨9134, none, rfl, rfl, by decide, by decide⟩ (fun i σ H2 _ ⟨_, _, _, e2, _⟩ => e2 ▸ SqL.of upd_same) ?_ ?_⟩
    · rintro i y σ H2 hi ⟨sd, v, rfl, rfl, h0, h1⟩
      obtain ⟨z, rfl⟩ : ∃ z, y = V.int z := by
        rw [List.getElem?_map] at hi
        cases e : ns[i]? with
        | none =>
          rw [e] at hi
          cases hi
        | some z =>
          rw [e] at hi
          exact ⟨z, (Option.some.inj hi).symm⟩
      refine ⟨_, rfl, _, _, rfl, rfl, .inl ⟨by omega, by omega⟩, _, rfl, _, _, rfl, rfl, (by show (0 : Int) < 2147483587; decide), _, _, rfl, rfl, _, _, rfl, rfl, _, _, rfl, rfl, (by show (0 : Int) < 2147483629; decide), ?_⟩
      exact ⟨_, _, rfl, rfl, Int.emod_nonneg _ (by decide), Int.emod_lt_of_pos _ (by decide)⟩
    · rintro σ H2 ⟨sd, v, rfl, rfl, h0, h1⟩
      refine ⟨.ref a, rfl, 63, rfl, a, ns.map V.int, rfl, s1.seq hS, fun p np => ?_⟩
      rw [cut63 _ (by rw [List.length_map]; exact hlen)]
      have s2 : Same H (upd (upd H c (.lst (ns.map V.int))) p (.lst (ns.map V.int))) := s1.trans (same_upd np)
      refine ⟨p, _, rfl, .inl (SqL.of upd_same), fun l nl => ?_⟩
      refine ⟨_, rfl, by show 4 ≤ sizeLine; decide, fun d nd => ?_⟩
      have s3 : Same H (upd (upd (upd H c (.lst (ns.map V.int))) p (.lst (ns.map V.int))) l (.lst (ns.map V.int))) := s2.trans (same_upd nl)
      refine q _ d l (s3.trans (same_upd nd)) (s3.free nd) (s2.free nl) ⟨ns, 0, 0, sd, upd_same, ?_, hlen, by decide, by decide, h0, h1⟩
      have nld : l ≠ d := fun e => by
        rw [← e, upd_same] at nd
        cases nd
      rw [upd_ne nld, upd_same]
end

/-! ### _law_pull -/
abbrev N_pull : List Str := ["_law_draw", "_law_cap", "_law_cell", "_law_got", "_law_seed"]
abbrev P_pull : List Str := ["_law_draw", "_law_cap"]
theorem sc_pull : FnScope N_pull P_pull (defScope s_pull) := ⟨rfl, rfl, rfl, by decide +kernel, rfl, by decide +kernel, by decide +kernel⟩
section
variable {P : Program} {w : World} {K : PySem.W.Frag} {mg : Str → Option Value} {base : Heap}
theorem ok_pull {f : Addr} {fd : FuncData} (D : DefAt K mg "_law_pull" s_pull P_pull f fd) (B : Bn mg) : FnOk P w K mg base CX0 1 f fd P_pull spPull := by
  refine D.F.ok sc_pull (fun vs H Q E h => ?_) (fun cdv A outer s H vs Q E hr h => ?_)
  · obtain ⟨d, l, c, rfl, _⟩ := h
    rfl
  · obtain ⟨d, l, c, rfl, hD, hc1, hc2, q⟩ := h
    refine ⟨_, (C8.pss_cut (ps_if (PW.pt (pw_and (pt_cmpR op_lt (pe_ix ix_list (pv 0) pe_int (fun _ _ => rfl)) (pv 1) (nomark _)) (pw_and1 (pt_cmpR op_lt (pe_ix ix_list (pv 0) pe_int (fun _ _ => rfl)) (pe_callB call_len_seq (by rfl) B.len (by decide +kernel) (pa_cons (pe_ix ix_list (pv 0) pe_int (fun _ _ => rfl)) pa_nil)) (nomark _))))) (pss_cons (ps_set (i := 2) sc_pull.nd rfl (.inl rfl) (pe_ix ix_list (pe_ix ix_list (pv 0) pe_int (fun _ _ => rfl)) (pe_ix ix_list (pv 0) pe_int (fun _ _ => rfl)) (fun _ _ => rfl)))
      (pss_cons (ps_asg (pe_op op_add (pe_ix ix_list (pv 0) pe_int (fun _ _ => rfl)) pe_int) (pg_sub (pv 0) pe_int set_list))
      (pss_cons (ps_asg pe_int (pg_sub (pv 0) pe_int set_list))
      (pss_one (ps_if (pt_cmpR op_ge (pv 2) (pe_op op_pow pe_int pe_int) (nomark _)) (pss_one (ps_asg (pv 2) (pg_sub (pv 0) pe_int set_list))) (pss_one (ps_asg (pe_op op_mod (pe_op op_add (pe_op op_add (pe_op op_mul (pe_ix ix_list (pv 0) pe_int (fun _ _ => rfl)) pe_int) (pe_op op_mul (pe_op op_mod (pv 2) pe_int) pe_int)) pe_int) pe_int) (pg_sub (pv 0) pe_int set_list)))))))) pss_nil)
      (C8.pss_cut (ps_if (pt_cmpR op_ge (pe_ix ix_list (pv 0) pe_int (fun _ _ => rfl)) (pv 1) (nomark _)) (pss_cons (ps_set (i := 3) sc_pull.nd rfl (.inl rfl) (pe_op op_mod (pe_ix ix_list (pv 0) pe_int (fun _ _ => rfl)) (pv 1)))
      (pss_cons (ps_asg (pe_op op_fdivW (pe_ix ix_list (pv 0) pe_int (fun _ _ => rfl)) (pv 1)) (pg_sub (pv 0) pe_int set_list))
      (pss_one (ps_ret (pv 3))))) pss_nil)
      (pss_cons (ps_set (i := 4) sc_pull.nd rfl (.inl rfl) (pe_ix ix_list (pv 0) pe_int (fun _ _ => rfl)))
      (pss_cons (ps_asg (pe_op op_mod (pe_op op_add (pe_op op_add (pe_op op_mul (pe_op op_mod (pe_op op_mul (pv 4) (pv 4)) pe_int) pe_int) (pe_op op_mul (pv 4) pe_int)) pe_int) pe_int) (pg_sub (pv 0) pe_int set_list))
      (pss_cons (ps_if (pt_cmpR op_lt (pv 1) (pe_op op_pow pe_int pe_int) (nomark _)) (pss_one (ps_ret (pe_op op_mod (pe_op op_add (pe_op op_fdivW (pe_ix ix_list (pv 0) pe_int (fun _ _ => rfl)) pe_int) (pe_op op_mul (pe_op op_mod (pe_ix ix_list (pv 0) pe_int (fun _ _ => rfl)) pe_int) pe_int)) (pv 1)))) pss_nil)
      (pss_one (ps_ret (pe_op op_mod (pe_op op_add (pe_op op_fdivW (pe_op op_pow (pe_ix ix_list (pv 0) pe_int (fun _ _ => rfl)) pe_int) pe_int) (pe_ix ix_list (pv 0) pe_int (fun _ _ => rfl))) (pv 1))))))))), ?_⟩
    have hpow : CPow 10 18 := ⟨by decide, by decide, by decide⟩
    have hpow8 : CPow 10 8 := ⟨by decide, by decide, by decide⟩
    have ix0 : ∀ {a b e g : V}, atI [a, b, e, g] 0 = some a := fun {_ _ _ _} => atI_nat (j := 0) rfl
    have ix1 : ∀ {a b e g : V}, atI [a, b, e, g] 1 = some b := fun {_ _ _ _} => atI_nat (j := 1) rfl
    have ix2 : ∀ {a b e g : V}, atI [a, b, e, g] 2 = some e := fun {_ _ _ _} => atI_nat (j := 2) rfl
    have ix3 : ∀ {a b e g : V}, atI [a, b, e, g] 3 = some g := fun {_ _ _ _} => atI_nat (j := 3) rfl
    -- the first if
    refine ⟨fun σ H1 => ∃ y : Option V, σ = [some (.ref d), some (.int c), y, none, none] ∧ Draw H1 d l ∧ Keep d H H1, ?_, ?_⟩
    · obtain ⟨ns, i, z, sd, hW⟩ := hD
      refine ⟨.ref d, rfl, d, _, 2, .int z, rfl, rfl, SqL.of hW.at_d, ix2, .int c, rfl, z, c, rfl, rfl, _, rfl, ?_⟩
      refine ite2 (fun _ => ?_) (fun _ => iteF ⟨none, rfl, ⟨ns, i, z, sd, hW⟩, Keep.refl _ _⟩)
      refine ⟨.ref d, rfl, d, _, 1, .int i, rfl, rfl, SqL.of hW.at_d, ix1, .ref d, rfl, d, _, 0, .ref l, rfl, rfl, SqL.of hW.at_d, ix0, l, _, rfl, .inl (SqL.of hW.at_l), i, _, rfl, rfl, _, rfl, ?_⟩
      refine ite2 (fun hb => ?_) (fun _ => ⟨none, rfl, ⟨ns, i, z, sd, hW⟩, Keep.refl _ _⟩)
      have hil : i < ((ns.map V.int).length : Int) := of_decide_eq_true hb
      rw [List.length_map] at hil
      have hi0 := hW.i0
      obtain ⟨j, rfl⟩ : ∃ j : Nat, i = (j : Int) := ⟨i.toNat, by omega⟩
      have hj : j < ns.length := by omega
      have gj : (ns.map V.int)[j]? = some (.int ns[j]) := by
        rw [List.getElem?_map, List.getElem?_eq_getElem hj]
        rfl
      -- cell = draw[0][draw[1]]
      refine ⟨.ref d, rfl, d, _, 0, .ref l, rfl, rfl, SqL.of hW.at_d, ix0, .ref d, rfl, d, _, 1, .int (j : Int), rfl, rfl, SqL.of hW.at_d, ix1, l, _, (j : Int), .int ns[j], rfl, rfl, SqL.of hW.at_l, atI_nat gj, ?_⟩
      -- draw[1] = draw[1] + 1
      refine ⟨.ref d, rfl, d, _, 1, .int (j : Int), rfl, rfl, SqL.of hW.at_d, ix1, _, _, rfl, rfl, .ref d, rfl, d, _, 1, 1, rfl, rfl, hW.at_d, rfl, ?_⟩
      have W1 := hW.put (i' := (j : Int) + 1) (z' := z) (s' := sd) (by omega) hW.z0 hW.s0 hW.s1
      -- draw[2] = 0
      refine ⟨.ref d, rfl, d, _, 2, 2, rfl, rfl, upd_same, rfl, ?_⟩
      have W2 := W1.put (i' := (j : Int) + 1) (z' := 0) (s' := sd) (by omega) (by decide) hW.s0 hW.s1
      -- if cell >= 10 ** 18
      refine ⟨_, rfl, _, _, rfl, rfl, hpow, _, _, rfl, rfl, _, rfl, ?_⟩
      refine ite2 (fun hg => ?_) (fun _ => ?_)
      · have hg' : (10 : Int) ^ 18 ≤ ns[j] := of_decide_eq_true hg
        refine ⟨_, rfl, .ref d, rfl, d, _, 2, 2, rfl, rfl, upd_same, rfl, ?_⟩
        exact ⟨_, rfl, ⟨_, _, _, _, W2.put (i' := (j : Int) + 1) (z' := ns[j]) (s' := sd) (by omega) (by omega) hW.s0 hW.s1⟩, (Keep.upd.trans Keep.upd).trans Keep.upd⟩
      · refine ⟨.ref d, rfl, d, _, 3, .int sd, rfl, rfl, SqL.of upd_same, ix3, _, _, rfl, rfl, .inr ⟨by decide, by decide⟩, _, rfl, _, _, rfl, rfl, (by show (0 : Int) < 2147483647; decide), _, _, rfl, rfl, .inr ⟨by decide, by decide⟩, _, _, rfl, rfl, _, _, rfl, rfl, _, _, rfl, rfl, (by show (0 : Int) < 2147483629; decide), ?_⟩
        refine ⟨.ref d, rfl, d, _, 3, 3, rfl, rfl, upd_same, rfl, ?_⟩
        exact ⟨_, rfl, ⟨_, _, _, _, W2.put (i' := (j : Int) + 1) (z' := 0) (s' := _) (by omega) (by decide) (Int.emod_nonneg _ (by decide)) (Int.emod_lt_of_pos _ (by decide))⟩, (Keep.upd.trans Keep.upd).trans Keep.upd⟩
    · rintro σ H1 ⟨y, rfl, ⟨ns, i, z, sd, hW⟩, kp⟩
      -- the second if
      refine ⟨fun σ H2 => H2 = H1 ∧ ∃ y' : Option V, σ = [some (.ref d), some (.int c), y, y', none], ?_, ?_⟩
      · refine ⟨.ref d, rfl, d, _, 2, .int z, rfl, rfl, SqL.of hW.at_d, ix2, .int c, rfl, z, c, rfl, rfl, _, rfl, ?_⟩
        refine ite2 (fun hg => ?_) (fun _ => ⟨rfl, none, rfl⟩)
        refine ⟨.ref d, rfl, d, _, 2, .int z, rfl, rfl, SqL.of hW.at_d, ix2, .int c, rfl, _, _, rfl, rfl, (by omega), ?_⟩
        have hwd : CDivW z c := wide_div (b := 100) (by omega) (by omega) (by decide) (by decide)
        refine ⟨.ref d, rfl, d, _, 2, .int z, rfl, rfl, SqL.of hW.at_d, ix2, .int c, rfl, _, _, rfl, rfl, hwd, .ref d, rfl, d, _, 2, 2, rfl, rfl, hW.at_d, rfl, _, rfl, ?_⟩
        exact q _ _ (Int.emod_nonneg _ (by omega)) (Int.emod_lt_of_pos _ (by omega)) ⟨_, _, _, _, hW.put (i' := i) (z' := z / c) (s' := sd) hW.i0 (Int.ediv_nonneg hW.z0 (by omega)) hW.s0 hW.s1⟩ (kp.trans Keep.upd)
      · rintro σ H2 ⟨rfl, y', rfl⟩
        have hs0 := hW.s0
        have hs1 := hW.s1
        have hm : CMul sd sd := .inl ⟨by omega, by omega⟩
        -- seed = draw[3]; draw[3] = ..
        refine ⟨.ref d, rfl, d, _, 3, .int sd, rfl, rfl, SqL.of hW.at_d, ix3, ?_⟩
        refine ⟨_, rfl, _, rfl, _, _, rfl, rfl, hm, _, _, rfl, rfl, (by show (0 : Int) < 2147483647; decide), _, _, rfl, rfl, .inr ⟨by decide, by decide⟩, _, rfl, _, _, rfl, rfl, .inr ⟨by decide, by decide⟩, _, _, rfl, rfl, _, _, rfl, rfl, _, _, rfl, rfl, (by show (0 : Int) < 2147483629; decide), ?_⟩
        refine ⟨.ref d, rfl, d, _, 3, 3, rfl, rfl, hW.at_d, rfl, ?_⟩
        have n0 : 0 ≤ (sd * sd % 2147483647 * 3 + sd * 45991 + 746773) % 2147483629 := Int.emod_nonneg _ (by decide)
        have n1 : (sd * sd % 2147483647 * 3 + sd * 45991 + 746773) % 2147483629 < 2147483629 := Int.emod_lt_of_pos _ (by decide)
        have W1 := hW.put (i' := i) (z' := z) (s' := (sd * sd % 2147483647 * 3 + sd * 45991 + 746773) % 2147483629) hW.i0 hW.z0 n0 n1
        have na : ((sd * sd % 2147483647 * 3 + sd * 45991 + 746773) % 2147483629).natAbs < 2 ^ 64 := by omega
        -- if cap < 10 ** 8
        refine ⟨_, rfl, _, _, rfl, rfl, hpow8, _, _, rfl, rfl, _, rfl, ?_⟩
        refine ite2 (fun _ => ?_) (fun _ => ?_)
        · refine ⟨.ref d, rfl, d, _, 3, .int _, rfl, rfl, SqL.of W1.at_d, ix3, _, _, rfl, rfl, wide_div (b := 10) (by decide) (by decide) (by decide) (by decide), .ref d, rfl, d, _, 3, .int _, rfl, rfl, SqL.of W1.at_d, ix3, _, _, rfl, rfl, (by show (0 : Int) < 6151; decide), _, _, rfl, rfl, .inr ⟨by decide, by decide⟩, _, _, rfl, rfl, .int c, rfl, _, _, rfl, rfl, (by omega), ?_⟩
          exact q _ _ (Int.emod_nonneg _ (by omega)) (Int.emod_lt_of_pos _ (by omega)) ⟨_, _, _, _, W1⟩ (kp.trans Keep.upd)
        · refine ⟨.ref d, rfl, d, _, 3, .int _, rfl, rfl, SqL.of W1.at_d, ix3, _, _, rfl, rfl, ⟨by decide, by decide, na⟩, _, _, rfl, rfl, wide_div (b := 10) (by decide) (by decide) (by decide) (by decide), .ref d, rfl, d, _, 3, .int _, rfl, rfl, SqL.of W1.at_d, ix3, _, _, rfl, rfl, .int c, rfl, _, _, rfl, rfl, (by omega), ?_⟩
          exact q _ _ (Int.emod_nonneg _ (by omega)) (Int.emod_lt_of_pos _ (by omega)) ⟨_, _, _, _, W1⟩ (kp.trans Keep.upd)
end

/-! ### _law_like -/
abbrev N_like : List Str := ["_law_found", "_law_due", "_law_j"]
abbrev P_like : List Str := ["_law_found", "_law_due"]
theorem sc_like : FnScope N_like P_like (defScope s_like) := ⟨rfl, rfl, rfl, by decide +kernel, rfl, by decide +kernel, by decide +kernel⟩
section
variable {P : Program} {w : World} {K : PySem.W.Frag} {mg : Str → Option Value} {base : Heap}
theorem isn_no {v : V} {A B : Prop} (h : v ≠ .non) (b : B) : if decide (v = V.non) = true then A else B := by
  rw [decide_eq_false h]
  exact iteF b
theorem like_step {k n : Nat} {f : Addr} {fd : FuncData} {spR : Sp} (D_like : DefAt K mg "_law_like" s_like P_like f fd) (B : Bn mg) (G_like : FnOk P w K mg base CX0 k f fd P_like spR)
    (hR : ∀ m, n = m + 1 → ∀ vs H Q E, spLike m vs H Q E → spR vs H Q E) : FnOk P w K mg base CX0 (k + 1) f fd P_like (spLike n) := by
  refine D_like.F.ok sc_like (fun vs H Q E h => ?_) (fun cdv A outer s H vs Q E hr h => ?_)
  · obtain ⟨a, b, d, rfl, _⟩ := h
    rfl
  · obtain ⟨a, b, d, rfl, ha, hb, q⟩ := h
    refine ⟨_, (pss_cons (ps_if (pt_cmpR op_isN (pv 1) pe_non (nomark _)) (pss_one (ps_ret (pe_cmpR op_isN (pv 0) pe_non (nomark _)))) pss_nil)
      (pss_cons (ps_if (pt_val (pe_callB call_isi (by rfl) B.isinstance (by decide +kernel) (pa_cons (pv 1) (pa_cons (pe_bltn (v := .ty "bool") (by rfl) B.bool (by decide +kernel) rfl) pa_nil)))) (pss_one (ps_ret (pe_and (pe_callB call_isi (by rfl) B.isinstance (by decide +kernel) (pa_cons (pv 0) (pa_cons (pe_bltn (v := .ty "bool") (by rfl) B.bool (by decide +kernel) rfl) pa_nil))) (pe_one (pe_cmpR op_eq (pv 0) (pv 1) (nomark _)))))) pss_nil)
      (pss_cons (ps_if (pt_val (pe_callB call_isi (by rfl) B.isinstance (by decide +kernel) (pa_cons (pv 1) (pa_cons (pe_bltn (v := .ty "int") (by rfl) B.int (by decide +kernel) rfl) pa_nil)))) (pss_one (ps_ret (pe_and (pe_callB call_isi (by rfl) B.isinstance (by decide +kernel) (pa_cons (pv 0) (pa_cons (pe_bltn (v := .ty "int") (by rfl) B.int (by decide +kernel) rfl) pa_nil))) (pe_and (pe_not (pe_callB call_isi (by rfl) B.isinstance (by decide +kernel) (pa_cons (pv 0) (pa_cons (pe_bltn (v := .ty "bool") (by rfl) B.bool (by decide +kernel) rfl) pa_nil)))) (pe_one (pe_cmpR op_eq (pv 0) (pv 1) (nomark _))))))) pss_nil)
      (pss_cons (ps_if (pt_val (pe_callB call_isi (by rfl) B.isinstance (by decide +kernel) (pa_cons (pv 1) (pa_cons (pe_bltn (v := .ty "str") (by rfl) B.str (by decide +kernel) rfl) pa_nil)))) (pss_one (ps_ret (pe_and (pe_callB call_isi (by rfl) B.isinstance (by decide +kernel) (pa_cons (pv 0) (pa_cons (pe_bltn (v := .ty "str") (by rfl) B.str (by decide +kernel) rfl) pa_nil))) (pe_one (pe_cmpR op_eq (pv 0) (pv 1) (nomark _)))))) pss_nil)
      (pss_cons (ps_if (PW.pt (pw_or (pt_cmpR op_ne (pe_callB call_isi (by rfl) B.isinstance (by decide +kernel) (pa_cons (pv 1) (pa_cons (pe_bltn (v := .ty "tuple") (by rfl) B.tuple (by decide +kernel) rfl) pa_nil))) (pe_callB call_isi (by rfl) B.isinstance (by decide +kernel) (pa_cons (pv 0) (pa_cons (pe_bltn (v := .ty "tuple") (by rfl) B.tuple (by decide +kernel) rfl) pa_nil))) (nomark _)) (pw_or1 (pt_cmpR op_ne (pe_callB call_isi (by rfl) B.isinstance (by decide +kernel) (pa_cons (pv 1) (pa_cons (pe_bltn (v := .ty "list") (by rfl) B.list (by decide +kernel) rfl) pa_nil))) (pe_callB call_isi (by rfl) B.isinstance (by decide +kernel) (pa_cons (pv 0) (pa_cons (pe_bltn (v := .ty "list") (by rfl) B.list (by decide +kernel) rfl) pa_nil))) (nomark _))))) (pss_one (ps_ret pe_bl)) pss_nil)
      (pss_cons (ps_if (pt_cmpR op_ne (pe_callB call_len_seq (by rfl) B.len (by decide +kernel) (pa_cons (pv 0) pa_nil)) (pe_callB call_len_seq (by rfl) B.len (by decide +kernel) (pa_cons (pv 1) pa_nil)) (nomark _)) (pss_one (ps_ret pe_bl)) pss_nil)
      (pss_one (ps_ret (pe_callB (cr_all rfl) (by rfl) B.all (by decide +kernel) (pa_cons (pe_lc (own := [("_law_j", 2)]) (g := gName 2) (by rfl) sc_like.nd (pi_range1 (by rfl) B.range (pa_cons (pe_callB call_len_seq (by rfl) B.len (by decide +kernel) (pa_cons (pv 1) pa_nil)) pa_nil)) (blkOk_by (own := [("_law_j", 2)]) (N := N_like) (sc := defScope s_like) (by decide +kernel)) (fun _ _ _ _ _ => (pg_name (i := 2) sc_like.nd rfl (.inl rfl))) (fun _ _ _ _ _ => pts_nil) (fun _ _ _ _ _ => (pe_call G_like (hr.mono (by omega)) (by rfl) D_like.g D_like.F.kp D_like.b .nil pass0 (pa_cons (pe_ix (show IxR _ (rIx K) from ix_seq) (pv 0) (pv 2) (fun _ _ => rfl)) (pa_cons (pe_ix (show IxR _ (rIx K) from ix_seq) (pv 1) (pv 2) (fun _ _ => rfl)) pa_nil))))) pa_nil)))))))))), ?_⟩
    cases ha with
    | non =>
      cases hb
      exact ⟨.non, rfl, rfl, _, rfl, iteT ⟨.non, rfl, rfl, q H (Same.refl H)⟩⟩
    | bl _ x =>
      cases hb
      refine ⟨.bl x, rfl, rfl, _, rfl, isn_no (by intro z; cases z) ?_⟩
      refine ⟨.bl x, rfl, _, _, _, _, true, rfl, ClsV.ty _, TyX.base (TyOf.bl _), kit_ty (by decide +kernel), _, rfl, iteT ?_⟩
      refine ⟨.bl x, rfl, _, _, _, _, true, rfl, ClsV.ty _, TyX.base (TyOf.bl _), kit_ty (by decide +kernel), _, rfl, iteT ?_⟩
      refine ⟨.bl x, rfl, .bl x, rfl, rfl, ?_⟩
      rw [decide_eq_true rfl]
      exact q H (Same.refl H)
    | int _ x =>
      cases hb
      refine ⟨.int x, rfl, rfl, _, rfl, isn_no (by intro z; cases z) ?_⟩
      refine ⟨.int x, rfl, _, _, _, _, false, rfl, ClsV.ty _, TyX.base (TyOf.int _), kit_ty (by decide +kernel), _, rfl, iteF ?_⟩
      refine ⟨.int x, rfl, _, _, _, _, true, rfl, ClsV.ty _, TyX.base (TyOf.int _), kit_ty (by decide +kernel), _, rfl, iteT ?_⟩
      refine ⟨.int x, rfl, _, _, _, _, true, rfl, ClsV.ty _, TyX.base (TyOf.int _), kit_ty (by decide +kernel), _, rfl, iteT ?_⟩
      refine ⟨.int x, rfl, _, _, _, _, false, rfl, ClsV.ty _, TyX.base (TyOf.int _), kit_ty (by decide +kernel), _, rfl, _, rfl, iteT ?_⟩
      refine ⟨.int x, rfl, .int x, rfl, rfl, ?_⟩
      rw [decide_eq_true rfl]
      exact q H (Same.refl H)
    | str _ x =>
      cases hb
      refine ⟨.str x, rfl, rfl, _, rfl, isn_no (by intro z; cases z) ?_⟩
      refine ⟨.str x, rfl, _, _, _, _, false, rfl, ClsV.ty _, TyX.base (TyOf.str _), kit_ty (by decide +kernel), _, rfl, iteF ?_⟩
      refine ⟨.str x, rfl, _, _, _, _, false, rfl, ClsV.ty _, TyX.base (TyOf.str _), kit_ty (by decide +kernel), _, rfl, iteF ?_⟩
      refine ⟨.str x, rfl, _, _, _, _, true, rfl, ClsV.ty _, TyX.base (TyOf.str _), kit_ty (by decide +kernel), _, rfl, iteT ?_⟩
      refine ⟨.str x, rfl, _, _, _, _, true, rfl, ClsV.ty _, TyX.base (TyOf.str _), kit_ty (by decide +kernel), _, rfl, iteT ?_⟩
      refine ⟨.str x, rfl, .str x, rfl, rfl, ?_⟩
      rw [decide_eq_true rfl]
      exact q H (Same.refl H)
    | @lst m p xs ds hp lp rp =>
      cases hb with
      | @lst _ r ys _ hq lq rq =>
      have lx : xs.length = ds.length := rp.length
      have ly : ys.length = ds.length := rq.length
      refine ⟨.ref r, rfl, rfl, _, rfl, isn_no (by intro z; cases z) ?_⟩
      refine ⟨.ref r, rfl, _, _, _, _, false, rfl, ClsV.ty _, TyX.base (TyOf.lst hq), kit_ty (by decide +kernel), _, rfl, iteF ?_⟩
      refine ⟨.ref r, rfl, _, _, _, _, false, rfl, ClsV.ty _, TyX.base (TyOf.lst hq), kit_ty (by decide +kernel), _, rfl, iteF ?_⟩
      refine ⟨.ref r, rfl, _, _, _, _, false, rfl, ClsV.ty _, TyX.base (TyOf.lst hq), kit_ty (by decide +kernel), _, rfl, iteF ?_⟩
      refine ⟨.ref r, rfl, _, _, _, _, false, rfl, ClsV.ty _, TyX.base (TyOf.lst hq), kit_ty (by decide +kernel), .ref p, rfl, _, _, _, _, false, rfl, ClsV.ty _, TyX.base (TyOf.lst hp), kit_ty (by decide +kernel), rfl, _, rfl, iteNS rfl ?_⟩
      refine ⟨.ref r, rfl, _, _, _, _, true, rfl, ClsV.ty _, TyX.base (TyOf.lst hq), kit_ty (by decide +kernel), .ref p, rfl, _, _, _, _, true, rfl, ClsV.ty _, TyX.base (TyOf.lst hp), kit_ty (by decide +kernel), rfl, _, rfl, iteNS rfl ?_⟩
      refine ⟨.ref p, rfl, p, xs, rfl, .inl (SqL.of hp), .ref r, rfl, r, ys, rfl, .inl (SqL.of hq), rfl, _, rfl, iteNS (by rw [lx, ly]) ?_⟩
      refine ⟨.ref r, rfl, r, ys, rfl, .inl (SqL.of hq), _, rfl, (by have := lq; omega), (by have := lq; omega), fun D hD => lc_range (lo := 0) (n := ((ys.length : Int)).toNat) (fun i H2 => ∃ bs : List Bool, Same H H2 ∧ H2 D = some (.lst (bs.map V.bl)) ∧ bs.length = i ∧ bs.all id = true) ⟨[], same_upd hD, upd_same, rfl, rfl⟩ ?_ ?_⟩
      · rintro i H2 hi ⟨bs, sm, hDl, rfl, hal⟩
        have hi' : bs.length < ds.length := by omega
        obtain ⟨v1, d1, e1, e2, r1⟩ := rp.get bs.length hi'
        obtain ⟨v2, d2, e3, e4, r2⟩ := rq.get bs.length hi'
        have ed : d2 = d1 := Option.some.inj (e4.symm.trans e2)
        subst ed
        refine ⟨rfl, ?_⟩
        refine ⟨.ref p, rfl, .int (0 + (bs.length : Int)), rfl, .inl ⟨p, xs, _, v1, rfl, rfl, SqL.of (sm _ _ hp), at_of (by omega) e1, .ref r, rfl, .int (0 + (bs.length : Int)), rfl, .inl ⟨r, ys, _, v2, rfl, rfl, SqL.of (sm _ _ hq), at_of (by omega) e3, ?_⟩⟩⟩
        refine hR m rfl _ _ _ _ ⟨v1, v2, d2, rfl, r1.same sm, r2.same sm, fun H3 s3 => ?_⟩
        refine ⟨bs.map V.bl, s3 _ _ hDl, sz_lt (by rw [List.length_map]; omega), bs ++ [true], fun b o e => ?_, ?_, by rw [List.length_append]; rfl, by rw [List.all_append, hal]; rfl⟩
        · rw [upd_ne (ne_of_none e hD)]
          exact s3 _ _ (sm _ _ e)
        · rw [upd_same, List.map_append]
          rfl
      · rintro H2 ⟨bs, sm, hDl, _, hal⟩
        refine ⟨D, bs, rfl, SqL.of hDl, ?_⟩
        rw [hal]
        exact q H2 sm
    | @tup m p xs ds hp lp rp =>
      cases hb with
      | @tup _ r ys _ hq lq rq =>
      have lx : xs.length = ds.length := rp.length
      have ly : ys.length = ds.length := rq.length
      refine ⟨.ref r, rfl, rfl, _, rfl, isn_no (by intro z; cases z) ?_⟩
      refine ⟨.ref r, rfl, _, _, _, _, false, rfl, ClsV.ty _, TyX.base (TyOf.tup hq), kit_ty (by decide +kernel), _, rfl, iteF ?_⟩
      refine ⟨.ref r, rfl, _, _, _, _, false, rfl, ClsV.ty _, TyX.base (TyOf.tup hq), kit_ty (by decide +kernel), _, rfl, iteF ?_⟩
      refine ⟨.ref r, rfl, _, _, _, _, false, rfl, ClsV.ty _, TyX.base (TyOf.tup hq), kit_ty (by decide +kernel), _, rfl, iteF ?_⟩
      refine ⟨.ref r, rfl, _, _, _, _, true, rfl, ClsV.ty _, TyX.base (TyOf.tup hq), kit_ty (by decide +kernel), .ref p, rfl, _, _, _, _, true, rfl, ClsV.ty _, TyX.base (TyOf.tup hp), kit_ty (by decide +kernel), rfl, _, rfl, iteNS rfl ?_⟩
      refine ⟨.ref r, rfl, _, _, _, _, false, rfl, ClsV.ty _, TyX.base (TyOf.tup hq), kit_ty (by decide +kernel), .ref p, rfl, _, _, _, _, false, rfl, ClsV.ty _, TyX.base (TyOf.tup hp), kit_ty (by decide +kernel), rfl, _, rfl, iteNS rfl ?_⟩
      refine ⟨.ref p, rfl, p, xs, rfl, .inr (SqT.of hp), .ref r, rfl, r, ys, rfl, .inr (SqT.of hq), rfl, _, rfl, iteNS (by rw [lx, ly]) ?_⟩
      refine ⟨.ref r, rfl, r, ys, rfl, .inr (SqT.of hq), _, rfl, (by have := lq; omega), (by have := lq; omega), fun D hD => lc_range (lo := 0) (n := ((ys.length : Int)).toNat) (fun i H2 => ∃ bs : List Bool, Same H H2 ∧ H2 D = some (.lst (bs.map V.bl)) ∧ bs.length = i ∧ bs.all id = true) ⟨[], same_upd hD, upd_same, rfl, rfl⟩ ?_ ?_⟩
      · rintro i H2 hi ⟨bs, sm, hDl, rfl, hal⟩
        have hi' : bs.length < ds.length := by omega
        obtain ⟨v1, d1, e1, e2, r1⟩ := rp.get bs.length hi'
        obtain ⟨v2, d2, e3, e4, r2⟩ := rq.get bs.length hi'
        have ed : d2 = d1 := Option.some.inj (e4.symm.trans e2)
        subst ed
        refine ⟨rfl, ?_⟩
        refine ⟨.ref p, rfl, .int (0 + (bs.length : Int)), rfl, .inr <| .inl ⟨p, xs, _, v1, rfl, rfl, SqT.of (sm _ _ hp), at_of (by omega) e1, .ref r, rfl, .int (0 + (bs.length : Int)), rfl, .inr <| .inl ⟨r, ys, _, v2, rfl, rfl, SqT.of (sm _ _ hq), at_of (by omega) e3, ?_⟩⟩⟩
        refine hR m rfl _ _ _ _ ⟨v1, v2, d2, rfl, r1.same sm, r2.same sm, fun H3 s3 => ?_⟩
        refine ⟨bs.map V.bl, s3 _ _ hDl, sz_lt (by rw [List.length_map]; omega), bs ++ [true], fun b o e => ?_, ?_, by rw [List.length_append]; rfl, by rw [List.all_append, hal]; rfl⟩
        · rw [upd_ne (ne_of_none e hD)]
          exact s3 _ _ (sm _ _ e)
        · rw [upd_same, List.map_append]
          rfl
      · rintro H2 ⟨bs, sm, hDl, _, hal⟩
        refine ⟨D, bs, rfl, SqL.of hDl, ?_⟩
        rw [hal]
        exact q H2 sm
theorem ok_like {f : Addr} {fd : FuncData} (D : DefAt K mg "_law_like" s_like P_like f fd) (B : Bn mg) : ∀ n : Nat, FnOk P w K mg base CX0 (n + 1) f fd P_like (spLike n)
  | 0 => like_step D B ok_bot fun m e => absurd e (by omega)
  | n + 1 => like_step D B (ok_like D B n) fun m e vs H Q E h => by
    have e : m = n := by omega
    subst e
    exact h
end

/-! ### holds, part -/
def tup4 (o p m f : Int) : HO := .tup [.int o, .int p, .int m, .int f]
abbrev N_holds : List Str := ["mating", "at", "many"]
abbrev P_holds : List Str := ["mating", "at", "many"]
theorem sc_holds : FnScope N_holds P_holds (defScope s_holds) := ⟨rfl, rfl, rfl, by decide +kernel, rfl, by decide +kernel, by decide +kernel⟩
def spHolds : Sp := fun vs H Q _ => ∃ (t : Addr) (o p m f : Int) (x y : V), vs = [.ref t, x, y] ∧ H t = some (tup4 o p m f) ∧
  ((∃ b, x = .bl b ∧ Q (.bl false) H) ∨ (∃ i b, x = .int i ∧ y = .bl b ∧ Q (.bl false) H) ∨ ∃ i k, x = .int i ∧ y = .int k ∧ Q (.bl (decide (1 ≤ k ∧ o ≤ i ∧ i + k ≤ o + m))) H)
theorem at4_0 {a b c d : V} : atI [a, b, c, d] 0 = some a := atI_nat (j := 0) rfl
theorem at4_2 {a b c d : V} : atI [a, b, c, d] 2 = some c := atI_nat (j := 2) rfl
section
variable {P : Program} {w : World} {K : PySem.W.Frag} {mg : Str → Option Value} {base : Heap}
theorem ok_holds {f : Addr} {fd : FuncData} (D : DefAt K mg "holds" s_holds P_holds f fd) (B : Bn mg) : FnOk P w K mg base CX0 1 f fd P_holds spHolds := by
  refine D.F.ok sc_holds (fun vs H Q E h => ?_) (fun cdv A outer s H vs Q E hr h => ?_)
  · obtain ⟨t, o, p, m, f, x, y, rfl, _⟩ := h
    rfl
  · obtain ⟨t, o, p, m, f, x, y, rfl, ht, h⟩ := h
    refine ⟨_, (pss_cons (ps_if (PW.pt (pw_or (pt_val (pe_callB call_isi (by rfl) B.isinstance (by decide +kernel) (pa_cons (pv 1) (pa_cons (pe_bltn (v := .ty "bool") (by rfl) B.bool (by decide +kernel) rfl) pa_nil)))) (pw_or (pt_val (pe_callB call_isi (by rfl) B.isinstance (by decide +kernel) (pa_cons (pv 2) (pa_cons (pe_bltn (v := .ty "bool") (by rfl) B.bool (by decide +kernel) rfl) pa_nil)))) (pw_or1 (pt_cmpR op_lt (pv 2) pe_int (nomark _)))))) (pss_one (ps_ret pe_bl)) pss_nil)
      (pss_one (ps_ret (pe_and (pe_cmpR op_le (pe_ix ix_tup (pv 0) pe_int (fun _ _ => rfl)) (pv 1) (nomark _)) (pe_one (pe_cmpR op_le (pe_op op_add (pv 1) (pv 2)) (pe_op op_add (pe_ix ix_tup (pv 0) pe_int (fun _ _ => rfl)) (pe_ix ix_tup (pv 0) pe_int (fun _ _ => rfl))) (nomark _))))))), ?_⟩
    rcases h with ⟨b, rfl, q⟩ | ⟨i, b, rfl, rfl, q⟩ | ⟨i, k, rfl, rfl, q⟩
    · exact ⟨.bl b, rfl, _, _, _, _, true, rfl, ClsV.ty _, TyX.base (TyOf.bl _), kit_ty (by decide +kernel), _, rfl, q⟩
    · refine ⟨.int i, rfl, _, _, _, _, false, rfl, ClsV.ty _, TyX.base (TyOf.int _), kit_ty (by decide +kernel), _, rfl, ?_⟩
      exact ⟨.bl b, rfl, _, _, _, _, true, rfl, ClsV.ty _, TyX.base (TyOf.bl _), kit_ty (by decide +kernel), _, rfl, q⟩
    · refine ⟨.int i, rfl, _, _, _, _, false, rfl, ClsV.ty _, TyX.base (TyOf.int _), kit_ty (by decide +kernel), _, rfl, ?_⟩
      refine ⟨.int k, rfl, _, _, _, _, false, rfl, ClsV.ty _, TyX.base (TyOf.int _), kit_ty (by decide +kernel), _, rfl, ?_⟩
      refine ⟨.int k, rfl, k, 1, rfl, rfl, _, rfl, ?_⟩
      refine ite2 (fun hk => ?_) (fun hk => ?_)
      · have hk' : k < 1 := of_decide_eq_true hk
        have e : decide (1 ≤ k ∧ o ≤ i ∧ i + k ≤ o + m) = false := decide_eq_false (by omega)
        rw [e] at q
        exact q
      · have hk' : ¬ k < 1 := fun z => hk (decide_eq_true z)
        refine ⟨.ref t, rfl, t, _, 0, .int o, rfl, rfl, SqT.of ht, at4_0, .int i, rfl, o, i, rfl, rfl, _, rfl, ?_⟩
        refine ite2 (fun h1 => ?_) (fun h1 => ?_)
        · have h1' : o ≤ i := of_decide_eq_true h1
          refine ⟨.int i, rfl, .int k, rfl, i, k, rfl, rfl, .ref t, rfl, t, _, 0, .int o, rfl, rfl, SqT.of ht, at4_0, .ref t, rfl, t, _, 2, .int m, rfl, rfl, SqT.of ht, at4_2, o, m, rfl, rfl, _, _, rfl, rfl, ?_⟩
          have e : decide (1 ≤ k ∧ o ≤ i ∧ i + k ≤ o + m) = decide (i + k ≤ o + m) := decide_eq_decide.mpr ⟨fun z => z.2.2, fun z => ⟨by omega, h1', z⟩⟩
          rw [e] at q
          exact q
        · have h1' : ¬ o ≤ i := fun z => h1 (decide_eq_true z)
          have e : decide (1 ≤ k ∧ o ≤ i ∧ i + k ≤ o + m) = false := decide_eq_false (by omega)
          rw [e] at q
          exact q
end
abbrev N_part : List Str := ["mating", "at", "many", "one", "other", "reach", "turned", "ahead"]
abbrev P_part : List Str := ["mating", "at", "many"]
theorem sc_part : FnScope N_part P_part (defScope s_part) := ⟨rfl, rfl, rfl, by decide +kernel, rfl, by decide +kernel, by decide +kernel⟩
def partP (o p m f i k : Int) : Int := if f = 1 then p + m - (i - o) - k else p + (i - o)
def spPart : Sp := fun vs H Q _ => ∃ (t : Addr) (o p m f i k : Int), vs = [.ref t, .int i, .int k] ∧ H t = some (tup4 o p m f) ∧ (f = 0 ∨ f = 1) ∧ 1 ≤ k ∧ o ≤ i ∧ i + k ≤ o + m ∧
  ∀ r, H r = none → Q (.ref r) (upd H r (tup4 i (partP o p m f i k) k f))
section
variable {P : Program} {w : World} {K : PySem.W.Frag} {mg : Str → Option Value} {base : Heap}
theorem ok_part {f fH : Addr} {fd fdH : FuncData} (D : DefAt K mg "part" s_part P_part f fd) (D_holds : DefAt K mg "holds" s_holds P_holds fH fdH) (B : Bn mg) : FnOk P w K mg base CX0 2 f fd P_part spPart := by
  have G_holds : FnOk P w K mg base CX0 1 fH fdH P_holds spHolds := ok_holds D_holds B
  refine D.F.ok sc_part (fun vs H Q E h => ?_) (fun cdv A outer s H vs Q E hr h => ?_)
  · obtain ⟨t, o, p, m, f, i, k, rfl, _⟩ := h
    rfl
  · obtain ⟨t, o, p, m, f, i, k, rfl, ht, hf, h1, h2, h3, q⟩ := h
    refine ⟨_, (pss_cons (ps_if (pt_not (pt_val (pe_call G_holds (hr.mono (by omega)) (by rfl) D_holds.g D_holds.F.kp D_holds.b .nil pass0 (pa_cons (pv 0) (pa_cons (pv 1) (pa_cons (pv 2) pa_nil)))))) (pss_one ps_never) pss_nil)
      (pss_cons (ps_asg (pv 0) (pg_tup (by rfl) (pgs_cons (pg_name (i := 3) sc_part.nd rfl (.inl rfl)) (pgs_cons (pg_name (i := 4) sc_part.nd rfl (.inl rfl)) (pgs_cons (pg_name (i := 5) sc_part.nd rfl (.inl rfl)) (pgs_cons (pg_name (i := 6) sc_part.nd rfl (.inl rfl)) pgs_nil))))))
      (pss_cons (ps_set (i := 7) sc_part.nd rfl (.inl rfl) (pe_op op_sub (pv 1) (pv 3)))
      (pss_cons (ps_if (pt_cmpR op_eq (pv 6) pe_int (nomark _)) (pss_one (ps_ret (pe_tup (pa_cons (pv 1) (pa_cons (pe_op op_sub (pe_op op_sub (pe_op op_add (pv 4) (pv 5)) (pv 7)) (pv 2)) (pa_cons (pv 2) (pa_cons pe_int pa_nil))))))) pss_nil)
      (pss_one (ps_ret (pe_tup (pa_cons (pv 1) (pa_cons (pe_op op_add (pv 4) (pv 7)) (pa_cons (pv 2) (pa_cons pe_int pa_nil))))))))))), ?_⟩
    refine ⟨.ref t, rfl, .int i, rfl, .int k, rfl, t, o, p, m, f, .int i, .int k, rfl, ht, .inr (.inr ⟨i, k, rfl, rfl, ?_⟩)⟩
    rw [decide_eq_true (show 1 ≤ k ∧ o ≤ i ∧ i + k ≤ o + m from ⟨h1, h2, h3⟩)]
    refine ⟨true, rfl, iteF ?_⟩
    refine ⟨.ref t, rfl, t, _, rfl, SqT.of ht, rfl, .int o, _, rfl, .int p, _, rfl, .int m, _, rfl, .int f, _, rfl, rfl, ?_⟩
    refine ⟨.int i, rfl, .int o, rfl, i, o, rfl, rfl, ?_⟩
    refine ⟨.int f, rfl, rfl, _, rfl, ?_⟩
    rcases hf with rfl | rfl
    · rw [decide_eq_false (show ¬ (V.int 0 = V.int 1) from fun z => by cases z)]
      refine iteF ?_
      refine ⟨.int i, rfl, .int p, rfl, .int (i - o), rfl, p, i - o, rfl, rfl, .int k, rfl, by show 4 ≤ sizeLine; decide, fun r hr' => ?_⟩
      exact q r hr'
    · rw [decide_eq_true (show (V.int 1 = V.int 1) from rfl)]
      refine iteT ?_
      refine ⟨.int i, rfl, .int p, rfl, .int m, rfl, p, m, rfl, rfl, .int (i - o), rfl, _, _, rfl, rfl, .int k, rfl, _, _, rfl, rfl, .int k, rfl, by show 4 ≤ sizeLine; decide, fun r hr' => ?_⟩
      exact q r hr'
end

/-! ### back -/
section
variable {P : Program} {w : World} {K : PySem.W.Frag} {mg : Str → Option Value} {base : Heap}
end

/-! ### normal -/
section
variable {P : Program} {w : World} {K : PySem.W.Frag} {mg : Str → Option Value} {base : Heap}
end

/-! ### common -/
section
variable {P : Program} {w : World} {K : PySem.W.Frag} {mg : Str → Option Value} {base : Heap}
end

/-! ### enumerate(t), t a tuple -/
section
open PySem.Spec PyProof.Rows
end

/-! ### rules of my own: a value in an f-string, a def read off its class -/
section
open PySem.Spec PyProof.Rows
variable {X : Cx}
def tFmtV (te : TE) : TE := fun σ H Q => te σ H fun x H1 => (∃ i : Int, x = .int i ∧ i.natAbs.log2 < 1920 ∧ Q (.str (toString i)) H1) ∨ (∃ b : Bool, x = .bl b ∧ Q (.str (if b then "True" else "False")) H1)
theorem pe_fmtV {e : Expr} {te : TE} {pos : Pos} (he : PE X e te) : PE X (.FormattedValue e (-1) none pos) (tFmtV te) := by
  refine ⟨fun pins s σ H Q I h => ?_⟩
  refine wpAny_FormattedValue_plain (thn (he.run pins s σ H _ I h) fun v s1 hv => ?_)
  obtain ⟨x, H1, I1, r1, q⟩ := hv
  rcases q with ⟨i, rfl, hz, q⟩ | ⟨b, rfl, q⟩
  · obtain ⟨t, rfl⟩ := r1
    exact wpAny_formatField_int hz ⟨.str (toString i), H1, I1.tok _, ⟨_, rfl⟩, q⟩
  · cases (show v = Value.bool b from r1)
    exact wpAny_formatField_bool ⟨.str (if b then "True" else "False"), H1, I1.tok _, ⟨_, rfl⟩, q⟩
/-- what the written part says of a class's own def, read off the class -/
structure ClsFn (K : PySem.W.Frag) (C : Addr) (m : Str) (f : Addr) : Prop where
  sp : PySem.W.specialIn K (.ref C) "__getattribute__" = some (some (.builtin "type.__getattribute__"))
  rd : PySem.W.readsIn K C (.type "type") = true
  fc : PySem.W.findCls K (.ref C) (.type "type") m = some (.val (.ref f))
  kp : PySem.W.keepIn K (.ref f) = true
theorem pe_clsfn {CX : CXT} {k : Nat} {f C : Addr} {fd : FuncData} {ps : List Str} {sp : Sp} {E : XK} {x m : Str} {p1 p2 pos : Pos} {e : Expr} {es : List Expr} {t : TA} {pl : Sem Bool} (hg : Gl X x) (hm : X.mg x = some (.ref C)) (T : ClsFn X.K C m f)
    (F : FnOk X.prog X.w X.K X.mg X.base CX k f fd ps sp) (hr : Room k X.A) (hb : Binds X.K fd ps []) (hx : Passes CX X E) (ha : PA X (e :: es) t)
    (hc : eval (.Call (.Attribute (.Name x p1) m p2) (e :: es) [] pos) X.env = (do
      let ov ← eval (.Name x p1) X.env
      standAt p2.atName
      let (f, first) ← holding [ov] (getMethod ov m pl)
      callWith pos f first (backTo pos (starEach (e :: es) X.env)) (backToKw pos (keywordEach [] X.env))) := by rfl)
    (hdb : (x == ("__debug__" : Str)) = false := by decide) (he : starEach (e :: es) X.env = (false, eval e X.env) :: starEach es X.env := by rfl) (hpl : (backTo pos (starEach es X.env)).any (·.1) = false := by rfl) :
    PE X (.Call (.Attribute (.Name x p1) m p2) (e :: es) [] pos) (tCall sp [] E t) := by
  refine ⟨fun pins s σ H Q I h => ?_⟩
  refine PySem.W.methodCall_KW (ld_glob I hg hm ?_ hdb) hc
  refine PySem.W.method_cls I.kIn T.sp (PySem.W.cls_value I.kIn T.rd T.fc rfl ?_)
  show wpAny _ _ (callWith pos (Value.ref f) [] (backTo pos (starEach (e :: es) X.env)) []) _ _ _
  refine PySem.W.callWith_K (h₀ := X.base) I.ok.mod.kin T.kp (thn (ha.run pos pins _ σ H _ (I.tok _) h) fun us s1 ⟨vs, H1, I1, r, q⟩ => ⟨I1.kIn, ?_⟩) he hpl
  exact run_fn F hr hb (.nil) hx I1 r q
end

/-! ### FarError.__init__ -/
def FV (x : V) : Prop := (∃ i : Int, x = .int i ∧ i.natAbs.log2 < 1920) ∨ ∃ b : Bool, x = .bl b
theorem FV.go {x : V} {H : Hp} {Q : V → Hp → Prop} (h : FV x) (q : ∀ y : Str, y.length ≤ 1921 → Q (.str y) H) : (∃ i : Int, x = .int i ∧ i.natAbs.log2 < 1920 ∧ Q (.str (toString i)) H) ∨ (∃ b : Bool, x = .bl b ∧ Q (.str (if b then "True" else "False")) H) := by
  rcases h with ⟨i, e, hi⟩ | ⟨b, e⟩
  · exact .inl ⟨i, e, hi, q _ (PyProof.Rows.int_text_len_1921 hi)⟩
  · exact .inr ⟨b, e, q _ (by cases b <;> decide +kernel)⟩
theorem fmtV_at {i : Nat} {x : V} {σ : L2.St} {H : Hp} {Q : VK} (hs : σ[i]? = some (some x)) (h : FV x) (q : ∀ y : Str, y.length ≤ 1921 → Q (.str y) H) : tFmtV (tVar i) σ H Q := ⟨x, hs, FV.go (Q := Q) h q⟩
theorem app_fits {a b : Str} {n m : Nat} (ha : a.length ≤ n) (hb : b.length ≤ m) : (a ++ b).length ≤ n + m := by
  rw [Str.length_append]
  omega
theorem fits_of {a : Str} {n : Nat} (ha : a.length ≤ n) (h : n ≤ 100000) : a.length ≤ sizeLine := Nat.le_trans ha (Nat.le_trans h (by decide))
abbrev N_farinit : List Str := ["self", "why"]
theorem sc_farinit : FnScope N_farinit N_farinit (defScope s_farinit) := ⟨rfl, rfl, rfl, by decide +kernel, rfl, by decide +kernel, by decide +kernel⟩
def spFarInit (K : PySem.W.Frag) : Sp := fun vs H Q _ => ∃ (a C : Addr) (y : Str), vs = [.ref a, .str y] ∧ OexC K C ∧ PySem.W.findIn K (.ref C) "word" = some none ∧ H a = some (exo a C none) ∧
  ∀ dx, H dx = none → dx ≠ a → Q .non (upd (upd H dx (exd dx [("word", .str "FarError")])) a (exo a C (some dx)))
section
variable {P : Program} {w : World} {K : PySem.W.Frag} {mg : Str → Option Value} {base : Heap}
theorem ok_farinit {f : Addr} {fd : FuncData} (F : FunD K "__init__" "FarError.__init__" (defArgs s_farinit) (defBody s_farinit) (defScope s_farinit) [.str ""] [] f fd) (mV : mg "ValueError" = none)
    (vV : PySem.W.findCls K (.type "ValueError") (.type "type") "__init__" = some (.val (.builtin "ValueError.__init__"))) : FnOk P w K mg base CX0 1 f fd N_farinit (spFarInit K) := by
  refine F.ok sc_farinit (fun vs H Q E h => ?_) (fun cdv A outer s H vs Q E hr h => ?_)
  · obtain ⟨a, C, y, rfl, _⟩ := h
    rfl
  · obtain ⟨a, C, y, rfl, T, hw, ha, q⟩ := h
    refine ⟨_, pss_cons (ps_expr (pe_veinit (by rfl) mV vV (pa_cons (pv 0) (pa_cons (pv 1) pa_nil)))) (pss_one (ps_ost (pv 0) pe_str)), ?_⟩
    refine ⟨.ref a, rfl, .str y, rfl, a, C, [.str y], rfl, by show 1 ≤ 1000; decide, T, ha, ?_⟩
    exact ⟨.ref a, rfl, a, C, rfl, T, hw, .inl ⟨ha, fun dx n ne => q dx n ne⟩⟩
end
/-! ### an own error's __init__ of one field -/
/-- what the written part says of an error's class -/
structure ErrT (K : PySem.W.Frag) (C : Addr) : Prop where
  o : OexC K C
  w : PySem.W.findIn K (.ref C) "word" = some none

/-! ### ints and bools -/
def IB (x : V) : Prop := (∃ i : Int, x = .int i ∧ i.natAbs < 2 ^ 200) ∨ ∃ b : Bool, x = .bl b
theorem IB.fv {x : V} (h : IB x) : FV x := by
  rcases h with ⟨i, e, hi⟩ | ⟨b, e⟩
  · exact .inl ⟨i, e, Nat.lt_of_lt_of_le (PySem.Flt.log2_lt_of (by decide) hi) (by decide)⟩
  · exact .inr ⟨b, e⟩
def isB : V → Bool
  | .bl _ => true
  | _ => false
theorem IB.ty {K : PySem.W.Frag} {H : Hp} {x : V} (h : IB x) : ∃ t, TyX K H x t ∧ PySem.W.kitOne K t (.type "bool") = some (isB x) := by
  rcases h with ⟨i, rfl, hi⟩ | ⟨b, rfl⟩
  · exact ⟨_, TyX.base (TyOf.int _), kit_ty (r := false) (by decide +kernel)⟩
  · exact ⟨_, TyX.base (TyOf.bl _), kit_ty (r := true) (by decide +kernel)⟩
theorem IB.int {i : Int} (h : i.natAbs < 2 ^ 200) : IB (.int i) := .inl ⟨i, rfl, h⟩
section
open PySem.Spec PyProof.Rows
end

abbrev N_bninit : List Str := ["self", "number"]
theorem sc_bninit : FnScope N_bninit N_bninit (defScope s_bninit) := ⟨rfl, rfl, rfl, by decide +kernel, rfl, by decide +kernel, by decide +kernel⟩
def bnF (n : V) : List (Str × V) := [("word", .str "BadNumber"), ("number", n), ("word", .str "FarError")]
def spBnInit (K : PySem.W.Frag) : Sp := fun vs H Q _ => ∃ (a C : Addr) (n : V), vs = [.ref a, n] ∧ FV n ∧ ErrT K C ∧ PySem.W.findIn K (.ref C) "number" = some none ∧ H a = some (exo a C none) ∧
  ∀ (H' : Hp) (dx : Addr), H dx = none → H' a = some (exo a C (some dx)) → H' dx = some (exd dx (bnF n)) → (∀ b o, b ≠ a → H b = some o → H' b = some o) → Q .non H'
section
variable {P : Program} {w : World} {K : PySem.W.Frag} {mg : Str → Option Value} {base : Heap}
theorem ok_bninit {f fF CF : Addr} {fd fdF : FuncData} (F : Fun K "__init__" "BadNumber.__init__" s_bninit f fd) (gF : mg "FarError" = some (.ref CF)) (TF : ClsFn K CF "__init__" fF) (bF : Binds K fdF N_farinit [])
    (GF : FnOk P w K mg base CX0 1 fF fdF N_farinit (spFarInit K)) : FnOk P w K mg base CX0 2 f fd N_bninit (spBnInit K) := by
  refine F.ok sc_bninit (fun vs H Q E h => ?_) (fun cdv A outer s H vs Q E hr h => ?_)
  · obtain ⟨a, C, n, rfl, _⟩ := h
    rfl
  · obtain ⟨a, C, n, rfl, hn, T, hno, ha, q⟩ := h
    refine ⟨_, pss_cons (ps_expr (pe_clsfn (by rfl) gF TF GF hr bF pass0 (pa_cons (pv 0) (pa_cons (pe_joined (.cons pe_str (.cons (pe_fmtV (pv 1)) .nil))) pa_nil))))
      (pss_cons (ps_ost (pv 0) (pv 1)) (pss_one (ps_ost (pv 0) pe_str))), ?_⟩
    refine ⟨.ref a, rfl, _, rfl, fits_of (n := 100) (by decide +kernel) (by decide), ?_⟩
    refine fmtV_at (i := 1) rfl hn fun y hy => ?_
    refine ⟨y, rfl, fits_of (app_fits (n := 100) (by decide +kernel) hy) (by decide), ?_⟩
    refine ⟨a, C, _, rfl, T.o, T.w, ha, fun dx ndx ne => ?_⟩
    have e1 : (upd (upd H dx (exd dx [("word", .str "FarError")])) a (exo a C (some dx))) a = some (exo a C (some dx)) := upd_same
    have e2 : (upd (upd H dx (exd dx [("word", .str "FarError")])) a (exo a C (some dx))) dx = some (exd dx [("word", .str "FarError")]) := by rw [upd_ne ne, upd_same]
    refine ⟨n, rfl, .ref a, rfl, a, C, rfl, T.o, hno, .inr ⟨dx, _, e1, e2, by show 1 ≤ 900; decide, ?_⟩⟩
    refine ⟨.ref a, rfl, a, C, rfl, T.o, T.w, .inr ⟨dx, _, by rw [upd_ne ne.symm]; exact e1, upd_same, by show 2 ≤ 900; decide, ?_⟩⟩
    refine q _ dx ndx (by rw [upd_ne ne.symm, upd_ne ne.symm]; exact e1) upd_same fun b o nb hb => ?_
    have nbd : b ≠ dx := ne_of_none hb ndx
    rw [upd_ne nbd, upd_ne nbd, upd_ne nb, upd_ne nbd]
    exact hb
end

/-! ### own errors in general, and without a law that asks why -/
structure ErT (K : PySem.W.Frag) (mg : Str → Option Value) (CF C fI : Addr) (fdI : FuncData) (word : Str) (N : List Str) : Prop where
  gF : mg "FarError" = some (.ref CF)
  gC : mg word = some (.ref C)
  e : ErrT K C
  x : XfC K C
  c : ExcC K C
  iC : PySem.W.findIn K (.ref C) "__init__" = some (some (.ref fI))
  tI : PySem.W.typeIn K (.ref fI) = some (.type "function")
  bI : Binds K fdI N []
  m : PySem.W.exmOne K (.ref C) (.ref CF) = some true
abbrev Fds := List (Str × V)
section
open PySem.Spec PyProof.Rows
theorem takes_len {X : Cx} {W : WX} (tk : L2.Takes X W) : L2.Takes X (fun cls d σ H => σ.length = X.N.length → W cls d σ H) := fun u s' ⟨a, B, sI, pins, σ, H, cls, d, e, I, nb, up, sky, na, os, ag, w⟩ =>
  tk u s' ⟨a, B, sI, pins, σ, H, cls, d, e, I, nb, up, sky, na, os, ag, w I.len⟩
theorem pss_of {X : Cx} {sts : List Stmt} {t' : TS} (h : ∀ D σ H, t' D σ H → ∃ t, PSs X sts t ∧ t D σ H) : PSs X sts t' := ⟨fun pins s σ H D I ht => by
  obtain ⟨t, h1, h2⟩ := h D σ H ht
  exact h1.run pins s σ H D I h2⟩
end

/-! ### step_of, end_of, is_leader, is_repeat -/
section
variable {P : Program} {w : World} {K : PySem.W.Frag} {mg : Str → Option Value} {base : Heap}
end
/-! ### halved, merged -/
section
variable {P : Program} {w : World} {K : PySem.W.Frag} {mg : Str → Option Value} {base : Heap}
end

/-! ### a tuple of ints, truths and texts in an f-string -/
def MV (x : V) : Prop := FV x ∨ ∃ y : Str, x = .str y ∧ y.length ≤ 100 ∧ (∀ c ∈ y.cps.toList, c < 16 ^ 8) ∧ PyData.strOk y = true
section
open PySem.Spec PyProof.Rows
theorem repr_one {prog : Program} {w : World} {x : V} {u : Value} (h : MV x) (r : RelV x u) : ∃ t : Str, ReprIs prog w u t ∧ t.length ≤ 2000 := by
  rcases h with (⟨i, rfl, hi⟩ | ⟨b, rfl⟩) | ⟨y, rfl, hy, hc, _⟩
  · obtain ⟨t, rfl⟩ := r
    exact ⟨_, ReprIs.int t hi, Nat.le_trans (int_text_len_1921 hi) (by decide)⟩
  · cases (show u = Value.bool b from r)
    exact ⟨_, ReprIs.bool b, by cases b <;> decide +kernel⟩
  · obtain ⟨t, rfl⟩ := r
    have h1 := StrLaws.reprText_len y hc
    have h2 : (reprText y).length ≤ 2000 := by omega
    exact ⟨_, ReprIs.str y t (Nat.le_trans h2 (by decide)), h2⟩
theorem repr_allM {prog : Program} {w : World} : ∀ {xs : List V} {its : List Value}, Vals xs its → (∀ x ∈ xs, MV x) → ∃ ts : List Str, ReprAll prog w its ts ∧ piled ts ≤ xs.length * 2010
  | [], _, r, _ => by
    cases r
    exact ⟨[], .nil, Nat.zero_le _⟩
  | x :: l, _, r, h => by
    cases r with
    | cons r1 r2 =>
      obtain ⟨t, h1, h2⟩ := repr_one (prog := prog) (w := w) (h x List.mem_cons_self) r1
      obtain ⟨ts, h3, h4⟩ := repr_allM (prog := prog) (w := w) r2 fun y hy => h y (List.mem_cons_of_mem _ hy)
      refine ⟨t :: ts, .cons h1 h3, ?_⟩
      rw [piled_cons, List.length_cons]
      omega
def tFmtM (K : PySem.W.Frag) (te : TE) : TE := fun σ H Q => te σ H fun x H1 => ∃ (a : Addr) (xs : List V), x = .ref a ∧ SqT K H1 a xs ∧ (∀ y ∈ xs, MV y) ∧ xs.length ≤ 20 ∧ ∀ m : Str, m.length ≤ 50000 → Q (.str m) H1
theorem pe_fmtM {X : Cx} {e : Expr} {te : TE} {pos : Pos} {k : Nat} (hr : Room k X.A) (he : PE X e te) : PE X (.FormattedValue e (-1) none pos) (tFmtM X.K te) := by
  refine ⟨fun pins s σ H Q I h => ?_⟩
  refine wpAny_FormattedValue_plain (thn (he.run pins s σ H _ I h) fun v s1 hv => ?_)
  obtain ⟨x, H1, I1, r1, a, xs, rfl, ht, hc, hl, q⟩ := hv
  cases r1
  obtain ⟨its, rv, ⟨o, ho, hcl, n, hd⟩, _⟩ := I1.tuple ht
  obtain ⟨ts, h1, h2⟩ := repr_allM (prog := X.prog) (w := X.w) rv hc
  have htx := fmt_text ts
  have hz : (tupleText ts).length ≤ 45000 := by
    have : xs.length * 2010 ≤ 20 * 2010 := Nat.mul_le_mul_right _ hl
    omega
  have hu := hr.units
  exact fmt_tuple (ts := ts) (by omega) ho hcl hd h1 (Nat.le_trans hz (by decide)) fun m u tk hm => ⟨.str m, H1, I1.tok _, ⟨u, rfl⟩, q m (by omega)⟩
end
/-! ### BadMove -/
section
variable {P : Program} {w : World} {K : PySem.W.Frag} {mg : Str → Option Value} {base : Heap}
end

/-! ### is_mating -/
abbrev N_is_mating : List Str := ["length", "mating", "one", "other", "many", "turned", "number"]
abbrev P_is_mating : List Str := ["length", "mating"]
theorem sc_is_mating : FnScope N_is_mating P_is_mating (defScope s_is_mating) := ⟨rfl, rfl, rfl, by decide +kernel, rfl, by decide +kernel, by decide +kernel⟩
def isMat (n : Int) : V → V → V → V → Bool
  | .int o, .int p, .int m, .int f => decide ((f = 0 ∨ f = 1) ∧ 1 ≤ m ∧ 0 ≤ o ∧ 0 ≤ p ∧ o + m ≤ n ∧ p + m ≤ n)
  | _, _, _, _ => false
theorem isMat_b {n : Int} {o p m f : V} (h : ([o, p, m, f].map isB).any id = true) : isMat n o p m f = false := by
  cases o with
  | int _ => cases p with
    | int _ => cases m with
      | int _ => cases f with
        | int _ => exact absurd (show false = true from h) (by decide)
        | _ => rfl
      | _ => rfl
    | _ => rfl
  | _ => rfl
theorem allInt {x : V} (h : IB x) (hb : isB x = false) : ∃ i : Int, x = .int i ∧ i.natAbs < 2 ^ 200 := by
  rcases h with h | ⟨b, rfl⟩
  · exact h
  · cases hb
theorem inV01 (f : Int) : inV (.int f) [.int 0, .int 1] = decide (f = 0 ∨ f = 1) := by
  by_cases h0 : f = 0
  · subst h0
    decide
  · by_cases h1 : f = 1
    · subst h1
      decide
    · have e0 : ¬ (0 = f) := fun z => h0 z.symm
      have e1 : ¬ (1 = f) := fun z => h1 z.symm
      simp [inV, eqV, h0, h1, e0, e1]
def spIsMat : Sp := fun vs H Q _ => ∃ (n : Int) (t : Addr) (o p m f : V), vs = [.int n, .ref t] ∧ n.natAbs < 2 ^ 200 ∧ H t = some (.tup [o, p, m, f]) ∧ IB o ∧ IB p ∧ IB m ∧ IB f ∧ ∀ H', Same H H' → Q (.bl (isMat n o p m f)) H'
section
variable {P : Program} {w : World} {K : PySem.W.Frag} {mg : Str → Option Value} {base : Heap}
theorem ok_is_mating {f : Addr} {fd : FuncData} (D : DefAt K mg "is_mating" s_is_mating P_is_mating f fd) (B : Bn mg) : FnOk P w K mg base CX0 1 f fd P_is_mating spIsMat := by
  refine D.F.ok sc_is_mating (fun vs H Q E h => ?_) (fun cdv A outer s H vs Q E hr h => ?_)
  · obtain ⟨n, t, o, p, m, f, rfl, _⟩ := h
    rfl
  · obtain ⟨n, t, o, p, m, f, rfl, hn, ht, ho, hp, hm, hf, q⟩ := h
    refine ⟨_, (pss_cons (ps_asg (pv 1) (pg_tup (by rfl) (pgs_cons (pg_name (i := 2) sc_is_mating.nd rfl (.inl rfl)) (pgs_cons (pg_name (i := 3) sc_is_mating.nd rfl (.inl rfl)) (pgs_cons (pg_name (i := 4) sc_is_mating.nd rfl (.inl rfl)) (pgs_cons (pg_name (i := 5) sc_is_mating.nd rfl (.inl rfl)) pgs_nil))))))
      (pss_cons (ps_if (pt_val (pe_callB (cr_any rfl) (by rfl) B.any (by decide +kernel) (pa_cons (pe_lc (own := [("number", 6)]) (g := gName 6) (by rfl) sc_is_mating.nd (pi_tup (pe_tup (pa_cons (pv 0) (pa_cons (pv 2) (pa_cons (pv 3) (pa_cons (pv 4) (pa_cons (pv 5) pa_nil))))))) (blkOk_by (own := [("number", 6)]) (N := N_is_mating) (sc := defScope s_is_mating) (by decide +kernel)) (fun _ _ _ _ _ => (pg_name (i := 6) sc_is_mating.nd rfl (.inl rfl))) (fun _ _ _ _ _ => pts_nil) (fun _ _ _ _ _ => (pe_callB (show CallR _ _ (rIsi K) from call_isi) (by rfl) B.isinstance (by decide +kernel) (pa_cons (pv 6) (pa_cons (pe_bltn (v := .ty "bool") (by rfl) B.bool (by decide +kernel) rfl) pa_nil))))) pa_nil))) (pss_one (ps_ret pe_bl)) pss_nil)
      (pss_cons (ps_if (PW.pt (pw_or (pt_cmpR op_notIn_seq (pv 5) (pe_tup (pa_cons pe_int (pa_cons pe_int pa_nil))) (by rfl)) (pw_or1 (pt_cmpR op_lt (pv 4) pe_int (nomark _))))) (pss_one (ps_ret pe_bl)) pss_nil)
      (pss_one (ps_ret (pe_and (pe_cmpR op_ge (pe_callB (call_min2 rfl) (by rfl) B.min (by decide +kernel) (pa_cons (pv 2) (pa_cons (pv 3) pa_nil))) pe_int (nomark _)) (pe_one (pe_cmpR op_le (pe_op op_add (pe_callB (call_max2 rfl) (by rfl) B.max (by decide +kernel) (pa_cons (pv 2) (pa_cons (pv 3) pa_nil))) (pv 4)) (pv 0) (nomark _))))))))), ?_⟩
    refine ⟨.ref t, rfl, t, _, rfl, SqT.of ht, rfl, o, _, rfl, p, _, rfl, m, _, rfl, f, _, rfl, rfl, ?_⟩
    refine ⟨.int n, rfl, o, rfl, p, rfl, m, rfl, f, rfl, by show 5 ≤ sizeLine; decide, fun tp ntp => ?_⟩
    refine ⟨tp, rfl, ⟨_, SqT.of upd_same⟩, fun L nL => lc_tup (K := K) (a := tp) (xs := [.int n, o, p, m, f]) (fun i H2 => Same (upd H tp (.tup [.int n, o, p, m, f])) H2 ∧ H2 L = some (.lst ((([.int n, o, p, m, f].map isB).take i).map V.bl)))
      ⟨same_upd nL, upd_same⟩ (fun i H2 _ ⟨sm, _⟩ => SqT.of (sm _ _ upd_same)) ?_ ?_⟩
    · rintro i x H2 hx ⟨sm, e2⟩
      have hi : i < 5 := (List.getElem?_eq_some_iff.mp hx).1
      have hib : IB x := by
        have : x ∈ [.int n, o, p, m, f] := List.mem_of_getElem? hx
        rcases List.mem_cons.mp this with rfl | this
        · exact .inl ⟨n, rfl, hn⟩
        rcases List.mem_cons.mp this with rfl | this
        · exact ho
        rcases List.mem_cons.mp this with rfl | this
        · exact hp
        rcases List.mem_cons.mp this with rfl | this
        · exact hm
        rcases List.mem_cons.mp this with rfl | this
        · exact hf
        · cases this
      obtain ⟨ty, h1, h2⟩ := hib.ty (K := K) (H := H2)
      refine ⟨rfl, ?_⟩
      refine ⟨x, rfl, _, _, _, _, isB x, rfl, ClsV.ty _, h1, h2, ?_⟩
      refine ⟨_, e2, sz_lt (by rw [List.length_map, List.length_take]; omega), fun b o' hb => ?_, ?_⟩
      · rw [upd_ne (ne_of_none hb nL)]
        exact sm _ _ hb
      · rw [upd_same, List.take_add_one, List.getElem?_map, hx, List.map_append]
        rfl
    · rintro H2 ⟨sm, e2⟩
      have e2' : H2 L = some (.lst (([.int n, o, p, m, f].map isB).map V.bl)) := e2
      have sH : Same H H2 := (same_upd ntp).trans sm
      refine ⟨L, _, rfl, SqL.of e2', _, rfl, ?_⟩
      by_cases hb : ([o, p, m, f].map isB).any id = true
      · have e3 : ([.int n, o, p, m, f].map isB).any id = true := hb
        rw [e3]
        refine iteT ?_
        rw [isMat_b hb] at q
        exact q H2 sH
      · have e3 : ([.int n, o, p, m, f].map isB).any id = false := by
          cases e : ([o, p, m, f].map isB).any id with
          | true => exact absurd e hb
          | false => exact e
        rw [e3]
        refine iteF ?_
        have hb' : ([o, p, m, f].map isB).any id = false := e3
        simp only [List.map_cons, List.map_nil, List.any_cons, List.any_nil, id, Bool.or_false, Bool.or_eq_false_iff] at hb'
        obtain ⟨b1, b2, b3, b4⟩ := hb'
        obtain ⟨o, rfl, _⟩ := allInt ho b1
        obtain ⟨p, rfl, _⟩ := allInt hp b2
        obtain ⟨m, rfl, _⟩ := allInt hm b3
        obtain ⟨f, rfl, _⟩ := allInt hf b4
        refine ⟨.int f, rfl, by show 2 ≤ sizeLine; decide, fun t2 n2 => ?_⟩
        have s2 : Same H (upd H2 t2 (.tup [.int 0, .int 1])) := sH.trans (same_upd n2)
        refine ⟨t2, _, rfl, .inr (SqT.of upd_same), rfl, rfl, _, rfl, ?_⟩
        have no : ¬ ((f = 0 ∨ f = 1) ∧ 1 ≤ m ∧ 0 ≤ o ∧ 0 ≤ p ∧ o + m ≤ n ∧ p + m ≤ n) → Q (.bl false) (upd H2 t2 (.tup [.int 0, .int 1])) := fun h => by
          have := q _ s2
          rw [show isMat n (.int o) (.int p) (.int m) (.int f) = false from decide_eq_false h] at this
          exact this
        rw [if_pos rfl, inV01]
        by_cases hf01 : f = 0 ∨ f = 1
        · rw [decide_eq_true hf01]
          refine iteF ?_
          refine ⟨.int m, rfl, m, 1, rfl, rfl, _, rfl, ?_⟩
          refine ite2 (fun h => ?_) (fun h => ?_)
          · have h' : m < 1 := of_decide_eq_true h
            exact no fun z => by omega
          · have h' : ¬ m < 1 := fun z => h (decide_eq_true z)
            refine ⟨.int o, rfl, .int p, rfl, o, p, rfl, _, 0, rfl, rfl, _, rfl, ?_⟩
            refine ite2 (fun g => ?_) (fun g => ?_)
            · have g' : 0 ≤ (if p < o then p else o) := of_decide_eq_true g
              refine ⟨.int o, rfl, .int p, rfl, o, p, rfl, .int m, rfl, _, _, rfl, rfl, .int n, rfl, _, _, rfl, rfl, ?_⟩
              have := q _ s2
              rw [show isMat n (.int o) (.int p) (.int m) (.int f) = decide ((if p > o then p else o) + m ≤ n) from decide_eq_decide.mpr ⟨fun z => by split <;> omega, fun z => ⟨hf01, by omega, by split at g' <;> omega, by split at g' <;> omega, by split at z <;> omega, by split at z <;> omega⟩⟩] at this
              exact this
            · have g' : ¬ 0 ≤ (if p < o then p else o) := fun z => g (decide_eq_true z)
              exact no fun z => g' (by split <;> omega)
        · rw [decide_eq_false hf01]
          refine iteT ?_
          exact no fun z => hf01 z.1
end

/-! ### the standing matings as a list of numbers and matings -/
abbrev M4 := Int × Int × Int × Int
abbrev t4 (x : M4) : HO := tup4 x.1 x.2.1 x.2.2.1 x.2.2.2
abbrev StL := List (Int × M4)
def sget : StL → Int → Option M4
  | [], _ => none
  | s :: r, i => if s.1 = i then some s.2 else sget r i
def sput (S : StL) (i : Int) (x : M4) : StL := S.map fun s => if s.1 = i then (s.1, x) else s
def sdrop (S : StL) (i : Int) : StL := S.filter fun s => decide (s.1 ≠ i)
def StdR (H : Hp) (kv : Key × V) (s : Int × M4) : Prop := kv.1 = Sum.inl s.1 ∧ ∃ t, kv.2 = .ref t ∧ H t = some (t4 s.2)
def Std (H : Hp) (kvs : List (Key × V)) (S : StL) : Prop := Paired (StdR H) kvs S
/-- tuples stay -/
def KeepT (H H' : Hp) : Prop := ∀ b xs, H b = some (.tup xs) → H' b = some (.tup xs)
theorem Std.keep {H H' : Hp} (k : KeepT H H') : ∀ {kvs : List (Key × V)} {S : StL}, Std H kvs S → Std H' kvs S
  | _, _, .nil => .nil
  | _, _, .cons h r => .cons ⟨h.1, h.2.elim fun t e => ⟨t, e.1, k _ _ e.2⟩⟩ (Std.keep k r)
theorem Std.get {H : Hp} (i : Int) : ∀ {kvs : List (Key × V)} {S : StL}, Std H kvs S → (sget S i = none → valV kvs (Sum.inl i) = none) ∧ ∀ x, sget S i = some x → ∃ t, valV kvs (Sum.inl i) = some (.ref t) ∧ H t = some (t4 x)
  | _, _, .nil => ⟨fun _ => rfl, fun x h => nomatch h⟩
  | _, _, .cons (a := kv) (b := s) h r => by
    obtain ⟨e1, t, e2, e3⟩ := h
    obtain ⟨g1, g2⟩ := Std.get i r
    by_cases e : s.1 = i
    · have ek : kv.1 = Sum.inl i := by rw [e1, e]
      unfold sget
      rw [if_pos e]
      refine ⟨fun z => (by cases z), fun x hx => ?_⟩
      cases hx
      exact ⟨t, by rw [valV_pos ek, e2], e3⟩
    · have ek : ¬ kv.1 = Sum.inl i := by
        rw [e1]
        exact fun z => e (Sum.inl.inj z)
      unfold sget
      rw [if_neg e, valV_neg ek]
      exact ⟨g1, g2⟩
theorem Std.keys {H : Hp} : ∀ {kvs : List (Key × V)} {S : StL}, Std H kvs S → kvs.map (·.1) = (S.map (·.1)).map Sum.inl
  | _, _, .nil => rfl
  | _, _, .cons h r => by
    rw [List.map_cons, List.map_cons, List.map_cons, Std.keys r, h.1]
theorem Std.length {H : Hp} : ∀ {kvs : List (Key × V)} {S : StL}, Std H kvs S → kvs.length = S.length
  | _, _, .nil => rfl
  | _, _, .cons h r => congrArg (· + 1) (Std.length r)
theorem Std.putMap {H : Hp} {i : Int} {t : Addr} {x : M4} (ht : H t = some (t4 x)) : ∀ {kvs : List (Key × V)} {S : StL}, Std H kvs S → Std H (kvs.map fun kv => if kv.1 = Sum.inl i then (kv.1, V.ref t) else kv) (sput S i x)
  | _, _, .nil => .nil
  | _, _, .cons (a := kv) (b := s) h r => by
    refine .cons ?_ (Std.putMap ht r)
    show StdR H (if kv.1 = Sum.inl i then (kv.1, V.ref t) else kv) (if s.1 = i then (s.1, x) else s)
    by_cases e : s.1 = i
    · have ek : kv.1 = Sum.inl i := by rw [h.1, e]
      rw [if_pos ek, if_pos e]
      exact ⟨h.1, t, rfl, ht⟩
    · have ek : ¬ kv.1 = Sum.inl i := by
        rw [h.1]
        exact fun z => e (Sum.inl.inj z)
      rw [if_neg ek, if_neg e]
      exact h
theorem Std.put {H : Hp} {i : Int} {t : Addr} {x y : M4} {kvs : List (Key × V)} {S : StL} (h : Std H kvs S) (hi : sget S i = some y) (ht : H t = some (t4 x)) : Std H (putK kvs (Sum.inl i) (.ref t)) (sput S i x) := by
  obtain ⟨u, hu, _⟩ := (h.get i).2 y hi
  unfold putK
  rw [if_pos (by rw [valV_any, hu]; rfl)]
  exact h.putMap ht
theorem Std.drop {H : Hp} {i : Int} : ∀ {kvs : List (Key × V)} {S : StL}, Std H kvs S → Std H (dropK kvs (Sum.inl i)) (sdrop S i)
  | _, _, .nil => .nil
  | _, _, .cons (a := kv) (b := s) (l₁ := ks) (l₂ := rs) h r => by
    by_cases e : s.1 = i
    · have ek : kv.1 = Sum.inl i := by rw [h.1, e]
      rw [dropK_pos ek, show sdrop (s :: rs) i = sdrop rs i from List.filter_cons_of_neg (by simp [e])]
      exact Std.drop r
    · have ek : ¬ kv.1 = Sum.inl i := by
        rw [h.1]
        exact fun z => e (Sum.inl.inj z)
      rw [dropK_neg ek, show sdrop (s :: rs) i = s :: sdrop rs i from List.filter_cons_of_pos (by simp [e])]
      exact .cons h (Std.drop r)
theorem Std.snoc {H : Hp} {kv : Key × V} {s : Int × M4} (hs : StdR H kv s) : ∀ {kvs : List (Key × V)} {S : StL}, Std H kvs S → Std H (kvs ++ [kv]) (S ++ [s])
  | _, _, .nil => .cons hs .nil
  | _, _, .cons h r => .cons h (Std.snoc hs r)
theorem sput_keys (S : StL) (i : Int) (x : M4) : (sput S i x).map (·.1) = S.map (·.1) := by
  unfold sput
  rw [List.map_map]
  refine List.map_congr_left fun s _ => ?_
  show (if s.1 = i then (s.1, x) else s).1 = s.1
  split <;> rfl
theorem sput_length (S : StL) (i : Int) (x : M4) : (sput S i x).length = S.length := List.length_map _
theorem sdrop_keys {S : StL} {i : Int} (h : (S.map (·.1)).Pairwise (· < ·)) : ((sdrop S i).map (·.1)).Pairwise (· < ·) := h.sublist ((List.filter_sublist).map _)
theorem sdrop_length (S : StL) (i : Int) : (sdrop S i).length ≤ S.length := List.length_filter_le _ _
/-! ### a front -/
def fr (e : Int) (s q : Addr) : List (Str × V) := [("edge", .int e), ("standing", .ref s), ("past", .ref q)]
structure FrT (K : PySem.W.Frag) (mg : Str → Option Value) (C : Addr) : Prop where
  gC : mg "Front" = some (.ref C)
  cl : Cls K C
  nE : NoAttr K C "edge"
  nS : NoAttr K C "standing"
  nP : NoAttr K C "past"
structure FrAt (C : Addr) (H : Hp) (a s q : Addr) (e : Int) (S : StL) (ps : List V) : Prop where
  at_a : ∃ dx, H a = some (.ins C dx (fr e s q))
  at_s : ∃ kvs, H s = some (.dK kvs) ∧ Std H kvs S
  at_q : H q = some (.lst ps)
  up : (S.map (·.1)).Pairwise (· < ·)
  len : S.length ≤ 100
/-- all but the front stands -/
def Off (a s q : Addr) (H H' : Hp) : Prop := ∀ b o, H b = some o → b ≠ a → b ≠ s → b ≠ q → H' b = some o
theorem Off.trans {a s q : Addr} {H H1 H2 : Hp} (x : Off a s q H H1) (y : Off a s q H1 H2) : Off a s q H H2 := fun b o h h1 h2 h3 => y b o (x b o h h1 h2 h3) h1 h2 h3
theorem FrAt.same {C : Addr} {H H' : Hp} {a s q : Addr} {e : Int} {S : StL} {ps : List V} (h : FrAt C H a s q e S ps) (k : Same H H') : FrAt C H' a s q e S ps := by
  obtain ⟨⟨dx, ea⟩, ⟨kvs, es, st⟩, eq, up, len⟩ := h
  exact ⟨⟨dx, k _ _ ea⟩, ⟨kvs, k _ _ es, st.keep fun b xs hb => k _ _ hb⟩, k _ _ eq, up, len⟩
/-- the dict anew -/
theorem FrAt.dict {C : Addr} {H : Hp} {a s q : Addr} {e : Int} {S S' : StL} {ps : List V} {kvs : List (Key × V)} (h : FrAt C H a s q e S ps) (st : Std H kvs S') (up : (S'.map (·.1)).Pairwise (· < ·)) (len : S'.length ≤ 100) :
    FrAt C (upd H s (.dK kvs)) a s q e S' ps ∧ Off a s q H (upd H s (.dK kvs)) := by
  obtain ⟨⟨dx, ea⟩, ⟨kvs0, es, st0⟩, eq, _, _⟩ := h
  have n1 : a ≠ s := ne_of ea es (fun z => by cases z)
  have n2 : q ≠ s := ne_of eq es (fun z => by cases z)
  refine ⟨⟨⟨dx, by rw [upd_ne n1]; exact ea⟩, ⟨kvs, upd_same, st.keep fun b xs hb => ?_⟩, by rw [upd_ne n2]; exact eq, up, len⟩, fun b o hb _ h2 _ => ?_⟩
  · rw [upd_ne (ne_of hb es (fun z => by cases z))]
    exact hb
  · rw [upd_ne h2]
    exact hb
theorem perm_sorted : ∀ {ys ks : List Int}, ys.Perm ks → ys.Pairwise (· ≤ ·) → ks.Pairwise (· < ·) → ys = ks
  | [], ks, p, _, _ => (List.Perm.nil_eq p)
  | y :: ys, [], p, _, _ => nomatch (List.Perm.eq_nil p)
  | y :: ys, k :: ks, p, h1, h2 => by
    have m1 : y ∈ k :: ks := p.subset List.mem_cons_self
    have m2 : k ∈ y :: ys := p.symm.subset List.mem_cons_self
    have e : y = k := by
      rcases List.mem_cons.mp m1 with z | z
      · exact z
      · rcases List.mem_cons.mp m2 with z' | z'
        · exact z'.symm
        · have a1 := (List.pairwise_cons.mp h1).1 _ z'
          have a2 := (List.pairwise_cons.mp h2).1 _ z
          omega
    subst e
    rw [perm_sorted (List.Perm.cons_inv p) (List.pairwise_cons.mp h1).2 (List.pairwise_cons.mp h2).2]
section
variable {X : Cx} {K : PySem.W.Frag}
/-- o.f inside a comprehension -/
theorem pe_fldK {e : Expr} {f : Str} {pos : Pos} {ta : TE} (hK : X.K = K) (he : PE X e ta) (hb : attributeBase e f X.env (eval e X.env) = eval e X.env) : PE X (.Attribute e f pos) (tFld K ta f) := by
  subst hK
  exact pe_fld he hb
end

/-! ### need_length, need_mating, need_road of a road that is right -/
abbrev N_need_from : List Str := ["low", "number"]
abbrev P_need_from : List Str := ["low", "number"]
theorem sc_need_from : FnScope N_need_from P_need_from (defScope s_need_from) := ⟨rfl, rfl, rfl, by decide +kernel, rfl, by decide +kernel, by decide +kernel⟩
abbrev N_need_within : List Str := ["low", "high", "number"]
abbrev P_need_within : List Str := ["low", "high", "number"]
theorem sc_need_within : FnScope N_need_within P_need_within (defScope s_need_within) := ⟨rfl, rfl, rfl, by decide +kernel, rfl, by decide +kernel, by decide +kernel⟩
abbrev N_need_length : List Str := ["number"]
abbrev P_need_length : List Str := ["number"]
theorem sc_need_length : FnScope N_need_length P_need_length (defScope s_need_length) := ⟨rfl, rfl, rfl, by decide +kernel, rfl, by decide +kernel, by decide +kernel⟩
abbrev N_need_mating : List Str := ["length", "mating"]
abbrev P_need_mating : List Str := ["length", "mating"]
theorem sc_need_mating : FnScope N_need_mating P_need_mating (defScope s_need_mating) := ⟨rfl, rfl, rfl, by decide +kernel, rfl, by decide +kernel, by decide +kernel⟩
def spNeed1 (n : Int) : Sp := fun vs H Q _ => ∃ (t : Addr) (m : Int × Int × Int × Int), vs = [.int n, .ref t] ∧ H t = some (t4 m) ∧ ((m.2.2.2 = 0 ∨ m.2.2.2 = 1) ∧ 1 ≤ m.2.2.1 ∧ 0 ≤ m.1 ∧ 0 ≤ m.2.1 ∧ m.1 + m.2.2.1 ≤ n ∧ m.2.1 + m.2.2.1 ≤ n) ∧ ∀ H', Same H H' → Q .non H'
def spFrom0 : Sp := fun vs H Q _ => ∃ lo n : Int, vs = [.int lo, .int n] ∧ lo ≤ n ∧ Q .non H
def spWithin0 : Sp := fun vs H Q _ => ∃ lo hi n : Int, vs = [.int lo, .int hi, .int n] ∧ lo ≤ n ∧ n ≤ hi ∧ Q .non H
def spNeed0 : Sp := fun vs H Q _ => ∃ n : Int, vs = [.int n] ∧ 0 ≤ n ∧ n ≤ 1000000000000000000 ∧ Q .non H
def Mok (n : Int) (x : M4) : Prop := (x.2.2.2 = 0 ∨ x.2.2.2 = 1) ∧ 1 ≤ x.2.2.1 ∧ 0 ≤ x.1 ∧ 0 ≤ x.2.1 ∧ x.1 + x.2.2.1 ≤ n ∧ x.2.1 + x.2.2.1 ≤ n
def Mts (H : Hp) (ts : List Addr) (ms : List M4) : Prop := Paired (fun t x => H t = some (t4 x)) ts ms
theorem Mts.same {H H' : Hp} (k : Same H H') : ∀ {ts : List Addr} {ms : List M4}, Mts H ts ms → Mts H' ts ms
  | _, _, .nil => .nil
  | _, _, .cons h r => .cons (k _ _ h) (Mts.same k r)
theorem Mts.length {H : Hp} : ∀ {ts : List Addr} {ms : List M4}, Mts H ts ms → ts.length = ms.length
  | _, _, .nil => rfl
  | _, _, .cons _ r => congrArg (· + 1) (Mts.length r)
theorem Mts.at {H : Hp} : ∀ {ts : List Addr} {ms : List M4}, Mts H ts ms → ∀ (i : Nat) (t : Addr), ts[i]? = some t → ∃ x, ms[i]? = some x ∧ H t = some (t4 x)
  | _, _, .nil, i, t, h => by simp at h
  | _, _, .cons (b := x) h r, 0, t, e => by
    cases e
    exact ⟨x, rfl, h⟩
  | _, _, .cons h r, i + 1, t, e => Mts.at r i t e
section
variable {P : Program} {w : World} {K : PySem.W.Frag} {mg : Str → Option Value} {base : Heap}
theorem ok_from0 {f : Addr} {fd : FuncData} (D : DefAt K mg "need_from" s_need_from P_need_from f fd) (B : Bn mg) : FnOk P w K mg base CX0 1 f fd P_need_from spFrom0 := by
  refine D.F.ok sc_need_from (fun vs H Q E h => ?_) (fun cdv A outer s H vs Q E hr h => ?_)
  · obtain ⟨lo, n, rfl, _⟩ := h
    rfl
  · obtain ⟨lo, n, rfl, n0, q⟩ := h
    refine ⟨_, (pss_one (ps_if (PW.pt (pw_or (pt_val (pe_callB call_isi (by rfl) B.isinstance (by decide +kernel) (pa_cons (pv 1) (pa_cons (pe_bltn (v := .ty "bool") (by rfl) B.bool (by decide +kernel) rfl) pa_nil)))) (pw_or1 (pt_cmpR op_lt (pv 1) (pv 0) (nomark _))))) (pss_one ps_never) pss_nil)), ?_⟩
    refine ⟨.int n, rfl, _, _, _, _, false, rfl, ClsV.ty _, TyX.base (TyOf.int _), kit_ty (by decide +kernel), _, rfl, iteF ?_⟩
    exact ⟨.int n, rfl, .int lo, rfl, n, lo, rfl, rfl, _, rfl, ite2 (fun h => absurd (of_decide_eq_true h) (by omega)) (fun _ => q)⟩
theorem ok_within0 {f fA : Addr} {fd fdA : FuncData} (D : DefAt K mg "need_within" s_need_within P_need_within f fd) (D_need_from : DefAt K mg "need_from" s_need_from P_need_from fA fdA) (B : Bn mg) : FnOk P w K mg base CX0 2 f fd P_need_within spWithin0 := by
  have G_need_from : FnOk P w K mg base CX0 1 fA fdA P_need_from spFrom0 := ok_from0 D_need_from B
  refine D.F.ok sc_need_within (fun vs H Q E h => ?_) (fun cdv A outer s H vs Q E hr h => ?_)
  · obtain ⟨lo, hi, n, rfl, _⟩ := h
    rfl
  · obtain ⟨lo, hi, n, rfl, n0, n1, q⟩ := h
    refine ⟨_, (pss_cons (ps_expr (pe_call G_need_from (hr.mono (by omega)) (by rfl) D_need_from.g D_need_from.F.kp D_need_from.b .nil pass0 (pa_cons (pv 0) (pa_cons (pv 2) pa_nil))))
      (pss_one (ps_if (pt_cmpR op_gt (pv 2) (pv 1) (nomark _)) (pss_one ps_never) pss_nil))), ?_⟩
    refine ⟨.int lo, rfl, .int n, rfl, lo, n, rfl, n0, ?_⟩
    exact ⟨.int n, rfl, .int hi, rfl, n, hi, rfl, rfl, _, rfl, ite2 (fun h => absurd (of_decide_eq_true h) (by omega)) (fun _ => q)⟩
theorem ok_need0 {f fA fV : Addr} {fd fdA fdV : FuncData} {tok : Tok} (D : DefAt K mg "need_length" s_need_length P_need_length f fd) (D_need_from : DefAt K mg "need_from" s_need_from P_need_from fA fdA) (D_need_within : DefAt K mg "need_within" s_need_within P_need_within fV fdV) (g_FAR : mg "FAR" = some (.int 1000000000000000000 tok)) (B : Bn mg) : FnOk P w K mg base CX0 3 f fd P_need_length spNeed0 := by
  have G_need_within : FnOk P w K mg base CX0 2 fV fdV P_need_within spWithin0 := ok_within0 D_need_within D_need_from B
  refine D.F.ok sc_need_length (fun vs H Q E h => ?_) (fun cdv A outer s H vs Q E hr h => ?_)
  · obtain ⟨n, rfl, _⟩ := h
    rfl
  · obtain ⟨n, rfl, n0, n1, q⟩ := h
    refine ⟨_, (pss_one (ps_expr (pe_call G_need_within (hr.mono (by omega)) (by rfl) D_need_within.g D_need_within.F.kp D_need_within.b .nil pass0 (pa_cons pe_int (pa_cons (pe_glob (v := .int _) (by rfl) g_FAR ⟨_, rfl⟩) (pa_cons (pv 0) pa_nil)))))), ?_⟩
    exact ⟨.int n, rfl, 0, 1000000000000000000, n, rfl, n0, n1, q⟩
theorem ok_need1 {f fM : Addr} {fd fdM : FuncData} {n : Int} (D : DefAt K mg "need_mating" s_need_mating P_need_mating f fd) (D_is_mating : DefAt K mg "is_mating" s_is_mating P_is_mating fM fdM) (n0 : 0 ≤ n) (n1 : n ≤ 1000000000000000000) (B : Bn mg) : FnOk P w K mg base CX0 2 f fd P_need_mating (spNeed1 n) := by
  have G_is_mating : FnOk P w K mg base CX0 1 fM fdM P_is_mating spIsMat := ok_is_mating D_is_mating B
  refine D.F.ok sc_need_mating (fun vs H Q E h => ?_) (fun cdv A outer s H vs Q E hr h => ?_)
  · obtain ⟨t, m, rfl, _⟩ := h
    rfl
  · obtain ⟨t, m, rfl, em, ⟨h1, h2, h3, h4, h5, h6⟩, q⟩ := h
    refine ⟨_, (pss_one (ps_if (pt_not (pt_val (pe_call G_is_mating (hr.mono (by omega)) (by rfl) D_is_mating.g D_is_mating.F.kp D_is_mating.b .nil pass0 (pa_cons (pv 0) (pa_cons (pv 1) pa_nil))))) (pss_one ps_never) pss_nil)), ?_⟩
    refine ⟨.int n, rfl, .ref t, rfl, n, t, .int m.1, .int m.2.1, .int m.2.2.1, .int m.2.2.2, rfl, by omega, em, .int (by omega), .int (by omega), .int (by omega), .int (by omega), fun H3 s3 => ?_⟩
    rw [show isMat n (.int m.1) (.int m.2.1) (.int m.2.2.1) (.int m.2.2.2) = true from decide_eq_true ⟨h1, h2, h3, h4, h5, h6⟩]
    exact ⟨true, rfl, iteF (q _ s3)⟩
end
/-! ### {k: v for i, x in enumerate(us)} -/
/-! ### {k: v for i, x in enumerate(us)}, us a tuple -/
/-! ### put -/
def nrm (x : M4) : M4 := ((if x.2.1 < x.1 then x.2.1 else x.1), (if x.2.1 < x.1 then x.1 else x.2.1), x.2.2.1, x.2.2.2)
section
variable {P : Program} {w : World} {K : PySem.W.Frag} {mg : Str → Option Value} {base : Heap} {C : Addr}
end
/-! ### merge, halve -/
section
variable {P : Program} {w : World} {K : PySem.W.Frag} {mg : Str → Option Value} {base : Heap} {C : Addr}
end

/-! ### left -/
/-- pairs of a number and a mating -/
def LsR (H : Hp) (u : Addr) (s : Int × M4) : Prop := ∃ t, H u = some (.tup [.int s.1, .ref t]) ∧ H t = some (t4 s.2)
def Ls (H : Hp) (us : List Addr) (S : StL) : Prop := Paired (LsR H) us S
theorem Ls.snoc {H : Hp} {u : Addr} {s : Int × M4} (hs : LsR H u s) : ∀ {us : List Addr} {S : StL}, Ls H us S → Ls H (us ++ [u]) (S ++ [s])
  | _, _, .nil => .cons hs .nil
  | _, _, .cons h r => .cons h (Ls.snoc hs r)
theorem Ls.keep {H H' : Hp} (k : KeepT H H') : ∀ {us : List Addr} {S : StL}, Ls H us S → Ls H' us S
  | _, _, .nil => .nil
  | _, _, .cons h r => .cons (h.elim fun t e => ⟨t, k _ _ e.1, k _ _ e.2⟩) (Ls.keep k r)
theorem Ls.length {H : Hp} : ∀ {us : List Addr} {S : StL}, Ls H us S → us.length = S.length
  | _, _, .nil => rfl
  | _, _, .cons h r => congrArg (· + 1) (Ls.length r)
theorem sget_mem : ∀ {S : StL} {s : Int × M4}, (S.map (·.1)).Pairwise (· < ·) → s ∈ S → sget S s.1 = some s.2
  | x :: r, s, h, hm => by
    rcases List.mem_cons.mp hm with rfl | hm
    · exact if_pos rfl
    · have h' := List.pairwise_cons.mp h
      have lt : x.1 < s.1 := h'.1 s.1 (List.mem_map.mpr ⟨s, hm, rfl⟩)
      show (if x.1 = s.1 then some x.2 else sget r s.1) = some s.2
      rw [if_neg (by omega)]
      exact sget_mem h'.2 hm
section
variable {P : Program} {w : World} {K : PySem.W.Frag} {mg : Str → Option Value} {base : Heap} {C : Addr}
end
/-! ### __init__ -/
def en : Nat → List M4 → StL
  | _, [] => []
  | i, x :: r => (((i : Nat) : Int), nrm x) :: en (i + 1) r
section
variable {P : Program} {w : World} {K : PySem.W.Frag} {mg : Str → Option Value} {base : Heap} {C : Addr}
end
theorem FnOk.or {P : Program} {w : World} {K : PySem.W.Frag} {mg : Str → Option Value} {base : Heap} {CX : CXT} {k : Nat} {f : Addr} {fd : FuncData} {ps : List Str} {s1 s2 : Sp} (F : FnOk P w K mg base CX k f fd ps s1) (G : FnOk P w K mg base CX k f fd ps s2) :
    FnOk P w K mg base CX k f fd ps (fun vs H Q E => s1 vs H Q E ∨ s2 vs H Q E) :=
  ⟨fun vs H Q E h => h.elim (F.len vs H Q E) (G.len vs H Q E), fun A outer s H args us vs Q E hr he hb hv h => h.elim (F.run A outer s H args us vs Q E hr he hb hv) (G.run A outer s H args us vs Q E hr he hb hv)⟩

/-! ### sorted(d.items()) of a dict with rising int keys whose values are objects -/
namespace SIt
open PySem PySem.W PySem.Calls PyProof.Rows PyProof.V PySem.Spec
section
variable {prog : Program} {w : World} {A : Around} {E : Value → Shared → Prop} {s : Shared}
theorem eqBool_self {t : Addr} {Q : Bool → Shared → Prop} (h : Q true s) : wpAny (model prog w) A (eqBool (.ref t) (.ref t)) Q E s := by
  unfold eqBool
  refine wpAny_holding ?_
  rw [if_pos (show (Value.ref t == Value.ref t) = true from beq_self_eq_true _)]
  exact wpAny_bind (wpAny_rule (wpAny_pure h))
/-- the tuple (k, the object at u) -/
def PairK (h : Heap) (v : Value) (k : Int) (u : Addr) : Prop := ∃ (a : Addr) (t : Tok), v = .ref a ∧ IsTup h a #[.int k t, .ref u]
def intOf : Option Value → Int
  | some (.int x _) => x
  | _ => 0
def keyI (h : Heap) (v : Value) : Int := intOf (DT.seqAt0 h (DT.refOf (some v)))
theorem PairK.key {h : Heap} {v : Value} {k : Int} {u : Addr} (x : PairK h v k u) : keyI h v = k := by
  obtain ⟨a, t, rfl, h1⟩ := x
  show intOf (DT.seqAt0 h a) = k
  rw [DT.seqAt0_of h1]
  rfl
theorem firstsK {h : Heap} : ∀ vs : List Value, (∀ v ∈ vs, ∃ k u, PairK h v k u) → ∃ fs : List Value, KatTups h vs fs ∧ fs.length = vs.length ∧ ∀ f ∈ fs, ∃ (k : Int) (t : Tok), f = Value.int k t
  | [], _ => ⟨[], KatTups.nil, rfl, fun f hf => by simp at hf⟩
  | v :: vs, x => by
    obtain ⟨fs, k, hl, hi⟩ := firstsK vs fun u hu => x u (List.mem_cons_of_mem _ hu)
    obtain ⟨y, u, a, t, rfl, ⟨o, ho, hc, n, hd⟩⟩ := x v (List.mem_cons_self ..)
    refine ⟨.int y t :: fs, KatTups.cons ho hc hd rfl k, by rw [List.length_cons, List.length_cons, hl], fun f hf => ?_⟩
    rcases List.mem_cons.mp hf with rfl | hf
    · exact ⟨y, t, rfl⟩
    · exact hi f hf
theorem kind_k {vs : List Value} (h2 : 2 ≤ vs.length) (x : ∀ v ∈ vs, ∃ k u, PairK s.heap v k u) (inj : ∀ v ∈ vs, ∀ v' ∈ vs, keyI s.heap v = keyI s.heap v' → v = v') (Q : SortKind → Shared → Prop)
    (h : ∀ κ, TS.Cmp prog w A s κ (pairsOf vs) (fun v => keyI s.heap v) → Q κ s) : wpAny (model prog w) A (keyKind' vs.toArray) Q E s := by
  obtain ⟨fs, k, hl, hi⟩ := firstsK vs x
  refine kat_kind (T := Value.type "int") k (by omega) (fun f hf => ?_) rfl (h _ ?_)
  · obtain ⟨q, t, rfl⟩ := hi f hf
    exact PySem.W.Looks.now
  · have hb : (Value.type "int" != Value.type "tuple") = true := by first | rfl | decide | simp
    rw [hb]
    intro p q hp hq Q' E' hQ
    rw [pairsOf_toList] at hp hq
    have mp := (mem_zip_self hp).2
    have mq := (mem_zip_self hq).2
    obtain ⟨y, u, py⟩ := x _ mp
    obtain ⟨z, u', pz⟩ := x _ mq
    have hQ' : Q' (decide (y < z)) s := by
      have hQ2 : Q' (decide (keyI s.heap p.1 < keyI s.heap q.1)) s := hQ
      rw [py.key, pz.key] at hQ2
      exact hQ2
    by_cases e : y = z
    · have same : p.1 = q.1 := inj _ mp _ mq (by rw [py.key, pz.key]; exact e)
      have irr : decide (y < z) = false := decide_eq_false (by omega)
      rw [irr] at hQ'
      obtain ⟨a, t, e1, ⟨o, ho, hc, n, hd⟩⟩ := py
      rw [← same, e1]
      refine kat_lt ho hd ho hd ?_
      show KatLex prog w A true (decide ((#[Value.int y t, Value.ref u] : Array Value).size < (#[Value.int y t, Value.ref u] : Array Value).size)) Q' [(Value.int y t, Value.int y t), (Value.ref u, Value.ref u)] 0 s
      rw [show decide ((#[Value.int y t, Value.ref u] : Array Value).size < (#[Value.int y t, Value.ref u] : Array Value).size) = false from decide_eq_false (Nat.lt_irrefl _)]
      refine kat_cons (wpAny_eqBool_int ?_)
      rw [beq_self_eq_true]
      exact kat_yes (kat_cons (eqBool_self (kat_yes (kat_nil hQ'))))
    · obtain ⟨a, t, e1, ⟨o, ho, hc, n, hd⟩⟩ := py
      obtain ⟨a', t', e2, ⟨o', ho', hc', n', hd'⟩⟩ := pz
      rw [e1, e2]
      refine kat_lt ho hd ho' hd' ?_
      show KatLex prog w A true _ Q' [(Value.int y t, Value.int z t'), (Value.ref u, Value.ref u')] 0 s
      refine kat_cons (wpAny_eqBool_int ?_)
      rw [show (y == z) = false from beq_eq_false_iff_ne.mpr e]
      exact kat_no (TS.oneLt_ints _ hQ')
end
theorem pairs_get {prog : Program} {w : World} {κ : Type} [DecidableEq κ] {knd : KeyKind prog w κ} : ∀ {es : List DictEntry} {kvs : List (κ × Value)}, Pairs knd es kvs → ∀ (j : Nat) (e : DictEntry), es[j]? = some e → ∃ kv, kvs[j]? = some kv ∧ knd.is kv.1 e.key = true ∧ e.val = kv.2
  | _, _, .nil, j, e, h => by simp at h
  | _, _, .cons h1 h2 _, 0, e, h => by
    cases h
    exact ⟨_, rfl, h1, h2⟩
  | _, _, .cons _ _ r, j + 1, e, h => pairs_get r j e h
theorem pairs_len {prog : Program} {w : World} {κ : Type} [DecidableEq κ] {knd : KeyKind prog w κ} : ∀ {es : List DictEntry} {kvs : List (κ × Value)}, Pairs knd es kvs → es.length = kvs.length
  | _, _, .nil => rfl
  | _, _, .cons _ _ r => congrArg (· + 1) (pairs_len r)
/-- a permutation that rises is the one that rises strictly -/
theorem perm_rise {α : Type} {f : α → Int} : ∀ {xs ys : List α}, xs.Perm ys → xs.Pairwise (fun a b => f a ≤ f b) → ys.Pairwise (fun a b => f a < f b) → xs = ys
  | [], ys, p, _, _ => (List.Perm.nil_eq p)
  | x :: xs, [], p, _, _ => nomatch (List.Perm.eq_nil p)
  | x :: xs, y :: ys, p, h1, h2 => by
    have m1 : x ∈ y :: ys := p.subset List.mem_cons_self
    have m2 : y ∈ x :: xs := p.symm.subset List.mem_cons_self
    have e : x = y := by
      rcases List.mem_cons.mp m1 with z | z
      · exact z
      · rcases List.mem_cons.mp m2 with z' | z'
        · exact z'.symm
        · have a1 := (List.pairwise_cons.mp h1).1 _ z'
          have a2 := (List.pairwise_cons.mp h2).1 _ z
          omega
    subst e
    rw [perm_rise (List.Perm.cons_inv p) (List.pairwise_cons.mp h1).2 (List.pairwise_cons.mp h2).2]
end SIt
section
open PySem PySem.Spec PyProof.Rows
variable {X : Cx}
abbrev entK (e : Int × Addr) : Key × V := (Sum.inl e.1, V.ref e.2)
def rItemsK : V → List V → Hp → VK → Prop := fun x xs H Q => ∃ (a : Addr) (kvs : List (Key × V)), x = .ref a ∧ xs = [] ∧ H a = some (.dK kvs) ∧ ∀ p, H p = none → Q (.ref p) (upd H p (L2.DX.itemsO p a))
theorem mt_itemsK : MtR X "dict.items" rItemsK := by
  intro pins s σ H x xs v us Q I rx rxs h
  obtain ⟨a, kvs, rfl, rfl, ha, q⟩ := h
  cases rx
  cases rxs
  obtain ⟨z, hd, vs, rel, o, es, ep, ho, hx, hdat, _⟩ := dk_of I.hok ha
  refine DT.callItems (es := es) (ep := ep) hd ⟨o, ho, hx, hdat⟩ ?_
  have hf : H s.heap.objs.size = none := I.hok.fresh (Nat.le_refl _)
  exact ⟨.ref s.heap.objs.size, upd H s.heap.objs.size (L2.DX.itemsO s.heap.objs.size a), I.laid (t' := s.toks) (fun b u e => Heap.get?_push_of_some _ e) (Nat.le_refl _) (L2.DX.itemsO_ok (Heap.get?_push_size _ rfl)), rfl, q _ hf⟩
def rSortK : List V → Hp → VK → Prop := fun vs H Q => ∃ (p a : Addr) (ks : List (Int × Addr)), vs = [.ref p] ∧ H p = some (L2.DX.itemsO p a) ∧ H a = some (.dK (ks.map entK)) ∧ ks.length < 64 ∧ (ks.map (·.1)).Pairwise (· < ·) ∧
  ∀ (H' : Hp) (l : Addr) (as : List Addr), Same H H' → H l = none → H' l = some (.lst (as.map V.ref)) → Paired (fun (t : Addr) (e : Int × Addr) => H' t = some (.tup [.int e.1, .ref e.2])) as ks → Q (.ref l) H'
theorem paired_of {α β : Type} {F : α → β → Prop} : ∀ {as : List α} {bs : List β}, as.length = bs.length → (∀ (j : Nat) (a : α) (b : β), as[j]? = some a → bs[j]? = some b → F a b) → Paired F as bs
  | [], [], _, _ => .nil
  | [], _ :: _, h, _ => by cases h
  | _ :: _, [], h, _ => by cases h
  | a :: as, b :: bs, h, f => .cons (f 0 a b rfl rfl) (paired_of (Nat.succ.inj h) fun j x y hx hy => f (j + 1) x y hx hy)
theorem cr_sortedK (hc : X.calm = true) : CallR X (.builtin "sorted") rSortK := by
  intro pins s σ H xs us Q I r h
  obtain ⟨p, a, ks, rfl, hp, ha, h64, up, q⟩ := h
  obtain rfl := Vals.ref1 r
  have view : s.heap.IsItemsView p a := (show ObjOk X.prog X.w H s.heap p (L2.DX.itemsO p a) from I.hok p _ hp).1
  obtain ⟨z, hd, xs', rel, o, es, ep, ho, hx, hdat, _, hes, hn⟩ := dk_of I.hok ha
  have l1 : (ks.map entK).length = xs'.length := Paired.length rel
  rw [List.length_map] at l1
  have l2 : es.size = xs'.length := by rw [← Array.length_toList]; exact SIt.pairs_len hes
  have hh : X.A.handled = none := I.ok.hd hc
  refine DT.sortedI (es := es) (ep := ep) hh view ⟨o, ho, hx, hdat⟩ (by rw [sizeLine_eq]; omega) fun h' tk as hk hlt hl hG => ?_
  have lak : as.length = ks.length := by omega
  have nd : as.Nodup := List.Pairwise.imp (fun h => Nat.ne_of_lt h) hG.rise
  -- the pairs that were made
  have pr : ∀ (j : Nat) (b : Addr), as[j]? = some b → ∃ (e : Int × Addr) (t : Tok), ks[j]? = some e ∧ h'.get? b = some { cls := .type "tuple", data := .seq #[Value.int e.1 t, Value.ref e.2] } := by
    intro j b hj
    obtain ⟨en, he, hg⟩ := hG.pairs j b hj
    rw [← Array.getElem?_toList] at he
    obtain ⟨kv, hkv, k1, k2⟩ := SIt.pairs_get hes j en he
    obtain ⟨e0, he0, r1, r2⟩ := L2.DX.pget rel hkv
    rw [List.getElem?_map] at he0
    obtain ⟨e, hej, rfl⟩ := Option.map_eq_some_iff.mp he0
    have k1' : keyIs kv.1 en.key = true := k1
    rw [← r1] at k1'
    obtain ⟨t, et⟩ : ∃ t, en.key = Value.int e.1 t := by
      rcases keyIs_shape k1' with ⟨i, t, e1, e2⟩ | ⟨x, t, e1, e2⟩
      · cases e1
        exact ⟨t, e2⟩
      · cases e1
    have ev : en.val = Value.ref e.2 := k2.trans (show kv.2 = Value.ref e.2 from r2)
    exact ⟨e, t, hej, by rw [hg, et, ev]⟩
  -- the heap of the sort
  have hob : (h'.push { cls := .type "list", data := .seq (as.map Value.ref).toArray }).get? h'.objs.size = some (seqObj "list" (as.map Value.ref).toArray 0) := Heap.get?_push_size _ rfl
  have kb : ∀ b o, s.heap.get? b = some o → (h'.push { cls := .type "list", data := .seq (as.map Value.ref).toArray }).get? b = some o := fun b o e => Heap.get?_push_of_some _ (hk b o e)
  have ne0 : ∀ b o, h'.get? b = some o → b ≠ h'.objs.size := fun b o e => Nat.ne_of_lt (Heap.lt_size e)
  generalize hh2 : h'.push { cls := .type "list", data := .seq (as.map Value.ref).toArray } = h2 at hob kb ⊢
  have ka : ∀ b o, h'.get? b = some o → h2.get? b = some o := fun b o e => by rw [← hh2]; exact Heap.get?_push_of_some _ e
  have pin : ∀ (j : Nat) (b : Addr), as[j]? = some b → ∃ e : Int × Addr, ks[j]? = some e ∧ SIt.PairK (TS.midHeap h2 h'.objs.size (as.map Value.ref)) (.ref b) e.1 e.2 := by
    intro j b hj
    obtain ⟨e, t, he, hg⟩ := pr j b hj
    exact ⟨e, he, b, t, rfl, ⟨_, TS.midHeap_old (ne0 _ _ hg) (ka _ _ hg), rfl, 0, rfl⟩⟩
  have tx : ∀ (j : Nat) (b : Addr) (e : Int × Addr), as[j]? = some b → ks[j]? = some e → SIt.keyI (TS.midHeap h2 h'.objs.size (as.map Value.ref)) (.ref b) = e.1 := by
    intro j b e hj he
    obtain ⟨e', he', hp'⟩ := pin j b hj
    have ee : e' = e := Option.some.inj (he'.symm.trans he)
    rw [← ee]
    exact hp'.key
  have at_ : ∀ v ∈ as.map Value.ref, ∃ (j : Nat) (b : Addr) (e : Int × Addr), v = .ref b ∧ as[j]? = some b ∧ ks[j]? = some e := by
    intro v hv'
    obtain ⟨b, hb, rfl⟩ := List.mem_map.mp hv'
    obtain ⟨j, hj⟩ := List.mem_iff_getElem?.mp hb
    obtain ⟨e, _, he, _⟩ := pr j b hj
    exact ⟨j, b, e, rfl, hj, he⟩
  have inj : ∀ (i j : Nat) (e f : Int × Addr), ks[i]? = some e → ks[j]? = some f → e.1 = f.1 → i = j := by
    intro i j e f hi hj ef
    have ndk : (ks.map (·.1)).Nodup := List.Pairwise.imp (fun h => by omega) up
    have hi' : i < (ks.map (·.1)).length := by rw [List.length_map]; exact (List.getElem?_eq_some_iff.mp hi).1
    refine (List.getElem?_inj hi' ndk).mp ?_
    rw [List.getElem?_map, List.getElem?_map, hi, hj]
    exact congrArg some ef
  refine wpAny_call_entry PyProof.Rows.slot_list_sort ⟨_, hob, rfl⟩ PyProof.Rows.entry_list_sort
    (SK.plain_sort (s := { s with heap := h2, toks := tk }) (r := fun v => SIt.keyI (TS.midHeap h2 h'.objs.size (as.map Value.ref)) v) hob (by rw [List.length_map]; omega) (fun h2' Qk hQk => ?_) fun ps out o1 o2 o3 => ⟨.none, rfl, ?_⟩) (PyProof.Rows.args_list_sort _)
  · refine SIt.kind_k (s := { s with heap := TS.midHeap h2 h'.objs.size (as.map Value.ref), toks := tk }) h2' (fun v hv' => ?_) (fun v hv' u hu' ek => ?_) Qk hQk
    · obtain ⟨j, b, e, rfl, hj, he⟩ := at_ v hv'
      obtain ⟨e', _, hp'⟩ := pin j b hj
      exact ⟨e'.1, e'.2, hp'⟩
    · obtain ⟨j, b, e, rfl, hj, he⟩ := at_ v hv'
      obtain ⟨j2, b2, e2, rfl, hj2, he2⟩ := at_ u hu'
      have ek' : SIt.keyI (TS.midHeap h2 h'.objs.size (as.map Value.ref)) (.ref b) = SIt.keyI (TS.midHeap h2 h'.objs.size (as.map Value.ref)) (.ref b2) := ek
      rw [tx j b e hj he, tx j2 b2 e2 hj2 he2] at ek'
      have ij := inj j j2 e e2 he he2 ek'
      subst ij
      rw [hj] at hj2
      rw [Option.some.inj hj2]
  · show EP X pins σ Q (.ref h'.objs.size) { s with heap := sortedHeap h2 h'.objs.size (as.map Value.ref) out, toks := tk }
    obtain ⟨zs, pz, ez⟩ := perm_lift (fun z : Addr × Int × Addr => (Value.ref z.1, Value.ref z.1)) o2 (as.zip ks) (L2.DX.zip_self Value.ref as ks lak)
    have idx : ∀ z ∈ as.zip ks, ∃ j : Nat, as[j]? = some z.1 ∧ ks[j]? = some z.2 := by
      intro z' hz'
      obtain ⟨j, hj⟩ := List.mem_iff_getElem?.mp hz'
      exact ⟨j, List.getElem?_zip_eq_some.mp hj⟩
    have m2 : (as.zip ks).map (·.2) = ks := List.map_snd_zip (by rw [lak]; exact Nat.le_refl _)
    have m1 : (as.zip ks).map (·.1) = as := List.map_fst_zip (by rw [lak]; exact Nat.le_refl _)
    have hsort : zs.Pairwise (fun e f => e.2.1 ≤ f.2.1) := by
      rw [← ez, List.pairwise_map] at o3
      refine List.Pairwise.imp_of_mem (fun {x y} hx hy h => ?_) o3
      obtain ⟨j, j1, j2⟩ := idx x (pz.mem_iff.mp hx)
      obtain ⟨i, i1, i2⟩ := idx y (pz.mem_iff.mp hy)
      have h' : SIt.keyI (TS.midHeap h2 h'.objs.size (as.map Value.ref)) (.ref x.1) ≤ SIt.keyI (TS.midHeap h2 h'.objs.size (as.map Value.ref)) (.ref y.1) := h
      rw [tx j _ _ j1 j2, tx i _ _ i1 i2] at h'
      exact h'
    have hrise : (as.zip ks).Pairwise (fun e f => e.2.1 < f.2.1) := by
      have e : ((as.zip ks).map (fun z => z.2.1)).Pairwise (· < ·) := by
        rw [show (as.zip ks).map (fun z => z.2.1) = ((as.zip ks).map (·.2)).map (·.1) by rw [List.map_map]; rfl, m2]
        exact up
      exact List.pairwise_map.mp e
    have ezs : zs = as.zip ks := SIt.perm_rise (f := fun z : Addr × Int × Addr => z.2.1) pz hsort hrise
    subst ezs
    have hout : out.toList = as.map Value.ref := by
      rw [o1, ← ez, List.map_map]
      show (as.zip ks).map (fun z => Value.ref z.1) = as.map Value.ref
      rw [show (as.zip ks).map (fun z => Value.ref z.1) = ((as.zip ks).map (·.1)).map Value.ref by rw [List.map_map]; rfl, m1]
    -- behind the sort
    have kF : ∀ b o, b ≠ h'.objs.size → h2.get? b = some o → (sortedHeap h2 h'.objs.size (as.map Value.ref) out).get? b = some o := fun b o hb e => (PyProof.Rows.sortedHeap_old hb (Heap.lt_size e)).trans e
    have kS : ∀ b o, s.heap.get? b = some o → (sortedHeap h2 h'.objs.size (as.map Value.ref) out).get? b = some o := fun b o e => kF b o (ne0 _ _ (hk b o e)) (kb b o e)
    obtain ⟨eF, heF⟩ := PyProof.Rows.sortedHeap_at (vs := as.map Value.ref) (out := out) hob
    have I1 : Inv X pins σ H { s with heap := sortedHeap h2 h'.objs.size (as.map Value.ref) out, toks := tk } := I.kept (t' := tk) kS
    have hn0 : H h'.objs.size = none := I.hok.fresh (Nat.le_of_lt hlt)
    have hlen : (as.map V.ref).length ≤ sizeLine := by
      rw [List.length_map, sizeLine_eq]
      omega
    have rv : Vals (as.map V.ref) out.toList := by
      rw [hout]
      exact LiI.vals_refs as
    have I2 : Inv X pins σ (upd H h'.objs.size (.lst (as.map V.ref))) { s with heap := sortedHeap h2 h'.objs.size (as.map Value.ref) out, toks := tk } :=
      I1.take (h' := sortedHeap h2 h'.objs.size (as.map Value.ref) out) (t' := tk) (fun b ob _ e => e) (I.fpOk (Nat.le_of_lt hlt) hn0) ⟨hlen, out.toList, eF, rv, heF⟩
    obtain ⟨H2, I3, g, qt⟩ := L2.DX.takeT (P := fun b vs => ∃ (j : Nat) (e : Int × Addr), as[j]? = some b ∧ ks[j]? = some e ∧ vs = [.int e.1, .ref e.2]) I as _ I2 nd fun b hb => by
      obtain ⟨j, hj⟩ := List.mem_iff_getElem?.mp hb
      obtain ⟨e, t, he, hg⟩ := pr j b hj
      have hbl : s.heap.objs.size ≤ b := Nat.le_of_lt (hG.above b hb)
      refine ⟨hbl, ?_, [.int e.1, .ref e.2], ⟨j, e, hj, he, rfl⟩, fun H3 => ⟨(by rw [sizeLine_eq]; show 2 ≤ 16777216; omega), [Value.int e.1 t, Value.ref e.2], .cons ⟨t, rfl⟩ (.cons rfl .nil), ⟨_, kF _ _ (ne0 _ _ hg) (ka _ _ hg), rfl, 0, rfl⟩⟩⟩
      rw [upd_ne (ne0 _ _ hg)]
      exact I.hok.fresh hbl
    have gr : ∀ b o, H b = some o → H2 b = some o := fun b o e => g b o (by rw [upd_ne (ne_of_none e hn0)]; exact e)
    refine ⟨.ref h'.objs.size, H2, I3, rfl, q H2 h'.objs.size as gr hn0 (g _ _ upd_same) (paired_of lak fun j b e hj he => ?_)⟩
    obtain ⟨vs, ⟨i, e', i1, i2, ev⟩, hH⟩ := qt b (List.mem_of_getElem? hj)
    have eij : i = j := (List.getElem?_inj (List.getElem?_eq_some_iff.mp i1).1 nd).mp (i1.trans hj.symm)
    subst eij
    have ee : e' = e := Option.some.inj (i2.symm.trans he)
    rw [hH, ev, ee]
end

/-! ### max(xs, default=d), xs a list of ints -/
section
open PySem.Spec PyProof.Rows
variable {prog : Program} {w : World} {A : Around} {E : Value → Shared → Prop} {s : Shared} {l : Addr}
theorem old_of_push {ob : Obj} {g : Heap} (hk : ∀ b o, b ∉ [s.heap.objs.size] → (s.heap.push ob).get? b = some o → g.get? b = some o) {b : Addr} {o : Obj} (e : s.heap.get? b = some o) : g.get? b = some o :=
  hk b o (fun z => Nat.lt_irrefl _ ((List.mem_singleton.mp z) ▸ Heap.lt_size e)) (Heap.get?_push_of_some _ e)
theorem max_dflt {its : List Value} {ns : List Int} {d : Value} {Q : Value → Shared → Prop} (hh : A.handled = none) (hl : s.heap.IsList l its.toArray) (hi : IntsAre its ns)
    (h0 : ns = [] → ∀ g tk, (∀ b o, s.heap.get? b = some o → g.get? b = some o) → Q d { s with heap := g, toks := tk })
    (h1 : ∀ g tk M t, (∀ b o, s.heap.get? b = some o → g.get? b = some o) → M ∈ ns → (∀ a, a ∈ ns → a ≤ M) → Q (.int M t) { s with heap := g, toks := tk }) :
    wpAny (model prog w) A (call (.builtin "max") [.ref l] [(Str.ofString "default", d)]) Q E s := by
  obtain ⟨xs, e⟩ := hi.allInts.items
  have hn : numsOf (intItems xs).toList = ns := by
    rw [← e]
    exact hi.numsOf
  rw [nums_intItems] at hn
  subst hn
  rw [e] at hl
  refine PySem.call_max_walkD (iter_any hl fun s2 e2 st hne => ?_)
  subst e2
  have hlt : l < s.heap.objs.size := by
    obtain ⟨_, q, _⟩ := hl
    exact Heap.lt_size q
  have hz : (intItems xs).size = xs.size := by simp [intItems]
  refine ⟨_, _, _, _, _, _, _, ⟨#[], {}⟩, fun i j => decide (numAt xs i > numAt xs j), rfl, (Walks.list (A := A.in1) hh _ l hne (intItems xs)).toS, st, fun b hb => ?_, fun b o q => by simp [Heap.get?] at q, fun b o q => by simp [Heap.get?] at q, fun hn s' mv => ?_, fun hn => ⟨fun i j vi vj s0 Q' E' _ pi pj q => ?_, fun v s' pv mv => ?_⟩⟩
  · rw [Heap.size_push]
    rcases List.mem_cons.mp hb with rfl | hb
    · exact Nat.lt_succ_self _
    · rcases List.mem_cons.mp hb with rfl | hb
      · exact Nat.lt_succ_of_lt hlt
      · cases hb
  · have hx : xs.toList.map (·.1) = [] := by
      rw [hz] at hn
      rw [List.map_eq_nil_iff, ← List.length_eq_zero_iff, Array.length_toList]
      exact hn
    obtain ⟨hp, hg, hd, ht, ho⟩ := s'
    obtain ⟨m1, m2, m3, m4, m5⟩ := mv
    simp only at m2 m3 m4
    subst m2 m3 m4
    exact h0 hx hp ht fun b o q => old_of_push m1 q
  · exact CmpOf.ints_gt (numAt xs) (fun _ _ => intItems_at) i j vi vj s0 Q' E' pi pj q
  · obtain ⟨t, rfl⟩ := intItems_at pv
    rw [hz] at hn
    obtain ⟨a1, a2⟩ := argBest_gt (numAt xs) (xs.size - 1)
    obtain ⟨hp, hg, hd, ht, ho⟩ := s'
    obtain ⟨m1, m2, m3, m4, m5⟩ := mv
    simp only at m2 m3 m4
    subst m2 m3 m4
    rw [hz]
    refine h1 hp ht _ t (fun b o q => old_of_push m1 q) ?_ fun a ha => ?_
    · rw [numAt_eq]
      exact PySem.getD_mem (by rw [List.length_map, Array.length_toList]; omega)
    · obtain ⟨j, hj, rfl⟩ := mem_getD ha
      rw [List.length_map, Array.length_toList] at hj
      rw [← numAt_eq]
      exact a2 j (by omega)
end
def rMaxDf (K : PySem.W.Frag) : List V → List V → Hp → VK → Prop := fun vs zs H Q => ∃ (a : Addr) (ns : List Int) (d : V), vs = [.ref a] ∧ zs = [d] ∧ SqL K H a (ns.map V.int) ∧ (ns = [] → Q d H) ∧ ∀ m, m ∈ ns → (∀ y, y ∈ ns → y ≤ m) → Q (.int m) H
theorem cr_maxDf {X : Cx} (hc : X.calm = true) : CallRK X (.builtin "max") ["default"] (rMaxDf X.K) := by
  intro pins s σ H vs zs us ws Q I r1 r2 h
  obtain ⟨a, ns, d, rfl, rfl, hs, q0, q1⟩ := h
  obtain ⟨its, rv, hl, _⟩ := I.list hs
  rw [Vals.ref1 r1]
  cases r2 with
  | cons rd rn =>
    cases rn
    exact max_dflt (I.ok.hd hc) hl.isList rv.ints (fun e g tk hk => ⟨d, H, I.kept hk, rd, q0 e⟩) fun g tk m t hk h1 h2 => ⟨.int _, H, I.kept hk, ⟨_, rfl⟩, q1 m h1 h2⟩

/-! ### a road that is being folded, as data -/
inductive Ev where
  | bare (m e : Int)
  | fold (m e lo st f : Int)
structure FS where
  e : Int
  S : StL
  L : List Ev
def evV : Ev → List V
  | .bare m e => [.str "bare", .int m, .int e]
  | .fold m e lo st f => [.str "fold", .int m, .int e, .int lo, .int st, .int f]
inductive Mo where
  | idle (i : Int)
  | halve (i : Int)
  | merge (i j : Int)
  | lead (j d i : Int)
  | fold (i m : Int)
  | bare (m : Int)
/-- a mating below e, told with its lesser stretch first -/
structure Rok (e : Int) (x : M4) : Prop where
  o0 : 0 ≤ x.1
  op : x.1 ≤ x.2.1
  m1 : 1 ≤ x.2.2.1
  pe : x.2.1 + x.2.2.1 ≤ e
  f01 : x.2.2.2 = 0 ∨ x.2.2.2 = 1
structure WF (X : FS) : Prop where
  e0 : 0 ≤ X.e
  e1 : X.e ≤ 4000000000000000000
  r : ∀ s ∈ X.S, Rok X.e s.2
  up : (X.S.map (·.1)).Pairwise (· < ·)
  len : X.S.length ≤ 60
theorem sget_in : ∀ {S : StL} {i : Int} {x : M4}, sget S i = some x → (i, x) ∈ S
  | s :: r, i, x, h => by
    have h' : (if s.1 = i then some s.2 else sget r i) = some x := h
    by_cases e : s.1 = i
    · rw [if_pos e] at h'
      cases h'
      rw [← e]
      exact List.mem_cons_self
    · rw [if_neg e] at h'
      exact List.mem_cons_of_mem _ (sget_in h')
theorem WF.at {X : FS} (h : WF X) {i : Int} {x : M4} (e : sget X.S i = some x) : Rok X.e x := h.r _ (sget_in e)
theorem sput_mem {S : StL} {i : Int} {x : M4} {s : Int × M4} (h : s ∈ sput S i x) : (s.1 = i ∧ s.2 = x) ∨ s ∈ S ∧ s.1 ≠ i := by
  obtain ⟨t, ht, e⟩ := List.mem_map.mp h
  by_cases z : t.1 = i
  · rw [if_pos z] at e
    rw [← e]
    exact .inl ⟨z, rfl⟩
  · rw [if_neg z] at e
    rw [← e]
    exact .inr ⟨ht, z⟩
theorem sdrop_mem {S : StL} {i : Int} {s : Int × M4} (h : s ∈ sdrop S i) : s ∈ S ∧ s.1 ≠ i := by
  obtain ⟨h1, h2⟩ := List.mem_filter.mp h
  exact ⟨h1, of_decide_eq_true h2⟩
theorem fold_max_ge (l : List Int) : ∀ a : Int, a ≤ l.foldl max a ∧ ∀ y ∈ l, y ≤ l.foldl max a := by
  induction l with
  | nil => exact fun a => ⟨Int.le_refl _, fun y h => by cases h⟩
  | cons z r ih =>
    intro a
    obtain ⟨h1, h2⟩ := ih (max a z)
    refine ⟨by show a ≤ r.foldl max (max a z); omega, fun y hy => ?_⟩
    show y ≤ r.foldl max (max a z)
    rcases List.mem_cons.mp hy with rfl | hy
    · omega
    · exact h2 y hy
theorem fold_max_in (l : List Int) : ∀ a : Int, l.foldl max a = a ∨ l.foldl max a ∈ l := by
  induction l with
  | nil => exact fun a => .inl rfl
  | cons z r ih =>
    intro a
    show r.foldl max (max a z) = a ∨ r.foldl max (max a z) ∈ z :: r
    rcases ih (max a z) with h | h
    · rw [h]
      by_cases q : a < z
      · exact .inr (by rw [show max a z = z by omega]; exact List.mem_cons_self)
      · exact .inl (by omega)
    · exact .inr (List.mem_cons_of_mem _ h)
/-- the greatest of the numbers, and 0 -/
theorem max_is {l : List Int} {M : Int} (h0 : 0 ≤ M) (h1 : M = 0 ∨ M ∈ l) (h2 : ∀ y ∈ l, y ≤ M) : M = l.foldl max 0 := by
  obtain ⟨g1, g2⟩ := fold_max_ge l 0
  have a : M ≤ l.foldl max 0 := by
    rcases h1 with h | h
    · omega
    · exact g2 M h
  have b : l.foldl max 0 ≤ M := by
    rcases fold_max_in l 0 with h | h
    · omega
    · exact h2 _ h
  omega
theorem WF.drop {X : FS} (h : WF X) (i : Int) : WF ⟨X.e, sdrop X.S i, X.L⟩ := ⟨h.e0, h.e1, fun s hs => h.r s (sdrop_mem hs).1, sdrop_keys h.up, Nat.le_trans (sdrop_length _ _) h.len⟩
theorem WF.put {X : FS} (h : WF X) {i : Int} {y : M4} (hy : Rok X.e y) : WF ⟨X.e, sput X.S i y, X.L⟩ := by
  refine ⟨h.e0, h.e1, fun s hs => ?_, by rw [sput_keys]; exact h.up, by rw [sput_length]; exact h.len⟩
  rcases sput_mem hs with ⟨_, e⟩ | ⟨hs, _⟩
  · rw [e]
    exact hy
  · exact h.r s hs
/-! ### a front, as the data tell it -/
def Past (H : Hp) (ps : List V) (L : List Ev) : Prop := Paired (fun v ev => ∃ t, v = V.ref t ∧ H t = some (.tup (evV ev))) ps L
theorem Past.keep {H H' : Hp} (k : KeepT H H') {ps : List V} {L : List Ev} (h : Past H ps L) : Past H' ps L := Paired.mapP h fun v ev ⟨t, e1, e2⟩ => ⟨t, e1, k _ _ e2⟩
theorem Past.length {H : Hp} : ∀ {ps : List V} {L : List Ev}, Past H ps L → ps.length = L.length
  | _, _, .nil => rfl
  | _, _, .cons _ r => congrArg (· + 1) (Past.length r)
theorem Past.snoc {H : Hp} {v : V} {ev : Ev} (hs : ∃ t, v = V.ref t ∧ H t = some (.tup (evV ev))) : ∀ {ps : List V} {L : List Ev}, Past H ps L → Past H (ps ++ [v]) (L ++ [ev])
  | _, _, .nil => .cons hs .nil
  | _, _, .cons h r => .cons h (Past.snoc hs r)
def FrS (C : Addr) (H : Hp) (a s q : Addr) (X : FS) : Prop := ∃ ps, FrAt C H a s q X.e X.S ps ∧ Past H ps X.L
theorem FrS.same {C : Addr} {H H' : Hp} {a s q : Addr} {X : FS} (h : FrS C H a s q X) (k : Same H H') : FrS C H' a s q X := by
  obtain ⟨ps, h1, h2⟩ := h
  exact ⟨ps, h1.same k, h2.keep fun b xs hb => k _ _ hb⟩
theorem FrAt.edge {C dx : Addr} {H : Hp} {a s q : Addr} {e m : Int} {S : StL} {ps : List V} (h : FrAt C H a s q e S ps) : FrAt C (upd H a (.ins C dx (fr m s q))) a s q m S ps ∧ Off a s q H (upd H a (.ins C dx (fr m s q))) := by
  obtain ⟨⟨dx0, ea⟩, ⟨kvs0, es, st0⟩, eq, up, len⟩ := h
  have n1 : s ≠ a := ne_of es ea (fun z => by cases z)
  have n2 : q ≠ a := ne_of eq ea (fun z => by cases z)
  refine ⟨⟨⟨dx, upd_same⟩, ⟨kvs0, by rw [upd_ne n1]; exact es, st0.keep fun b xs hb => ?_⟩, by rw [upd_ne n2]; exact eq, up, len⟩, fun b o hb h1 _ _ => ?_⟩
  · rw [upd_ne (ne_of hb ea (fun z => by cases z))]
    exact hb
  · rw [upd_ne h1]
    exact hb
theorem FrAt.past {C : Addr} {H : Hp} {a s q : Addr} {e : Int} {S : StL} {ps ps' : List V} (h : FrAt C H a s q e S ps) : FrAt C (upd H q (.lst ps')) a s q e S ps' ∧ Off a s q H (upd H q (.lst ps')) := by
  obtain ⟨⟨dx0, ea⟩, ⟨kvs0, es, st0⟩, eq, up, len⟩ := h
  have n1 : s ≠ q := ne_of es eq (fun z => by cases z)
  have n2 : a ≠ q := ne_of ea eq (fun z => by cases z)
  refine ⟨⟨⟨dx0, by rw [upd_ne n2]; exact ea⟩, ⟨kvs0, by rw [upd_ne n1]; exact es, st0.keep fun b xs hb => ?_⟩, upd_same, up, len⟩, fun b o hb _ _ h3 => ?_⟩
  · rw [upd_ne (ne_of hb eq (fun z => by cases z))]
    exact hb
  · rw [upd_ne h3]
    exact hb
/-! ### leader, idle, bare, reach -/
section
variable {P : Program} {w : World} {K : PySem.W.Frag} {mg : Str → Option Value} {base : Heap} {C : Addr}
end

/-! ### led_back, lead -/
section
variable {P : Program} {w : World} {K : PySem.W.Frag} {mg : Str → Option Value} {base : Heap} {C : Addr}
end

/-! ### clipped -/
abbrev N_clipped : List Str := ["mating", "length", "one", "other", "many", "turned", "low", "end"]
abbrev P_clipped : List Str := ["mating", "length"]
theorem sc_clipped : FnScope N_clipped P_clipped (defScope s_clipped) := ⟨rfl, rfl, rfl, by decide +kernel, rfl, by decide +kernel, by decide +kernel⟩
def clipLo (o p m f n : Int) : Int := if f = 1 then o + (if p + m - n > 0 then p + m - n else 0) else o
def clipHi (o p m f n : Int) : Int := if f = 1 then (if n < o + m then n else o + m) else (if o + n - p < (if n < o + m then n else o + m) then o + n - p else (if n < o + m then n else o + m))
def spClipped : Sp := fun vs H Q _ => ∃ (t : Addr) (o p m f n : Int), vs = [.ref t, .int n] ∧ H t = some (tup4 o p m f) ∧ (f = 0 ∨ f = 1) ∧
  (clipHi o p m f n ≤ clipLo o p m f n → Q .non H) ∧ (clipLo o p m f n < clipHi o p m f n → ∀ r, H r = none → Q (.ref r) (upd H r (tup4 (clipLo o p m f n) (partP o p m f (clipLo o p m f n) (clipHi o p m f n - clipLo o p m f n)) (clipHi o p m f n - clipLo o p m f n) f)))
theorem clip_lo (o p m f n : Int) : o ≤ clipLo o p m f n := by
  unfold clipLo
  split
  · split <;> omega
  · omega
theorem clip_hi (o p m f n : Int) : clipHi o p m f n ≤ o + m := by
  unfold clipHi
  split
  · split <;> omega
  · split
    · split at * <;> omega
    · split <;> omega
section
variable {P : Program} {w : World} {K : PySem.W.Frag} {mg : Str → Option Value} {base : Heap}
theorem ok_clipped {f fH fP : Addr} {fd fdH fdP : FuncData} (D : DefAt K mg "clipped" s_clipped P_clipped f fd) (D_part : DefAt K mg "part" s_part P_part fP fdP) (D_holds : DefAt K mg "holds" s_holds P_holds fH fdH) (B : Bn mg) : FnOk P w K mg base CX0 3 f fd P_clipped spClipped := by
  have G_part : FnOk P w K mg base CX0 2 fP fdP P_part spPart := ok_part D_part D_holds B
  refine D.F.ok sc_clipped (fun vs H Q E h => ?_) (fun cdv A outer s H vs Q E hr h => ?_)
  · obtain ⟨t, o, p, m, f, n, rfl, _⟩ := h
    rfl
  · obtain ⟨t, o, p, m, f, n, rfl, ht, hf, q1, q2⟩ := h
    refine ⟨_, (pss_cons (ps_asg (pv 0) (pg_tup (by rfl) (pgs_cons (pg_name (i := 2) sc_clipped.nd rfl (.inl rfl)) (pgs_cons (pg_name (i := 3) sc_clipped.nd rfl (.inl rfl)) (pgs_cons (pg_name (i := 4) sc_clipped.nd rfl (.inl rfl)) (pgs_cons (pg_name (i := 5) sc_clipped.nd rfl (.inl rfl)) pgs_nil))))))
      (pss_cons (ps_set (i := 6) sc_clipped.nd rfl (.inl rfl) (pv 2))
      (pss_cons (ps_set (i := 7) sc_clipped.nd rfl (.inl rfl) (pe_callB (call_min2 rfl) (by rfl) B.min (by decide +kernel) (pa_cons (pe_op op_add (pv 2) (pv 4)) (pa_cons (pv 1) pa_nil))))
      (C8.pss_cut (ps_if (pt_cmpR op_eq (pv 5) pe_int (nomark _)) (pss_one (ps_set (i := 6) sc_clipped.nd rfl (.inl rfl) (pe_op op_add (pv 2) (pe_callB (call_max2 rfl) (by rfl) B.max (by decide +kernel) (pa_cons pe_int (pa_cons (pe_op op_sub (pe_op op_add (pv 3) (pv 4)) (pv 1)) pa_nil)))))) (pss_one (ps_set (i := 7) sc_clipped.nd rfl (.inl rfl) (pe_callB (call_min2 rfl) (by rfl) B.min (by decide +kernel) (pa_cons (pv 7) (pa_cons (pe_op op_sub (pe_op op_add (pv 2) (pv 1)) (pv 3)) pa_nil))))))
      (pss_cons (ps_if (pt_cmpR op_le (pv 7) (pv 6) (nomark _)) (pss_one (ps_ret pe_non)) pss_nil)
      (pss_one (ps_ret (pe_call G_part (hr.mono (by omega)) (by rfl) D_part.g D_part.F.kp D_part.b .nil pass0 (pa_cons (pv 0) (pa_cons (pv 6) (pa_cons (pe_op op_sub (pv 7) (pv 6)) pa_nil))))))))))), ?_⟩
    refine ⟨.ref t, rfl, t, _, rfl, SqT.of ht, rfl, .int o, _, rfl, .int p, _, rfl, .int m, _, rfl, .int f, _, rfl, rfl, ?_⟩
    refine ⟨.int o, rfl, ?_⟩
    refine ⟨.int o, rfl, .int m, rfl, o, m, rfl, rfl, .int n, rfl, _, n, rfl, ?_⟩
    refine ⟨fun σ H' => σ = [some (.ref t), some (.int n), some (.int o), some (.int p), some (.int m), some (.int f), some (.int (clipLo o p m f n)), some (.int (clipHi o p m f n))] ∧ H' = H, ?_, ?_⟩
    · refine ⟨.int f, rfl, rfl, _, rfl, ?_⟩
      refine ite2 (fun h => ?_) (fun h => ?_)
      · have hf1 : f = 1 := V.int.inj (of_decide_eq_true h)
        refine ⟨.int o, rfl, .int p, rfl, .int m, rfl, p, m, rfl, rfl, .int n, rfl, _, n, rfl, rfl, 0, _, rfl, o, _, rfl, rfl, ?_, rfl⟩
        unfold clipLo clipHi
        rw [if_pos hf1, if_pos hf1]
        rfl
      · have hf1 : ¬ f = 1 := fun z => h (decide_eq_true (congrArg V.int z))
        refine ⟨_, rfl, .int o, rfl, .int n, rfl, o, n, rfl, rfl, .int p, rfl, _, p, rfl, rfl, _, _, rfl, ?_, rfl⟩
        unfold clipLo clipHi
        rw [if_neg hf1, if_neg hf1]
        rfl
    · rintro σ H' ⟨rfl, rfl⟩
      refine ⟨.int (clipHi o p m f n), rfl, .int (clipLo o p m f n), rfl, _, _, rfl, rfl, _, rfl, ?_⟩
      refine ite2 (fun h => ?_) (fun h => ?_)
      · exact q1 (of_decide_eq_true h)
      · have hlt : clipLo o p m f n < clipHi o p m f n := by
          have : ¬ clipHi o p m f n ≤ clipLo o p m f n := fun z => h (decide_eq_true z)
          omega
        have h1 := clip_lo o p m f n
        have h2 := clip_hi o p m f n
        refine ⟨.ref t, rfl, .int (clipLo o p m f n), rfl, .int (clipHi o p m f n), rfl, .int (clipLo o p m f n), rfl, _, _, rfl, rfl, t, o, p, m, f, _, _, rfl, ht, hf, by omega, h1, by omega, fun r hr' => ?_⟩
        exact q2 hlt r hr'
end

/-! ### fold -/
section
variable {P : Program} {w : World} {K : PySem.W.Frag} {mg : Str → Option Value} {base : Heap} {C : Addr}
end

/-! ### made, make -/
section
variable {P : Program} {w : World} {K : PySem.W.Frag} {mg : Str → Option Value} {base : Heap} {C : Addr}
end

theorem Std.dget {H : Hp} {R : Addr} {kvs : List (Key × V)} {S : StL} (h : Std H kvs S) (e : H R = some (.dK kvs)) {k : Int} {x : M4} (hx : sget S k = some x) : ∃ tx, DGet H R (.int k) (some (.ref tx)) ∧ valV kvs (Sum.inl k) = some (.ref tx) ∧ H tx = some (t4 x) := by
  obtain ⟨tx, h1, h2⟩ := (h.get k).2 x hx
  refine ⟨tx, ?_, h1, h2⟩
  rw [← h1]
  exact DGet.k (k := Sum.inl k) e
/-! ### {**d, k: v}: a new dict, with one key more (for the class Road) -/
namespace DStar
open PySem PySem.Spec PyProof.V PyProof.Rows L2
section
variable {prog : Program} {w : World} {K : Type} [DecidableEq K] {knd : KeyKind prog w K} {A : Around} {E : Value → Shared → Prop} {s : Shared}
theorem wpAny_dictPut_pairs {d : Addr} {kvs : List (K × Value)} {k : K} {key v : Value} {Q : Unit → Shared → Prop} (hkey : knd.is k key = true) (hm : s.heap.DictOf knd d kvs)
    (hQ : ∀ h', h'.DictOf knd d (stored kvs k v) → Heap.SameBut d s.heap h' → Q () { s with heap := h' })
    (hsz : kvs.length ≤ sizeLine) :
    wpAny (model prog w) A (dictPut d (knd.hash k) key v) Q E s := by
  obtain ⟨o, es, ep, ho, hc, hd, hk, hp, hn⟩ := hm
  have hes : es.size ≤ sizeLine := by
    have e1 := hp.length
    have e2 : es.toList.length = es.size := by simp
    omega
  unfold dictPut
  refine wpAny_bind (wpAny_dictFind_of hkey ho hd hk ?_)
  have hidx : (es.findIdx? fun e => knd.is k e.key) = kvs.findIdx? fun kv => decide (kv.1 = k) := by
    rw [← hp.findIdx k]; obtain ⟨l⟩ := es; simp
  cases hi : es.findIdx? fun e => knd.is k e.key with
  | some i =>
    refine wpAny_updateDict ho hd (hQ _ ⟨_, _, ep, Heap.get?_update_self _ ho (Obj.isFreed_of_dict (Obj.data_mapDict hd _)), hc.mapDict _, Obj.data_mapDict hd _, hk.modify _ _, ?_, ?_⟩ (Heap.SameBut.update ..))
    · rw [stored, if_pos (any_of_findIdx_some (hidx ▸ hi))]
      have hl : (es.toList.findIdx? fun e => knd.is k e.key) = some i := by rw [← hi]; obtain ⟨l⟩ := es; simp
      have := hp.modify hn hl v
      obtain ⟨l⟩ := es
      simpa using this
    · rw [stored, if_pos (any_of_findIdx_some (hidx ▸ hi)), keys_map_store]; exact hn
  | none =>
    have hnot : k ∉ kvs.map (·.1) := not_mem_of_findIdx_none (hidx ▸ hi)
    have hany : ¬ (kvs.any fun kv => decide (kv.1 = k)) = true := by
      rw [List.any_eq_true]; rintro ⟨kv, hkv, he⟩
      exact hnot (List.mem_map.mpr ⟨kv, hkv, of_decide_eq_true he⟩)
    refine wpAny_updateDictKeys (hz := hes) ho hd (hQ _ ⟨_, _, ep + 1, Heap.get?_update_self _ ho (Obj.isFreed_of_dict (Obj.data_mapDictKeys hd _)), hc.mapDictKeys _, Obj.data_mapDictKeys hd _, hk.push hkey _, ?_, ?_⟩ (Heap.SameBut.update ..))
    · rw [stored, if_neg hany]
      have := hp.append hkey (knd.hash k) v
      obtain ⟨l⟩ := es
      simpa using this
    · rw [stored, if_neg hany, List.map_append, List.nodup_append]
      refine ⟨hn, by simp, ?_⟩
      intro a ha b hb
      simp only [List.map_cons, List.map_nil, List.mem_singleton] at hb
      subst hb
      exact fun e => hnot (e ▸ ha)
theorem wpAny_mergeMapping_dict {d o : Addr} {kvs more : List (K × Value)} {Q : Unit → Shared → Prop} (hdo : d ≠ o) (hoS : (o == sysModules) = false)
    (hno_ref : ∀ k v, knd.is k v = true → ∀ a, v ≠ .ref a)
    (hd : s.heap.DictOf knd d kvs) (ho : s.heap.DictOf knd o more)
    (hQ : ∀ h', h'.DictOf knd d (merged kvs more) → h'.DictOf knd o more → Heap.SameBut d s.heap h' → Q () { s with heap := h' })
    (hsz : kvs.length + more.length ≤ sizeLine) :
    wpAny (model prog w) A (mergeMapping d (.ref o) false) Q E s := by
  obtain ⟨od, esd, epd, hod, hcd, hdd, hkd, hpd, hnd⟩ := id hd
  obtain ⟨oo, eso, epo, hoo, hco, hdo', hko, hpo, hno⟩ := id ho
  unfold mergeMapping
  refine wpAny_bind (wpAny_isInstance ho.typeIs isSubtype_dict_dict ?_)
  rw [if_pos rfl]
  refine wpAny_bind (wpAny_specialOf ho.typeIs PySem.F.slot_dict_iter.lookup ?_)
  have hlen : more.length = eso.size := by rw [← hpo.length]; simp
  have loop : wpAny (model prog w) A (do
      let l ← dictEntries o
      let epoch ← dictEpoch o
      forIn (List.range l.size) PUnit.unit fun i (_ : PUnit) => (do
          let l' ← dictEntries o
          match l'[i]? with
            | some e => do
              holding [e.key, e.val] (dictPut d e.hash e.key e.val)
              let ep' ← dictEpoch o
              if (ep' != epoch) = true then do
                  (unsupported "dict.changed-during-merge" : Sem PUnit)
                  pure (ForInStep.yield PUnit.unit)
                else pure (ForInStep.yield PUnit.unit)
            | _ => do
              (unsupported "dict.changed-during-merge" : Sem PUnit)
              pure (ForInStep.yield PUnit.unit) : Sem (ForInStep PUnit))
      pure ()) Q E s := by
    refine wpAny_bind (wpAny_dictEntries hoo hdo' ?_)
    refine wpAny_bind (wpAny_dictEpoch hoo hdo' ?_)
    refine wpAny_bind ?_
    rw [List.range_eq_range']
    refine wpAny_forIn_list _
      (fun rest _ s' => ∃ h' i, s' = { s with heap := h' } ∧ rest = List.range' i (eso.size - i) ∧ i ≤ eso.size ∧ h'.DictOf knd d (merged kvs (more.take i)) ∧ h'.get? o = some oo ∧ Heap.SameBut d s.heap h')
      _ ?_ ?_ _ _ ⟨s.heap, 0, rfl, by simp, Nat.zero_le _, by simpa [merged] using hd, hoo, Heap.SameBut.refl _ _⟩
    · rintro x rest b s' ⟨h', i, rfl, hr, hi, hd', hoo', hs'⟩
      have hlt : i < eso.size := by
        rcases Nat.lt_or_ge i eso.size with h | h
        · exact h
        · rw [Nat.sub_eq_zero_of_le h] at hr; simp at hr
      obtain ⟨rfl, hrest⟩ : x = i ∧ rest = List.range' (i + 1) (eso.size - (i + 1)) := by
        have e : eso.size - i = (eso.size - (i + 1)) + 1 := by omega
        rw [e, List.range'_succ] at hr
        injection hr with h1 h2
        exact ⟨h1, h2⟩
      refine wpAny_bind (wpAny_dictEntries hoo' hdo' ?_)
      rw [Array.getElem?_eq_getElem hlt]
      obtain ⟨kv, hkv⟩ : ∃ kv, more[x]? = some kv := ⟨more[x]'(by rw [hlen]; exact hlt), List.getElem?_eq_getElem _⟩
      obtain ⟨k, v⟩ := kv
      obtain ⟨hkey, hval⟩ := hpo.get? (e := eso[x]) (by simp [hlt]) hkv
      obtain ⟨k', hkey', hhash⟩ := hko eso[x] (Array.getElem_mem hlt)
      obtain rfl : k' = k := knd.inj _ _ _ hkey' hkey
      show wpAny _ _ (holding [eso[x].key, eso[x].val] (dictPut d eso[x].hash eso[x].key eso[x].val) >>= _) _ _ _
      rw [hhash, hval]
      have hmx : (merged kvs (more.take x)).length ≤ sizeLine := by
        have e1 := merged_length_le kvs (more.take x)
        have e2 : (more.take x).length ≤ more.length := by rw [List.length_take]; omega
        omega
      refine wpAny_bind (wpAny_holding (wpAny_dictPut_pairs (hsz := hmx) hkey hd' fun h'' hd'' hs'' => ?_))
      have hoo'' : h''.get? o = some oo := (hs''.2 o (Ne.symm hdo)).trans hoo'
      refine wpAny_bind (wpAny_dictEpoch hoo'' hdo' ?_)
      rw [if_neg (by simp)]
      exact wpAny_pure ⟨h'', x + 1, rfl, hrest, hlt, by rw [merged_take_succ kvs more x (k', v) hkv]; exact hd'', hoo'', hs'.trans hs''⟩
    · rintro b s' ⟨h', i, rfl, hr, hi, hd', hoo', hs'⟩
      have hin : i = eso.size := by
        rcases Nat.lt_or_ge i eso.size with h | h
        · have e : eso.size - i = (eso.size - (i + 1)) + 1 := by omega
          rw [e, List.range'_succ] at hr; exact nomatch hr
        · exact Nat.le_antisymm hi h
      refine wpAny_pure (hQ h' ?_ ⟨oo, eso, epo, hoo', hco, hdo', hko, hpo, hno⟩ hs')
      rw [hin, ← hlen, List.take_length] at hd'; exact hd'
  simp only [beq_self_eq_true, Bool.false_eq_true, if_false]
  refine wpAny_bind (wpAny_pure ?_)
  dsimp only
  rw [if_neg (by rw [hoS]; exact Bool.false_ne_true)]
  refine wpAny_bind (wpAny_dictEntries hod hdd ?_)
  split
  · refine wpAny_bind (wpAny_dictEntries hoo hdo' ?_)
    refine wpAny_bind ?_
    rw [← Array.forIn_toList]
    refine wpAny_forIn_list _ (fun rest _ s' => s' = s ∧ ∀ e ∈ rest, e ∈ eso.toList) _ ?_ ?_ _ _ ⟨rfl, fun e he => he⟩
    · rintro e rest b s' ⟨rfl, hr⟩
      obtain ⟨k', hk', _⟩ := hko e (by simpa using hr e List.mem_cons_self)
      have nr := hno_ref _ _ hk'
      split
      · rename_i a' ha'
        exact absurd ha' (nr a')
      · exact wpAny_pure ⟨rfl, fun x hx => hr x (List.mem_cons_of_mem _ hx)⟩
    · rintro b s' ⟨rfl, _⟩
      exact loop
  · exact loop
end
/-- {**d, k: v}: D the new dict, B the one of the pair -/
def tDStar (td tk tv : TE) : TE := fun σ H Q => ∀ D, H D = none → td σ (upd H D (.dK [])) fun x H1 => ∃ (S : Addr) (kvs : List (Key × V)), x = .ref S ∧ S ≠ D ∧ H1 S = some (.dK kvs) ∧ H1 D = some (.dK []) ∧ kvs.length < sizeLine ∧
  ∀ B, (upd H1 D (.dK kvs)) B = none → tPairs [(tk, tv)] σ (upd (upd H1 D (.dK kvs)) B (.dK [])) fun ps H3 => ∃ (key : Key) (z : V), ps = [(kV key, z)] ∧ H3 D = some (.dK kvs) ∧ H3 B = some (.dK []) ∧ Q (.ref D) (upd (upd H3 B (.dK [(key, z)])) D (.dK (putK kvs key z)))
theorem pe_dstar {X : Cx} {pos : Pos} {ed ek ev : Expr} {td tk tv : TE} (hd : PE X ed td) (hk : PE X ek tk) (hv : PE X ev tv) : PE X (.Dict [none, some ek] [ed, ev] pos) (tDStar td tk tv) := by
  refine ⟨fun pins s σ H Q I q => ?_⟩
  rw [arm_eval_Dict]
  refine wpAny_bind (wpAny_standAt ?_)
  show wpAny _ _ (dictDisplay [(none, do let x ← eval ed X.env; standAt pos; pure x), (some (eval ek X.env), do let x ← eval ev X.env; standAt pos; pure x)]) _ _ _
  unfold dictDisplay
  dsimp only
  rw [List.forIn_cons]
  dsimp only [List.isEmpty]
  have hn := I.hok.fresh (Nat.le_refl s.heap.objs.size)
  have I1 := I.laid (a := s.heap.objs.size) (o := .dK []) (h' := s.heap.push { cls := .type "dict", data := .dict #[] }) (t' := s.toks) (fun _ _ q => Heap.get?_push_of_some _ q) (Nat.le_refl _) (dk_empty s.heap I.big)
  refine wpAny_bind (wpAny_bind (wpAny_bind ?_))
  rw [if_pos rfl]
  refine wpAny_pure ?_
  dsimp only
  refine wpAny_bind (wpAny_alloc ?_)
  refine wpAny_bind (wpAny_holding ?_)
  refine wpAny_bind (thn (hd.run pins _ σ _ _ I1 (q _ hn)) fun u s1 ⟨x, H1, I1', rx, S, kvs, ex, nSD, eS, eD, hl, q1⟩ => ?_)
  refine wpAny_bind (wpAny_standAt (wpAny_pure ?_))
  subst ex
  obtain rfl : u = Value.ref S := rx
  obtain ⟨z1, hd1, vs1, rel1, dd1⟩ := dk_of I1'.hok eS
  obtain ⟨z0, hd0, vs0, rel0, dd0⟩ := dk_of I1'.hok eD
  cases rel0
  have lvs : vs1.length = kvs.length := rel1.length.symm
  have noref : ∀ (k : Key) (v : Value), (mixKind X.prog X.w).is k v = true → ∀ a, v ≠ .ref a := fun k v h a e => by
    rcases keyIs_shape h with ⟨i, t, _, e'⟩ | ⟨y, t, _, e'⟩ <;> rw [e'] at e <;> cases e
  refine wpAny_bind (wpAny_onRaise (wpAny_tryCatch (wpAny_onRaise (wpAny_holding (wpAny_mergeMapping_dict (knd := mixKind X.prog X.w) (Ne.symm nSD) hd1 noref dd0 dd1 (fun h' dd' ddo hs => ?_) (by rw [List.length_nil, lvs]; omega))))))
  have nd : (vs1.map (·.1)).Nodup := let ⟨_, _, _, _, _, _, _, _, hn⟩ := dd1; hn
  rw [merged_nil_of_nodup vs1 nd] at dd'
  have he1 : ∃ q, h'.get? s.heap.objs.size = some q := let ⟨q, _, _, hq, _⟩ := dd'; ⟨q, hq⟩
  have I2 : Inv X pins σ (upd H1 s.heap.objs.size (.dK kvs)) { s1 with heap := h' } := d_write I1' (by rw [eD]; exact True.intro) hs he1 (dk_new z1 hd0 rel1 dd')
  refine wpAny_pure ?_
  dsimp only
  rw [List.forIn_cons]
  dsimp only
  rw [if_neg (by simp)]
  refine wpAny_bind (wpAny_pure ?_)
  dsimp only
  rw [List.forIn_nil]
  refine wpAny_pure ?_
  dsimp only [List.nil_append]
  rw [if_neg Bool.false_ne_true]
  generalize hs2 : ({ s1 with heap := h' } : Shared) = s2 at *
  have eh : s2.heap = h' := by rw [← hs2]
  rw [← eh] at dd' ddo hs he1
  have hnB := I2.hok.fresh (Nat.le_refl s2.heap.objs.size)
  have I3 := I2.laid (a := s2.heap.objs.size) (o := .dK []) (h' := s2.heap.push { cls := .type "dict", data := .dict #[] }) (t' := s2.toks) (fun _ _ q => Heap.get?_push_of_some _ q) (Nat.le_refl _) (dk_empty s2.heap I2.big)
  refine wpAny_bind (wpAny_bind (wpAny_holding (wpAny_subDict (knd := mixKind X.prog X.w) (by show 1 ≤ 15; decide) (thn ((pps_cons hk hv pps_nil).run pins _ σ _ _ I3 (q1 _ hnB)) fun ws s3 ⟨ps, H3, I4, rel3, key, z, eps, eD3, eB3, q3⟩ => ?_))))
  subst eps
  obtain ⟨rs, c, rk⟩ := carries_of (P := X.prog) (w := X.w) (kvs := [(key, z)]) rel3
  obtain ⟨zB, hdB, vB, rB, ddB⟩ := dk_of I4.hok eB3
  cases rB
  refine ⟨rs, c, ddB, fun h4 dd4 hs4 => ?_⟩
  have mer : KV [(key, z)] (merged [] rs) := rk.merge (kvs := []) .nil
  have zB1 : ([(key, z)] : List (Key × V)).length ≤ sizeLine := by show 1 ≤ sizeLine; decide
  have he4 : ∃ q, h4.get? s2.heap.objs.size = some q := let ⟨q, _, _, hq, _⟩ := dd4; ⟨q, hq⟩
  have I5 : Inv X pins σ (upd H3 s2.heap.objs.size (.dK [(key, z)])) { s3 with heap := h4, toks := s3.toks + ws.length } := d_write I4 (by rw [eB3]; exact True.intro) hs4 he4 (dk_new zB1 hdB mer dd4)
  have nBD : s2.heap.objs.size ≠ s.heap.objs.size := fun e => by
    rw [e] at eB3
    rw [eD3] at eB3
    have e1 : kvs = [] := HO.dK.inj (Option.some.inj eB3)
    rw [e] at hnB
    rw [upd_same] at hnB
    cases hnB
  have eD5 : (upd H3 s2.heap.objs.size (.dK [(key, z)])) s.heap.objs.size = some (.dK kvs) := by
    rw [upd_ne nBD.symm]
    exact eD3
  have eB5 : (upd H3 s2.heap.objs.size (.dK [(key, z)])) s2.heap.objs.size = some (.dK [(key, z)]) := upd_same
  generalize hs5 : ({ s3 with heap := h4, toks := s3.toks + ws.length } : Shared) = s5 at *
  obtain ⟨z5, hd5, vs5, rel5, dd5⟩ := dk_of I5.hok eD5
  obtain ⟨z6, hd6, vs6, rel6, dd6⟩ := dk_of I5.hok eB5
  have l5 : vs5.length = kvs.length := rel5.length.symm
  have l6 : vs6.length = 1 := rel6.length.symm
  refine wpAny_bind (wpAny_onRaise (wpAny_holding (wpAny_mergeMapping_dict (knd := mixKind X.prog X.w) nBD.symm hd6 noref dd5 dd6 (fun h7 dd7 _ hs7 => ?_) (by omega))))
  have he7 : ∃ q, h7.get? s.heap.objs.size = some q := let ⟨q, _, _, hq, _⟩ := dd7; ⟨q, hq⟩
  have l7 : (putK kvs key z).length ≤ sizeLine := by
    have := length_putK kvs key z
    omega
  have I7 : Inv X pins σ (upd (upd H3 s2.heap.objs.size (.dK [(key, z)])) s.heap.objs.size (.dK (putK kvs key z))) { s5 with heap := h7 } := d_write I5 (by rw [eD5]; exact True.intro) hs7 he7 (dk_new l7 hd5 (rel6.merge rel5) dd7)
  exact wpAny_pure (wpAny_pure ⟨.ref s.heap.objs.size, _, I7, rfl, q3⟩)
end DStar

/-! ### dicts of matings compared (for the class Road) -/
def t4P (x : M4) : PyData := .tuple [.int x.1, .int x.2.1, .int x.2.2.1, .int x.2.2.2]
def sameS (S1 S2 : StL) : Bool := S1.all fun t => decide (sget S2 t.1 = some t.2)
theorem t4P_dp {K : PySem.W.Frag} {H : Hp} {t : Addr} {x : M4} (h : H t = some (t4 x)) : Dp K H (.ref t) (t4P x) := .tup (SqT.of h) (.cons (.int _) (.cons (.int _) (.cons (.int _) (.cons (.int _) .nil))))
theorem t4P_eqv (x y : M4) : PyData.eqv (t4P x) (t4P y) = decide (x = y) := by
  obtain ⟨a, b, c, d⟩ := x
  obtain ⟨a', b', c', d'⟩ := y
  unfold t4P
  rw [PyData.eqv]
  simp [PyData.eqvAll, PyData.eqv]
  rfl
section
variable {X : Cx} {pins : List (Addr × Obj)} {σ : St} {H : Hp} {s : Shared}
theorem std_hits (I : Inv X pins σ H s) {S2 : StL} {kb : List (Key × V)} {vb : List (Key × Value)} (rb : KV kb vb) (tb : Std H kb S2) (hu : X.A.units + 64 < cLine) :
    ∀ {ka : List (Key × V)} {va : List (Key × Value)}, KV ka va → ∀ {S1 : StL}, Std H ka S1 → PySem.W.KeqHits X.A.in1 s vb va (sameS S1 S2) := by
  intro ka va ra
  unfold KV at ra
  induction ra with
  | nil =>
    intro S1 h
    cases h
    exact .nil
  | @cons p q ps qs h t ih =>
    intro S1 hs
    cases hs with
    | @cons _ y _ r hy hr =>
    obtain ⟨h1, h2⟩ := h
    obtain ⟨k, v⟩ := q
    obtain ⟨e1, t0, e2, e3⟩ := hy
    have ek : k = Sum.inl y.1 := by rw [← e1]; exact h1.symm
    subst ek
    have e2' : v = Value.ref t0 := by
      have := h2
      rw [e2] at this
      exact this
    subst e2'
    obtain ⟨g1, g2⟩ := tb.get y.1
    show PySem.W.KeqHits X.A.in1 s vb ((Sum.inl y.1, Value.ref t0) :: qs) (decide (sget S2 y.1 = some y.2) && sameS r S2)
    cases hg : sget S2 y.1 with
    | none =>
      rw [decide_eq_false (fun z => by cases z), Bool.false_and]
      have rr : RelO none (valueAt vb (Sum.inl y.1)) := by rw [← g1 hg]; exact rb.val _
      exact .miss rr.none_of
    | some z =>
      obtain ⟨t1, f1, f2⟩ := g2 z hg
      have rr : RelO (some (.ref t1)) (valueAt vb (Sum.inl y.1)) := by rw [← f1]; exact rb.val _
      obtain ⟨u, hu1, hu2⟩ := rr.some_of
      obtain rfl : u = Value.ref t1 := hu2
      obtain ⟨as, r1⟩ := Dp.reads I _ _ (Value.ref t0) (t4P_dp (K := X.K) e3) rfl
      obtain ⟨bs, r2⟩ := Dp.reads I _ _ (Value.ref t1) (t4P_dp (K := X.K) f2) rfl
      have hq := SeqAt.eqAt_reads (t4P y.2) (t4P z) X.A.in1 s _ _ as bs r1 r2 rfl rfl (by
        have e1 : (t4P y.2).depth = 1 := rfl
        have e2 : (t4P z).depth = 1 := rfl
        rw [e1, e2, Around.in1_units]
        omega)
      have ee : decide (some z = some y.2) = PyData.eqv (t4P y.2) (t4P z) := by
        rw [t4P_eqv]
        by_cases w : y.2 = z
        · rw [w, decide_eq_true rfl, decide_eq_true rfl]
        · rw [decide_eq_false w, decide_eq_false (fun q => w (Option.some.inj q).symm)]
      rw [ee]
      exact .hit hu1 hq (ih hr)
end
section
variable {X : Cx}
def rNeS : R2 := fun x y H Q => ∃ a b ka kb S1 S2, x = .ref a ∧ y = .ref b ∧ H a = some (.dK ka) ∧ H b = some (.dK kb) ∧ Std H ka S1 ∧ Std H kb S2 ∧ Q (.bl (!(decide (S1.length = S2.length) && sameS S1 S2))) H
def rEqS : R2 := fun x y H Q => ∃ a b ka kb S1 S2, x = .ref a ∧ y = .ref b ∧ H a = some (.dK ka) ∧ H b = some (.dK kb) ∧ Std H ka S1 ∧ Std H kb S2 ∧ Q (.bl (decide (S1.length = S2.length) && sameS S1 S2)) H
theorem op_neS (hu : X.A.units + 64 < cLine) : OpR X (compareOp .NotEq) rNeS := by
  intro pins s σ H x y v u Q I rx ry h
  obtain ⟨a, b, ka, kb, S1, S2, rfl, rfl, ea, eb, sa, sb, q⟩ := h
  obtain rfl : v = Value.ref a := rx
  obtain rfl : u = Value.ref b := ry
  obtain ⟨_, ya, va, ra, da⟩ := (show ObjOk X.prog X.w H s.heap a (.dK ka) from I.hok a _ ea)
  obtain ⟨_, yb, vb, rb, db⟩ := (show ObjOk X.prog X.w H s.heap b (.dK kb) from I.hok b _ eb)
  have l1 : va.length = S1.length := by rw [← ra.length]; exact sa.length
  have l2 : vb.length = S2.length := by rw [← rb.length]; exact sb.length
  exact PySem.W.keq_ne (knd := mixKind X.prog X.w) (r := sameS S1 S2) ya yb da db (by omega) (fun _ => std_hits I rb sb hu ra sa) (fin_bl I q (by rw [l1, l2]; rfl))
theorem op_eqS (hu : X.A.units + 64 < cLine) : OpR X (compareOp .Eq) rEqS := by
  intro pins s σ H x y v u Q I rx ry h
  obtain ⟨a, b, ka, kb, S1, S2, rfl, rfl, ea, eb, sa, sb, q⟩ := h
  obtain rfl : v = Value.ref a := rx
  obtain rfl : u = Value.ref b := ry
  obtain ⟨_, ya, va, ra, da⟩ := (show ObjOk X.prog X.w H s.heap a (.dK ka) from I.hok a _ ea)
  obtain ⟨_, yb, vb, rb, db⟩ := (show ObjOk X.prog X.w H s.heap b (.dK kb) from I.hok b _ eb)
  have l1 : va.length = S1.length := by rw [← ra.length]; exact sa.length
  have l2 : vb.length = S2.length := by rw [← rb.length]; exact sb.length
  exact PySem.W.keq_eq (knd := mixKind X.prog X.w) (r := sameS S1 S2) ya yb da db (by omega) (fun _ => std_hits I rb sb hu ra sa) (fin_bl I q (by rw [l1, l2]; rfl))
end
theorem sget_rise {S : StL} (up : (S.map (·.1)).Pairwise (· < ·)) : ∀ {s : Int × M4}, s ∈ S → sget S s.1 = some s.2 := by
  induction S with
  | nil => intro s h; cases h
  | cons t r ih =>
    intro s h
    rw [List.map_cons, List.pairwise_cons] at up
    unfold sget
    rcases List.mem_cons.mp h with e | h
    · rw [e, if_pos rfl]
    · have := up.1 s.1 (List.mem_map.mpr ⟨s, h, rfl⟩)
      rw [if_neg (by omega)]
      exact ih up.2 h
theorem sub_rise : ∀ {S2 S1 : StL}, S1.Pairwise (fun a b => a.1 < b.1) → S2.Pairwise (fun a b => a.1 < b.1) → S1 ⊆ S2 → S1.Sublist S2
  | [], [], _, _, _ => .slnil
  | [], a :: r, _, _, h => absurd (h List.mem_cons_self) (List.not_mem_nil)
  | b :: r2, [], _, _, _ => List.nil_sublist _
  | b :: r2, a :: r1, u1, u2, h => by
    rw [List.pairwise_cons] at u1 u2
    by_cases e : a = b
    · subst e
      refine .cons₂ _ (sub_rise u1.2 u2.2 fun t ht => ?_)
      rcases List.mem_cons.mp (h (List.mem_cons_of_mem _ ht)) with z | z
      · have := u1.1 t ht
        rw [z] at this
        omega
      · exact z
    · have ha : a ∈ r2 := (List.mem_cons.mp (h List.mem_cons_self)).resolve_left e
      refine .cons _ (sub_rise (List.pairwise_cons.mpr u1) u2.2 fun t ht => ?_)
      rcases List.mem_cons.mp (h ht) with z | z
      · exfalso
        have h2 := u2.1 a ha
        rcases List.mem_cons.mp ht with y | y
        · exact e (y.symm.trans z)
        · have h1 := u1.1 t y
          rw [z] at h1
          omega
      · exact z
/-- rows of rising numbers are the same where they tell the same -/
theorem sameS_rise : ∀ {S1 S2 : StL}, (S1.map (·.1)).Pairwise (· < ·) → (S2.map (·.1)).Pairwise (· < ·) → S1.length = S2.length → sameS S1 S2 = true → S1 = S2 := by
  intro S1 S2 u1 u2 hl hs
  have hall : ∀ t ∈ S1, sget S2 t.1 = some t.2 := fun t ht => by
    unfold sameS at hs
    rw [List.all_eq_true] at hs
    exact of_decide_eq_true (hs t ht)
  have sub : S1 ⊆ S2 := fun t ht => by
    have := sget_in (hall t ht)
    exact this
  have rise : ∀ {S : StL}, (S.map (·.1)).Pairwise (· < ·) → S.Pairwise (fun a b => a.1 < b.1) := fun h => List.pairwise_map.mp h
  exact (sub_rise (rise u1) (rise u2) sub).eq_of_length hl
theorem sameS_self {S : StL} (u : (S.map (·.1)).Pairwise (· < ·)) : sameS S S = true := by
  unfold sameS
  rw [List.all_eq_true]
  intro t ht
  exact decide_eq_true (sget_rise u ht)
section
variable {X : Cx}
/-- len of a dict -/
theorem call_lenDk : CallR X (.builtin "len") (fun xs H Q => ∃ a kvs, xs = [V.ref a] ∧ H a = some (.dK kvs) ∧ Q (.int kvs.length) H) := by
  intro pins s σ H xs us Q I r h
  obtain ⟨a, kvs, rfl, ha, q⟩ := h
  obtain ⟨u, rfl, ru⟩ := vals1 r
  cases ru
  exact d_len I (.inl ha) fun t s' I' => ⟨.int kvs.length, H, I', ⟨t, rfl⟩, q⟩
end

/-! ### what stands beside a list that changes -/
/-! ### _law_mating -/
abbrev N_mating : List Str := ["_law_draw", "_law_length", "_law_many", "_law_room_here"]
abbrev P_mating : List Str := ["_law_draw", "_law_length"]
theorem sc_mating : FnScope N_mating P_mating (defScope s_mating) := ⟨rfl, rfl, rfl, by decide +kernel, rfl, by decide +kernel, by decide +kernel⟩
structure Mat (n o p m f : Int) : Prop where
  m1 : 1 ≤ m
  o0 : 0 ≤ o
  o1 : o + m ≤ n
  p0 : 0 ≤ p
  p1 : p + m ≤ n
  f01 : f = 0 ∨ f = 1
def spMating : Sp := fun vs H Q _ => ∃ (d l : Addr) (n : Int), vs = [.ref d, .int n] ∧ Draw H d l ∧ 1 ≤ n ∧ n < 2 ^ 60 ∧
  ∀ (H' : Hp) (t : Addr) (o p m f : Int), Draw H' d l → Keep d H H' → H' t = some (tup4 o p m f) → Mat n o p m f → Q (.ref t) H'
section
variable {P : Program} {w : World} {K : PySem.W.Frag} {mg : Str → Option Value} {base : Heap}
theorem ok_mating {f fP : Addr} {fd fdP : FuncData} (D : DefAt K mg "_law_mating" s_mating P_mating f fd) (D_pull : DefAt K mg "_law_pull" s_pull P_pull fP fdP) (B : Bn mg) : FnOk P w K mg base CX0 2 f fd P_mating spMating := by
  have G_pull : FnOk P w K mg base CX0 1 fP fdP P_pull spPull := ok_pull D_pull B
  refine D.F.ok sc_mating (fun vs H Q E h => ?_) (fun cdv A outer s H vs Q E hr h => ?_)
  · obtain ⟨d, l, n, rfl, _⟩ := h
    rfl
  · obtain ⟨d, l, n, rfl, hD, n1, n2, q⟩ := h
    refine ⟨_, (pss_cons (ps_set (i := 2) sc_mating.nd rfl (.inl rfl) (pe_op op_add pe_int (pe_call G_pull (hr.mono (by omega)) (by rfl) D_pull.g D_pull.F.kp D_pull.b .nil pass0 (pa_cons (pv 0) (pa_cons (pv 1) pa_nil)))))
      (C8.pss_cut (ps_if (pt_cmpR op_eq (pe_call G_pull (hr.mono (by omega)) (by rfl) D_pull.g D_pull.F.kp D_pull.b .nil pass0 (pa_cons (pv 0) (pa_cons pe_int pa_nil))) pe_int (nomark _)) (pss_one (ps_set (i := 2) sc_mating.nd rfl (.inl rfl) (pe_op op_add pe_int (pe_call G_pull (hr.mono (by omega)) (by rfl) D_pull.g D_pull.F.kp D_pull.b .nil pass0 (pa_cons (pv 0) (pa_cons (pe_callB (call_min2 rfl) (by rfl) B.min (by decide +kernel) (pa_cons (pv 2) (pa_cons pe_int pa_nil))) pa_nil)))))) pss_nil)
      (pss_cons (ps_set (i := 3) sc_mating.nd rfl (.inl rfl) (pe_op op_add (pe_op op_sub (pv 1) (pv 2)) pe_int))
      (pss_one (ps_ret (pe_tup (pa_cons (pe_call G_pull (hr.mono (by omega)) (by rfl) D_pull.g D_pull.F.kp D_pull.b .nil pass0 (pa_cons (pv 0) (pa_cons (pv 3) pa_nil))) (pa_cons (pe_call G_pull (hr.mono (by omega)) (by rfl) D_pull.g D_pull.F.kp D_pull.b .nil pass0 (pa_cons (pv 0) (pa_cons (pv 3) pa_nil))) (pa_cons (pv 2) (pa_cons (pe_call G_pull (hr.mono (by omega)) (by rfl) D_pull.g D_pull.F.kp D_pull.b .nil pass0 (pa_cons (pv 0) (pa_cons pe_int pa_nil))) pa_nil)))))))))), ?_⟩
    refine ⟨.ref d, rfl, .int n, rfl, d, l, n, rfl, hD, n1, by omega, fun a H1 a0 a1 D1 k1 => ?_⟩
    refine ⟨1, a, rfl, rfl, ?_⟩
    refine ⟨fun σ H' => ∃ m : Int, σ = [some (.ref d), some (.int n), some (.int m), none] ∧ Draw H' d l ∧ Keep d H H' ∧ 1 ≤ m ∧ m ≤ n, ?_, ?_⟩
    · refine ⟨.ref d, rfl, d, l, 2, rfl, D1, by decide, by decide, fun b H2 b0 b1 D2 k2 => ?_⟩
      refine ⟨rfl, _, rfl, ?_⟩
      refine ite2 (fun _ => ?_) (fun _ => ?_)
      · refine ⟨.ref d, rfl, .int (1 + a), rfl, 1 + a, 5, rfl, d, l, _, rfl, D2, ?_, ?_, fun c H3 c0 c1 D3 k3 => ?_⟩
        · split <;> omega
        · split <;> omega
        · refine ⟨1, c, rfl, rfl, 1 + c, rfl, D3, (k1.trans k2).trans k3, by omega, ?_⟩
          have c1' : c < (if (5 : Int) < 1 + a then 5 else 1 + a) := c1
          split at c1' <;> omega
      · exact ⟨1 + a, rfl, D2, k1.trans k2, by omega, by omega⟩
    · rintro σ H3 ⟨m, rfl, D3, k3, m1, m2⟩
      refine ⟨.int n, rfl, .int m, rfl, n, m, rfl, rfl, _, 1, rfl, rfl, ?_⟩
      refine ⟨.ref d, rfl, .int (n - m + 1), rfl, d, l, n - m + 1, rfl, D3, by omega, by omega, fun o H4 o0 o1 D4 k4 => ?_⟩
      refine ⟨.ref d, rfl, .int (n - m + 1), rfl, d, l, n - m + 1, rfl, D4, by omega, by omega, fun p H5 p0 p1 D5 k5 => ?_⟩
      refine ⟨.int m, rfl, .ref d, rfl, d, l, 2, rfl, D5, by decide, by decide, fun f H6 f0 f1 D6 k6 => ?_⟩
      refine ⟨by show 4 ≤ sizeLine; decide, fun t nt => ?_⟩
      exact q _ t o p m f (D6.same (same_upd nt)) ((((k3.trans k4).trans k5).trans k6).trans (keepS (same_upd nt))) upd_same ⟨m1, o0, by omega, p0, by omega, by omega⟩
end

/-! ### matings at their addresses (behind 40_mating) -/
theorem Mts.keep {H H' : Hp} (k : KeepT H H') : ∀ {ts : List Addr} {ms : List M4}, Mts H ts ms → Mts H' ts ms
  | _, _, .nil => .nil
  | _, _, .cons h r => .cons (k _ _ h) (Mts.keep k r)
theorem Mts.snoc {H : Hp} {t : Addr} {x : M4} (hs : H t = some (t4 x)) : ∀ {ts : List Addr} {ms : List M4}, Mts H ts ms → Mts H (ts ++ [t]) (ms ++ [x])
  | _, _, .nil => .cons hs .nil
  | _, _, .cons h r => .cons h (Mts.snoc hs r)
theorem Draw.keepT {H H' : Hp} {d l : Addr} (D : Draw H d l) (k : Keep d H H') : KeepT H H' := fun b xs hb => by
  obtain ⟨ns, i, zz, sd, W⟩ := D
  exact k.of hb (ne_of hb W.at_d (fun q => by cases q))

/-! ### o.m(e, .., k = v): a method's keyword-only parameter told -/
def tMethK (C : Addr) (m : Str) (n kn : Nat) (sp : Sp) (gV : List V → List V → List V) (E : XK) (ta : TE) (t tk : TA) : TE := fun σ H Q => ta σ H fun x H1 => ∃ a dx fs, x = .ref a ∧ H1 a = some (.ins C dx fs) ∧ fs.lookup m = none ∧
  t σ H1 fun vs H2 => tk σ H2 fun zs H3 => vs.length = n ∧ zs.length = kn ∧ sp (gV (.ref a :: vs) zs) H3 Q E
section
variable {X : Cx} {CX : CXT} {k n : Nat} {f C : Addr} {fd : FuncData} {ps ks : List Str} {sp : Sp} {E : XK} {m : Str} {p pos apos : Pos} {e o : Expr} {es : List Expr} {kws : List Keyword} {ta : TE} {t tk : TA} {g : List Value → List Value → List Value} {gV : List V → List V → List V}
theorem run_fnKn {pins : List (Addr × Obj)} {σ : St} {H : Hp} {s : Shared} {Q : VK} {us ws : List Value} {vs zs : List V} (F : FnOk X.prog X.w X.K X.mg X.base CX k f fd ps sp) (hr : Room k X.A) (hb : KBn X.K fd ps n ks g gV) (hx : Passes CX X E)
    (I : Inv X pins σ H s) (r : Vals vs us) (rz : Vals zs ws) (l1 : us.length = n) (l2 : ws.length = ks.length) (h : sp (gV vs zs) H Q E) : wpAny (model X.prog X.w) X.A (call (.ref f) us (ks.zip ws)) (EP X pins σ Q) X.xe s := by
  have r2 := hb.rel r rz
  refine wpAny_call (codeAny_mono (F.run X.A X.stack s H ⟨us, ks.zip ws⟩ (g us ws) (gV vs zs) Q E hr I.env0 (hb.to s us ws I.kIn l1 l2) r2 h) fun r s' hq => ?_)
  cases r with
  | error e => exact hx pins σ H s e s' I hq
  | ok fl =>
    cases fl with
    | ret u => exact I.after hq
    | next => exact False.elim hq
    | brk => exact False.elim hq
    | cont => exact False.elim hq
theorem pe_methK {pl : Sem Bool} (he : PE X o ta) (c : Cls X.K C) (hm : Meth X.K C m f) (F : FnOk X.prog X.w X.K X.mg X.base CX k f fd ps sp) (hr : Room k X.A) (hb : KBn X.K fd ps (n + 1) ks g gV) (hx : Passes CX X E) (ha : PA X (e :: es) t) (hkw : PK X kws tk)
    (hall : (backToKw pos (keywordEach kws X.env)).all (·.1.isSome) = true := by rfl) (hks : (backToKw pos (keywordEach kws X.env)).filterMap (·.1) = ks := by rfl)
    (hst : starEach (e :: es) X.env = (false, eval e X.env) :: starEach es X.env := by rfl) (hpl : ((backTo pos (starEach (e :: es) X.env)).any (·.1) || (backToKw pos (keywordEach kws X.env)).any (·.1.isNone)) = false := by rfl)
    (ht : eval (.Call (.Attribute o m apos) (e :: es) kws pos) X.env = (do
      let ov ← eval o X.env
      standAt apos.atName
      let (f, first) ← holding [ov] (getMethod ov m pl)
      callWith pos f first (backTo pos (starEach (e :: es) X.env)) (backToKw pos (keywordEach kws X.env))) := by rfl) :
    PE X (.Call (.Attribute o m apos) (e :: es) kws pos) (tMethK C m n ks.length sp gV E ta t tk) := by
  refine ⟨fun pins s σ H Q I h => ?_⟩
  refine PySem.W.methodCall_KW (pl := pl) (thn (he.run pins s σ H _ I h) fun u s1 ⟨x, H1, I1, rx, a, dx, fs, ex, ea, l, q⟩ => ?_) ht
  subst ex
  obtain rfl : u = Value.ref a := rx
  refine getmeth_ok I1 ea c hm l ?_
  refine PySem.W.callWith_KW (first := [.ref a]) (h₀ := X.base) I.ok.mod.kin hm.kp hall (thn (ha.run pos pins s1 σ H1 _ I1 q) fun us s2 ⟨vs, H2, I2, r, q2⟩ => ?_) hpl hst
  refine thn (hkw.run pos pins s2 σ H2 _ I2 q2) fun ws s3 ⟨zs, H3, I3, rz, l1, l2, q3⟩ => ⟨I3.kIn, ?_⟩
  rw [hks]
  exact run_fnKn (us := .ref a :: us) (vs := .ref a :: vs) F hr hb hx I3 (.cons rfl r) rz (by rw [List.length_cons, ← r.length, l1]) (by rw [← rz.length, l2]) q3
end

/-! ### a road, told by its matings: __init__, become, next_number, length -/
abbrev N_Ro_init : List Str := ["self", "length"]
abbrev P_Ro_init : List Str := ["self", "length"]
theorem sc_Ro_init : FnScope N_Ro_init P_Ro_init (defScope s_Ro_init) := ⟨rfl, rfl, rfl, by decide +kernel, rfl, by decide +kernel, by decide +kernel⟩
abbrev N_Ro_become : List Str := ["self", "length", "standing"]
abbrev P_Ro_become : List Str := ["self", "length", "standing"]
theorem sc_Ro_become : FnScope N_Ro_become P_Ro_become (defScope s_Ro_become) := ⟨rfl, rfl, rfl, by decide +kernel, rfl, by decide +kernel, by decide +kernel⟩
abbrev N_Ro_next_number : List Str := ["self"]
abbrev P_Ro_next_number : List Str := ["self"]
theorem sc_Ro_next_number : FnScope N_Ro_next_number P_Ro_next_number (defScope s_Ro_next_number) := ⟨rfl, rfl, rfl, by decide +kernel, rfl, by decide +kernel, by decide +kernel⟩
abbrev N_Ro_length : List Str := ["self"]
abbrev P_Ro_length : List Str := ["self"]
theorem sc_Ro_length : FnScope N_Ro_length P_Ro_length (defScope s_Ro_length) := ⟨rfl, rfl, rfl, by decide +kernel, rfl, by decide +kernel, by decide +kernel⟩
def roF (n : Int) (st : Addr) (k : V) (c : Int) : List (Str × V) := [("extent", .int n), ("standing", .ref st), ("kept", k), ("foldings", .int c)]
structure RoT (K : PySem.W.Frag) (mg : Str → Option Value) (C5 : Addr) : Prop where
  gC : mg "Road" = some (.ref C5)
  cl : Cls K C5
  nE : NoAttr K C5 "extent"
  nS : NoAttr K C5 "standing"
  nK : NoAttr K C5 "kept"
  nF : NoAttr K C5 "foldings"
/-- the road g, its matings in the dict st -/
structure RoAt (C5 : Addr) (H : Hp) (g st : Addr) (n : Int) (S : StL) (k : V) (c : Int) : Prop where
  at_g : ∃ dx, H g = some (.ins C5 dx (roF n st k c))
  at_s : ∃ kvs, H st = some (.dK kvs) ∧ Std H kvs S
structure RoW (n : Int) (S : StL) : Prop where
  n0 : 0 ≤ n
  n1 : n ≤ 1000000000000000000
  up : (S.map (·.1)).Pairwise (· < ·)
  low : ∀ s ∈ S, 1 ≤ s.1
  len : S.length ≤ 24
  ok : ∀ s ∈ S, Mok n s.2
theorem RoAt.same {C5 : Addr} {H H' : Hp} {g st : Addr} {n : Int} {S : StL} {k : V} {c : Int} (h : RoAt C5 H g st n S k c) (s : Same H H') : RoAt C5 H' g st n S k c := by
  obtain ⟨⟨dx, e⟩, kvs, e1, e2⟩ := h
  exact ⟨⟨dx, s _ _ e⟩, kvs, s _ _ e1, e2.keep fun b xs hb => s _ _ hb⟩
theorem RoAt.ne {C5 : Addr} {H : Hp} {g st : Addr} {n : Int} {S : StL} {k : V} {c : Int} (h : RoAt C5 H g st n S k c) : g ≠ st := by
  obtain ⟨⟨dx, e⟩, kvs, e1, e2⟩ := h
  exact ne_of e e1 (fun z => by cases z)
def nxt (S : StL) : Int := (S.map (·.1)).foldl max 0 + 1
def spRoInit (C5 : Addr) : Sp := fun vs H Q _ => ∃ (g dx : Addr) (n : Int), vs = [.ref g, .int n] ∧ H g = some (.ins C5 dx []) ∧ 0 ≤ n ∧ n ≤ 1000000000000000000 ∧
  ∀ H' st, H' g = some (.ins C5 dx (roF n st .non 0)) → H' st = some (.dK []) → H st = none → Keep g H H' → Q .non H'
def spBecome (C5 : Addr) : Sp := fun vs H Q _ => ∃ (g st st2 dx : Addr) (n m : Int) (S S2 : StL) (k : V) (c : Int) (kvs kvs2 : List (Key × V)), vs = [.ref g, .int m, .ref st2] ∧ H g = some (.ins C5 dx (roF n st k c)) ∧
  H st = some (.dK kvs) ∧ Std H kvs S ∧ H st2 = some (.dK kvs2) ∧ Std H kvs2 S2 ∧ (S.map (·.1)).Pairwise (· < ·) ∧ (S2.map (·.1)).Pairwise (· < ·) ∧
  ∀ H', H' g = some (.ins C5 dx (roF m st2 (if m = n ∧ S2 = S then k else .non) c)) → Keep g H H' → Q .non H'
def spNext (C5 : Addr) : Sp := fun vs H Q _ => ∃ (g st : Addr) (n : Int) (S : StL) (k : V) (c : Int), vs = [.ref g] ∧ RoAt C5 H g st n S k c ∧ S.length ≤ 100 ∧ (∀ s ∈ S, 1 ≤ s.1) ∧ ∀ H', Same H H' → Q (.int (nxt S)) H'
def spRoLen (C5 : Addr) : Sp := fun vs H Q _ => ∃ (g dx st : Addr) (n : Int) (k : V) (c : Int), vs = [.ref g] ∧ H g = some (.ins C5 dx (roF n st k c)) ∧ Q (.int n) H
section
variable {P : Program} {w : World} {K : PySem.W.Frag} {mg : Str → Option Value} {base : Heap} {C5 : Addr}
theorem ok_RoInit {f fN fA fV : Addr} {fd fdN fdA fdV : FuncData} {tok : Tok} {dvs : List V} (F : FunD K "__init__" "Road.__init__" (defArgs s_Ro_init) (defBody s_Ro_init) (defScope s_Ro_init) dvs [] f fd) (TRo_ : RoT K mg C5) (D_need_length : DefAt K mg "need_length" s_need_length P_need_length fN fdN) (D_need_from : DefAt K mg "need_from" s_need_from P_need_from fA fdA) (D_need_within : DefAt K mg "need_within" s_need_within P_need_within fV fdV) (g_FAR : mg "FAR" = some (.int 1000000000000000000 tok)) (B : Bn mg) :
    FnOk P w K mg base CX0 4 f fd P_Ro_init (spRoInit C5) := by
  have G_need_length : FnOk P w K mg base CX0 3 fN fdN P_need_length spNeed0 := ok_need0 D_need_length D_need_from D_need_within g_FAR B
  refine F.ok sc_Ro_init (fun vs H Q E h => ?_) (fun cdv A outer s H vs Q E hr h => ?_)
  · obtain ⟨g, dx, n, rfl, _⟩ := h
    rfl
  · obtain ⟨g, dx, n, rfl, hg, n0, n1, q⟩ := h
    suffices hh : ∃ t, PSs (cxOf CX0 P w K mg base N_Ro_init "Road.__init__" (defScope s_Ro_init) f cdv A outer s H E).nox (defBody s_Ro_init) t ∧ t { nx := fun _ H' => Q .non H', rt := Q } (L2.start N_Ro_init [.ref g, .int n]) H by
      obtain ⟨t, h1, h2⟩ := hh
      exact ⟨t, h1.nox, h2⟩
    refine ⟨_, (pss_cons (ps_expr (pe_call G_need_length (hr.mono (by omega)) (by rfl) D_need_length.g D_need_length.F.kp D_need_length.b .nil pass0 (pa_cons (pv 1) pa_nil)))
      (pss_cons (ps_fld (pv 0) (pv 1) rfl)
      (pss_cons (ps_fld (pv 0) pe_dnewK rfl)
      (pss_cons (ps_fld (pv 0) pe_non rfl)
      (pss_one (ps_fld (pv 0) pe_int rfl)))))), ?_⟩
    refine ⟨.int n, rfl, n, rfl, n0, n1, ?_⟩
    refine ⟨.int n, rfl, .ref g, rfl, g, C5, dx, [], rfl, hg, TRo_.cl, TRo_.nE, by show 0 < 1000; decide, ?_⟩
    have k1 : Keep g H (upd H g (.ins C5 dx (putF "extent" (.int n) []))) := Keep.upd
    have e1 : (upd H g (.ins C5 dx (putF "extent" (.int n) []))) g = some (.ins C5 dx [("extent", .int n)]) := upd_same
    have f1 : ∀ b, (upd H g (.ins C5 dx (putF "extent" (.int n) []))) b = none → H b = none := fun b hb => by
      cases e : H b with
      | none => rfl
      | some o =>
        by_cases c : b = g
        · rw [c, upd_same] at hb
          cases hb
        · rw [upd_ne c, e] at hb
          cases hb
    generalize upd H g (.ins C5 dx (putF "extent" (.int n) [])) = H1 at k1 e1 f1
    intro st nst
    have s2 := same_upd (H := H1) (o := .dK []) nst
    have e2 : (upd H1 st (.dK [])) st = some (.dK []) := upd_same
    generalize upd H1 st (.dK []) = H2 at s2 e2
    have nsg : st ≠ g := (ne_of_none e1 nst).symm
    refine ⟨.ref g, rfl, g, C5, dx, _, rfl, s2 _ _ e1, TRo_.cl, TRo_.nS, by show 1 < 1000; decide, ?_⟩
    refine ⟨.ref g, rfl, g, C5, dx, _, rfl, upd_same, TRo_.cl, TRo_.nK, by show 2 < 1000; decide, ?_⟩
    refine ⟨.ref g, rfl, g, C5, dx, _, rfl, upd_same, TRo_.cl, TRo_.nF, by show 3 < 1000; decide, ?_⟩
    refine q _ st upd_same ?_ (f1 _ nst) fun b o nb hb => ?_
    · rw [upd_ne nsg, upd_ne nsg, upd_ne nsg]
      exact e2
    · rw [upd_ne nb, upd_ne nb, upd_ne nb]
      exact s2 _ _ (k1 _ _ nb hb)
theorem ok_RoLen {f : Addr} {fd : FuncData} (F : Fun K "length" "Road.length" s_Ro_length f fd) (TRo_ : RoT K mg C5) : FnOk P w K mg base CX0 1 f fd P_Ro_length (spRoLen C5) := by
  refine F.ok sc_Ro_length (fun vs H Q E h => ?_) (fun cdv A outer s H vs Q E hr h => ?_)
  · obtain ⟨g, dx, st, n, k, c, rfl, _⟩ := h
    rfl
  · obtain ⟨g, dx, st, n, k, c, rfl, hg, q⟩ := h
    refine ⟨_, (pss_one (ps_ret (pe_fld (pv 0) rfl))), ?_⟩
    exact ⟨.ref g, rfl, g, C5, dx, _, .int n, rfl, hg, TRo_.cl, TRo_.nE, rfl, q⟩
theorem ok_Next {f : Addr} {fd : FuncData} (F : Fun K "next_number" "Road.next_number" s_Ro_next_number f fd) (TRo_ : RoT K mg C5) (B : Bn mg) : FnOk P w K mg base CX0 1 f fd P_Ro_next_number (spNext C5) := by
  refine F.ok sc_Ro_next_number (fun vs H Q E h => ?_) (fun cdv A outer s H vs Q E hr h => ?_)
  · obtain ⟨g, st, n, S, k, c, rfl, _⟩ := h
    rfl
  · obtain ⟨g, st, n, S, k, c, rfl, ⟨⟨dx, hg⟩, kvs, hst, sd⟩, hl, lo, q⟩ := h
    refine ⟨_, (pss_one (ps_ret (pe_op op_add (pe_callBK (cr_maxDf rfl) (by rfl) B.max (by decide +kernel) (pa_cons (pe_callTy (call_listD rfl) (by rfl) B.list (by decide +kernel) (pa_cons (pe_fld (pv 0) rfl) pa_nil)) pa_nil) (pk_cons pe_int pk_nil)) pe_int))), ?_⟩
    refine ⟨.ref g, rfl, g, C5, dx, _, .ref st, rfl, hg, TRo_.cl, TRo_.nS, rfl, st, kvs, rfl, .inl hst, fun p np => ?_⟩
    have e1 : (kvs.map fun kv => kV kv.1) = (S.map (·.1)).map V.int := by
      have := congrArg (List.map kV) sd.keys
      rw [List.map_map, List.map_map] at this
      exact this
    rw [e1]
    refine ⟨p, S.map (·.1), .int 0, rfl, rfl, SqL.of upd_same, fun e => ?_, fun m hm hle => ?_⟩
    · have z : nxt S = 0 + 1 := by
        unfold nxt
        rw [e]
        rfl
      refine ⟨0, 1, rfl, rfl, ?_⟩
      show Q (V.int (0 + 1)) _
      rw [← z]
      exact q _ (same_upd np)
    · obtain ⟨s0, hs0, es0⟩ := List.mem_map.mp hm
      have m0 : 0 ≤ m := by
        have := lo s0 hs0
        have e : s0.1 = m := es0
        omega
      have z : nxt S = m + 1 := by
        unfold nxt
        rw [max_is m0 (.inr hm) hle]
      refine ⟨m, 1, rfl, rfl, ?_⟩
      show Q (V.int (m + 1)) _
      rw [← z]
      exact q _ (same_upd np)
theorem ok_Become {f : Addr} {fd : FuncData} (F : Fun K "become" "Road.become" s_Ro_become f fd) (TRo_ : RoT K mg C5) : FnOk P w K mg base CX0 1 f fd P_Ro_become (spBecome C5) := by
  refine F.ok sc_Ro_become (fun vs H Q E h => ?_) (fun cdv A outer s H vs Q E hr h => ?_)
  · obtain ⟨g, st, st2, dx, n, m, S, S2, k, c, kvs, kvs2, rfl, _⟩ := h
    rfl
  · obtain ⟨g, st, st2, dx, n, m, S, S2, k, c, kvs, kvs2, rfl, hg, hst, sd, hst2, sd2, up, up2, q⟩ := h
    refine ⟨_, (pss_cons (ps_if (PW.pt (pw_or (pt_cmpR op_ne (pv 1) (pe_fld (pv 0) rfl) (nomark _)) (pw_or1 (pt_cmpR (op_neS hr.units) (pv 2) (pe_fld (pv 0) rfl) (nomark _))))) (pss_one (ps_fld (pv 0) pe_non rfl)) pss_nil)
      (pss_cons (ps_fld (pv 0) (pv 1) rfl)
      (pss_one (ps_fld (pv 0) (pv 2) rfl)))), ?_⟩
    have rest : ∀ (k2 : V) (H1 : Hp), H1 g = some (.ins C5 dx (roF n st k2 c)) → Keep g H H1 → k2 = (if m = n ∧ S2 = S then k else .non) →
        tSeq (sFld K (tVar 0) (tVar 1) "extent") (sFld K (tVar 0) (tVar 2) "standing") { nx := fun _ H' => Q .non H', rt := Q } (L2.start N_Ro_become [.ref g, .int m, .ref st2]) H1 := fun k2 H1 e1 k1 ek => by
      refine ⟨.int m, rfl, .ref g, rfl, g, C5, dx, _, rfl, e1, TRo_.cl, TRo_.nE, by show 4 < 1000; decide, ?_⟩
      refine ⟨.ref st2, rfl, .ref g, rfl, g, C5, dx, _, rfl, upd_same, TRo_.cl, TRo_.nS, by show 4 < 1000; decide, ?_⟩
      refine q _ ?_ ((k1.trans Keep.upd).trans Keep.upd)
      rw [upd_same, ← ek]
      rfl
    have none : ¬ (m = n ∧ S2 = S) → tSeq (sFld K (tVar 0) (tC .non) "kept") (tSeq (sFld K (tVar 0) (tVar 1) "extent") (sFld K (tVar 0) (tVar 2) "standing")) { nx := fun _ H' => Q .non H', rt := Q } (L2.start N_Ro_become [.ref g, .int m, .ref st2]) H := fun hne => by
      refine ⟨.ref g, rfl, g, C5, dx, _, rfl, hg, TRo_.cl, TRo_.nK, by show 4 < 1000; decide, ?_⟩
      exact rest .non _ upd_same Keep.upd (if_neg hne).symm
    refine ⟨.int m, rfl, .ref g, rfl, g, C5, dx, _, .int n, rfl, hg, TRo_.cl, TRo_.nE, rfl, rfl, _, rfl, ?_⟩
    refine ite2 (fun h => ?_) (fun h => ?_)
    · refine iteT (none fun z => ?_)
      rw [z.1] at h
      simp at h
    · have hmn : m = n := by
        by_cases z : m = n
        · exact z
        · exfalso
          apply h
          rw [decide_eq_false (fun q => z (V.int.inj q))]
          rfl
      refine ⟨.ref st2, rfl, .ref g, rfl, g, C5, dx, _, .ref st, rfl, hg, TRo_.cl, TRo_.nS, rfl, st2, st, kvs2, kvs, S2, S, rfl, rfl, hst2, hst, sd2, sd, _, rfl, ?_⟩
      by_cases hS : S2 = S
      · rw [hS, sameS_self up, decide_eq_true rfl]
        refine iteF ?_
        exact rest k H hg (fun b o _ e => e) (if_pos ⟨hmn, hS⟩).symm
      · have hb : (decide (S2.length = S.length) && sameS S2 S) = false := by
          cases hz : (decide (S2.length = S.length) && sameS S2 S) with
          | false => rfl
          | true =>
            rw [Bool.and_eq_true, decide_eq_true_eq] at hz
            exact absurd (sameS_rise up2 up hz.1 hz.2) hS
        rw [hb]
        exact iteT (none fun z => hS z.2)
end

/-! ### a road: told, matings, mate_as, mate -/
abbrev N_Ro_matings : List Str := ["self", "number"]
abbrev P_Ro_matings : List Str := ["self"]
theorem sc_Ro_matings : FnScope N_Ro_matings P_Ro_matings (defScope s_Ro_matings) := ⟨rfl, rfl, rfl, by decide +kernel, rfl, by decide +kernel, by decide +kernel⟩
abbrev N_Ro_mate_as : List Str := ["self", "number", "mating"]
abbrev P_Ro_mate_as : List Str := ["self", "number", "mating"]
theorem sc_Ro_mate_as : FnScope N_Ro_mate_as P_Ro_mate_as (defScope s_Ro_mate_as) := ⟨rfl, rfl, rfl, by decide +kernel, rfl, by decide +kernel, by decide +kernel⟩
abbrev N_Ro_mate : List Str := ["self", "one", "other", "many", "turned", "number"]
abbrev P_Ro_mate : List Str := ["self", "one", "other", "many", "turned"]
theorem sc_Ro_mate : FnScope N_Ro_mate P_Ro_mate (defScope s_Ro_mate) := ⟨rfl, rfl, rfl, by decide +kernel, rfl, by decide +kernel, by decide +kernel⟩
theorem foldl_max_le : ∀ (l : List Int) (a : Int), a ≤ l.foldl max a ∧ ∀ y ∈ l, y ≤ l.foldl max a
  | [], a => ⟨Int.le_refl a, fun y h => nomatch h⟩
  | x :: r, a => by
    obtain ⟨h1, h2⟩ := foldl_max_le r (max a x)
    refine ⟨Int.le_trans (Int.le_max_left a x) h1, fun y hy => ?_⟩
    rcases List.mem_cons.mp hy with rfl | hy
    · exact Int.le_trans (Int.le_max_right a y) h1
    · exact h2 y hy
theorem nxt_1 (S : StL) : 1 ≤ nxt S := by
  have := (foldl_max_le (S.map (·.1)) 0).1
  unfold nxt
  omega
theorem nxt_gt {S : StL} {s : Int × M4} (h : s ∈ S) : s.1 < nxt S := by
  have := (foldl_max_le (S.map (·.1)) 0).2 s.1 (List.mem_map.mpr ⟨s, h, rfl⟩)
  unfold nxt
  omega
theorem sget_not {S : StL} {i : Int} (h : ∀ s ∈ S, s.1 ≠ i) : sget S i = none := by
  induction S with
  | nil => rfl
  | cons s r ih =>
    show (if s.1 = i then some s.2 else sget r i) = none
    rw [if_neg (h s List.mem_cons_self)]
    exact ih fun z hz => h z (List.mem_cons_of_mem _ hz)
theorem rise_snoc {S : StL} {i : Int} {x : M4} (u : (S.map (·.1)).Pairwise (· < ·)) (h : ∀ s ∈ S, s.1 < i) : ((S ++ [(i, x)]).map (·.1)).Pairwise (· < ·) := by
  rw [List.map_append, List.pairwise_append]
  refine ⟨u, List.pairwise_singleton _ _, fun a ha b hb => ?_⟩
  obtain ⟨s, hs, rfl⟩ := List.mem_map.mp ha
  rw [List.mem_singleton.mp hb]
  exact h s hs
theorem RoW.snoc {n : Int} {S : StL} {i : Int} {x : M4} (h : RoW n S) (hi : ∀ s ∈ S, s.1 < i) (i1 : 1 ≤ i) (hl : S.length < 24) (hx : Mok n x) : RoW n (S ++ [(i, x)]) :=
  ⟨h.n0, h.n1, rise_snoc h.up hi, fun s hs => by
    rcases List.mem_append.mp hs with z | z
    · exact h.low s z
    · rw [List.mem_singleton.mp z]
      exact i1, by rw [List.length_append]; exact hl, fun s hs => by
    rcases List.mem_append.mp hs with z | z
    · exact h.ok s z
    · rw [List.mem_singleton.mp z]
      exact hx⟩
def spMatings (C5 : Addr) : Sp := fun vs H Q _ => ∃ (g st : Addr) (n : Int) (S : StL) (k : V) (c : Int), vs = [.ref g] ∧ RoAt C5 H g st n S k c ∧ (S.map (·.1)).Pairwise (· < ·) ∧ S.length < 60 ∧
  ∀ (H' : Hp) (r : Addr) (us : List Addr), Same H H' → H r = none → H' r = some (.lst (us.map V.ref)) → Ls H' us S → Q (.ref r) H'
def spMateAs (C5 : Addr) : Sp := fun vs H Q _ => ∃ (g st t : Addr) (n i : Int) (S : StL) (k : V) (c : Int) (x : M4), vs = [.ref g, .int i, .ref t] ∧ RoAt C5 H g st n S k c ∧ RoW n S ∧ S.length < 24 ∧ H t = some (t4 x) ∧ Mok n x ∧ (∀ s ∈ S, s.1 < i) ∧
  ∀ (H' : Hp) (st' : Addr), RoAt C5 H' g st' n (S ++ [(i, x)]) .non c → Keep g H H' → H st' = none → Q .non H'
def spMate (C5 : Addr) : Sp := fun vs H Q _ => ∃ (g st : Addr) (n : Int) (S : StL) (k : V) (c : Int) (x : M4), vs = [.ref g, .int x.1, .int x.2.1, .int x.2.2.1, .int x.2.2.2] ∧ RoAt C5 H g st n S k c ∧ RoW n S ∧ S.length < 24 ∧ Mok n x ∧
  ∀ (H' : Hp) (st' : Addr), RoAt C5 H' g st' n (S ++ [(nxt S, x)]) .non c → Keep g H H' → H st' = none → Q (.int (nxt S)) H'
section
variable {P : Program} {w : World} {K : PySem.W.Frag} {mg : Str → Option Value} {base : Heap} {C5 : Addr}
theorem ok_RoMatings {f : Addr} {fd : FuncData} (F : Fun K "matings" "Road.matings" s_Ro_matings f fd) (TRo_ : RoT K mg C5) (B : Bn mg) : FnOk P w K mg base CX0 1 f fd P_Ro_matings (spMatings C5) := by
  refine F.ok sc_Ro_matings (fun vs H Q E h => ?_) (fun cdv A outer s H vs Q E hr h => ?_)
  · obtain ⟨g, st, n, S, k, c, rfl, _⟩ := h
    rfl
  · obtain ⟨g, st, n, S, k, c, rfl, fa, up, hlen, qq⟩ := h
    have hu := hu_of hr
    refine ⟨_, (pss_one (ps_ret (pe_lc (own := [("number", 1)]) (g := gName 1) (by rfl) sc_Ro_matings.nd (pi_list (pe_callB (call_sortedDI rfl) (by rfl) B.sorted (by decide +kernel) (pa_cons (pe_fld (pv 0) rfl) pa_nil))) (blkOk_by (own := [("number", 1)]) (N := N_Ro_matings) (sc := defScope s_Ro_matings) (by decide +kernel)) (fun _ _ _ _ _ => (pg_name (i := 1) sc_Ro_matings.nd rfl (.inl rfl))) (fun _ _ _ _ _ => pts_nil) (fun _ _ _ _ _ => (pe_tup (pa_cons (pv 1) (pa_cons (pe_dget hu (pe_fldK (K := K) rfl (pv 0) rfl) (pv 1) (fun _ _ => rfl)) pa_nil))))))), ?_⟩
    obtain ⟨⟨dx, ea⟩, kvs, es, sd⟩ := id fa
    refine ⟨.ref g, rfl, g, C5, dx, _, .ref st, rfl, ea, TRo_.cl, TRo_.nS, rfl, st, kvs, S.map (·.1), rfl, .inl es, sd.keys, by rw [List.length_map]; omega, fun ys p py so np => ?_⟩
    have ey := perm_sorted py so up
    subst ey
    refine ⟨p, rfl, ⟨_, SqL.of upd_same⟩, fun L nL => lc_list (K := K) (a := p) (xs := (S.map (·.1)).map V.int) (fun i H2 => ∃ us, Same (upd H p (.lst ((S.map (·.1)).map V.int))) H2 ∧ H2 L = some (.lst (us.map V.ref)) ∧ Ls H2 us (S.take i))
      ⟨[], same_upd nL, upd_same, .nil⟩ (fun i H2 _ ⟨_, sm, _⟩ => SqL.of (sm _ _ upd_same)) ?_ ?_⟩
    · rintro i x H2 hx ⟨us, sm, e2, ls⟩
      rw [List.map_map, List.getElem?_map] at hx
      obtain ⟨z, hz, rfl⟩ := Option.map_eq_some_iff.mp hx
      have sm2 : Same H H2 := (same_upd np).trans sm
      obtain ⟨⟨dx2, ea2⟩, kvs2, es2, sd2⟩ := fa.same sm2
      obtain ⟨t, gt, _, ht⟩ := sd2.dget es2 (sget_mem up (List.mem_of_getElem? hz))
      have hl := ls.length
      have hi : i < S.length := (List.getElem?_eq_some_iff.mp hz).1
      rw [List.length_take] at hl
      refine ⟨rfl, .int z.1, rfl, .ref g, rfl, g, C5, dx2, _, .ref st, rfl, ea2, TRo_.cl, TRo_.nS, rfl, .int z.1, rfl, st, .ref t, rfl, gt, by show 2 ≤ sizeLine; decide, fun u nu => ?_⟩
      refine ⟨us.map V.ref, same_upd nu _ _ e2, sz_lt (by rw [List.length_map]; omega), us ++ [u], fun b o' hb => ?_, by rw [upd_same, List.map_append]; rfl, ?_⟩
      · rw [upd_ne (ne_of_none hb nL)]
        exact same_upd nu _ _ (sm _ _ hb)
      · have kt : ∀ {b : Addr} {xs : List V}, H2 b = some (.tup xs) → (upd (upd H2 u (.tup [.int z.1, .ref t])) L (.lst (us.map V.ref ++ [.ref u]))) b = some (.tup xs) := fun hb => by
          rw [upd_ne (ne_of hb e2 (fun z => by cases z))]
          exact same_upd nu _ _ hb
        rw [List.take_add_one, hz]
        refine Ls.snoc ⟨t, ?_, kt ht⟩ (ls.keep fun b xs hb => kt hb)
        rw [upd_ne (ne_of_none e2 nu).symm]
        exact upd_same
    · rintro H2 ⟨us, sm, e2, ls⟩
      rw [List.length_map, List.length_map, List.take_length] at ls
      exact qq H2 L us ((same_upd np).trans sm) ((same_upd np).free nL) e2 ls
theorem ok_MateAs {f fB fM fI : Addr} {fd fdB fdM fdI : FuncData} {tok : Tok} (F : Fun K "mate_as" "Road.mate_as" s_Ro_mate_as f fd) (TRo_ : RoT K mg C5) (M_Ro_become : Meth K C5 "become" fB) (G_Ro_become : FnOk P w K mg base CX0 1 fB fdB P_Ro_become (spBecome C5)) (b_Ro_become : Binds K fdB P_Ro_become [])
    (D_need_mating : DefAt K mg "need_mating" s_need_mating P_need_mating fM fdM) (D_is_mating : DefAt K mg "is_mating" s_is_mating P_is_mating fI fdI) (g_MOST : mg "MOST" = some (.int 24 tok)) (B : Bn mg) : FnOk P w K mg base CX0 3 f fd P_Ro_mate_as (spMateAs C5) := by
  refine F.ok sc_Ro_mate_as (fun vs H Q E h => ?_) (fun cdv A outer s H vs Q E hr h => ?_)
  · obtain ⟨g, st, t, n, i, S, k, c, x, rfl, _⟩ := h
    rfl
  · obtain ⟨g, st, t, n, i, S, k, c, x, rfl, fa, wf, hlen, ht, hx, hi, qq⟩ := h
    have G_need_mating : FnOk P w K mg base CX0 2 fM fdM P_need_mating (spNeed1 n) := ok_need1 D_need_mating D_is_mating wf.n0 wf.n1 B
    refine ⟨_, (pss_cons (ps_expr (pe_call G_need_mating (hr.mono (by omega)) (by rfl) D_need_mating.g D_need_mating.F.kp D_need_mating.b .nil pass0 (pa_cons (pe_fld (pv 0) rfl) (pa_cons (pv 2) pa_nil))))
      (pss_cons (ps_if (pt_cmpR op_ge (pe_callB call_lenDk (by rfl) B.len (by decide +kernel) (pa_cons (pe_fld (pv 0) rfl) pa_nil)) (pe_glob (v := .int _) (by rfl) g_MOST ⟨_, rfl⟩) (nomark _)) (pss_one ps_never) pss_nil)
      (pss_one (ps_expr (pe_meth (pv 0) TRo_.cl M_Ro_become G_Ro_become (hr.mono (by omega)) b_Ro_become .nil pass0 (pa_cons (pe_fld (pv 0) rfl) (pa_cons (DStar.pe_dstar (pe_fld (pv 0) rfl) (pv 1) (pv 2)) pa_nil))))))), ?_⟩
    obtain ⟨⟨dx, ea⟩, kvs, es, sd⟩ := id fa
    refine ⟨.ref g, rfl, g, C5, dx, _, .int n, rfl, ea, TRo_.cl, TRo_.nE, rfl, .ref t, rfl, t, x, rfl, ht, hx, fun H1 s1 => ?_⟩
    obtain ⟨⟨dx1, ea1⟩, kvs1, es1, sd1⟩ := fa.same s1
    have el := sd1.length
    refine ⟨.ref g, rfl, g, C5, dx1, _, .ref st, rfl, ea1, TRo_.cl, TRo_.nS, rfl, st, kvs1, rfl, es1, ?_⟩
    refine ⟨(kvs1.length : Int), 24, rfl, rfl, _, rfl, ite2 (fun h => absurd (of_decide_eq_true h) (by omega)) (fun _ => ?_)⟩
    refine ⟨.ref g, rfl, g, dx1, _, rfl, ea1, rfl, .ref g, rfl, g, C5, dx1, _, .int n, rfl, ea1, TRo_.cl, TRo_.nE, rfl, fun D nD => ?_⟩
    have s2 := same_upd (H := H1) (o := .dK []) nD
    have nst : st ≠ D := ne_of_none es1 nD
    refine ⟨.ref g, rfl, g, C5, dx1, _, .ref st, rfl, s2 _ _ ea1, TRo_.cl, TRo_.nS, rfl, st, kvs1, rfl, nst, s2 _ _ es1, upd_same, sz_lt (by omega), fun Bx nB => ?_⟩
    have nBD : Bx ≠ D := fun z => by
      rw [z, upd_same] at nB
      cases nB
    have nB1 : H1 Bx = none := by
      rw [upd_ne nBD, upd_ne nBD] at nB
      exact nB
    refine ⟨.int i, rfl, .ref t, rfl, Sum.inl i, .ref t, rfl, ?_, upd_same, ?_⟩
    · rw [upd_ne nBD.symm]
      exact upd_same
    have s4 : Same H1 (upd (upd (upd (upd (upd H1 D (.dK [])) D (.dK kvs1)) Bx (.dK [])) Bx (.dK [(Sum.inl i, .ref t)])) D (.dK (putK kvs1 (Sum.inl i) (.ref t)))) := fun b o hb => by
      have n1 := ne_of_none hb nD
      have n2 := ne_of_none hb nB1
      rw [upd_ne n1, upd_ne n2, upd_ne n2, upd_ne n1, upd_ne n1]
      exact hb
    have e4 : (upd (upd (upd (upd (upd H1 D (.dK [])) D (.dK kvs1)) Bx (.dK [])) Bx (.dK [(Sum.inl i, .ref t)])) D (.dK (putK kvs1 (Sum.inl i) (.ref t)))) D = some (.dK (putK kvs1 (Sum.inl i) (.ref t))) := upd_same
    generalize upd (upd (upd (upd (upd H1 D (.dK [])) D (.dK kvs1)) Bx (.dK [])) Bx (.dK [(Sum.inl i, .ref t)])) D (.dK (putK kvs1 (Sum.inl i) (.ref t))) = H4 at s4 e4
    have hno : valV kvs1 (Sum.inl i) = none := (sd1.get i).1 (sget_not fun s hs => by have := hi s hs; omega)
    rw [putK_new _ hno] at e4
    have sdN : Std H4 (kvs1 ++ [(Sum.inl i, .ref t)]) (S ++ [(i, x)]) := Std.snoc ⟨rfl, t, rfl, s4 _ _ (s1 _ _ ht)⟩ (sd1.keep fun b xs hb => s4 _ _ hb)
    refine ⟨g, st, D, dx1, n, n, S, S ++ [(i, x)], k, c, kvs1, _, rfl, s4 _ _ ea1, s4 _ _ es1, sd1.keep fun b xs hb => s4 _ _ hb, e4, sdN, wf.up, rise_snoc wf.up hi, fun H5 e5 k5 => ?_⟩
    rw [if_neg (fun z => by have := congrArg List.length z.2; rw [List.length_append] at this; simp at this)] at e5
    have nDg : D ≠ g := (ne_of_none ea1 nD).symm
    exact qq H5 D ⟨⟨dx1, e5⟩, _, k5 _ _ nDg e4, sdN.keep fun b xs hb => k5 _ _ (ne_of hb (s4 _ _ ea1) (fun z => by cases z)) hb⟩ (fun b o nb hb => k5 _ _ nb (s4 _ _ (s1 _ _ hb))) (s1.free nD)
theorem ok_Mate {f fN fA : Addr} {fd fdN fdA : FuncData} {dvs : List V} {kws : List (Str × V)} (F : FunD K "mate" "Road.mate" (defArgs s_Ro_mate) (defBody s_Ro_mate) (defScope s_Ro_mate) dvs kws f fd) (TRo_ : RoT K mg C5) (M_Ro_next_number : Meth K C5 "next_number" fN) (G_Ro_next_number : FnOk P w K mg base CX0 1 fN fdN P_Ro_next_number (spNext C5)) (b_Ro_next_number : Binds K fdN P_Ro_next_number [])
    (M_Ro_mate_as : Meth K C5 "mate_as" fA) (G_Ro_mate_as : FnOk P w K mg base CX0 3 fA fdA P_Ro_mate_as (spMateAs C5)) (b_Ro_mate_as : Binds K fdA P_Ro_mate_as []) : FnOk P w K mg base CX0 4 f fd P_Ro_mate (spMate C5) := by
  refine F.ok sc_Ro_mate (fun vs H Q E h => ?_) (fun cdv A outer s H vs Q E hr h => ?_)
  · obtain ⟨g, st, n, S, k, c, x, rfl, _⟩ := h
    rfl
  · obtain ⟨g, st, n, S, k, c, x, rfl, fa, wf, hlen, hx, qq⟩ := h
    suffices hh : ∃ t, PSs (cxOf CX0 P w K mg base N_Ro_mate "Road.mate" (defScope s_Ro_mate) f cdv A outer s H E).nox (defBody s_Ro_mate) t ∧ t { nx := fun _ H' => Q .non H', rt := Q } (L2.start N_Ro_mate [.ref g, .int x.1, .int x.2.1, .int x.2.2.1, .int x.2.2.2]) H by
      obtain ⟨t, h1, h2⟩ := hh
      exact ⟨t, h1.nox, h2⟩
    refine ⟨_, (pss_cons (ps_set (i := 5) sc_Ro_mate.nd rfl (.inl rfl) (pe_meth0 (pv 0) TRo_.cl M_Ro_next_number G_Ro_next_number (hr.mono (by omega)) b_Ro_next_number .nil pass0))
      (pss_cons (ps_expr (pe_meth (pv 0) TRo_.cl M_Ro_mate_as G_Ro_mate_as (hr.mono (by omega)) b_Ro_mate_as .nil pass0 (pa_cons (pv 5) (pa_cons (pe_tup (pa_cons (pv 1) (pa_cons (pv 2) (pa_cons (pv 3) (pa_cons (pv 4) pa_nil))))) pa_nil))))
      (pss_one (ps_ret (pv 5))))), ?_⟩
    obtain ⟨dx, ea⟩ := fa.at_g
    refine ⟨.ref g, rfl, g, dx, _, rfl, ea, rfl, g, st, n, S, k, c, rfl, fa, by omega, wf.low, fun H1 s1 => ?_⟩
    refine ⟨.ref g, rfl, g, dx, _, rfl, s1 _ _ ea, rfl, .int (nxt S), rfl, .int x.1, rfl, .int x.2.1, rfl, .int x.2.2.1, rfl, .int x.2.2.2, rfl, by show 4 ≤ sizeLine; decide, fun t nt => ?_⟩
    have s2 := same_upd (H := H1) (o := t4 x) nt
    have s12 := s1.trans s2
    refine ⟨g, st, t, n, nxt S, S, k, c, x, rfl, fa.same s12, wf, hlen, upd_same, hx, fun s hs => nxt_gt hs, fun H3 st' fa3 k3 n3 => ?_⟩
    exact ⟨.int (nxt S), rfl, qq H3 st' fa3 (fun b o nb hb => k3 _ _ nb (s12 _ _ hb)) (s12.free n3)⟩
end

/-! ### a road stands where all but tables does (from rd10_late) -/
theorem RoAt.extN {C5 : Addr} {H H' : Hp} {g st : Addr} {n : Int} {S : StL} {k : V} {c : Int} (h : RoAt C5 H g st n S k c) (s : LamX.ExtN H H') : RoAt C5 H' g st n S k c := by
  obtain ⟨⟨dx, e⟩, kvs, e1, e2⟩ := h
  exact ⟨⟨dx, s _ _ e (fun _ z => by cases z)⟩, kvs, s _ _ e1 (fun _ z => by cases z), e2.keep fun b xs hb => s _ _ hb (fun _ z => by cases z)⟩

/-! ### a road: strike -/
abbrev N_Ro_strike : List Str := ["self", "number", "k"]
abbrev P_Ro_strike : List Str := ["self", "number"]
theorem sc_Ro_strike : FnScope N_Ro_strike P_Ro_strike (defScope s_Ro_strike) := ⟨rfl, rfl, rfl, by decide +kernel, rfl, by decide +kernel, by decide +kernel⟩
/-- a dict displayed by a walk -/
theorem dc_it {J : It} {n : Nat} {G : Hp → Prop} {Y : Nat → Hp → V → Hp → Prop} (w : Walk J n G Y) {g : TG} {tt : TT} {tk tv : TE} {vs : List Nat} {σ : L2.St} {H1 : Hp} {D : Addr} {Qd : Hp → Prop} (Pv : Nat → Hp → Prop) (h0 : Pv 0 (upd H1 D (.dK []))) (hG : ∀ i H, i ≤ n → Pv i H → G H)
    (hs : ∀ i x H H', i < n → Pv i H → Y i H x H' → g x (wipe σ vs) H' fun σ2 H2 => wipe σ2 vs = wipe σ vs ∧ tt σ2 H2 fun b H3 =>
      if b = true then tk σ2 H3 fun y H4 => tv σ2 H4 fun z H5 => ∃ kvs k, y = kV k ∧ H5 D = some (.dK kvs) ∧ kvs.length < sizeLine ∧ Pv (i + 1) (upd H5 D (.dK (putK kvs k z))) else Pv (i + 1) H3) (hd : ∀ H, Pv n H → Qd H) :
    ∃ W : Nat → Nat → Hp → Prop, (∃ m, W 0 m (upd H1 D (.dK []))) ∧ ∀ i m H, W i m H →
      (J.stop i H ∧ Qd H) ∨ (J.go i H ∧ ∃ Nx : Hp → Prop, (∀ H', Nx H' → ∃ m', m' < m ∧ W (i + 1) m' H') ∧ ∀ x H', J.yld i H x H' → g x (wipe σ vs) H' fun σ2 H2 => wipe σ2 vs = wipe σ vs ∧ tt σ2 H2 fun b H3 =>
        if b = true then tk σ2 H3 fun y H4 => tv σ2 H4 fun z H5 => ∃ kvs k, y = kV k ∧ H5 D = some (.dK kvs) ∧ kvs.length < sizeLine ∧ Nx (upd H5 D (.dK (putK kvs k z))) else Nx H3) := by
  refine ⟨fun i m H => m = n - i ∧ i ≤ n ∧ Pv i H, ⟨n, by simp, Nat.zero_le _, h0⟩, ?_⟩
  rintro i m H ⟨rfl, hi, p⟩
  have q := hG i H hi p
  by_cases hlt : i < n
  · refine .inr ⟨w.goes i H hlt q, Pv (i + 1), fun H' p' => ⟨n - (i + 1), by omega, rfl, hlt, p'⟩, fun x H' y => hs i x H H' hlt p (w.yields i H x H' hlt q y)⟩
  · have e : i = n := by omega
    subst e
    exact .inl ⟨w.stops H q, hd H p⟩
def spStrike (C5 : Addr) : Sp := fun vs H Q _ => ∃ (g st : Addr) (n i : Int) (S : StL) (k : V) (c : Int) (x : M4), vs = [.ref g, .int i] ∧ RoAt C5 H g st n S k c ∧ (S.map (·.1)).Pairwise (· < ·) ∧ S.length < 60 ∧ sget S i = some x ∧
  ∀ (H' : Hp) (st' : Addr), RoAt C5 H' g st' n (sdrop S i) .non c → Keep g H H' → H st' = none → Q .non H'
theorem sdrop_less {S : StL} {i : Int} {x : M4} (h : sget S i = some x) : (sdrop S i).length < S.length := by
  have hm := sget_in h
  have := List.length_filter_lt_length_iff_exists (l := S) (p := fun s => decide (s.1 ≠ i))
  exact this.mpr ⟨_, hm, by simp⟩
section
variable {P : Program} {w : World} {K : PySem.W.Frag} {mg : Str → Option Value} {base : Heap} {C5 : Addr}
theorem ok_Strike {f fB : Addr} {fd fdB : FuncData} (F : Fun K "strike" "Road.strike" s_Ro_strike f fd) (TRo_ : RoT K mg C5) (M_Ro_become : Meth K C5 "become" fB) (G_Ro_become : FnOk P w K mg base CX0 1 fB fdB P_Ro_become (spBecome C5)) (b_Ro_become : Binds K fdB P_Ro_become []) (B : Bn mg) : FnOk P w K mg base CX0 2 f fd P_Ro_strike (spStrike C5) := by
  refine F.ok sc_Ro_strike (fun vs H Q E h => ?_) (fun cdv A outer s H vs Q E hr h => ?_)
  · obtain ⟨g, st, n, i, S, k, c, x, rfl, _⟩ := h
    rfl
  · obtain ⟨g, st, n, i, S, k, c, x, rfl, fa, up, hlen, hx, qq⟩ := h
    have hu := hu_of hr
    refine ⟨_, (pss_cons (ps_if (PW.pt (pw_or (pt_val (pe_callB call_isi (by rfl) B.isinstance (by decide +kernel) (pa_cons (pv 1) (pa_cons (pe_bltn (v := .ty "bool") (by rfl) B.bool (by decide +kernel) rfl) pa_nil)))) (pw_or1 (pt_cmp (pc_dnotin hu (pv 1) (pe_fld (pv 0) rfl)))))) (pss_one ps_never) pss_nil)
      (pss_one (ps_expr (pe_meth (pv 0) TRo_.cl M_Ro_become G_Ro_become (hr.mono (by omega)) b_Ro_become .nil pass0 (pa_cons (pe_fld (pv 0) rfl) (pa_cons (pe_lock (pe_dc (own := [("k", 2)]) (g := gName 2) (by rfl) sc_Ro_strike.nd (pi_keys (pe_fld (pv 0) rfl)) (blkOk_by (own := [("k", 2)]) (N := N_Ro_strike) (sc := defScope s_Ro_strike) (by decide +kernel)) (fun _ _ _ _ _ => (pg_name (i := 2) sc_Ro_strike.nd rfl (.inl rfl))) (fun _ _ _ _ _ => (pts_one (pt_cmpR op_ne (pv 2) (pv 1) (nomark _)))) (fun _ _ _ _ _ => (pv 2)) (fun _ _ _ _ _ => (pe_dget hu (pe_fldK (K := K) rfl (pv 0) rfl) (pv 2) (fun _ _ => rfl))))) pa_nil)))))), ?_⟩
    obtain ⟨⟨dx, ea⟩, kvs, es, sd⟩ := id fa
    have el := sd.length
    obtain ⟨t, gt, _, ht⟩ := sd.dget es hx
    refine ⟨.int i, rfl, _, _, _, _, false, rfl, ClsV.ty _, TyX.base (TyOf.int _), kit_ty (by decide +kernel), _, rfl, iteF ?_⟩
    have ngs : g ≠ st := fa.ne
    refine ⟨.int i, rfl, .ref g, rfl, g, C5, dx, _, .ref st, rfl, ea, TRo_.cl, TRo_.nS, rfl, st, some (.ref t), rfl, gt, _, rfl, iteF ?_⟩
    have sl : ∀ {od : Obj} {b : Addr} {o : HO}, H b = some o → b ≠ st → (upd H st (.frz od (.dK kvs))) b = some o := fun h n => by rw [upd_ne n]; exact h
    refine ⟨.ref g, rfl, g, dx, _, rfl, ea, rfl, .ref g, rfl, g, C5, dx, _, .int n, rfl, ea, TRo_.cl, TRo_.nE, rfl, st, .dK kvs, es, trivial, fun od => ?_⟩
    refine ⟨.ref g, rfl, g, C5, dx, _, .ref st, rfl, sl ea ngs, TRo_.cl, TRo_.nS, rfl, st, od, rfl, .inl ⟨kvs, upd_same, fun D nD => dc_it walk_keys (fun j H2 => ∃ ks, Same (upd H st (.frz od (.dK kvs))) H2 ∧ H2 D = some (.dK ks) ∧ Std H2 ks (sdrop (S.take j) i))
      ⟨[], same_upd nD, upd_same, .nil⟩ (fun j H2 _ ⟨_, sm, _⟩ => sm _ _ upd_same) ?_ ?_⟩⟩
    · rintro j y H2 H3 hj ⟨ks, sm, eD, s2⟩ ⟨rfl, k0, v2, hk, rfl⟩
      obtain ⟨z, hz, e1, t', e2, e3⟩ := LiI.paired_get sd hk
      have e1' : k0 = Sum.inl z.1 := e1
      subst e1'
      obtain ⟨tt, ht1, ht2⟩ := (sd.get z.1).2 z.2 (sget_mem up (List.mem_of_getElem? hz))
      have ntt : tt ≠ st := ne_of ht2 es (fun z => by cases z)
      have stepE : sdrop (S.take (j + 1)) i = sdrop (S.take j) i ++ (if z.1 ≠ i then [z] else []) := by
        unfold sdrop
        rw [List.take_add_one, hz, List.filter_append]
        congr 1
        show List.filter (fun s => decide (s.1 ≠ i)) [z] = _
        rw [List.filter_cons, List.filter_nil]
        by_cases q : z.1 ≠ i
        · rw [if_pos (decide_eq_true q), if_pos q]
        · rw [if_neg (fun w => q (of_decide_eq_true w)), if_neg q]
      have hlt : ∀ s ∈ S.take j, s.1 < z.1 := fun s hs => by
        have u2 : ((S.take (j + 1)).map (·.1)).Pairwise (· < ·) := up.sublist ((List.take_sublist _ _).map _)
        rw [List.take_add_one, hz, List.map_append, List.pairwise_append] at u2
        exact u2.2.2 _ (List.mem_map.mpr ⟨s, hs, rfl⟩) _ (List.mem_singleton.mpr rfl)
      have l2 := s2.length
      have l3 : (sdrop (S.take j) i).length ≤ (S.take j).length := sdrop_length _ _
      rw [List.length_take] at l3
      refine ⟨rfl, .int z.1, rfl, .int i, rfl, rfl, _, rfl, ?_⟩
      refine ite2 (fun h => ?_) (fun h => ?_)
      · have hne : z.1 ≠ i := fun e => by
          rw [e, decide_eq_true rfl] at h
          cases h
        rw [if_pos hne] at stepE
        refine ⟨.int z.1, rfl, .ref g, rfl, g, C5, dx, _, .ref st, rfl, sm _ _ (sl ea ngs), TRo_.cl, TRo_.nS, rfl, .int z.1, rfl, st, .ref tt, rfl, .inl ⟨kvs, Sum.inl z.1, .inr ⟨od, sm _ _ upd_same⟩, rfl, ht1.symm⟩, ?_⟩
        have hno : valV ks (Sum.inl z.1) = none := (s2.get z.1).1 (sget_not fun s hs => by have := hlt s (List.mem_filter.mp hs).1; omega)
        refine ⟨ks, Sum.inl z.1, rfl, eD, sz_lt (by omega), putK ks (Sum.inl z.1) (.ref tt), fun b o hb => ?_, upd_same, ?_⟩
        · rw [upd_ne (ne_of_none hb nD)]
          exact sm _ _ hb
        · have kt : KeepT H3 (upd H3 D (.dK (putK ks (Sum.inl z.1) (.ref tt)))) := fun b xs hb => by
            rw [upd_ne (ne_of hb eD (fun z => by cases z))]
            exact hb
          rw [stepE]
          show Std _ (putK ks (Sum.inl z.1) (.ref tt)) _
          generalize upd H3 D (.dK (putK ks (Sum.inl z.1) (.ref tt))) = H9 at kt
          rw [putK_new _ hno]
          exact Std.snoc ⟨rfl, tt, rfl, kt _ _ (sm _ _ (sl ht2 ntt))⟩ (s2.keep kt)
      · have he : ¬ z.1 ≠ i := fun e => h (by rw [decide_eq_false (fun q => e (V.int.inj q))]; rfl)
        rw [if_neg he, List.append_nil] at stepE
        exact ⟨ks, sm, eD, by rw [stepE]; exact s2⟩
    · rintro H2 ⟨ks, sm, eD, s2⟩
      rw [el, List.take_length] at s2
      have nDs : D ≠ st := fun z => by
        rw [z, upd_same] at nD
        cases nD
      have nD0 : H D = none := by
        rw [upd_ne nDs] at nD
        exact nD
      have fin : Same H (upd H2 st (.dK kvs)) := fun b o hb => by
        by_cases z : b = st
        · rw [z] at hb ⊢
          rw [es] at hb
          rw [upd_same]
          exact hb
        · rw [upd_ne z]
          exact sm _ _ (sl hb z)
      have kt : KeepT H2 (upd H2 st (.dK kvs)) := fun b xs hb => by
        rw [upd_ne (ne_of hb (sm _ _ upd_same) (fun z => by cases z))]
        exact hb
      have eD2 : (upd H2 st (.dK kvs)) D = some (.dK ks) := by
        rw [upd_ne nDs]
        exact eD
      refine ⟨sm _ _ upd_same, ?_⟩
      refine ⟨g, st, D, dx, n, n, S, sdrop S i, k, c, kvs, ks, rfl, fin _ _ ea, upd_same, sd.keep fun b xs hb => fin _ _ hb, eD2, s2.keep kt, up, sdrop_keys up, fun H5 e5 k5 => ?_⟩
      rw [if_neg (fun z => by have := congrArg List.length z.2; have := sdrop_less hx; omega)] at e5
      have nDg : D ≠ g := (ne_of_none ea nD0).symm
      exact qq H5 D ⟨⟨dx, e5⟩, ks, k5 _ _ nDg eD2, (s2.keep kt).keep fun b xs hb => k5 _ _ (ne_of hb (fin _ _ ea) (fun z => by cases z)) hb⟩ (fun b o nb hb => k5 _ _ nb (fin _ _ hb)) nD0
end

/-! ### a road: trim -/
abbrev N_Ro_trim : List Str := ["self", "length", "standing", "number", "mating"]
abbrev P_Ro_trim : List Str := ["self", "length"]
theorem sc_Ro_trim : FnScope N_Ro_trim P_Ro_trim (defScope s_Ro_trim) := ⟨rfl, rfl, rfl, by decide +kernel, rfl, by decide +kernel, by decide +kernel⟩
def clipM (m : Int) (x : M4) : Option M4 := if clipHi x.1 x.2.1 x.2.2.1 x.2.2.2 m ≤ clipLo x.1 x.2.1 x.2.2.1 x.2.2.2 m then none else
  some (clipLo x.1 x.2.1 x.2.2.1 x.2.2.2 m, partP x.1 x.2.1 x.2.2.1 x.2.2.2 (clipLo x.1 x.2.1 x.2.2.1 x.2.2.2 m) (clipHi x.1 x.2.1 x.2.2.1 x.2.2.2 m - clipLo x.1 x.2.1 x.2.2.1 x.2.2.2 m), clipHi x.1 x.2.1 x.2.2.1 x.2.2.2 m - clipLo x.1 x.2.1 x.2.2.1 x.2.2.2 m, x.2.2.2)
def trS (m : Int) (S : StL) : StL := S.filterMap fun s => (clipM m s.2).map fun y => (s.1, y)
theorem clipM_ok {m n : Int} {x y : M4} (hx : Mok n x) (m0 : 0 ≤ m) (h : clipM m x = some y) : Mok m y := by
  obtain ⟨o, p, q, f⟩ := x
  obtain ⟨hf, h1, h2, h3, h4, h5⟩ := hx
  unfold clipM at h
  split at h
  · cases h
  · rename_i hlt
    cases h
    simp only at hf h1 h2 h3 h4 h5 hlt ⊢
    have lo := clip_lo o p q f m
    have hi := clip_hi o p q f m
    generalize hL : clipLo o p q f m = L at *
    generalize hH : clipHi o p q f m = G at *
    have hGm : G ≤ m := by
      rw [← hH]
      unfold clipHi
      split
      · split <;> omega
      · split
        · split at * <;> omega
        · split <;> omega
    refine ⟨hf, by show 1 ≤ G - L; omega, by show 0 ≤ L; omega, ?_, by show L + (G - L) ≤ m; omega, ?_⟩
    · show 0 ≤ partP o p q f L (G - L)
      unfold partP
      split <;> omega
    · show partP o p q f L (G - L) + (G - L) ≤ m
      unfold partP
      rcases hf with rfl | rfl
      · rw [if_neg (by decide)]
        rw [← hH]
        unfold clipHi
        rw [if_neg (by decide)]
        split
        · omega
        · split at * <;> omega
      · rw [if_pos rfl, ← hL]
        unfold clipLo
        rw [if_pos rfl]
        split <;> omega
theorem trS_in {m : Int} {S : StL} {s : Int × M4} (h : s ∈ trS m S) : ∃ t ∈ S, t.1 = s.1 ∧ clipM m t.2 = some s.2 := by
  obtain ⟨t, ht, e⟩ := List.mem_filterMap.mp h
  obtain ⟨y, hy, e2⟩ := Option.map_eq_some_iff.mp e
  exact ⟨t, ht, by rw [← e2], by rw [← e2]; exact hy⟩
theorem trS_up {m : Int} {S : StL} (u : (S.map (·.1)).Pairwise (· < ·)) : ((trS m S).map (·.1)).Pairwise (· < ·) := by
  rw [List.pairwise_map] at u ⊢
  unfold trS
  rw [List.pairwise_filterMap]
  refine u.imp fun {a b} hab x hx y hy => ?_
  obtain ⟨x', _, rfl⟩ := Option.map_eq_some_iff.mp hx
  obtain ⟨y', _, rfl⟩ := Option.map_eq_some_iff.mp hy
  exact hab
theorem RoW.trim {n m : Int} {S : StL} (h : RoW n S) (m0 : 0 ≤ m) (m1 : m ≤ n) : RoW m (trS m S) :=
  ⟨m0, by have := h.n1; omega, trS_up h.up, fun s hs => by
    obtain ⟨t, ht, e, _⟩ := trS_in hs
    rw [← e]
    exact h.low t ht, by have := h.len; have := List.length_filterMap_le (fun s : Int × M4 => (clipM m s.2).map fun y => (s.1, y)) S; unfold trS; omega, fun s hs => by
    obtain ⟨t, ht, _, e⟩ := trS_in hs
    exact clipM_ok (h.ok t ht) m0 e⟩
def spTrim (C5 : Addr) : Sp := fun vs H Q _ => ∃ (g st : Addr) (n m : Int) (S : StL) (k : V) (c : Int), vs = [.ref g, .int m] ∧ RoAt C5 H g st n S k c ∧ RoW n S ∧ 0 ≤ m ∧ m ≤ n ∧
  ∀ (H' : Hp) (st' : Addr), RoAt C5 H' g st' m (trS m S) (if m = n ∧ trS m S = S then k else .non) c → Keep g H H' → H st' = none → Q .non H'
section
variable {P : Program} {w : World} {K : PySem.W.Frag} {mg : Str → Option Value} {base : Heap} {C5 : Addr}
theorem ok_Trim {f fB fW fA fC fP fH : Addr} {fd fdB fdW fdA fdC fdP fdH : FuncData} (F : Fun K "trim" "Road.trim" s_Ro_trim f fd) (TRo_ : RoT K mg C5) (M_Ro_become : Meth K C5 "become" fB) (G_Ro_become : FnOk P w K mg base CX0 1 fB fdB P_Ro_become (spBecome C5)) (b_Ro_become : Binds K fdB P_Ro_become [])
    (D_need_within : DefAt K mg "need_within" s_need_within P_need_within fW fdW) (D_need_from : DefAt K mg "need_from" s_need_from P_need_from fA fdA) (D_clipped : DefAt K mg "clipped" s_clipped P_clipped fC fdC) (D_part : DefAt K mg "part" s_part P_part fP fdP) (D_holds : DefAt K mg "holds" s_holds P_holds fH fdH) (B : Bn mg) : FnOk P w K mg base CX0 4 f fd P_Ro_trim (spTrim C5) := by
  have G_need_within : FnOk P w K mg base CX0 2 fW fdW P_need_within spWithin0 := ok_within0 D_need_within D_need_from B
  have G_clipped : FnOk P w K mg base CX0 3 fC fdC P_clipped spClipped := ok_clipped D_clipped D_part D_holds B
  refine F.ok sc_Ro_trim (fun vs H Q E h => ?_) (fun cdv A outer s H vs Q E hr h => ?_)
  · obtain ⟨g, st, n, m, S, k, c, rfl, _⟩ := h
    rfl
  · obtain ⟨g, st, n, m, S, k, c, rfl, fa, wf, m0, m1, qq⟩ := h
    have hu := hu_of hr
    refine ⟨_, (pss_cons (ps_expr (pe_call G_need_within (hr.mono (by omega)) (by rfl) D_need_within.g D_need_within.F.kp D_need_within.b .nil pass0 (pa_cons pe_int (pa_cons (pe_fld (pv 0) rfl) (pa_cons (pv 1) pa_nil)))))
      (pss_cons (ps_set (i := 2) sc_Ro_trim.nd rfl (.inl rfl) pe_dnewK)
      (pss_cons (ps_for PassesOwn.never rfl (pi_list (pe_callB (call_sortedDI rfl) (by rfl) B.sorted (by decide +kernel) (pa_cons (pe_fld (pv 0) rfl) pa_nil))) (pg_name (i := 3) sc_Ro_trim.nd rfl (.inl rfl)) (pss_cons (ps_set (i := 4) sc_Ro_trim.nd rfl (.inl rfl) (pe_call G_clipped (hr.mono (by omega)) (by rfl) D_clipped.g D_clipped.F.kp D_clipped.b .nil pass0 (pa_cons (pe_dget hu (pe_fld (pv 0) rfl) (pv 3) (fun _ _ => rfl)) (pa_cons (pv 1) pa_nil))))
      (pss_one (ps_if (pt_cmpR op_notN (pv 4) pe_non (nomark _)) (pss_one (ps_dput hu (pv 2) (pv 3) (pv 4) rfl)) pss_nil))))
      (pss_one (ps_expr (pe_meth (pv 0) TRo_.cl M_Ro_become G_Ro_become (hr.mono (by omega)) b_Ro_become .nil pass0 (pa_cons (pv 1) (pa_cons (pv 2) pa_nil)))))))), ?_⟩
    obtain ⟨⟨dx, ea⟩, kvs, es, sd⟩ := id fa
    refine ⟨.ref g, rfl, g, C5, dx, _, .int n, rfl, ea, TRo_.cl, TRo_.nE, rfl, .int m, rfl, 0, n, m, rfl, m0, m1, fun D nD => ?_⟩
    have s1 := same_upd (H := H) (o := .dK []) nD
    have nDg : D ≠ g := (ne_of_none ea nD).symm
    refine ⟨.ref g, rfl, g, C5, dx, _, .ref st, rfl, s1 _ _ ea, TRo_.cl, TRo_.nS, rfl, st, kvs, S.map (·.1), rfl, .inl (s1 _ _ es), sd.keys, by rw [List.length_map]; have := wf.len; omega, fun ys p py so np => ?_⟩
    have ey := perm_sorted py so wf.up
    subst ey
    have s2 := same_upd (H := upd H D (.dK [])) (o := .lst ((S.map (·.1)).map V.int)) np
    have s12 := s1.trans s2
    have eD0 : (upd (upd H D (.dK [])) p (.lst ((S.map (·.1)).map V.int))) D = some (.dK []) := s2 _ _ upd_same
    have ep0 : (upd (upd H D (.dK [])) p (.lst ((S.map (·.1)).map V.int))) p = some (.lst ((S.map (·.1)).map V.int)) := upd_same
    generalize upd (upd H D (.dK [])) p (.lst ((S.map (·.1)).map V.int)) = H1 at s12 eD0 ep0
    refine ⟨p, rfl, ⟨_, SqL.of ep0⟩, for_list (K := K) (a := p) (xs := (S.map (·.1)).map V.int) (fun i σ H2 => ∃ y3 y4 ks, σ = [some (.ref g), some (.int m), some (.ref D), y3, y4] ∧ Same H H2 ∧ H2 p = some (.lst ((S.map (·.1)).map V.int)) ∧ H2 D = some (.dK ks) ∧ Std H2 ks (trS m (S.take i)))
      ⟨none, none, [], rfl, s12, ep0, eD0, .nil⟩ (fun i σ H2 _ ⟨_, _, _, _, _, e, _⟩ => SqL.of e) ?_ ?_⟩
    · rintro i y σ H2 hy ⟨y3, y4, ks, rfl, sm, ep, eD, s3⟩
      rw [List.map_map, List.getElem?_map] at hy
      obtain ⟨z, hz, rfl⟩ := Option.map_eq_some_iff.mp hy
      obtain ⟨⟨dx2, ea2⟩, kvs2, es2, sd2⟩ := fa.same sm
      obtain ⟨t, gt, _, ht⟩ := sd2.dget es2 (sget_mem wf.up (List.mem_of_getElem? hz))
      have hf : z.2.2.2.2 = 0 ∨ z.2.2.2.2 = 1 := (wf.ok z (List.mem_of_getElem? hz)).1
      have stepE : trS m (S.take (i + 1)) = trS m (S.take i) ++ (match clipM m z.2 with | some y => [(z.1, y)] | none => []) := by
        unfold trS
        rw [List.take_add_one, hz, List.filterMap_append]
        congr 1
        show List.filterMap _ [z] = _
        rw [List.filterMap_cons, List.filterMap_nil]
        cases clipM m z.2 <;> rfl
      have l3 := s3.length
      have l4 : (trS m (S.take i)).length ≤ (S.take i).length := List.length_filterMap_le _ _
      rw [List.length_take] at l4
      have hlt : ∀ s ∈ S.take i, s.1 < z.1 := fun s hs => by
        have u2 : ((S.take (i + 1)).map (·.1)).Pairwise (· < ·) := wf.up.sublist ((List.take_sublist _ _).map _)
        rw [List.take_add_one, hz, List.map_append, List.pairwise_append] at u2
        exact u2.2.2 _ (List.mem_map.mpr ⟨s, hs, rfl⟩) _ (List.mem_singleton.mpr rfl)
      refine ⟨.ref g, rfl, g, C5, dx2, _, .ref st, rfl, ea2, TRo_.cl, TRo_.nS, rfl, .int z.1, rfl, st, .ref t, rfl, gt, .int m, rfl, ?_⟩
      refine ⟨t, z.2.1, z.2.2.1, z.2.2.2.1, z.2.2.2.2, m, rfl, ht, hf, fun hle => ?_, fun hgt r nr => ?_⟩
      · have e : clipM m z.2 = none := if_pos hle
        rw [e, List.append_nil] at stepE
        refine ⟨.non, rfl, rfl, _, rfl, iteF ?_⟩
        exact ⟨_, _, ks, rfl, sm, ep, eD, by rw [stepE]; exact s3⟩
      · have e : clipM m z.2 = some (clipLo z.2.1 z.2.2.1 z.2.2.2.1 z.2.2.2.2 m, partP z.2.1 z.2.2.1 z.2.2.2.1 z.2.2.2.2 (clipLo z.2.1 z.2.2.1 z.2.2.2.1 z.2.2.2.2 m) (clipHi z.2.1 z.2.2.1 z.2.2.2.1 z.2.2.2.2 m - clipLo z.2.1 z.2.2.1 z.2.2.2.1 z.2.2.2.2 m), clipHi z.2.1 z.2.2.1 z.2.2.2.1 z.2.2.2.2 m - clipLo z.2.1 z.2.2.1 z.2.2.2.1 z.2.2.2.2 m, z.2.2.2.2) := if_neg (by omega)
        rw [e] at stepE
        have sr := same_upd (H := H2) (o := tup4 (clipLo z.2.1 z.2.2.1 z.2.2.2.1 z.2.2.2.2 m) (partP z.2.1 z.2.2.1 z.2.2.2.1 z.2.2.2.2 (clipLo z.2.1 z.2.2.1 z.2.2.2.1 z.2.2.2.2 m) (clipHi z.2.1 z.2.2.1 z.2.2.2.1 z.2.2.2.2 m - clipLo z.2.1 z.2.2.1 z.2.2.2.1 z.2.2.2.2 m)) (clipHi z.2.1 z.2.2.1 z.2.2.2.1 z.2.2.2.2 m - clipLo z.2.1 z.2.2.1 z.2.2.2.1 z.2.2.2.2 m) z.2.2.2.2) nr
        have er : (upd H2 r (tup4 (clipLo z.2.1 z.2.2.1 z.2.2.2.1 z.2.2.2.2 m) (partP z.2.1 z.2.2.1 z.2.2.2.1 z.2.2.2.2 (clipLo z.2.1 z.2.2.1 z.2.2.2.1 z.2.2.2.2 m) (clipHi z.2.1 z.2.2.1 z.2.2.2.1 z.2.2.2.2 m - clipLo z.2.1 z.2.2.1 z.2.2.2.1 z.2.2.2.2 m)) (clipHi z.2.1 z.2.2.1 z.2.2.2.1 z.2.2.2.2 m - clipLo z.2.1 z.2.2.1 z.2.2.2.1 z.2.2.2.2 m) z.2.2.2.2)) r = some (tup4 (clipLo z.2.1 z.2.2.1 z.2.2.2.1 z.2.2.2.2 m) (partP z.2.1 z.2.2.1 z.2.2.2.1 z.2.2.2.2 (clipLo z.2.1 z.2.2.1 z.2.2.2.1 z.2.2.2.2 m) (clipHi z.2.1 z.2.2.1 z.2.2.2.1 z.2.2.2.2 m - clipLo z.2.1 z.2.2.1 z.2.2.2.1 z.2.2.2.2 m)) (clipHi z.2.1 z.2.2.1 z.2.2.2.1 z.2.2.2.2 m - clipLo z.2.1 z.2.2.1 z.2.2.2.1 z.2.2.2.2 m) z.2.2.2.2) := upd_same
        generalize upd H2 r (tup4 (clipLo z.2.1 z.2.2.1 z.2.2.2.1 z.2.2.2.2 m) (partP z.2.1 z.2.2.1 z.2.2.2.1 z.2.2.2.2 (clipLo z.2.1 z.2.2.1 z.2.2.2.1 z.2.2.2.2 m) (clipHi z.2.1 z.2.2.1 z.2.2.2.1 z.2.2.2.2 m - clipLo z.2.1 z.2.2.1 z.2.2.2.1 z.2.2.2.2 m)) (clipHi z.2.1 z.2.2.1 z.2.2.2.1 z.2.2.2.2 m - clipLo z.2.1 z.2.2.1 z.2.2.2.1 z.2.2.2.2 m) z.2.2.2.2) = H3 at sr er
        have eD3 := sr _ _ eD
        have hno : valV ks (Sum.inl z.1) = none := (s3.get z.1).1 (sget_not fun s hs => by
          obtain ⟨s', hs', e', _⟩ := trS_in hs
          have := hlt s' hs'
          omega)
        have kt : KeepT H3 (upd H3 D (.dK (putK ks (Sum.inl z.1) (.ref r)))) := fun b xs hb => by
          rw [upd_ne (ne_of hb eD3 (fun z => by cases z))]
          exact hb
        refine ⟨.ref r, rfl, rfl, _, rfl, iteT ?_⟩
        refine ⟨.ref r, rfl, .ref D, rfl, .int z.1, rfl, D, _, rfl, DPut.k (k := Sum.inl z.1) eD3 (sz_lt (by have := wf.len; omega)), _, _, _, rfl, fun b o hb => ?_, ?_, upd_same, ?_⟩
        · rw [upd_ne (ne_of_none hb nD)]
          exact sr _ _ (sm _ _ hb)
        · rw [upd_ne (ne_of ep eD (fun z => by cases z))]
          exact sr _ _ ep
        · simp only at stepE
          rw [stepE]
          generalize upd H3 D (.dK (putK ks (Sum.inl z.1) (.ref r))) = H9 at kt
          rw [putK_new _ hno]
          refine Std.snoc ?_ ((s3.keep fun b xs hb => sr _ _ hb).keep kt)
          exact ⟨rfl, r, rfl, kt _ _ er⟩
    · rintro σ H2 ⟨y3, y4, ks, rfl, sm, ep, eD, s3⟩
      rw [List.length_map, List.length_map, List.take_length] at s3
      obtain ⟨⟨dx2, ea2⟩, kvs2, es2, sd2⟩ := fa.same sm
      refine ⟨.ref g, rfl, g, dx2, _, rfl, ea2, rfl, .int m, rfl, .ref D, rfl, ?_⟩
      refine ⟨g, st, D, dx2, n, m, S, trS m S, k, c, kvs2, ks, rfl, ea2, es2, sd2, eD, s3, wf.up, trS_up wf.up, fun H5 e5 k5 => ?_⟩
      exact qq H5 D ⟨⟨dx2, e5⟩, ks, k5 _ _ nDg eD, s3.keep fun b xs hb => k5 _ _ (ne_of hb ea2 (fun z => by cases z)) hb⟩ (fun b o nb hb => k5 _ _ nb (sm _ _ hb)) nD
end

/-! ### a road: swell -/
abbrev N_swelled : List Str := ["mating", "times", "one", "other", "many", "turned"]
abbrev P_swelled : List Str := ["mating", "times"]
theorem sc_swelled : FnScope N_swelled P_swelled (defScope s_swelled) := ⟨rfl, rfl, rfl, by decide +kernel, rfl, by decide +kernel, by decide +kernel⟩
abbrev N_Ro_swell : List Str := ["self", "times", "k"]
abbrev P_Ro_swell : List Str := ["self", "times"]
theorem sc_Ro_swell : FnScope N_Ro_swell P_Ro_swell (defScope s_Ro_swell) := ⟨rfl, rfl, rfl, by decide +kernel, rfl, by decide +kernel, by decide +kernel⟩
def swX (t : Int) (x : M4) : M4 := (t * x.1, t * x.2.1, t * x.2.2.1, x.2.2.2)
def swS (t : Int) (S : StL) : StL := S.map fun s => (s.1, swX t s.2)
theorem swS_keys (t : Int) (S : StL) : (swS t S).map (·.1) = S.map (·.1) := by
  unfold swS
  rw [List.map_map]
  rfl
theorem swX_ok {n t : Int} {x : M4} (h : Mok n x) (t1 : 1 ≤ t) : Mok (n * t) (swX t x) := by
  obtain ⟨hf, h1, h2, h3, h4, h5⟩ := h
  have a := Int.mul_le_mul_of_nonneg_left h4 (show 0 ≤ t by omega)
  have b := Int.mul_le_mul_of_nonneg_left h5 (show 0 ≤ t by omega)
  rw [Int.mul_add] at a b
  have c := Int.mul_pos (show 0 < t by omega) (show 0 < x.2.2.1 by omega)
  rw [Int.mul_comm n t]
  exact ⟨hf, by show 1 ≤ t * x.2.2.1; omega, Int.mul_nonneg (by omega) h2, Int.mul_nonneg (by omega) h3, a, b⟩
theorem RoW.swell {n t : Int} {S : StL} (h : RoW n S) (t1 : 1 ≤ t) (hn : n * t ≤ 1000000000000000000) : RoW (n * t) (swS t S) := by
  refine ⟨Int.mul_nonneg h.n0 (by omega), hn, by rw [swS_keys]; exact h.up, fun s hs => ?_, by unfold swS; rw [List.length_map]; exact h.len, fun s hs => ?_⟩
  · obtain ⟨z, hz, rfl⟩ := List.mem_map.mp hs
    exact h.low z hz
  · obtain ⟨z, hz, rfl⟩ := List.mem_map.mp hs
    exact swX_ok (h.ok z hz) t1
def spSwelled : Sp := fun vs H Q _ => ∃ (t : Addr) (x : M4) (k : Int), vs = [.ref t, .int k] ∧ (-(2 ^ 64) < k ∧ k < 2 ^ 64) ∧ H t = some (t4 x) ∧ ∀ r, H r = none → Q (.ref r) (upd H r (t4 (swX k x)))
section
variable {P : Program} {w : World} {K : PySem.W.Frag} {mg : Str → Option Value} {base : Heap} {C5 : Addr}
theorem ok_swelled {f : Addr} {fd : FuncData} (D : DefAt K mg "swelled" s_swelled P_swelled f fd) : FnOk P w K mg base CX0 1 f fd P_swelled spSwelled := by
  refine D.F.ok sc_swelled (fun vs H Q E h => ?_) (fun cdv A outer s H vs Q E hr h => ?_)
  · obtain ⟨t, x, k, rfl, _⟩ := h
    rfl
  · obtain ⟨t, ⟨o, p, m, f⟩, k, rfl, hk, ht, q⟩ := h
    refine ⟨_, (pss_cons (ps_asg (pv 0) (pg_tup (by rfl) (pgs_cons (pg_name (i := 2) sc_swelled.nd rfl (.inl rfl)) (pgs_cons (pg_name (i := 3) sc_swelled.nd rfl (.inl rfl)) (pgs_cons (pg_name (i := 4) sc_swelled.nd rfl (.inl rfl)) (pgs_cons (pg_name (i := 5) sc_swelled.nd rfl (.inl rfl)) pgs_nil))))))
      (pss_one (ps_ret (pe_tup (pa_cons (pe_op op_mul (pv 1) (pv 2)) (pa_cons (pe_op op_mul (pv 1) (pv 3)) (pa_cons (pe_op op_mul (pv 1) (pv 4)) (pa_cons (pv 5) pa_nil)))))))), ?_⟩
    refine ⟨.ref t, rfl, t, _, rfl, SqT.of ht, rfl, .int o, _, rfl, .int p, _, rfl, .int m, _, rfl, .int f, _, rfl, rfl, ?_⟩
    exact ⟨.int k, rfl, .int o, rfl, k, o, rfl, rfl, .inl hk, .int k, rfl, .int p, rfl, k, p, rfl, rfl, .inl hk, .int k, rfl, .int m, rfl, k, m, rfl, rfl, .inl hk, .int f, rfl, by show 4 ≤ sizeLine; decide, fun r hr' => q r hr'⟩
end

/-! ### Road.grow (behind rd4_road) -/
abbrev N_Ro_grow : List Str := ["self", "more"]
abbrev P_Ro_grow : List Str := ["self", "more"]
theorem sc_Ro_grow : FnScope N_Ro_grow P_Ro_grow (defScope s_Ro_grow) := ⟨rfl, rfl, rfl, by decide +kernel, rfl, by decide +kernel, by decide +kernel⟩
def spGrow (C5 : Addr) : Sp := fun vs H Q _ => ∃ (g st : Addr) (n m : Int) (S : StL) (k : V) (c : Int), vs = [.ref g, .int m] ∧ RoAt C5 H g st n S k c ∧ (S.map (·.1)).Pairwise (· < ·) ∧ 0 ≤ n ∧ 0 ≤ m ∧ n + m ≤ 1000000000000000000 ∧
  ∀ (H' : Hp), RoAt C5 H' g st (n + m) S (if m = 0 then k else .non) c → Keep g H H' → Q .non H'
section
variable {P : Program} {w : World} {K : PySem.W.Frag} {mg : Str → Option Value} {base : Heap} {C5 : Addr}
theorem ok_Grow {f fB fW fA : Addr} {fd fdB fdW fdA : FuncData} {tok : Tok} (F : Fun K "grow" "Road.grow" s_Ro_grow f fd) (TRo_ : RoT K mg C5) (M_Ro_become : Meth K C5 "become" fB) (G_Ro_become : FnOk P w K mg base CX0 1 fB fdB P_Ro_become (spBecome C5)) (b_Ro_become : Binds K fdB P_Ro_become [])
    (D_need_within : DefAt K mg "need_within" s_need_within P_need_within fW fdW) (D_need_from : DefAt K mg "need_from" s_need_from P_need_from fA fdA) (g_FAR : mg "FAR" = some (.int 1000000000000000000 tok)) (B : Bn mg) : FnOk P w K mg base CX0 3 f fd P_Ro_grow (spGrow C5) := by
  have G_need_within : FnOk P w K mg base CX0 2 fW fdW P_need_within spWithin0 := ok_within0 D_need_within D_need_from B
  refine F.ok sc_Ro_grow (fun vs H Q E h => ?_) (fun cdv A outer s H vs Q E hr h => ?_)
  · obtain ⟨g, st, n, m, S, k, c, rfl, _⟩ := h
    rfl
  · obtain ⟨g, st, n, m, S, k, c, rfl, fa, up, n0, m0, m1, qq⟩ := h
    refine ⟨_, (pss_cons (ps_expr (pe_call G_need_within (hr.mono (by omega)) (by rfl) D_need_within.g D_need_within.F.kp D_need_within.b .nil pass0 (pa_cons pe_int (pa_cons (pe_op op_sub (pe_glob (v := .int _) (by rfl) g_FAR ⟨_, rfl⟩) (pe_fld (pv 0) rfl)) (pa_cons (pv 1) pa_nil)))))
      (pss_one (ps_expr (pe_meth (pv 0) TRo_.cl M_Ro_become G_Ro_become (hr.mono (by omega)) b_Ro_become .nil pass0 (pa_cons (pe_op op_add (pe_fld (pv 0) rfl) (pv 1)) (pa_cons (pe_fld (pv 0) rfl) pa_nil)))))), ?_⟩
    obtain ⟨⟨dx, ea⟩, kvs, es, sd⟩ := id fa
    refine ⟨.ref g, rfl, g, C5, dx, _, .int n, rfl, ea, TRo_.cl, TRo_.nE, rfl, 1000000000000000000, n, rfl, rfl, .int m, rfl, 0, 1000000000000000000 - n, m, rfl, m0, by omega, ?_⟩
    refine ⟨.ref g, rfl, g, dx, _, rfl, ea, rfl, .ref g, rfl, g, C5, dx, _, .int n, rfl, ea, TRo_.cl, TRo_.nE, rfl, .int m, rfl, n, m, rfl, rfl, .ref g, rfl, g, C5, dx, _, .ref st, rfl, ea, TRo_.cl, TRo_.nS, rfl, ?_⟩
    refine ⟨g, st, st, dx, n, n + m, S, S, k, c, kvs, kvs, rfl, ea, es, sd, es, sd, up, up, fun H' e' kp => qq H' ⟨⟨dx, ?_⟩, kvs, kp _ _ (ne_of es ea (fun z => by cases z)) es, sd.keep fun b xs hb => kp _ _ (ne_of hb ea (fun z => by cases z)) hb⟩ kp⟩
    by_cases z : m = 0
    · rw [if_pos z]
      rw [if_pos ⟨by omega, rfl⟩] at e'
      exact e'
    · rw [if_neg z]
      rw [if_neg (fun q => z (by omega))] at e'
      exact e'
end

/-! ### Road.twin (behind rd4_road) -/
abbrev N_Ro_twin : List Str := ["self", "other"]
abbrev P_Ro_twin : List Str := ["self"]
theorem sc_Ro_twin : FnScope N_Ro_twin P_Ro_twin (defScope s_Ro_twin) := ⟨rfl, rfl, rfl, by decide +kernel, rfl, by decide +kernel, by decide +kernel⟩
def spTwin (C5 : Addr) : Sp := fun vs H Q _ => ∃ (g st : Addr) (n : Int) (S : StL) (k : V) (c : Int), vs = [.ref g] ∧ RoAt C5 H g st n S k c ∧ 0 ≤ n ∧ n ≤ 1000000000000000000 ∧ S.length ≤ 24 ∧
  ∀ (H' : Hp) (g2 st2 : Addr), RoAt C5 H' g2 st2 n S k c → Same H H' → H g2 = none → H st2 = none → Q (.ref g2) H'
section
variable {P : Program} {w : World} {K : PySem.W.Frag} {mg : Str → Option Value} {base : Heap} {C5 : Addr}
theorem ok_Twin {f fI : Addr} {fd fdI : FuncData} (F : Fun K "twin" "Road.twin" s_Ro_twin f fd) (TRo_ : RoT K mg C5) (mkRo_ : Mk K C5 fI) (G_Ro_init : FnOk P w K mg base CX0 4 fI fdI P_Ro_init (spRoInit C5)) (b_Ro_init : Binds K fdI P_Ro_init []) (B : Bn mg) : FnOk P w K mg base CX0 6 f fd P_Ro_twin (spTwin C5) := by
  refine F.ok sc_Ro_twin (fun vs H Q E h => ?_) (fun cdv A outer s H vs Q E hr h => ?_)
  · obtain ⟨g, st, n, S, k, c, rfl, _⟩ := h
    rfl
  · obtain ⟨g, st, n, S, k, c, rfl, fa, n0, n1, hl, qq⟩ := h
    refine ⟨_, (pss_cons (ps_set (i := 1) sc_Ro_twin.nd rfl (.inl rfl) (pe_make mkRo_ G_Ro_init (hr.mono (by omega)) (by rfl) TRo_.gC b_Ro_init .nil pass0 (pa_cons (pe_fld (pv 0) rfl) pa_nil)))
      (pss_cons (ps_fld (pv 1) (pe_callTy call_dictD (by rfl) B.dict (by decide +kernel) (pa_cons (pe_fld (pv 0) rfl) pa_nil)) rfl)
      (pss_cons (ps_fld (pv 1) (pe_fld (pv 0) rfl) rfl)
      (pss_cons (ps_fld (pv 1) (pe_fld (pv 0) rfl) rfl)
      (pss_one (ps_ret (pv 1))))))), ?_⟩
    obtain ⟨⟨dx, ea⟩, kvs, es, sd⟩ := id fa
    refine ⟨.ref g, rfl, g, C5, dx, _, .int n, rfl, ea, TRo_.cl, TRo_.nE, rfl, fun g2 dg ng2 ndg nex => ?_⟩
    have s1 : Same H (upd (upd H dg (.own g2)) g2 (.ins C5 dg [])) := fun b o hb => by
      rw [upd_ne (ne_of_none hb ng2), upd_ne (ne_of_none hb ndg)]
      exact hb
    have e1 : (upd (upd H dg (.own g2)) g2 (.ins C5 dg [])) g2 = some (.ins C5 dg []) := upd_same
    generalize upd (upd H dg (.own g2)) g2 (.ins C5 dg []) = H1 at s1 e1
    refine ⟨g2, dg, n, rfl, e1, n0, n1, fun H2 st0 e2 est nst kp => ⟨rfl, ?_⟩⟩
    have s2 : Same H H2 := fun b o hb => kp _ _ (ne_of_none hb ng2) (s1 _ _ hb)
    have ngg : g ≠ g2 := ne_of_none ea ng2
    refine ⟨.ref g, rfl, g, C5, dx, _, .ref st, rfl, s2 _ _ ea, TRo_.cl, TRo_.nS, rfl, st, kvs, rfl, .inl (s2 _ _ es), fun D nD => ?_⟩
    have s3 := same_upd (H := H2) (o := .dK kvs) nD
    have eD : (upd H2 D (.dK kvs)) D = some (.dK kvs) := upd_same
    have e3 := s3 _ _ e2
    have nDg : D ≠ g2 := (ne_of_none e2 nD).symm
    have nDH : H D = none := s2.free nD
    generalize upd H2 D (.dK kvs) = H3 at s3 eD e3
    refine ⟨.ref g2, rfl, g2, C5, dg, _, rfl, e3, TRo_.cl, TRo_.nS, by show 4 < 1000; decide, ?_⟩
    have sm3 : Same H H3 := s2.trans s3
    have z4 : upd H3 g2 (.ins C5 dg (putF "standing" (.ref D) (roF n st0 .non 0))) = upd H3 g2 (.ins C5 dg (roF n D .non 0)) := rfl
    rw [z4]
    have e4 : (upd H3 g2 (.ins C5 dg (roF n D .non 0))) g2 = some (.ins C5 dg (roF n D .non 0)) := upd_same
    have k4 : Keep g2 H3 (upd H3 g2 (.ins C5 dg (roF n D .non 0))) := Keep.upd
    generalize upd H3 g2 (.ins C5 dg (roF n D .non 0)) = H4 at e4 k4
    have ea4 := k4.of (sm3 _ _ ea) ngg
    refine ⟨.ref g, rfl, g, C5, dx, _, k, rfl, ea4, TRo_.cl, TRo_.nK, rfl, .ref g2, rfl, g2, C5, dg, _, rfl, e4, TRo_.cl, TRo_.nK, by show 4 < 1000; decide, ?_⟩
    have z5 : upd H4 g2 (.ins C5 dg (putF "kept" k (roF n D .non 0))) = upd H4 g2 (.ins C5 dg (roF n D k 0)) := rfl
    rw [z5]
    have e5 : (upd H4 g2 (.ins C5 dg (roF n D k 0))) g2 = some (.ins C5 dg (roF n D k 0)) := upd_same
    have k5 : Keep g2 H4 (upd H4 g2 (.ins C5 dg (roF n D k 0))) := Keep.upd
    generalize upd H4 g2 (.ins C5 dg (roF n D k 0)) = H5 at e5 k5
    have ea5 := k5.of ea4 ngg
    refine ⟨.ref g, rfl, g, C5, dx, _, .int c, rfl, ea5, TRo_.cl, TRo_.nF, rfl, .ref g2, rfl, g2, C5, dg, _, rfl, e5, TRo_.cl, TRo_.nF, by show 4 < 1000; decide, ?_⟩
    have z6 : upd H5 g2 (.ins C5 dg (putF "foldings" (.int c) (roF n D k 0))) = upd H5 g2 (.ins C5 dg (roF n D k c)) := rfl
    rw [z6]
    have e6 : (upd H5 g2 (.ins C5 dg (roF n D k c))) g2 = some (.ins C5 dg (roF n D k c)) := upd_same
    have k6 : Keep g2 H5 (upd H5 g2 (.ins C5 dg (roF n D k c))) := Keep.upd
    generalize upd H5 g2 (.ins C5 dg (roF n D k c)) = H6 at e6 k6
    have all : ∀ b o, b ≠ g2 → H3 b = some o → H6 b = some o := fun b o nb hb => k6.of (k5.of (k4.of hb nb) nb) nb
    have smH : Same H H6 := fun b o hb => all b o (ne_of_none hb ng2) (sm3 _ _ hb)
    exact ⟨.ref g2, rfl, qq H6 g2 D ⟨⟨dg, e6⟩, kvs, all _ _ nDg eD, sd.keep fun b xs hb => smH _ _ hb⟩ smH ng2 nDH⟩
end

/-! ### Road.__eq__; == and != of two roads (wants PyProof.InstNe) -/
namespace OwnNe
open PySem PySem.W PyProof.Rows
section
variable {prog : Program} {w : World} {A : Around} {E : Value → Shared → Prop} {s : Shared} {K : Frag} {x C L f : Addr} {h₀ : Heap} {m : Str → Option Value} {ox : Obj} {od : Option Obj} {b : Value}
/-- != where the class has an own == and object's != -/
theorem ne_K {Q : Value → Shared → Prop} (hu : A.units + 1 < cLine) (F : Fr h₀ L s.heap m) (X₀ : K.In h₀) (I : InstAt s.heap x ox C od) (hb : Looks (model prog w) s.heap (typeOf b) (.ref C)) (hne : findIn K (.ref C) "__ne__" = some (some (.builtin "object.__ne__"))) (hm : mroIn K C (.type "object") = some true)
    (hs : findIn K (.ref C) "__eq__" = some (some (.ref f))) (hf : isFn K (.ref f) = true) (h : wpAny (model prog w) A.in1 (call (.ref f) [.ref x, b]) (fun v s' => ∃ r, v = .bool r ∧ Q (.bool (!r)) s') E s) :
    wpAny (model prog w) A (richCompare .NotEq (.ref x) b) Q E s := by
  have X := X₀.keeps F.keep
  have body : wpAny (model prog w) A.in1 (Builtin.«object.__ne__» ⟨[.ref x, b], []⟩) (GQ.FinOf prog w A (wants (fun v s' => ∃ r, v = .bool r ∧ Q v s') E)) (fun e s' => wants (fun v s' => ∃ r, v = .bool r ∧ Q v s') E (.error e) s') s := by
    unfold Builtin.«object.__ne__»
    refine wpAny_bind (wpAny_pure ?_)
    refine wpAny_bind (wpAny_cRoomFor (by show A.in1.units < cLine; rw [Around.in1_units]; exact hu) ?_)
    refine wpAny_bind (ifBound_K X I hs hf (wpAny_mono h (fun v s' hv => ?_) fun _ _ e => e))
    obtain ⟨r, rfl, q⟩ := hv
    refine wpAny_bind (wpAny_truthy_bool ?_)
    exact wpAny_pure ⟨_, rfl, q⟩
  have one : wpAny (model prog w) A (tryCompare (.ref x) (cmpInfo .NotEq).2.1 b) (fun r s' => ∃ v, r = some v ∧ Q v s') E s := by
    unfold tryCompare
    refine wpAny_bind ?_
    show wpAny _ A (callSpecialIfBound? (.ref x) "__ne__" [b]) _ E s
    simp only [callSpecialIfBound?, bindSpecialIfBound?]
    refine wpAny_holding (wpAny_bind (wpAny_bind (wpAny_bind (I.type.here ((looks_findIn X hne).here ?_)))))
    refine wpAny_bind (wpAny_askSetting (wpAny_ite ?_))
    have call1 : wpAny (model prog w) A (call (.builtin "object.__ne__") ([.ref x] ++ [b])) (fun v s' => ∃ r, v = .bool r ∧ Q v s') E s :=
      wpAny_call (codeAny_call_builtin PySem.F.cmp_object.ne.plain PySem.F.cmpEntry_ne (@check_slot (model prog w) _ _ s "object.__ne__" "object" "__ne__" (.ref x) [b] [] _ PySem.F.cmpKind_ne PySem.F.cmpSplit_ne (I.type.andThen (looks_mroIn X hm)) (PySem.F.cmpArgs_ne _ _) body))
    have bnd : bindSpecial (.builtin "object.__ne__") (.ref x) = pure (.builtin "object.__ne__", [.ref x]) := PySem.F.cmp_object.ne.bind _
    split
    · refine wpAny_bind ?_
      rw [bnd]
      refine wpAny_pure (wpAny_pure (wpAny_bind (wpAny_mono call1 (fun v s' hv => ?_) fun _ _ e => e)))
      obtain ⟨r, rfl, q⟩ := hv
      exact wpAny_pure (wpAny_pure ⟨_, rfl, q⟩)
    · refine wpAny_tryCatch (wpAny_bind ?_)
      rw [bnd]
      refine wpAny_pure (wpAny_pure (wpAny_bind (wpAny_mono call1 (fun v s' hv => ?_) fun _ _ e => e)))
      obtain ⟨r, rfl, q⟩ := hv
      exact wpAny_pure (wpAny_pure ⟨_, rfl, q⟩)
  unfold richCompare
  simp only [oneThing_ref]
  refine wpAny_holding (wpAny_bind (wpAny_cRoomFor (by omega) ?_))
  refine wpAny_bind (I.type.here (wpAny_bind (hb.here ?_)))
  split
  · rename_i q
    simp at q
  · refine wpAny_bind (wpAny_pure ?_)
    simp only [Bool.false_eq_true, if_false]
    refine wpAny_bind (wpAny_mono one (fun r s' z => ?_) fun _ _ e => e)
    obtain ⟨v, rfl, hq⟩ := z
    exact wpAny_pure hq
end
end OwnNe
abbrev N_Ro_eq : List Str := ["self", "other"]
abbrev P_Ro_eq : List Str := ["self", "other"]
theorem sc_Ro_eq : FnScope N_Ro_eq P_Ro_eq (defScope s_Ro_eq) := ⟨rfl, rfl, rfl, by decide +kernel, rfl, by decide +kernel, by decide +kernel⟩
structure RoE (K : PySem.W.Frag) (C5 fE : Addr) : Prop where
  eq : PySem.W.findIn K (.ref C5) "__eq__" = some (some (.ref fE))
  fn : PySem.W.isFn K (.ref fE) = true
  ne : PySem.W.findIn K (.ref C5) "__ne__" = some (some (.builtin "object.__ne__"))
  ha : PySem.W.findIn K (.ref C5) "__class__" = some (some (.builtin "object.__class__"))
  hn : PySem.W.specialIn K (.builtin "object.__class__") "__get__" = some (some (.builtin "getset_descriptor.__get__"))
  ht : PySem.W.takesIn K (.builtin "object.__class__") = some true
  hm : PySem.W.mroIn K C5 (.type "object") = some true
def spRoEq (C5 : Addr) : Sp := fun vs H Q _ => ∃ (g st g2 st2 : Addr) (n n2 : Int) (S S2 : StL) (k k2 : V) (c c2 : Int), vs = [.ref g, .ref g2] ∧ RoAt C5 H g st n S k c ∧ RoAt C5 H g2 st2 n2 S2 k2 c2 ∧ (S.map (·.1)).Pairwise (· < ·) ∧ (S2.map (·.1)).Pairwise (· < ·) ∧ Q (.bl (decide (n = n2 ∧ S = S2))) H
/-- two roads, and what is told of them by an operator -/
def rRo (C5 : Addr) (F : Bool → Bool) : R2 := fun x y H Q => ∃ (g st g2 st2 : Addr) (n n2 : Int) (S S2 : StL) (k k2 : V) (c c2 : Int), x = .ref g ∧ y = .ref g2 ∧ RoAt C5 H g st n S k c ∧ RoAt C5 H g2 st2 n2 S2 k2 c2 ∧ (S.map (·.1)).Pairwise (· < ·) ∧ (S2.map (·.1)).Pairwise (· < ·) ∧ Q (.bl (F (decide (n = n2 ∧ S = S2)))) H
section
variable {P : Program} {w : World} {K : PySem.W.Frag} {mg : Str → Option Value} {base : Heap} {C5 : Addr}
theorem ok_RoEq {f : Addr} {fd : FuncData} (F : Fun K "__eq__" "Road.__eq__" s_Ro_eq f fd) (TRo_ : RoT K mg C5) (TE_ : RoE K C5 f) (B : Bn mg) : FnOk P w K mg base CX0 1 f fd P_Ro_eq (spRoEq C5) := by
  refine F.ok sc_Ro_eq (fun vs H Q E h => ?_) (fun cdv A outer s H vs Q E hr h => ?_)
  · obtain ⟨g, st, g2, st2, n, n2, S, S2, k, k2, c, c2, rfl, _⟩ := h
    rfl
  · obtain ⟨g, st, g2, st2, n, n2, S, S2, k, k2, c, c2, rfl, ra, rb, up, up2, q⟩ := h
    refine ⟨_, (pss_one (ps_ret (pe_and (pe_callB call_isi (by rfl) B.isinstance (by decide +kernel) (pa_cons (pv 1) (pa_cons (pe_glob (v := .ref C5) (by rfl) TRo_.gC rfl) pa_nil))) (pe_and (pe_cmpR op_eq (pe_fld (pv 0) rfl) (pe_fld (pv 1) rfl) (nomark _)) (pe_one (pe_cmpR (op_eqS hr.units) (pe_fld (pv 0) rfl) (pe_fld (pv 1) rfl) (nomark _))))))), ?_⟩
    obtain ⟨⟨dx, ea⟩, kvs, es, sd⟩ := ra
    obtain ⟨⟨dx2, ea2⟩, kvs2, es2, sd2⟩ := rb
    refine ⟨.ref g2, rfl, .ref g2, .ref C5, .ref C5, .ref C5, true, rfl, ClsV.own C5, TyX.base (TyOf.ins ea2 TRo_.cl TE_.ha TE_.hn TE_.ht TE_.hm), if_pos (beq_self_eq_true _), true, rfl, iteT ?_⟩
    refine ⟨.ref g, rfl, g, C5, dx, _, .int n, rfl, ea, TRo_.cl, TRo_.nE, rfl, .ref g2, rfl, g2, C5, dx2, _, .int n2, rfl, ea2, TRo_.cl, TRo_.nE, rfl, rfl, _, rfl, ite2 (fun h => ?_) (fun h => ?_)⟩
    · have e : n = n2 := V.int.inj (of_decide_eq_true h)
      refine ⟨.ref g, rfl, g, C5, dx, _, .ref st, rfl, ea, TRo_.cl, TRo_.nS, rfl, .ref g2, rfl, g2, C5, dx2, _, .ref st2, rfl, ea2, TRo_.cl, TRo_.nS, rfl, st, st2, kvs, kvs2, S, S2, rfl, rfl, es, es2, sd, sd2, ?_⟩
      have e2 : (decide (S.length = S2.length) && sameS S S2) = decide (n = n2 ∧ S = S2) := by
        by_cases z : S = S2
        · rw [z, sameS_self up2, decide_eq_true rfl, decide_eq_true ⟨e, rfl⟩]
          rfl
        · have dz : decide (n = n2 ∧ S = S2) = false := decide_eq_false fun q => z q.2
          rw [dz]
          cases hz : (decide (S.length = S2.length) && sameS S S2) with
          | false => rfl
          | true =>
            rw [Bool.and_eq_true, decide_eq_true_eq] at hz
            exact absurd (sameS_rise up up2 hz.1 hz.2) z
      rw [e2]
      exact q
    · have e : decide (n = n2 ∧ S = S2) = false := decide_eq_false fun z => h (decide_eq_true (by rw [z.1]))
      rw [e] at q
      exact q
end
section
variable {X : Cx} {C5 f : Addr} {fd : FuncData} {n : Nat}
theorem ro_call (F : FnOk X.prog X.w X.K X.mg X.base CX0 n f fd P_Ro_eq (spRoEq C5)) (hb : Binds X.K fd P_Ro_eq []) {A : Around} (hr : Room n A) (fr : A.frames = X.A.frames) {pins : List (Addr × Obj)} {σ : St} {H : Hp} {s : Shared} (I : Inv X pins σ H s) {g st g2 st2 : Addr} {n n2 : Int} {S S2 : StL} {k k2 : V} {c c2 : Int} (ra : RoAt C5 H g st n S k c) (rb : RoAt C5 H g2 st2 n2 S2 k2 c2) (u1 : (S.map (·.1)).Pairwise (· < ·)) (u2 : (S2.map (·.1)).Pairwise (· < ·)) :
    wpAny (model X.prog X.w) A (call (.ref f) [.ref g, .ref g2]) (fun v s' => v = .bool (decide (n = n2 ∧ S = S2)) ∧ Inv X pins σ H s') X.xe s := by
  have hsp : spRoEq C5 [.ref g, .ref g2] H (fun v H' => v = .bl (decide (n = n2 ∧ S = S2)) ∧ H' = H) E0 := ⟨g, st, g2, st2, n, n2, S, S2, k, k2, c, c2, rfl, ra, rb, u1, u2, rfl, rfl⟩
  have e0 : Env0 X.prog X.w X.K X.mg X.base A X.stack s H := by
    have e := I.env0
    exact ⟨by rw [fr]; exact e.frames, e.mod, e.bs, e.bsz, e.funs, e.frf, e.hok, e.bare⟩
  have r2 : Vals [V.ref g, V.ref g2] [Value.ref g, Value.ref g2] := .cons rfl (.cons rfl .nil)
  refine wpAny_call (codeAny_mono (F.run A X.stack s H ⟨[.ref g, .ref g2], []⟩ [.ref g, .ref g2] [.ref g, .ref g2] _ E0 hr e0 (by
    have := hb s [.ref g, .ref g2] I.kIn rfl
    simpa using this) r2 hsp) fun r s' hq => ?_)
  cases r with
  | error e => exact pass0 pins σ H s e s' I hq
  | ok fl =>
    cases fl with
    | ret u =>
      obtain ⟨z, H', I', rz, ez, eh⟩ := I.after hq
      subst ez
      subst eh
      cases rz
      exact ⟨rfl, I'⟩
    | next => exact False.elim hq
    | brk => exact False.elim hq
    | cont => exact False.elim hq
theorem op_neRo (TE_ : RoE X.K C5 f) (F : FnOk X.prog X.w X.K X.mg X.base CX0 n f fd P_Ro_eq (spRoEq C5)) (hr : Room (n + 1) X.A) (hb : Binds X.K fd P_Ro_eq []) : OpR X (compareOp .NotEq) (rRo C5 not) := by
  intro pins s σ H x y v u Q I rx ry hq
  obtain ⟨g, st, g2, st2, n, n2, S, S2, k, k2, c, c2, rfl, rfl, ra, rb, u1, u2, q⟩ := hq
  cases rx
  cases ry
  obtain ⟨⟨dx, ha⟩, _⟩ := id ra
  obtain ⟨⟨dy, hb'⟩, _⟩ := id rb
  obtain ⟨mA, J, _⟩ := ins_get I.hok ha
  obtain ⟨mB, J', _⟩ := ins_get I.hok hb'
  obtain ⟨od, J, _⟩ := J.look
  obtain ⟨od', J', _⟩ := J'.look
  obtain ⟨m, hF⟩ := I.fr
  have r1 := hr.in1
  have hu := r1.units0
  rw [Around.in1_units] at hu
  show wpAny (model X.prog X.w) X.A (richCompare .NotEq (.ref g) (.ref g2)) (EP X pins σ Q) X.xe s
  refine OwnNe.ne_K hu hF I.ok.mod.kin J J'.type TE_.ne TE_.hm TE_.eq TE_.fn (wpAny_mono (ro_call F hb r1 rfl I ra rb u1 u2) (fun r s' z => ?_) fun _ _ e => e)
  obtain ⟨rfl, I'⟩ := z
  exact ⟨_, rfl, .bl _, H, I', rfl, q⟩
end

/-! ### an own error class over LookupError: fields are stored, __init__ is walked as a def -/
namespace LkE
open PySem.W PySem.Calls PyProof.Rows PySem.HandSPX Builtin Builtin.ObjectAttr
/-- own classes ahead of LookupError and what it comes of -/
def Over (l : List Value) : Prop := ∃ cs : List Addr, l = cs.map Value.ref ++ lkTail
theorem Over.own {l : List Value} (h : Over l) (C : Addr) : Over (.ref C :: l) := by
  obtain ⟨cs, rfl⟩ := h
  exact ⟨C :: cs, rfl⟩
theorem Over.lets {l : List Value} (h : Over l) (self : Value) : refuseLoop self "__setattr__" l = pure () := by
  obtain ⟨cs, rfl⟩ := h
  induction cs with
  | nil =>
    show refuseLoop self "__setattr__" lkTail = pure ()
    kernel_rfl
  | cons C r ih =>
    show refuseLoop self "__setattr__" (.ref C :: (r.map Value.ref ++ lkTail)) = pure ()
    rw [refuseLoop_ref]
    exact ih
theorem Over.has {l : List Value} (h : Over l) (Y : String) : l.contains (.type Y) = lkTail.contains (.type Y) := by
  obtain ⟨cs, rfl⟩ := h
  induction cs with
  | nil => rfl
  | cons C r ih =>
    show (Value.ref C :: (r.map Value.ref ++ lkTail)).contains (.type Y) = _
    rw [List.contains_cons, ih]
    rfl
theorem Over.some_ {l : List Value} (h : Over l) : l.isEmpty = false := by
  obtain ⟨cs, rfl⟩ := h
  cases cs <;> rfl
section
variable {P : Program} {w : World} {A : Around} {R : Result → Shared → Prop} {h0 : Heap} {gs : Array GenState} {dr : PySem.Drawn} {tn : Nat} {oS : OsState} {K : PySem.W.Frag}
/-- the first field of an error: its dict is laid -/
theorem osa_first {nm : Str} {tk : Tok} {v : Value} {x C : Addr} {fv : Array Value} {cd : ClassData} (kin : K.In h0) (ox : h0.get? x = some { cls := .ref C, data := .fields fv }) (hcd : PySem.W.clsIn K C = some cd) (ov : Over cd.mro) (dct : cd.hasDict = true) (no : PySem.W.findIn K (.ref C) nm = some none)
    (go : ∀ h1 tk1 dx, (∀ b o, b ≠ x → h0.get? b = some o → h1.get? b = some o) → h0.objs.size ≤ dx → dx ≠ x → h1.get? x = some { cls := .ref C, dict := some dx, data := .fields fv } → h1.Ns1 dx (fun y => if y = nm then some v else none) → R (.ok (.ret .none)) ⟨h1, gs, dr, tk1, oS⟩) :
    codeAny (model P w) A (.call (.builtin "object.__setattr__") ⟨[.ref x, .str nm tk, v], []⟩) R ⟨h0, gs, dr, tn, oS⟩ := by
  have at_x : InstAt h0 x { cls := .ref C, data := .fields fv } C none := ⟨ox, rfl, rfl, trivial⟩
  have St := F.store_object
  have apart : x ≠ h0.objs.size := Nat.ne_of_lt (Heap.lt_size ox)
  have isObj : Looks (model P w) h0 (isInstance (.ref x) (.type "object")) true := at_x.type.andThen (looks_mroIn kin (by
    unfold mroIn
    rw [hcd, Option.bind_some, if_neg (by rw [ov.some_]; decide), ov.has "object"]
    decide +kernel))
  refine codeAny_call_builtin St.slot.plain St.entry (@check_slot (model P w) _ _ ⟨h0, gs, dr, tn, oS⟩ "object.__setattr__" "object" "__setattr__" (.ref x) [.str nm tk, v] [] _ St.kind St.split isObj (St.args (.ref x) (.str nm tk) v) ?_)
  have seesMro : Looks (model P w) h0 (mroOf (.ref C)) cd.mro := (looks_clsIn kin hcd).andThen .now
  have taker : Looks (model P w) h0 (storeTaker? none) none := .now
  have seesCls : Looks (model P w) h0 (classData C) cd := looks_clsIn kin hcd
  rw [osa_eq, refuse_eq]
  refine wpAny_bind (wpAny_bind (at_x.type.at (wpAny_bind (seesMro.at ?_))))
  rw [ov.lets]
  refine wpAny_pure (wpAny_bind (at_x.type.at (wpAny_bind ((looks_findIn kin no).at (wpAny_bind (taker.at ?_))))))
  show wpAny _ _ (storeInOwnDict (.ref x) (.ref C) (.str nm tk) nm v false) _ _ _
  obtain ⟨c1, c2, c3, c4, c5, hasD, c7, c8, c9, c10, c11⟩ := cd
  dsimp only at dct
  subst dct
  unfold storeInOwnDict ownDictForStores
  repeat (first | with_reducible refine PySem.HandSPX.store_in_new ?_ ?_ | with_reducible refine wpAny_loadPart_at ox ?_ | with_reducible refine seesCls.at ?_ | wp_step)
  · refine ⟨_, #[], _, (Heap.get?_update_ne _ _ _ _ apart.symm).trans (Heap.get?_push_at rfl rfl), rfl, fun e he => absurd he (by simp), fun _ => rfl⟩
  · intro h1 tk1 nsd same
    have still : (h0.push { cls := .type "dict", data := .dict #[] }).get? x = some { cls := .ref C, data := .fields fv } := Heap.get?_push_of_some _ ox
    refine go h1 tk1 h0.objs.size (fun b o nb ob => ?_) (Nat.le_refl _) apart.symm ((same.2 x apart).trans (Heap.get?_update_self _ still rfl)) nsd
    exact (same.2 b (Nat.ne_of_lt (Heap.lt_size ob))).trans ((Heap.get?_update_ne _ _ _ _ nb).trans (Heap.get?_push_of_some _ ob))
/-- a further field -/
theorem osa_more {nm : Str} {tk : Tok} {v : Value} {x C dx : Addr} {fv : Array Value} {cd : ClassData} {m0 : Str → Option Value} {nl : List Str} (kin : K.In h0) (ox : h0.get? x = some { cls := .ref C, dict := some dx, data := .fields fv }) (nsd : h0.Ns1 dx m0) (few : Within m0 nl) (few' : nl.length ≤ 1000)
    (hcd : PySem.W.clsIn K C = some cd) (ov : Over cd.mro) (dct : cd.hasDict = true) (no : PySem.W.findIn K (.ref C) nm = some none)
    (go : ∀ h1 tk1, (∀ b o, b ≠ dx → h0.get? b = some o → h1.get? b = some o) → h1.Ns1 dx (fun y => if y = nm then some v else m0 y) → R (.ok (.ret .none)) ⟨h1, gs, dr, tk1, oS⟩) :
    codeAny (model P w) A (.call (.builtin "object.__setattr__") ⟨[.ref x, .str nm tk, v], []⟩) R ⟨h0, gs, dr, tn, oS⟩ := by
  obtain ⟨oD, _, _, gotD, _, _⟩ := nsd.count few
  have at_x : InstAt h0 x { cls := .ref C, dict := some dx, data := .fields fv } C (some oD) := ⟨ox, rfl, rfl, gotD⟩
  have St := F.store_object
  have isObj : Looks (model P w) h0 (isInstance (.ref x) (.type "object")) true := at_x.type.andThen (looks_mroIn kin (by
    unfold mroIn
    rw [hcd, Option.bind_some, if_neg (by rw [ov.some_]; decide), ov.has "object"]
    decide +kernel))
  refine codeAny_call_builtin St.slot.plain St.entry (@check_slot (model P w) _ _ ⟨h0, gs, dr, tn, oS⟩ "object.__setattr__" "object" "__setattr__" (.ref x) [.str nm tk, v] [] _ St.kind St.split isObj (St.args (.ref x) (.str nm tk) v) ?_)
  have seesMro : Looks (model P w) h0 (mroOf (.ref C)) cd.mro := (looks_clsIn kin hcd).andThen .now
  have taker : Looks (model P w) h0 (storeTaker? none) none := .now
  have seesCls : Looks (model P w) h0 (classData C) cd := looks_clsIn kin hcd
  rw [osa_eq, refuse_eq]
  refine wpAny_bind (wpAny_bind (at_x.type.at (wpAny_bind (seesMro.at ?_))))
  rw [ov.lets]
  refine wpAny_pure (wpAny_bind (at_x.type.at (wpAny_bind ((looks_findIn kin no).at (wpAny_bind (taker.at ?_))))))
  show wpAny _ _ (storeInOwnDict (.ref x) (.ref C) (.str nm tk) nm v false) _ _ _
  obtain ⟨c1, c2, c3, c4, c5, hasD, c7, c8, c9, c10, c11⟩ := cd
  dsimp only at dct
  subst dct
  unfold storeInOwnDict ownDictForStores
  repeat (first | with_reducible refine PySem.OEX.store_in_old nsd few few' ?_ | with_reducible refine wpAny_loadPart_at ox ?_ | with_reducible refine seesCls.at ?_ | wp_step)
  intro h1 tk1 nsd1 same
  exact go h1 tk1 (fun b o nb ob => (same.2 b nb).trans ob) nsd1
end
end LkE
section
open PySem.Spec PyProof.Rows
/-- what the written part says of an own class over LookupError -/
structure LexC (K : PySem.W.Frag) (C : Addr) : Prop where
  cls : ∃ nm q N bs bm sn sub ab col dd k0 k1 k2 k3 k5, K.lookup C = some (excClassObj nm q C N bs bm true sn sub ab col dd k0 k1 k2 k3 k5 "LookupError.__new__") ∧ LkE.Over bm
  sa : PySem.W.findIn K (.ref C) "__setattr__" = some (some (.builtin "object.__setattr__"))
  exC : PySem.W.subIn K (.ref C) (.type "BaseException") = some true
  tyC : PySem.W.typeIn K (.ref C) = some (.type "type")
  kC : PySem.W.keepIn K (.ref C) = true
section
variable {X : Cx} {pins : List (Addr × Obj)} {σ : L2.St} {H : Hp} {s : Shared} {a C dx : Addr} {f : Str} {y : V} {u : Value} {fs : List (Str × V)} {Q : Unit → Shared → Prop} {E : Value → Shared → Prop} {A : Around}
theorem LexC.cd {K : PySem.W.Frag} {C : Addr} (T : LexC K C) : ∃ cd : ClassData, PySem.W.clsIn K C = some cd ∧ LkE.Over cd.mro ∧ cd.hasDict = true := by
  obtain ⟨nm, q, N, bs, bm, sn, sub, ab, col, dd, k0, k1, k2, k3, k5, hC, ov⟩ := T.cls
  exact ⟨{ name := nm, bases := bs, mro := .ref C :: bm, ns := N, qualname := q, hasDict := true, slotNames := sn, subclasses := sub, abstract := ab, collection := col, hasDel := false }, by unfold PySem.W.clsIn; rw [hC] <;> rfl, ov.own C, rfl⟩
/-- self.f = y on an error without a dict -/
theorem lst_new (T : LexC X.K C) (I : Inv X pins σ H s) (ea : H a = some (exo a C none)) (no : PySem.W.findIn X.K (.ref C) f = some none) (ry : RelV y u)
    (go : ∀ dx s1, H dx = none → dx ≠ a → Inv X pins σ (upd (upd H dx (exd dx [(f, y)])) a (exo a C (some dx))) s1 → Q () s1) : wpAny (model X.prog X.w) A (setAttr (.ref a) f u) Q E s := by
  obtain ⟨cd, hcd, ov, dct⟩ := T.cd
  obtain ⟨t1, oa⟩ := exo_at I.hok ea
  obtain ⟨hp, gs, dr, tn, oS⟩ := s
  refine PySem.W.set_plain I.kIn (ox := { cls := .ref C, dict := none, data := .fields #[.ref t1, .none, .none, .none, .bool false, .none] }) (od := none) ⟨oa, rfl, rfl, trivial⟩ T.sa ?_
  refine LkE.osa_first I.kIn oa hcd ov dct no (fun h1 tk1 dx keeps past apart oa1 nsd => ?_)
  have free : H dx = none := I.hok.fresh past
  have offD : ∀ {b : Addr} {o : Obj}, hp.get? b = some o → b ≠ dx := fun {b o} z => Nat.ne_of_lt (Nat.lt_of_lt_of_le (Heap.lt_size z) past)
  have offA : ∀ {b : Addr}, H b = none → b ≠ a := fun {b} z e => by
    rw [e, ea] at z
    cases z
  refine go dx _ free apart (I.un (t' := tk1) ⟨fun b o z n _ _ => keeps b o (offA n) z, fun b o z n _ _ => ⟨o.slots, keeps b o (offA n) z⟩, fun b o z n _ => by rw [upd_ne (offA n), upd_ne (offD z)]; exact n, fun b o z _ => ?_, fun b xs z => by rw [upd_ne (at_ne ea z exo_tup), upd_ne (ne_of_none z free)]; exact z,
    fun b o v z => by rw [upd_ne (at_ne ea z exo_frz), upd_ne (ne_of_none z free)]; exact z, fun b ps z => ⟨#[], by rw [upd_ne (at_ne ea z exo_tbl), upd_ne (ne_of_none z free), z]; simp⟩⟩ fun b o z => ?_)
  · by_cases hb : b = a
    · exact ⟨_, by rw [hb]; exact oa1⟩
    · exact ⟨o, keeps b o hb z⟩
  · by_cases hb : b = a
    · subst hb
      rw [upd_same] at z
      cases z
      exact exo_ok oa1
    · rw [upd_ne hb] at z
      by_cases hd : b = dx
      · subst hd
        rw [upd_same] at z
        cases z
        exact exd_ok nsd (relO_put (fs := []) ry fun _ => True.intro)
      · rw [upd_ne hd] at z
        refine (I.hok b o z).stay (fun c v hc q => keeps c v ?_ q) (fun c hc => by rw [upd_ne (at_ne ea hc exo_own), upd_ne (ne_of_none hc free)]; exact hc) (fun c xs hc => by rw [upd_ne (at_ne ea hc exo_tup), upd_ne (ne_of_none hc free)]; exact hc)
        rcases hc with hc | hc
        · rw [hc]
          exact hb
        · exact at_ne ea hc exo_own
/-- self.f = y on one that has it -/
theorem lst_old (T : LexC X.K C) (I : Inv X pins σ H s) (ea : H a = some (exo a C (some dx))) (ed : H dx = some (exd dx fs)) (few : fs.length ≤ 900) (no : PySem.W.findIn X.K (.ref C) f = some none) (ry : RelV y u)
    (go : ∀ s1, Inv X pins σ (upd H dx (exd dx ((f, y) :: fs))) s1 → Q () s1) : wpAny (model X.prog X.w) A (setAttr (.ref a) f u) Q E s := by
  obtain ⟨cd, hcd, ov, dct⟩ := T.cd
  obtain ⟨t1, oa⟩ := exo_at I.hok ea
  obtain ⟨mA, nsd, rel⟩ := exd_at I.hok ed
  have wit := within_of rel
  obtain ⟨hp, gs, dr, tn, oS⟩ := s
  obtain ⟨oD, _, _, gotD, _, _⟩ := nsd.count wit
  refine PySem.W.set_plain I.kIn (ox := { cls := .ref C, dict := some dx, data := .fields #[.ref t1, .none, .none, .none, .bool false, .none] }) (od := some oD) ⟨oa, rfl, rfl, gotD⟩ T.sa ?_
  refine LkE.osa_more I.kIn oa nsd wit (by rw [List.length_map]; omega) hcd ov dct no (fun h1 tk1 keeps nsd1 => ?_)
  refine go _ (I.write (t' := tk1) (x := dx) (e := dx) (o := exd dx ((f, y) :: fs)) (by rw [ed]; exact True.intro) (.inl rfl) keeps ?_ (exd_ok nsd1 (relO_put ry rel)))
  obtain ⟨o, _, _, z, _⟩ := nsd1
  exact ⟨o, z⟩
/-- LookupError.__init__(self, ..) -/
theorem linit_ok {us : List Value} {Q : Value → Shared → Prop} (T : LexC X.K C) (I : Inv X pins σ H s) (ea : H a = some (exo a C none)) (few : us.length ≤ sizeLine) (go : ∀ s1, Inv X pins σ H s1 → Q .none s1) :
    wpAny (model X.prog X.w) A (call (.builtin "LookupError.__init__") (.ref a :: us)) Q E s := by
  obtain ⟨nm, q, N, bs, bm, sn, sub, ab, col, dd, k0, k1, k2, k3, k5, hC, ov⟩ := T.cls
  obtain ⟨t1, oa⟩ := exo_at I.hok ea
  obtain ⟨hp, gs, dr, tn, oS⟩ := s
  refine wpAny_call (PySem.HandSPX.init_base F.excBase_LookupError ov.has (I.kIn _ _ hC) oa few fun h1 t2 keeps oa1 => ?_)
  have J := I.write (t' := tn) (x := a) (e := a) (o := exo a C none) (by rw [ea]; exact True.intro) (.inl rfl) keeps ⟨_, oa1⟩ (exo_ok oa1)
  have same : upd H a (exo a C none) = H := funext fun b => by
    by_cases hb : b = a
    · rw [hb, upd_same, ea]
    · rw [upd_ne hb]
  rw [same] at J
  exact go _ J
end
end

/-! ### the readings over it (behind 60l_lookup) -/
section
open PySem.Spec PyProof.Rows
/-- LookupError.__init__(self, ..) -/
def tLkI (K : PySem.W.Frag) (ta : TA) : TE := fun σ H Q => ta σ H fun vs H1 => ∃ (a C : Addr) (ws : List V), vs = .ref a :: ws ∧ ws.length ≤ 1000 ∧ LexC K C ∧ H1 a = some (exo a C none) ∧ Q .non H1
/-- self.f = e -/
def tLst (K : PySem.W.Frag) (f : Str) (to te : TE) : TS := fun D σ H => te σ H fun y H1 => to σ H1 fun x H2 => ∃ a C : Addr, x = .ref a ∧ LexC K C ∧ PySem.W.findIn K (.ref C) f = some none ∧
  ((H2 a = some (exo a C none) ∧ ∀ d, H2 d = none → d ≠ a → D.nx σ (upd (upd H2 d (exd d [(f, y)])) a (exo a C (some d)))) ∨
    ∃ (d : Addr) (fs : List (Str × V)), H2 a = some (exo a C (some d)) ∧ H2 d = some (exd d fs) ∧ fs.length ≤ 900 ∧ D.nx σ (upd H2 d (exd d ((f, y) :: fs))))
section
variable {X : Cx} {o e : Expr} {es : List Expr} {to te : TE} {ta : TA} {f : Str} {p p' p1 p2 pos : Pos}
theorem pe_lkinit {pl : Sem Bool} (hg : Gl X "LookupError") (hm : X.mg "LookupError" = none) (vV : PySem.W.findCls X.K (.type "LookupError") (.type "type") "__init__" = some (.val (.builtin "LookupError.__init__"))) (ha : PA X (e :: es) ta)
    (hc : eval (.Call (.Attribute (.Name "LookupError" p1) "__init__" p2) (e :: es) [] pos) X.env = (do
      let ov ← eval (.Name "LookupError" p1) X.env
      standAt p2.atName
      let (g, first) ← holding [ov] (getMethod ov "__init__" pl)
      callWith pos g first (backTo pos (starEach (e :: es) X.env)) (backToKw pos (keywordEach [] X.env))) := by rfl)
    (he : starEach (e :: es) X.env = (false, eval e X.env) :: starEach es X.env := by rfl) (hpl : (backTo pos (starEach es X.env)).any (·.1) = false := by rfl) :
    PE X (.Call (.Attribute (.Name "LookupError" p1) "__init__" p2) (e :: es) [] pos) (tLkI X.K ta) := by
  refine ⟨fun pins s σ H Q I h => ?_⟩
  refine PySem.W.methodCall_KW (ld_blt I hg hm PyProof.Rows.Boot.«LookupError» ?_ (by decide) (by decide)) hc
  obtain ⟨_, fr⟩ := I.fr
  refine PySem.W.method_type fr I.ok.mod.kin (show typeOf (.type "LookupError") = pure (.type "type") by kernel_rfl) (by decide +kernel) vV (by decide +kernel) ?_
  show wpAny _ _ (callWith pos (Value.builtin "LookupError.__init__") [] (backTo pos (starEach (e :: es) X.env)) []) _ _ _
  refine PyProof.Rows.callWith_method1 (thn (ha.run pos pins _ σ H _ (I.tok _) h) fun us s1 ⟨vs, H1, I1, r1, a, C, ws, ev, few, T, ea, q⟩ => ?_) he hpl
  subst ev
  cases r1 with
  | @cons _ u0 _ ur ra rr =>
    obtain rfl : u0 = Value.ref a := ra
    exact linit_ok T I1 ea (by rw [← Paired.length rr, sizeLine_eq]; omega) fun s2 J => ⟨.non, H1, J, rfl, q⟩
theorem ps_lst (ho : PE X o to) (he : PE X e te) (hs : swapsWith e (some (.Attribute o f p')) pos.line X.env = pure false := by rfl) : PS X (.Assign [.Attribute o f p'] e pos) (tLst X.K f to te) := by
  refine ⟨fun pins s σ H D I h => ?_⟩
  refine plainObj_wpAny_Assign_Attribute (thn (he.run pins s σ H _ I h) fun v s1 ⟨y, H1, I1, r1, q1⟩ => thn (ho.run pins s1 σ H1 _ I1 q1) fun u s2 ⟨x, H2, I2, r2, a, C, ex, T, no, q⟩ => ?_) hs
  subst ex
  obtain rfl : u = Value.ref a := r2
  rcases q with ⟨ea, q⟩ | ⟨d, fs, ea, ed, few, q⟩
  · exact lst_new T I2 ea no r1 fun d s3 n ne J => ⟨σ, _, J, q d n ne⟩
  · exact lst_old T I2 ea ed few no r1 fun s3 J => ⟨σ, _, J, q⟩
theorem pmk_lex {CX : CXT} {x : Str} {C fI : Addr} {k : Nat} {fd : FuncData} {ps : List Str} {sp : Sp} {ds : List Value} {dvs : List V} (T : LexC X.K C) (iC : PySem.W.findIn X.K (.ref C) "__init__" = some (some (.ref fI))) (tI : PySem.W.typeIn X.K (.ref fI) = some (.type "function"))
    (F1 : FnOk X.prog X.w X.K X.mg X.base CX k fI fd ps sp) (hr : Room (k + 1) X.A) (hb : Binds X.K fd ps ds) (hd : Vals dvs ds) (hx : Passes CX X (fun _ _ _ => False)) (hg : Gl X x) (hm : X.mg x = some (.ref C)) (ha : PA X (e :: es) ta)
    (dbg : (x == ("__debug__" : Str)) = false := by decide) (he : starEach (e :: es) X.env = (false, eval e X.env) :: starEach es X.env := by rfl) (hpl : (backTo pos (starEach es X.env)).any (·.1) = false := by rfl) :
    PMk X (.Call (.Name x p) (e :: es) [] pos) (tMkO C sp dvs ta) := by
  intro pins s σ H Q I h
  obtain ⟨nm, q, N, bs, bm, sn, sub, ab, col, dd, k0, k1, k2, k3, k5, hC, ov⟩ := T.cls
  refine wpAny_Call_Name_kw (ld_glob I hg hm ?_ dbg)
  refine PySem.W.callWith_K (h₀ := X.base) I.ok.mod.kin T.kC (thn (ha.run pos pins s σ H _ I h) fun us s1 ⟨vs, H1, I1, r1, few, q1⟩ => ⟨I1.kIn, ?_⟩) he hpl
  show wpAny _ _ (call (.ref C) us) _ _ _
  obtain ⟨hp, gs, dr, tk, oS⟩ := s1
  have up : hp.objs.size ≤ hp.objs.size + 1 := Nat.le_succ _
  have want := q1 (hp.objs.size + 1) (I1.hok.fresh up)
  have keeps : ∀ b ob, hp.get? b = some ob → ((hp.push (PySem.W.kdv_tup us)).push (PySem.HandSPX.excO C hp.objs.size)).get? b = some ob := fun b ob z => Heap.get?_push_of_some _ (Heap.get?_push_of_some _ z)
  have made : ((hp.push (PySem.W.kdv_tup us)).push (PySem.HandSPX.excO C hp.objs.size)).get? (hp.objs.size + 1) = some (PySem.HandSPX.excO C hp.objs.size) := by heap_get
  have I2 : Inv X pins σ (upd H1 (hp.objs.size + 1) (exo (hp.objs.size + 1) C none)) ⟨(hp.push (PySem.W.kdv_tup us)).push (PySem.HandSPX.excO C hp.objs.size), gs, dr, tk, oS⟩ :=
    I1.laid (t' := tk) (a := hp.objs.size + 1) (o := exo (hp.objs.size + 1) C none) (h' := (hp.push (PySem.W.kdv_tup us)).push (PySem.HandSPX.excO C hp.objs.size)) keeps up (exo_ok made)
  have r2 : Vals (V.ref (hp.objs.size + 1) :: (vs ++ dvs)) (Value.ref (hp.objs.size + 1) :: (us ++ ds)) := .cons rfl (r1.append hd)
  have len : (Value.ref (hp.objs.size + 1) :: us ++ ds).length = ps.length := (F1.len _ _ _ _ want ▸ r2.length).symm
  refine wpAny_call (PySem.HandSPX.call_own F.excBase_LookupError ov.has (I1.kIn _ _ hC) (PySem.W.looks_findIn I1.kIn iC) (fun self => PySem.W.bind_fn I1.kIn self tI) (by rw [← Paired.length r1, sizeLine_eq]; omega)
    (codeAny_mono (F1.run _ X.stack _ _ ⟨Value.ref (hp.objs.size + 1) :: us, []⟩ (Value.ref (hp.objs.size + 1) :: (us ++ ds)) _ _ (fun _ _ _ => False) (hr.make C us []) (I2.env0.make C us []) (hb _ (Value.ref (hp.objs.size + 1) :: us) I2.kIn len) r2 want) fun r s2 back => ?_))
  cases r with
  | error er => exact hx pins σ _ _ er s2 I2 back
  | ok fl =>
    cases fl with
    | ret u =>
      obtain ⟨v, H2, os2, bare2, un2, hok2, rv, ev, d, fs, ea, ed, free, q2⟩ := back
      subst ev
      obtain ⟨h2, g2, d2, t2, oT⟩ := s2
      exact ⟨rv, mk_end (raises_own T.exC T.tyC) I1 up keeps un2 hok2 os2 bare2 ea ed free q2⟩
    | next => exact False.elim back
    | brk => exact False.elim back
    | cont => exact False.elim back
end
end

/-! ### try, the first of several named clauses takes the error -/
section
open PySem.Spec PyProof.Rows
variable {X : Cx}
end

/-! ### try, the first or the second of several named clauses takes the error -/
section
open PySem.Spec PyProof.Rows
def wTwo (K : PySem.W.Frag) (c d : Value) (i : Nat) (ts us : Addr → Value → Option Addr → TS) (D : Ends) : WX := fun k dd τ G =>
  ∃ b, PySem.W.exmOne K k c = some b ∧
    (b = true → ∀ z, G z = none → ts z k dd ⟨fun τ' G' => D.nx (τ'.set i none) G', D.rt, fun τ' G' => D.bk (τ'.set i none) G', fun τ' G' => D.ct (τ'.set i none) G'⟩ (τ.set i (some (.ref z))) G) ∧
    (b = false → PySem.W.exmOne K k d = some true ∧ ∀ z, G z = none → us z k dd ⟨fun τ' G' => D.nx (τ'.set i none) G', D.rt, fun τ' G' => D.bk (τ'.set i none) G', fun τ' G' => D.ct (τ'.set i none) G'⟩ (τ.set i (some (.ref z))) G)
variable {X : Cx}
theorem ps_try_two {x x' n : Str} {c d : Value} {i : Nat} {bd su su' : List Stmt} {s0 s0' : Stmt} {np np' q1 q2 q3 : Pos} {more : List ExceptHandler} {tb : WX → TS} {ts us : Addr → Value → Option Addr → TS}
    (stk : X.stack = X.env :: X.outer) (frm : X.env.frame = some X.env.locals) (nod : X.N.Nodup) (slot : X.N[i]? = some n) (loc : X.env.kindOf n = some .local) (nam : Names X x c) (nam' : Names X x' d)
    (run : ∀ (W : WX) (pn : List (Addr × Obj)) (xe : Value → Shared → Prop), L2.Takes (X.tr pn xe) W → PassesOwn (model X.prog X.w) X.A X.env xe → PSs (X.tr pn xe) bd (tb W))
    (sui : ∀ (z : Addr) (oz : Obj) (k : Value) (dd : Option Addr) (pn : List (Addr × Obj)), Zc k dd oz → (∃ vs, oz.data = .fields vs) → PSs (X.suite z ((z, oz) :: pn)) (s0 :: su) (ts z k dd))
    (sui' : ∀ (z : Addr) (oz : Obj) (k : Value) (dd : Option Addr) (pn : List (Addr × Obj)), Zc k dd oz → (∃ vs, oz.data = .fields vs) → PSs (X.suite z ((z, oz) :: pn)) (s0' :: su') (us z k dd)) :
    PS X (.Try bd (.ExceptHandler (some (.Name x np)) (some n) (s0 :: su) q2 :: .ExceptHandler (some (.Name x' np')) (some n) (s0' :: su') q3 :: more) [] [] q1) (fun D τ G => tb (wTwo X.K c d i ts us D) D τ G) := by
  refine ⟨fun pins st τ G D I want => ?_⟩
  have okX := I.ok
  have frames : X.A.frames = some (X.env :: X.outer) := (okX.frames).trans (congrArg some stk)
  refine wpAny_Try_except (wpAny_mono ((run (wTwo X.K c d i ts us D) (X.pn ++ pins) (fun er s1 => wpAny (model X.prog X.w) X.A (noteFrame er X.env) (fun _ s2 => wpAny (model X.prog X.w) X.A (setFlight er none)
    (fun _ s3 => wpAny (model X.prog X.w) X.A (handleBy er X.env (.ExceptHandler (some (.Name x np)) (some n) (s0 :: su) q2 :: .ExceptHandler (some (.Name x' np')) (some n) (s0' :: su') q3 :: more)) (SP X pins D) X.xe s3) X.xe s2) X.xe s1) (fun er s' flown => ?_) PassesOwn.looking).run [] st τ G D (I.toTry _) want) (fun fl s1 done => ?_) (fun _ _ z => z))
  · obtain ⟨z, Bq, sI, pins', τ', G', k, dd, rfl, Jt, nb, up, sky, nz, osq, bare, b, hit, go, go'⟩ := flown
    have J : Inv X pins τ' G' sI := Jt.ofTry okX
    have sky2 : Sky Bq (X.env :: X.outer) z (Zc k dd) X.env.locals s'.heap := stk ▸ sky
    show wpAny (model X.prog X.w) X.A (noteFrame (.ref z) X.env) _ _ _
    refine Sky.land Zc.steady frames frm sky2 fun g3 fly3 up3 => ?_
    have J3 : Inv X pins τ' G' { s' with heap := g3 } := J.landed nb fly3.1 (up.trans up3) osq bare
    obtain ⟨o3, v3, get3, zc3, dat3⟩ := fly3.there
    have offFr : z ∉ frs (X.env :: X.outer) := fun mem => by
      obtain ⟨_, o', got, nof⟩ := fly3.2.2.1.mem mem
      rw [get3] at got
      cases got
      exact nof _ dat3
    have offL : z ≠ X.env.locals := fun e => offFr (List.mem_filterMap.mpr ⟨X.env, List.mem_cons_self, frm.trans (congrArg some e.symm)⟩)
    have offF : z ∉ X.fs := fun mem => by
      obtain ⟨ev, hev, qe⟩ := List.mem_filterMap.mp mem
      exact offFr (List.mem_filterMap.mpr ⟨ev, List.mem_cons_of_mem _ hev, qe⟩)
    have S3 := J3.suite get3 dat3 nz offL offF
    have ty : PySem.W.Looks (model X.prog X.w) g3 (typeOf (.ref z)) k := fun A' Q' E' sx kx qx => wpAny_typeOf_ref (kx _ _ get3) (zc3.1.symm ▸ qx)
    have mat := PySem.W.exm_one (M := model X.prog X.w) J3.kIn ty hit
    have named : ∀ {y : Str} {cv : Value} {yp : Pos} (_ : Names X y cv) {Q' : Value → Shared → Prop} {E' : Value → Shared → Prop}, Q' cv { s' with heap := g3 } → wpAny (model X.prog X.w) (X.A.mark (some (.ref z))) (eval (.Name y yp) X.env) Q' E' { s' with heap := g3 } := fun nm => by
      intro Q' E' qc
      obtain ⟨g0, dbg, m0 | ⟨m0, v0, n0⟩⟩ := nm
      · exact ld_glob (X := X.suite z ((z, o3) :: (X.pn ++ pins))) S3 g0 m0 qc dbg
      · exact ld_blt (X := X.suite z ((z, o3) :: (X.pn ++ pins))) S3 g0 m0 v0 qc n0 dbg
    refine wpAny_handleBy_cons (codeAny_handlers_test (named nam (mat.here ?_))) (fun qq => by cases qq)
    cases b with
    | true =>
      have go := go rfl
      refine codeAny_handlers_suite_as (HandSPX.lands_againZ fly3 fun g4 fly4 up4 => ?_)
      have J4 : Inv X pins τ' G' { s' with heap := g4 } := J.landed nb fly4.1 ((up.trans up3).trans up4) osq bare
      obtain ⟨o4, v4, get4, zc4, dat4⟩ := fly4.there
      have S4 := J4.suite get4 dat4 nz offL offF
      refine store_ok (X := X.suite z ((z, o4) :: (X.pn ++ pins))) (v := .ref z) S4 nod slot (.inl loc) rfl (fun s5 S5 => ?_) (.inr loc)
      refine wpAny_mono ((sui z o4 k dd (X.pn ++ pins) zc4 ⟨_, dat4⟩).run [] s5 _ G' _ S5 (go z nz)) (fun fl s6 done => ?_) (fun _ _ bad => bad.elim)
      have gone : ∀ {τ6 : L2.St} {G6 : Hp} {R : Shared → Prop}, Inv (X.suite z ((z, o4) :: (X.pn ++ pins))) [] τ6 G6 s6 → (∀ s7, Inv X pins (τ6.set i none) G6 s7 → R s7) →
          wpAny (model X.prog X.w) X.A (do bindName X.env n .none; unbindBehindTheSuite X.env n q2) (fun _ s7 => R s7) X.xe s6 := fun S6 hq => gone_ok (S6.unsuite okX) nod slot loc hq
      cases fl with
      | next =>
        obtain ⟨τ6, G6, S6, q6⟩ := done
        exact gone S6 fun s7 J7 => ⟨_, _, J7, q6⟩
      | brk =>
        obtain ⟨τ6, G6, S6, q6⟩ := done
        exact gone S6 fun s7 J7 => ⟨_, _, J7, q6⟩
      | cont =>
        obtain ⟨τ6, G6, S6, q6⟩ := done
        exact gone S6 fun s7 J7 => ⟨_, _, J7, q6⟩
      | ret u =>
        obtain ⟨v6, τ6, G6, S6, r6, q6⟩ := done
        exact gone S6 fun s7 J7 => ⟨_, _, _, J7, r6, q6⟩
    | false =>
      obtain ⟨hit', go'⟩ := go' rfl
      have mat' := PySem.W.exm_one (M := model X.prog X.w) J3.kIn ty hit'
      show wpAny _ X.A (handleBy (.ref z) X.env (.ExceptHandler (some (.Name x' np')) (some n) (s0' :: su') q3 :: more)) _ _ _
      refine wpAny_handleBy_cons (codeAny_handlers_test (named nam' (mat'.here ?_))) (fun qq => by cases qq)
      refine codeAny_handlers_suite_as (HandSPX.lands_againZ fly3 fun g4 fly4 up4 => ?_)
      have J4 : Inv X pins τ' G' { s' with heap := g4 } := J.landed nb fly4.1 ((up.trans up3).trans up4) osq bare
      obtain ⟨o4, v4, get4, zc4, dat4⟩ := fly4.there
      have S4 := J4.suite get4 dat4 nz offL offF
      refine store_ok (X := X.suite z ((z, o4) :: (X.pn ++ pins))) (v := .ref z) S4 nod slot (.inl loc) rfl (fun s5 S5 => ?_) (.inr loc)
      refine wpAny_mono ((sui' z o4 k dd (X.pn ++ pins) zc4 ⟨_, dat4⟩).run [] s5 _ G' _ S5 (go' z nz)) (fun fl s6 done => ?_) (fun _ _ bad => bad.elim)
      have gone : ∀ {τ6 : L2.St} {G6 : Hp} {R : Shared → Prop}, Inv (X.suite z ((z, o4) :: (X.pn ++ pins))) [] τ6 G6 s6 → (∀ s7, Inv X pins (τ6.set i none) G6 s7 → R s7) →
          wpAny (model X.prog X.w) X.A (do bindName X.env n .none; unbindBehindTheSuite X.env n q3) (fun _ s7 => R s7) X.xe s6 := fun S6 hq => gone_ok (S6.unsuite okX) nod slot loc hq
      cases fl with
      | next =>
        obtain ⟨τ6, G6, S6, q6⟩ := done
        exact gone S6 fun s7 J7 => ⟨_, _, J7, q6⟩
      | brk =>
        obtain ⟨τ6, G6, S6, q6⟩ := done
        exact gone S6 fun s7 J7 => ⟨_, _, J7, q6⟩
      | cont =>
        obtain ⟨τ6, G6, S6, q6⟩ := done
        exact gone S6 fun s7 J7 => ⟨_, _, J7, q6⟩
      | ret u =>
        obtain ⟨v6, τ6, G6, S6, r6, q6⟩ := done
        exact gone S6 fun s7 J7 => ⟨_, _, _, J7, r6, q6⟩
  · cases fl with
    | next =>
      obtain ⟨τ1, G1, J1, q⟩ := done
      exact wpAny_execs_nil ⟨τ1, G1, J1.ofTry okX, q⟩
    | brk =>
      obtain ⟨τ1, G1, J1, q⟩ := done
      exact ⟨τ1, G1, J1.ofTry okX, q⟩
    | cont =>
      obtain ⟨τ1, G1, J1, q⟩ := done
      exact ⟨τ1, G1, J1.ofTry okX, q⟩
    | ret u =>
      obtain ⟨v1, τ1, G1, J1, r, q⟩ := done
      exact ⟨v1, τ1, G1, J1.ofTry okX, r, q⟩
end

/-! ### an error that is held, looked at by a def -/
section
open PySem.Spec PyProof.Rows PySem.W PySem.Calls
variable {prog : Program} {w : World} {A : Around} {E : Value → Shared → Prop} {st : Shared} {K : Frag} {z C : Addr} {oz : Obj} {oo : Option Obj}
theorem own_class {Q : Option Value → Shared → Prop} (T : ExcC K C) (KI : K.In st.heap) (I : InstAt st.heap z oz C oo) (want : Q (some (.ref C)) { st with toks := st.toks + 1 }) : wpAny (model prog w) A (getAttr? (.ref z) "__class__") Q E st := by
  obtain ⟨cdx, hcdx, _⟩ := any_some T.hd
  have found : findObj K C oo "__class__" = some (.bind (.builtin "getset_descriptor.__get__") (.builtin "object.__class__")) := by
    unfold findObj
    rw [hcdx, Option.bind_some, T.ha, Option.bind_some]
    simp [T.hn, T.ht]
  obtain ⟨hq, gq, dq, tq, oq⟩ := st
  have k0 := I.type (M := model prog w)
  have k1 := looks_findIn (M := model prog w) KI T.hg
  have k2 := looks_findIn (M := model prog w) KI T.hk
  have k3 := looks_find (M := model prog w) KI I found
  have kb : Looks (model prog w) hq (isInstance (.ref z) (.type "BaseException")) true := k0.andThen (looks_subIn KI T.hs)
  have not2 : (Value.builtin "BaseException.__getattribute__" == Value.builtin "object.__getattribute__") = false := by decide +kernel
  have not1 : (onTheHeap (Value.ref C) && Value.builtin "BaseException.__getattribute__" == Value.builtin "object.__getattribute__") = false := by rw [not2] <;> rfl
  unfold getAttr? getAttrBy? getAttrBy
  refine wpAny_bind (wpAny_mkText (wpAny_bind (wpAny_attempt (wpAny_holding (wpAny_bind (k0.at (wpAny_bind (k1.at ?_))))))))
  show wpAny _ _ (if (onTheHeap (Value.ref C) && Value.builtin "BaseException.__getattribute__" == Value.builtin "object.__getattribute__") = true then _ else _) _ _ _
  rw [not1, if_neg Bool.false_ne_true]
  unfold getAttrByItsOwn hookBefore
  refine wpAny_bind ?_
  rw [if_pos (show onTheHeap (Value.ref C) = true from rfl)]
  refine k2.at (wpAny_bind (wpAny_attempt (wpAny_holding ?_)))
  unfold callGetattribute
  rw [show (false && onTheHeap (Value.builtin "BaseException.__getattribute__")) = false from rfl, if_neg Bool.false_ne_true]
  unfold boundAndCalled
  rw [PySem.F.excAttr_ValueError.ga.bind (.ref z)]
  refine wpAny_bind (wpAny_pure ?_)
  show wpAny _ _ (call (.builtin "BaseException.__getattribute__") [.ref z, .str "__class__" tq]) _ _ _
  refine wpAny_call (codeAny_call_builtin PySem.F.excAttr_ValueError.ga.plain PySem.F.entry_bexc_ga ?_)
  refine @check_slot (model prog w) _ _ ⟨hq, gq, dq, tq + 1, oq⟩ "BaseException.__getattribute__" "BaseException" "__getattribute__" (.ref z) [.str "__class__" tq] [] _ (by decide +kernel) (by decide +kernel) kb (PySem.F.args_bexc_ga (.ref z) (.str "__class__" tq)) ?_
  unfold Builtin.«object.__getattribute__»
  refine wpAny_bind (wpAny_of_eq (a := ((Value.ref z : Value), [Value.str "__class__" tq])) (by first | rfl | (simp only [slotArgs]; rfl)) ?_)
  refine wpAny_bind (wpAny_pure (wpAny_bind (k0.at (wpAny_bind (k3.at ?_)))))
  show wpAny _ _ (holding [Value.builtin "object.__class__"] (call (.builtin "getset_descriptor.__get__") [.builtin "object.__class__", .ref z, .ref C]) >>= ret) _ _ _
  refine wpAny_bind (wpAny_holding (wpAny_call (class_get (s := ⟨hq, gq, dq, tq + 1, oq⟩) (ox := oz) (od := oo) KI I T.hm (wpAny_pure ?_))))
  show wpAny _ _ (handedOut (.ref C)) _ _ _
  rw [handedOut_of (v := .ref C) rfl]
  first
    | exact wpAny_pure (wpAny_pure want)
    | exact wpAny_pure want
    | exact wpAny_pure (wpAny_bind (wpAny_pure (wpAny_pure want)))
theorem own_kit (T : ExcC K C) : KitX K (.ref z) (.ref C) (fun h => InstAt h z oz C oo) where
  ty := fun _ _ _ I => I.type
  it := fun _ _ KI _ => by
    obtain ⟨cdx, hcdx, _⟩ := any_some T.hd
    unfold clsIn at hcdx
    split at hcdx
    · rename_i c1 d1 cd1 sl1 got
      intro A' Q' E' s' kp qq
      unfold isType loadHead
      exact wpAny_bind (wpAny_loadPart (kp _ _ (KI _ _ got)) (wpAny_pure qq))
    · cases hcdx
  ne := fun h tp dd its n sl KI htp => by
    obtain ⟨cdx, hcdx, _⟩ := any_some T.hd
    refine Bool.eq_false_iff.mpr fun same => ?_
    have e : C = tp := Value.ref.inj (beq_iff_eq.mp same)
    subst e
    unfold clsIn at hcdx
    split at hcdx
    · rename_i c1 d1 cd1 sl1 got
      have two := (KI _ _ got).symm.trans htp
      cases two
    · cases hcdx
  ca := fun KI I k => own_class T KI I k
end
/-- the error at p.1 is one of the class at C, its dict stands at dd with the fields fs -/
structure Held (p : Addr × Obj) (C dd : Addr) : Prop where
  z : Zc (.ref C) (some dd) p.2
  f : ∃ vs, p.2.data = .fields vs
section
open PySem.Spec PyProof.Rows
variable {X : Cx} {p : Addr × Obj} {C dd : Addr}
theorem Held.inst {pins : List (Addr × Obj)} {σ : L2.St} {H : Hp} {s : Shared} {fs : List (Str × V)} (h : Held p C dd) (hp : p ∈ X.pn) (I : Inv X pins σ H s) (hd : H dd = some (.xd fs)) :
    ∃ (od : Obj) (mA : Str → Option Value), PySem.W.InstAt s.heap p.1 p.2 C (some od) ∧ (∀ n, PySem.W.lookIn n od = some (mA n)) ∧ ∀ f, RelO (fs.lookup f) (mA f) := by
  obtain ⟨got, _⟩ := I.pin p (List.mem_append_left _ hp)
  obtain ⟨vs, dat⟩ := h.f
  obtain ⟨mA, hns, rel⟩ := (show ObjOk X.prog X.w H s.heap dd (.xd fs) from I.hok dd _ hd)
  obtain ⟨od, ho, hl⟩ := lookIn_ns hns
  exact ⟨od, mA, ⟨got, h.z.1, by unfold PySem.W.notCls; rw [dat] <;> rfl, by rw [h.z.2]; exact ho⟩, hl, rel⟩
/-- e.f, e the held error -/
def tHeldF (p : Addr × Obj) (dd : Addr) (f : Str) (te : TE) : TE := fun σ H Q => te σ H fun x H1 => x = .ref p.1 ∧ ∃ (fs : List (Str × V)) (v : V), H1 dd = some (.xd fs) ∧ fs.lookup f = some v ∧ Q v H1
theorem pe_heldf {e : Expr} {te : TE} {pos : Pos} {n : Str} (h : Held p C dd) (hp : p ∈ X.pn) (T : XfC X.K C) (hno : PySem.W.findIn X.K (.ref C) n = some none) (he : PE X e te) (hb : attributeBase e n X.env (eval e X.env) = eval e X.env := by rfl) :
    PE X (.Attribute e n pos) (tHeldF p dd n te) := by
  refine ⟨fun pins s σ H Q I q => ?_⟩
  refine attr_of hb (thn (he.run pins s σ H _ I q) fun u s1 got => ?_)
  obtain ⟨x, H1, I1, rx, rfl, fs, v, hd, l, q1⟩ := got
  obtain rfl : u = Value.ref p.1 := rx
  obtain ⟨od, mA, J, hl, rel⟩ := h.inst hp I1 hd
  obtain ⟨y, hy, ry⟩ := RelO.some_of (v := v) (o := mA n) (by rw [← l]; exact rel n)
  exact HandSPX.exc_get I1.kIn J T.ga T.gg T.exC (PySem.W.findObj_own T.hdC hno rfl (by rw [hl, hy])) (handed_of ry) ⟨v, H1, I1.tok _, ry, q1⟩
/-- isinstance(e, (c, ..)) and isinstance(e, c), e the held error -/
def rHeldT (K : PySem.W.Frag) (p : Addr × Obj) (C dd : Addr) : List V → Hp → VK → Prop := fun xs H Q => ∃ (tp : Addr) (cs : List V) (us : List Value) (b : Bool) (fs : List (Str × V)), xs = [.ref p.1, .ref tp] ∧ H tp = some (.tup cs) ∧ Paired ClsV cs us ∧ PySem.W.kitAny K (.ref C) us = some b ∧ H dd = some (.xd fs) ∧ Q (.bl b) H
theorem call_heldT (h : Held p C dd) (hp : p ∈ X.pn) (T : ExcC X.K C) : CallR X (.builtin "isinstance") (rHeldT X.K p C dd) := by
  intro pins s σ H xs us Q I r q
  obtain ⟨tp, cs, ws, b, fs, rfl, hT, pr, ka, hd, q1⟩ := q
  obtain ⟨u1, u2, rfl, r1, r2⟩ := vals2 r
  cases (show u1 = Value.ref p.1 from r1)
  cases (show u2 = Value.ref tp from r2)
  obtain ⟨od, mA, J, _, _⟩ := h.inst hp I hd
  obtain ⟨_, its, rv, o, h1, h2, n, h3⟩ := (show ObjOk X.prog X.w H s.heap tp (.tup cs) from I.hok tp _ hT)
  have e3 := ClsV.all pr rv
  subst e3
  obtain ⟨oc, od', dt, sl⟩ := o
  simp only at h2 h3
  subst h2 h3
  exact PySem.W.kia_tup (own_kit (oz := p.2) (oo := some od) T) I.kIn J h1 ka (fun e => nomatch e) fun tk => ⟨.bl b, H, I.tok tk, rfl, q1⟩
def rHeld1 (K : PySem.W.Frag) (p : Addr × Obj) (C dd : Addr) : List V → Hp → VK → Prop := fun xs H Q => ∃ (D : Addr) (b : Bool) (fs : List (Str × V)), xs = [.ref p.1, .ref D] ∧ PySem.W.kitOne K (.ref C) (.ref D) = some b ∧ H dd = some (.xd fs) ∧ Q (.bl b) H
theorem call_held1 (h : Held p C dd) (hp : p ∈ X.pn) (T : ExcC X.K C) : CallR X (.builtin "isinstance") (rHeld1 X.K p C dd) := by
  intro pins s σ H xs us Q I r q
  obtain ⟨D, b, fs, rfl, ka, hd, q1⟩ := q
  obtain ⟨u1, u2, rfl, r1, r2⟩ := vals2 r
  cases (show u1 = Value.ref p.1 from r1)
  cases (show u2 = Value.ref D from r2)
  obtain ⟨od, mA, J, _, _⟩ := h.inst hp I hd
  exact PySem.W.kia_one (own_kit (oz := p.2) (oo := some od) T) I.kIn J ka (fun e => nomatch e) fun tk => ⟨.bl b, H, I.tok tk, rfl, q1⟩
end
/-! ### a def called on a held error -/
structure FnP (P : Program) (w : World) (K : PySem.W.Frag) (mg : Str → Option Value) (base : Heap) (p : Addr × Obj) (k : Nat) (f : Addr) (fd : FuncData) (ps : List Str) (sp : Sp) : Prop where
  len : ∀ vs H Q E, sp vs H Q E → vs.length = ps.length
  go : ∀ (A : Around) (outer : List Env) (s : Shared) (H : Hp) (args : Args) (us : List Value) (vs : List V) (Q : VK) (E : XK), L2H.RoomH k A → L2H.PinOk outer H s p → Env0 P w K mg base A outer s H → BindsTo s fd args (ps.zip us) → Vals vs us → sp vs H Q E →
    codeAny (model P w) A (.call (.ref f) args) (CR CX0 outer P w H s Q E) s
section
open PySem.Spec PyProof.Rows
variable {P : Program} {w : World} {K : PySem.W.Frag} {mg : Str → Option Value} {base : Heap}
theorem Fun.okP {x qual : Str} {st : Stmt} {f : Addr} {fd : FuncData} {N ps : List Str} {k : Nat} {sp : Sp} {p : Addr × Obj} (F : Fun K x qual st f fd) (S : FnScope N ps (defScope st)) (len : ∀ vs H Q E, sp vs H Q E → vs.length = ps.length)
    (hbody : ∀ (cdv : Value) (A : Around) (outer : List Env) (s : Shared) (H : Hp) (vs : List V) (Q : VK) (E : XK), L2H.RoomH k (A.deeper (envOfC qual (defScope st) s.heap.objs.size f cdv)) → sp vs H Q E →
      ∃ t, PSs (L2H.cxH CX0 P w K mg base N qual (defScope st) f cdv A outer s H E p) (defBody st) t ∧ t { nx := fun _ H' => Q .non H', rt := Q } (L2.start N vs) H) : FnP P w K mg base p (k + 1) f fd ps sp := by
  obtain ⟨oc, od, kV, doc, pm, an, cdv, ct, osl, rfl, lk, hcd⟩ := F.ex
  refine ⟨len, fun A outer s H args us vs Q E hr hpin e0 hb r hsp => ?_⟩
  have hlen := len _ _ _ _ hsp
  have keepB : ∀ b o, base.get? b = some o → s.heap.get? b = some o := fun b o e => (e0.bs b o e).1
  have KI : K.In s.heap := e0.mod.kin.keeps keepB
  have noLim : s.heap.NoLimit := e0.mod.nolimit.keeps keepB
  have kinds : ∀ y ∈ ps.zip us, (defScope st).names.lookup y.1 = some .local ∨ ((defScope st).names.lookup y.1 = some .cell ∧ ((cellsFrom (s.heap.objs.size + 1) (defScope st).names []).lookup y.1).isSome = true) := fun y hy =>
    (S.par y.1 (List.of_mem_zip (show (y.1, y.2) ∈ _ from hy)).1).imp id fun q => ⟨q, PySem.W.cellsFrom_some _ _ _ (.inl q)⟩
  refine codeAny_call_function hr.depth (KI _ _ lk) rfl S.co S.gen rfl (PySem.W.codeRec_of KI hcd) (hb _ _ _ _ (wpAny_newFunctionEnv_cells S.kind kinds fun env he s1 x1 => ?_))
  subst he
  refine ⟨noLim.keeps x1.toInCall.keep, codeAny_func ?_⟩
  obtain ⟨t, ht, hq⟩ := hbody cdv A outer s H vs Q E (hr.deeper _) hsp
  have I := L2H.inv_startH (CX := CX0) (P := P) (w := w) (K := K) (mg := mg) (base := base) (N := N) (qual := qual) (f := f) (cd := cdv) (E := E) S hpin e0 hlen r x1
  refine wpAny_mono (ht.run [] s1 _ H _ I hq) (fun fl s2 done => ?_) fun _ _ bad => bad
  cases fl with
  | ret u =>
    obtain ⟨v, τ, G, J, rv, q⟩ := done
    exact ⟨v, G, J.os, J.bare, J.base, J.hok, rv, q⟩
  | next =>
    obtain ⟨τ, G, J, q⟩ := done
    exact ⟨.non, G, J.os, J.bare, J.base, J.hok, rfl, q⟩
  | brk =>
    obtain ⟨_, _, _, q⟩ := done
    exact q.elim
  | cont =>
    obtain ⟨_, _, _, q⟩ := done
    exact q.elim
theorem pe_callP {X : Cx} {k : Nat} {f : Addr} {fd : FuncData} {ps : List Str} {sp : Sp} {p : Addr × Obj} {x : Str} {q pos : Pos} {e : Expr} {es : List Expr} {t : TA} (F : FnP X.prog X.w X.K X.mg X.base p k f fd ps sp) (hr : L2H.RoomH k X.A) (hp : p ∈ X.pn)
    (hg : Gl X x) (hm : X.mg x = some (.ref f)) (hk : PySem.W.keepIn X.K (.ref f) = true) (hb : Binds X.K fd ps []) (ha : PA X (e :: es) t)
    (hdb : (x == ("__debug__" : Str)) = false := by decide) (he : starEach (e :: es) X.env = (false, eval e X.env) :: starEach es X.env := by rfl) (hpl : (backTo pos (starEach es X.env)).any (·.1) = false := by rfl) :
    PE X (.Call (.Name x q) (e :: es) [] pos) (tCall sp [] E0 t) := by
  refine ⟨fun pins s σ H Q I h => ?_⟩
  refine wpAny_Call_Name_kw (ld_glob I hg hm ?_ hdb)
  refine PySem.W.callWith_K (h₀ := X.base) I.ok.mod.kin hk (thn (ha.run pos pins s σ H _ I h) fun us s1 got => ?_) he hpl
  obtain ⟨vs, H1, I1, r, want⟩ := got
  rw [List.append_nil] at want
  refine ⟨I1.kIn, ?_⟩
  have hl : us.length = ps.length := (r.length).symm.trans (F.len _ _ _ _ want)
  have bs := hb s1 us I1.kIn (by rw [List.append_nil]; exact hl)
  rw [List.append_nil] at bs
  obtain ⟨p1, p2, p3, p4, p5⟩ := I1.pin p (List.mem_append_left _ hp)
  refine wpAny_call (codeAny_mono (F.go X.A X.stack s1 H1 ⟨us, []⟩ us vs Q E0 hr ⟨p1, p2, fun mem => (List.mem_cons.mp (I1.stkSub p.1 mem)).elim p3 p4, p5⟩ I1.env0 bs r want) fun res s2 hq => ?_)
  cases res with
  | error er => exact (show False from hq).elim
  | ok fl =>
    cases fl with
    | ret u => exact I1.after hq
    | next => exact hq.elim
    | brk => exact hq.elim
    | cont => exact hq.elim
end

/-! ### _law_why of what refuses with one of the own errors (behind 70s_err) -/
def spFieldsG (p : Addr × Obj) (dd : Addr) (FS : Fds → Prop) (Fld : Fds → V → Hp → Prop) : Sp := fun vs H Q _ => ∃ fs : Fds, vs = [.ref p.1] ∧ H dd = some (.xd fs) ∧ FS fs ∧ ∀ H' v, Same H H' → Fld fs v H' → Q v H'
abbrev N_why : List Str := ["_law_ask", "_law_found", "_law_e"]
abbrev P_why : List Str := ["_law_ask"]
theorem sc_why : FnScope N_why P_why (defScope s_why) := ⟨rfl, rfl, rfl, by decide +kernel, rfl, by decide +kernel, by decide +kernel⟩
abbrev N_fields : List Str := ["_law_e"]
abbrev P_fields : List Str := ["_law_e"]
theorem sc_fields : FnScope N_fields P_fields (defScope s_fields) := ⟨rfl, rfl, rfl, by decide +kernel, rfl, by decide +kernel, by decide +kernel⟩
section
open PySem.Spec PyProof.Rows
theorem three {σ : L2.St} (h : σ.length = 3) : ∃ a b c, σ = [a, b, c] := by
  match σ, h with
  | [a, b, c], _ => exact ⟨a, b, c, rfl⟩
end
/-! ### an error that is none of these -/
section
variable {K : PySem.W.Frag}
theorem kit_no {C D : Addr} (h0 : PySem.W.subIn K (.ref C) (.ref C) = some true) (h1 : PySem.W.subIn K (.ref C) (.ref D) = some false) (h2 : PySem.W.isClsIn K D = true) (h3 : PySem.W.typeIn K (.ref D) = some (.type "type")) : PySem.W.kitOne K (.ref C) (.ref D) = some false := by
  have ne : (Value.ref C == Value.ref D) = false := by
    refine Bool.eq_false_iff.mpr fun same => ?_
    have e : C = D := Value.ref.inj (beq_iff_eq.mp same)
    subst e
    rw [h0] at h1
    cases h1
  have e2 : ((PySem.W.clsIn K D).isSome && PySem.W.typeIn K (.ref D) == some (.type "type")) = true := by
    have q : (PySem.W.clsIn K D).isSome = true := h2
    rw [q, h3] <;> rfl
  unfold PySem.W.kitOne
  rw [ne, if_neg Bool.false_ne_true]
  show (if ((PySem.W.clsIn K D).isSome && PySem.W.typeIn K (.ref D) == some (.type "type")) = true then PySem.W.subIn K (.ref C) (.ref D) else none) = some false
  rw [if_pos e2, h1]
theorem any_no {C : Addr} : ∀ {ds : List Addr}, (∀ D ∈ ds, PySem.W.kitOne K (.ref C) (.ref D) = some false) → PySem.W.kitAny K (.ref C) (ds.map Value.ref) = some false
  | [], _ => rfl
  | D :: r, h => by
    show (match PySem.W.kitOne K (.ref C) (.ref D) with | some true => some true | some false => PySem.W.kitAny K (.ref C) (r.map Value.ref) | none => none) = some false
    rw [h D List.mem_cons_self]
    exact any_no fun E hE => h E (List.mem_cons_of_mem _ hE)
end
/-- the errors that _law_fields looks for ahead of BadStretch -/
structure OthT (K : PySem.W.Frag) (mg : Str → Option Value) (C c0 c1 c2 c3 c4 c5 c6 c7 c8 : Addr) : Prop where
  g0 : mg "BadNumber" = some (.ref c0)
  g1 : mg "NoMating" = some (.ref c1)
  g2 : mg "NoFamily" = some (.ref c2)
  g3 : mg "TooMuch" = some (.ref c3)
  g4 : mg "BadName" = some (.ref c4)
  g5 : mg "Taken" = some (.ref c5)
  g6 : mg "NoRoad" = some (.ref c6)
  g7 : mg "BadMating" = some (.ref c7)
  g8 : mg "BadPlace" = some (.ref c8)
  no : ∀ D ∈ [c0, c1, c2, c3, c4, c5, c6, c7, c8], PySem.W.kitOne K (.ref C) (.ref D) = some false

/-! ### _law_why of what refuses with one of several own errors, of FarError's kin or of Missing's (behind 63b_trytwo, 70w_why) -/
def EWhyM (I : Addr → Fds → Str → (V → Hp → Prop) → Prop) (Q : VK) : XK := fun cls d H' => ∃ (C dd : Addr) (fs : Fds) (word : Str) (Fld : V → Hp → Prop), cls = .ref C ∧ d = some dd ∧ H' dd = some (.xd fs) ∧ I C fs word Fld ∧
  ∀ (H'' : Hp) (t1 : Addr) (v : V), Same H' H'' → Fld v H'' → H'' t1 = some (.tup [.str word, v]) → Q (.ref t1) H''
def TWhyM (I : Addr → Fds → Str → (V → Hp → Prop) → Prop) : (XK → Hp → VK → Prop) → Hp → VK → Prop := fun tl H Q => ∀ t0, H t0 = none → ∀ R : VK, (∀ v H1, Q (.ref t0) H1 → R v H1) → tl (EWhyM I Q) (upd H t0 (.tup [.str "", .non])) R
/-- an error that the first or the second clause takes -/
structure WhyI (P : Program) (w : World) (K : PySem.W.Frag) (mg : Str → Option Value) (base : Heap) (CF CM fF : Addr) (fdF : FuncData) (C : Addr) (fs : Fds) (word : Str) (Fld : V → Hp → Prop) : Prop where
  m : ∃ b, PySem.W.exmOne K (.ref C) (.ref CF) = some b ∧ (b = false → PySem.W.exmOne K (.ref C) (.ref CM) = some true)
  x : XfC K C
  wd : PySem.W.findIn K (.ref C) "word" = some none
  hw : fs.lookup ("word" : Str) = some (.str word)
  st : ∀ v H H', Same H H' → Fld v H → Fld v H'
  G : ∀ (p : Addr × Obj) (dd : Addr), Held p C dd → FnP P w K mg base p 1 fF fdF P_fields (spFieldsG p dd (fun f => f = fs) (fun _ v H => Fld v H))
section
open PySem.Spec PyProof.Rows
theorem FnP.imp {P : Program} {w : World} {K : PySem.W.Frag} {mg : Str → Option Value} {base : Heap} {p : Addr × Obj} {k : Nat} {f : Addr} {fd : FuncData} {ps : List Str} {sp sp' : Sp} (F : FnP P w K mg base p k f fd ps sp) (h : ∀ vs H Q E, sp' vs H Q E → sp vs H Q E) : FnP P w K mg base p k f fd ps sp' :=
  ⟨fun vs H Q E z => F.len vs H Q E (h _ _ _ _ z), fun A outer s H args us vs Q E hr pk he hb hv z => F.go A outer s H args us vs Q E hr pk he hb hv (h _ _ _ _ z)⟩
theorem why_givesM {X : Cx} {g CF CM fF : Addr} {fdF : FuncData} {cdg : Value} {q : Str} {k : Nat} {I : Addr → Fds → Str → (V → Hp → Prop) → Prop} (hr : Room (k + 3) X.A) (gF : X.mg "FarError" = some (.ref CF)) (gM : X.mg "Missing" = some (.ref CM))
    (D_fields : DefAt X.K X.mg "_law_fields" s_fields P_fields fF fdF) (hI : ∀ C fs word Fld, I C fs word Fld → WhyI X.prog X.w X.K X.mg X.base CF CM fF fdF C fs word Fld) :
    LamX.GivesTo X N_why "_law_why" (defScope s_why) g cdg (defBody s_why) "_law_ask" q (TWhyM I) := by
  intro f c' s H Q tl act hc h
  have hr1 : Room (k + 2) (X.A.deeper (envOfC "_law_why" (defScope s_why) s.heap.objs.size g cdg)) := hr.deeper _
  refine ⟨_, pss_cons (ps_set (i := 1) sc_why.nd rfl (.inl rfl) (pe_tup (pa_cons pe_str (pa_cons pe_non pa_nil))))
    (pss_cons (ps_try_two (i := 2) (c := .ref CF) (d := .ref CM)
      (tb := fun W D σ H => ∃ Ech : XK, (∀ cls d σ' H', Ech cls d H' → σ'.length = 3 → W cls d σ' H') ∧ σ[0]? = some (some (.ref f)) ∧ H c' = some (LamX.CodeO c' q) ∧ tl Ech H fun _ H1 => D.nx σ H1)
      (ts := fun z k d D σ H => ∃ (C d0 : Addr) (fs : Fds) (word : Str) (Fld : V → Hp → Prop), k = .ref C ∧ d = some d0 ∧ H d0 = some (.xd fs) ∧ I C fs word Fld ∧ σ[2]? = some (some (.ref z)) ∧ ∀ (H' : Hp) (t1 : Addr) (v : V), Same H H' → Fld v H' → H' t1 = some (.tup [.str word, v]) → D.nx (σ.set 1 (some (.ref t1))) H')
      (us := fun z k d D σ H => ∃ (C d0 : Addr) (fs : Fds) (word : Str) (Fld : V → Hp → Prop), k = .ref C ∧ d = some d0 ∧ H d0 = some (.xd fs) ∧ I C fs word Fld ∧ σ[2]? = some (some (.ref z)) ∧ ∀ (H' : Hp) (t1 : Addr) (v : V), Same H H' → Fld v H' → H' t1 = some (.tup [.str word, v]) → D.nx (σ.set 1 (some (.ref t1))) H')
      rfl rfl sc_why.nd rfl rfl ⟨by rfl, by decide, .inl gF⟩ ⟨by rfl, by decide, .inl gM⟩ (fun W pn xe tk _ => ?_) (fun z oz k d pn hz hf => ?_) (fun z oz k d pn hz hf => ?_)) (pss_one (ps_ret (pv 1)))), ?_⟩
  · refine pss_of fun D σ H' h' => ?_
    obtain ⟨Ech, hW, h1, h2, h3⟩ := h'
    exact ⟨_, pss_one (ps_expr (act (fun cls d σ H => σ.length = 3 → W cls d σ H) pn xe Ech _ _ (takes_len tk) (fun cls d σ' H' e l => hW cls d σ' H' e l))), h1, h2, h3⟩
  · refine pss_of fun D σ H' h' => ?_
    obtain ⟨C, d0, fs, word, Fld, rfl, rfl, hd, hi, h2, go⟩ := h'
    have hH : Held (z, oz) C d0 := ⟨hz, hf⟩
    have T := hI _ _ _ _ hi
    have G_fields := T.G (z, oz) d0 hH
    have hrm : L2H.RoomH 1 (X.A.deeper (envOfC "_law_why" (defScope s_why) s.heap.objs.size g cdg)) := (L2H.roomH_of hr1).mono (by omega)
    refine ⟨_, pss_one (ps_set (i := 1) sc_why.nd rfl (.inl rfl) (pe_tup (pa_cons (pe_heldf hH List.mem_cons_self T.x T.wd (pv 2)) (pa_cons (pe_callP G_fields ⟨hrm.dp, hrm.un⟩ List.mem_cons_self (by rfl) D_fields.g D_fields.F.kp D_fields.b (pa_cons (pv 2) pa_nil)) pa_nil)))), ?_⟩
    refine ⟨.ref z, h2, rfl, fs, _, hd, T.hw, .ref z, h2, fs, rfl, hd, rfl, fun H2 v s2 e2 => ?_⟩
    exact ⟨by show 2 ≤ sizeLine; decide, fun t1 n1 => go _ t1 v (s2.trans (same_upd n1)) (T.st _ _ _ (same_upd n1) e2) upd_same⟩
  · refine pss_of fun D σ H' h' => ?_
    obtain ⟨C, d0, fs, word, Fld, rfl, rfl, hd, hi, h2, go⟩ := h'
    have hH : Held (z, oz) C d0 := ⟨hz, hf⟩
    have T := hI _ _ _ _ hi
    have G_fields := T.G (z, oz) d0 hH
    have hrm : L2H.RoomH 1 (X.A.deeper (envOfC "_law_why" (defScope s_why) s.heap.objs.size g cdg)) := (L2H.roomH_of hr1).mono (by omega)
    refine ⟨_, pss_one (ps_set (i := 1) sc_why.nd rfl (.inl rfl) (pe_tup (pa_cons (pe_heldf hH List.mem_cons_self T.x T.wd (pv 2)) (pa_cons (pe_callP G_fields ⟨hrm.dp, hrm.un⟩ List.mem_cons_self (by rfl) D_fields.g D_fields.F.kp D_fields.b (pa_cons (pv 2) pa_nil)) pa_nil)))), ?_⟩
    refine ⟨.ref z, h2, rfl, fs, _, hd, T.hw, .ref z, h2, fs, rfl, hd, rfl, fun H2 v s2 e2 => ?_⟩
    exact ⟨by show 2 ≤ sizeLine; decide, fun t1 n1 => go _ t1 v (s2.trans (same_upd n1)) (T.st _ _ _ (same_upd n1) e2) upd_same⟩
  · refine ⟨by show 2 ≤ sizeLine; decide, fun t0 n0 => ?_⟩
    refine ⟨EWhyM I Q, fun cls d σ' H' hE hl => ?_, rfl, same_upd n0 _ _ hc, ?_⟩
    · obtain ⟨C, dd, fs, word, Fld, rfl, rfl, hd, hi, go⟩ := hE
      obtain ⟨x0, x1, x2, rfl⟩ := three hl
      obtain ⟨b, hb, hb'⟩ := (hI _ _ _ _ hi).m
      exact ⟨b, hb, fun _ z hz => ⟨C, dd, fs, word, Fld, rfl, rfl, hd, hi, rfl, fun H2 t1 v s2 e2 e3 => ⟨.ref t1, rfl, go H2 t1 v s2 e2 e3⟩⟩, fun eb => ⟨hb' eb, fun z hz => ⟨C, dd, fs, word, Fld, rfl, rfl, hd, hi, rfl, fun H2 t1 v s2 e2 e3 => ⟨.ref t1, rfl, go H2 t1 v s2 e2 e3⟩⟩⟩⟩
    · exact h t0 n0 _ fun v H1 hq => ⟨.ref t0, rfl, hq⟩
end

/-! ### Missing, NoMating -/
abbrev N_misinit : List Str := ["self", "why"]
theorem sc_misinit : FnScope N_misinit N_misinit (defScope s_misinit) := ⟨rfl, rfl, rfl, by decide +kernel, rfl, by decide +kernel, by decide +kernel⟩
def spMisInit (K : PySem.W.Frag) : Sp := fun vs H Q _ => ∃ (a C : Addr) (y : Str), vs = [.ref a, .str y] ∧ LexC K C ∧ PySem.W.findIn K (.ref C) "word" = some none ∧ H a = some (exo a C none) ∧
  ∀ dx, H dx = none → dx ≠ a → Q .non (upd (upd H dx (exd dx [("word", .str "Missing")])) a (exo a C (some dx)))
/-- what the written part says of a class of Missing's kin -/
structure LerT (K : PySem.W.Frag) (C : Addr) : Prop where
  o : LexC K C
  w : PySem.W.findIn K (.ref C) "word" = some none
/-- and of its making and its being caught -/
structure LrT (K : PySem.W.Frag) (mg : Str → Option Value) (CF CM C fI : Addr) (fdI : FuncData) (word : Str) (N : List Str) : Prop where
  gF : mg "FarError" = some (.ref CF)
  gM : mg "Missing" = some (.ref CM)
  gC : mg word = some (.ref C)
  e : LerT K C
  x : XfC K C
  c : ExcC K C
  iC : PySem.W.findIn K (.ref C) "__init__" = some (some (.ref fI))
  tI : PySem.W.typeIn K (.ref fI) = some (.type "function")
  bI : Binds K fdI N []
  m0 : PySem.W.exmOne K (.ref C) (.ref CF) = some false
  m : PySem.W.exmOne K (.ref C) (.ref CM) = some true
abbrev N_nminit : List Str := ["self", "number"]
theorem sc_nminit : FnScope N_nminit N_nminit (defScope s_nminit) := ⟨rfl, rfl, rfl, by decide +kernel, rfl, by decide +kernel, by decide +kernel⟩
def nmF (n : V) : Fds := [("word", .str "NoMating"), ("number", n), ("word", .str "Missing")]
def spNmInit (K : PySem.W.Frag) : Sp := fun vs H Q _ => ∃ (a C : Addr) (n : V), vs = [.ref a, n] ∧ FV n ∧ LerT K C ∧ PySem.W.findIn K (.ref C) "number" = some none ∧ H a = some (exo a C none) ∧
  ∀ (H' : Hp) (dx : Addr), H dx = none → H' a = some (exo a C (some dx)) → H' dx = some (exd dx (nmF n)) → (∀ b o, b ≠ a → H b = some o → H' b = some o) → Q .non H'
section
variable {P : Program} {w : World} {K : PySem.W.Frag} {mg : Str → Option Value} {base : Heap}
theorem ok_misinit {f : Addr} {fd : FuncData} (F : FunD K "__init__" "Missing.__init__" (defArgs s_misinit) (defBody s_misinit) (defScope s_misinit) [.str ""] [] f fd) (mV : mg "LookupError" = none)
    (vV : PySem.W.findCls K (.type "LookupError") (.type "type") "__init__" = some (.val (.builtin "LookupError.__init__"))) : FnOk P w K mg base CX0 1 f fd N_misinit (spMisInit K) := by
  refine F.ok sc_misinit (fun vs H Q E h => ?_) (fun cdv A outer s H vs Q E hr h => ?_)
  · obtain ⟨a, C, y, rfl, _⟩ := h
    rfl
  · obtain ⟨a, C, y, rfl, T, hw, ha, q⟩ := h
    refine ⟨_, pss_cons (ps_expr (pe_lkinit (by rfl) mV vV (pa_cons (pv 0) (pa_cons (pv 1) pa_nil)))) (pss_one (ps_lst (pv 0) pe_str)), ?_⟩
    refine ⟨.ref a, rfl, .str y, rfl, a, C, [.str y], rfl, by show 1 ≤ 1000; decide, T, ha, ?_⟩
    exact ⟨.ref a, rfl, a, C, rfl, T, hw, .inl ⟨ha, fun dx n ne => q dx n ne⟩⟩
theorem ok_nminit {f fF CM : Addr} {fd fdF : FuncData} (F : Fun K "__init__" "NoMating.__init__" s_nminit f fd) (gM : mg "Missing" = some (.ref CM)) (TM : ClsFn K CM "__init__" fF) (bM : Binds K fdF N_misinit [])
    (GM : FnOk P w K mg base CX0 1 fF fdF N_misinit (spMisInit K)) : FnOk P w K mg base CX0 2 f fd N_nminit (spNmInit K) := by
  refine F.ok sc_nminit (fun vs H Q E h => ?_) (fun cdv A outer s H vs Q E hr h => ?_)
  · obtain ⟨a, C, n, rfl, _⟩ := h
    rfl
  · obtain ⟨a, C, n, rfl, hn, T, hno, ha, q⟩ := h
    refine ⟨_, pss_cons (ps_expr (pe_clsfn (by rfl) gM TM GM hr bM pass0 (pa_cons (pv 0) (pa_cons (pe_joined (.cons pe_str (.cons (pe_fmtV (pv 1)) .nil))) pa_nil))))
      (pss_cons (ps_lst (pv 0) (pv 1)) (pss_one (ps_lst (pv 0) pe_str))), ?_⟩
    refine ⟨.ref a, rfl, _, rfl, fits_of (n := 100) (by decide +kernel) (by decide), ?_⟩
    refine fmtV_at (i := 1) rfl hn fun y hy => ?_
    refine ⟨y, rfl, fits_of (app_fits (n := 100) (by decide +kernel) hy) (by decide), ?_⟩
    refine ⟨a, C, _, rfl, T.o, T.w, ha, fun dx ndx ne => ?_⟩
    have e1 : (upd (upd H dx (exd dx [("word", .str "Missing")])) a (exo a C (some dx))) a = some (exo a C (some dx)) := upd_same
    have e2 : (upd (upd H dx (exd dx [("word", .str "Missing")])) a (exo a C (some dx))) dx = some (exd dx [("word", .str "Missing")]) := by rw [upd_ne ne, upd_same]
    refine ⟨n, rfl, .ref a, rfl, a, C, rfl, T.o, hno, .inr ⟨dx, _, e1, e2, by show 1 ≤ 900; decide, ?_⟩⟩
    refine ⟨.ref a, rfl, a, C, rfl, T.o, T.w, .inr ⟨dx, _, by rw [upd_ne ne.symm]; exact e1, upd_same, by show 2 ≤ 900; decide, ?_⟩⟩
    refine q _ dx ndx (by rw [upd_ne ne.symm, upd_ne ne.symm]; exact e1) upd_same fun b o nb hb => ?_
    have nbd : b ≠ dx := ne_of_none hb ndx
    rw [upd_ne nbd, upd_ne nbd, upd_ne nb, upd_ne nbd]
    exact hb
end
theorem nm_raise {K : PySem.W.Frag} {CN : Addr} {i : Nat} {σ : L2.St} {n : V} {H : Hp} {E : XK} (e : LerT K CN) (n1 : PySem.W.findIn K (.ref CN) "number" = some none) (hn : FV n) (hσ : σ[i]? = some (some n))
    (q2 : ∀ (H' : Hp) (d : Addr), Same H H' → H d = none → H' d = some (.xd (nmF n)) → E (.ref CN) (some d) H') : (tMkO CN (spNmInit K) [] (tCons (tVar i) tNil)) σ H (fun cls d H' => E cls d H') := by
  refine ⟨n, hσ, by show 1 ≤ 1000; decide, fun a na => ?_⟩
  refine ⟨a, CN, n, rfl, hn, e, n1, upd_same, fun H' dx ndx ea ed kp => ⟨rfl, dx, nmF n, ea, ed, (same_upd na).free ndx, ?_⟩⟩
  refine q2 _ dx (fun b o hb' => ?_) ((same_upd na).free ndx) upd_same
  have nba : b ≠ a := ne_of_none hb' na
  have nbd : b ≠ dx := ne_of_none hb' ((same_upd na).free ndx)
  rw [upd_ne nbd, del_ne nba]
  exact kp b o nba (by rw [upd_ne nba]; exact hb')
/-! ### _law_fields of a NoMating -/
structure OthNm (K : PySem.W.Frag) (mg : Str → Option Value) (C c0 c1 c3 : Addr) : Prop where
  g0 : mg "BadNumber" = some (.ref c0)
  g1 : mg "NoFamily" = some (.ref c1)
  g3 : mg "TooMuch" = some (.ref c3)
  n0 : PySem.W.kitOne K (.ref C) (.ref c0) = some false
theorem nm_word (x : V) : (nmF x).lookup ("word" : Str) = some (.str "NoMating") := by
  unfold nmF
  rw [lookup_put, if_pos rfl]
theorem nm_number (x : V) : (nmF x).lookup ("number" : Str) = some x := by
  unfold nmF
  rw [lookup_put, if_neg (by decide +kernel), lookup_put, if_pos rfl]
section
variable {P : Program} {w : World} {K : PySem.W.Frag} {mg : Str → Option Value} {base : Heap}
theorem ok_fieldsNm {f CF CM C fI c0 c1 c3 dd : Addr} {fd fdI : FuncData} {p : Addr × Obj} {N : List Str} (x : V) (D : DefAt K mg "_law_fields" s_fields P_fields f fd) (B : Bn mg) (T : LrT K mg CF CM C fI fdI "NoMating" N) (O : OthNm K mg C c0 c1 c3)
    (n1 : PySem.W.findIn K (.ref C) "number" = some none) (hH : Held p C dd) : FnP P w K mg base p 1 f fd P_fields (spFieldsG p dd (fun f => f = nmF x) (fun _ v _ => v = x)) := by
  refine Fun.okP D.F sc_fields (fun vs H Q E h => ?_) (fun cdv A outer s H vs Q E hr h => ?_)
  · obtain ⟨fs, rfl, _⟩ := h
    rfl
  · obtain ⟨fs, rfl, hd, rfl, q⟩ := h
    refine ⟨_, pss_cons (ps_if (pt_val (pe_callB (call_heldT hH List.mem_cons_self T.c) (by rfl) B.isinstance (by decide +kernel) (pa_cons (pv 0) (pa_cons (pe_tup (pa_cons (pe_glob (v := .ref c0) (by rfl) O.g0 rfl) (pa_cons (pe_glob (v := .ref C) (by rfl) T.gC rfl) (pa_cons (pe_glob (v := .ref c1) (by rfl) O.g1 rfl) (pa_cons (pe_glob (v := .ref c3) (by rfl) O.g3 rfl) pa_nil))))) pa_nil))))
      (pss_one (ps_ret (pe_heldf hH List.mem_cons_self T.x n1 (pv 0)))) pss_nil) pss_never, ?_⟩
    refine ⟨.ref p.1, rfl, by show 4 ≤ sizeLine; decide, fun tp ntp => ?_⟩
    have s1 : Same H (upd H tp (.tup [.ref c0, .ref C, .ref c1, .ref c3])) := same_upd ntp
    have own : PySem.W.kitOne K (.ref C) (.ref C) = some true := by simp [PySem.W.kitOne]
    refine ⟨tp, _, [.ref c0, .ref C, .ref c1, .ref c3], true, nmF x, rfl, upd_same, .cons (.own _) (.cons (.own _) (.cons (.own _) (.cons (.own _) .nil))), ?_, s1 _ _ hd, _, rfl, iteT ?_⟩
    · show (match PySem.W.kitOne K (.ref C) (.ref c0) with | some true => some true | some false => (match PySem.W.kitOne K (.ref C) (.ref C) with | some true => some true | some false => PySem.W.kitAny K (.ref C) [.ref c1, .ref c3] | none => none) | none => none) = some true
      rw [O.n0, own]
    · exact ⟨.ref p.1, rfl, rfl, nmF x, x, s1 _ _ hd, nm_number x, q _ _ s1 rfl⟩
end

/-! ### BadMating, Full -/
abbrev N_bginit : List Str := ["self", "mating"]
theorem sc_bginit : FnScope N_bginit N_bginit (defScope s_bginit) := ⟨rfl, rfl, rfl, by decide +kernel, rfl, by decide +kernel, by decide +kernel⟩
def bgF (x : V) : Fds := [("word", .str "BadMating"), ("mating", x), ("word", .str "FarError")]
def spBgInit (K : PySem.W.Frag) : Sp := fun vs H Q _ => ∃ (a C t : Addr) (xs : List V), vs = [.ref a, .ref t] ∧ H t = some (.tup xs) ∧ (∀ y ∈ xs, MV y) ∧ xs.length ≤ 20 ∧ ErrT K C ∧ PySem.W.findIn K (.ref C) "mating" = some none ∧ H a = some (exo a C none) ∧
  ∀ (H' : Hp) (dx : Addr), H dx = none → H' a = some (exo a C (some dx)) → H' dx = some (exd dx (bgF (.ref t))) → (∀ b o, b ≠ a → H b = some o → H' b = some o) → Q .non H'
section
variable {P : Program} {w : World} {K : PySem.W.Frag} {mg : Str → Option Value} {base : Heap}
theorem ok_bginit {f fF CF : Addr} {fd fdF : FuncData} (F : Fun K "__init__" "BadMating.__init__" s_bginit f fd) (gF : mg "FarError" = some (.ref CF)) (TF : ClsFn K CF "__init__" fF) (bF : Binds K fdF N_farinit [])
    (GF : FnOk P w K mg base CX0 1 fF fdF N_farinit (spFarInit K)) : FnOk P w K mg base CX0 2 f fd N_bginit (spBgInit K) := by
  refine F.ok sc_bginit (fun vs H Q E h => ?_) (fun cdv A outer s H vs Q E hr h => ?_)
  · obtain ⟨a, C, t, xs, rfl, _⟩ := h
    rfl
  · obtain ⟨a, C, t, xs, rfl, ht, hx, hl, T, n1, ha, q⟩ := h
    refine ⟨_, pss_cons (ps_expr (pe_clsfn (by rfl) gF TF GF hr bF pass0 (pa_cons (pv 0) (pa_cons (pe_joined (.cons pe_str (.cons (pe_fmtM hr (pv 1)) .nil))) pa_nil))))
      (pss_cons (ps_ost (pv 0) (pv 1)) (pss_one (ps_ost (pv 0) pe_str))), ?_⟩
    refine ⟨.ref a, rfl, _, rfl, fits_of (n := 100) (by decide +kernel) (by decide), ?_⟩
    refine ⟨.ref t, rfl, t, xs, rfl, SqT.of ht, hx, hl, fun y hy => ?_⟩
    refine ⟨y, rfl, fits_of (app_fits (n := 100) (by decide +kernel) hy) (by decide), ?_⟩
    refine ⟨a, C, _, rfl, T.o, T.w, ha, fun dx ndx ne => ?_⟩
    have e1 : (upd (upd H dx (exd dx [("word", .str "FarError")])) a (exo a C (some dx))) a = some (exo a C (some dx)) := upd_same
    have e2 : (upd (upd H dx (exd dx [("word", .str "FarError")])) a (exo a C (some dx))) dx = some (exd dx [("word", .str "FarError")]) := by rw [upd_ne ne, upd_same]
    refine ⟨.ref t, rfl, .ref a, rfl, a, C, rfl, T.o, n1, .inr ⟨dx, _, e1, e2, by show 1 ≤ 900; decide, ?_⟩⟩
    refine ⟨.ref a, rfl, a, C, rfl, T.o, T.w, .inr ⟨dx, _, by rw [upd_ne ne.symm]; exact e1, upd_same, by show 2 ≤ 900; decide, ?_⟩⟩
    refine q _ dx ndx (by rw [upd_ne ne.symm, upd_ne ne.symm]; exact e1) upd_same fun b o nb hb => ?_
    have nbd : b ≠ dx := ne_of_none hb ndx
    rw [upd_ne nbd, upd_ne nbd, upd_ne nb, upd_ne nbd]
    exact hb
end
abbrev N_fuinit : List Str := ["self", "most"]
theorem sc_fuinit : FnScope N_fuinit N_fuinit (defScope s_fuinit) := ⟨rfl, rfl, rfl, by decide +kernel, rfl, by decide +kernel, by decide +kernel⟩
def fuF (n : V) : List (Str × V) := [("word", .str "Full"), ("most", n), ("word", .str "FarError")]
def spFuInit (K : PySem.W.Frag) : Sp := fun vs H Q _ => ∃ (a C : Addr) (n : V), vs = [.ref a, n] ∧ FV n ∧ ErrT K C ∧ PySem.W.findIn K (.ref C) "most" = some none ∧ H a = some (exo a C none) ∧
  ∀ (H' : Hp) (dx : Addr), H dx = none → H' a = some (exo a C (some dx)) → H' dx = some (exd dx (fuF n)) → (∀ b o, b ≠ a → H b = some o → H' b = some o) → Q .non H'
section
variable {P : Program} {w : World} {K : PySem.W.Frag} {mg : Str → Option Value} {base : Heap}
theorem ok_fuinit {f fF CF : Addr} {fd fdF : FuncData} (F : Fun K "__init__" "Full.__init__" s_fuinit f fd) (gF : mg "FarError" = some (.ref CF)) (TF : ClsFn K CF "__init__" fF) (bF : Binds K fdF N_farinit [])
    (GF : FnOk P w K mg base CX0 1 fF fdF N_farinit (spFarInit K)) : FnOk P w K mg base CX0 2 f fd N_fuinit (spFuInit K) := by
  refine F.ok sc_fuinit (fun vs H Q E h => ?_) (fun cdv A outer s H vs Q E hr h => ?_)
  · obtain ⟨a, C, n, rfl, _⟩ := h
    rfl
  · obtain ⟨a, C, n, rfl, hn, T, hno, ha, q⟩ := h
    refine ⟨_, pss_cons (ps_expr (pe_clsfn (by rfl) gF TF GF hr bF pass0 (pa_cons (pv 0) (pa_cons (pe_joined (.cons pe_str (.cons (pe_fmtV (pv 1)) .nil))) pa_nil))))
      (pss_cons (ps_ost (pv 0) (pv 1)) (pss_one (ps_ost (pv 0) pe_str))), ?_⟩
    refine ⟨.ref a, rfl, _, rfl, fits_of (n := 100) (by decide +kernel) (by decide), ?_⟩
    refine fmtV_at (i := 1) rfl hn fun y hy => ?_
    refine ⟨y, rfl, fits_of (app_fits (n := 100) (by decide +kernel) hy) (by decide), ?_⟩
    refine ⟨a, C, _, rfl, T.o, T.w, ha, fun dx ndx ne => ?_⟩
    have e1 : (upd (upd H dx (exd dx [("word", .str "FarError")])) a (exo a C (some dx))) a = some (exo a C (some dx)) := upd_same
    have e2 : (upd (upd H dx (exd dx [("word", .str "FarError")])) a (exo a C (some dx))) dx = some (exd dx [("word", .str "FarError")]) := by rw [upd_ne ne, upd_same]
    refine ⟨n, rfl, .ref a, rfl, a, C, rfl, T.o, hno, .inr ⟨dx, _, e1, e2, by show 1 ≤ 900; decide, ?_⟩⟩
    refine ⟨.ref a, rfl, a, C, rfl, T.o, T.w, .inr ⟨dx, _, by rw [upd_ne ne.symm]; exact e1, upd_same, by show 2 ≤ 900; decide, ?_⟩⟩
    refine q _ dx ndx (by rw [upd_ne ne.symm, upd_ne ne.symm]; exact e1) upd_same fun b o nb hb => ?_
    have nbd : b ≠ dx := ne_of_none hb ndx
    rw [upd_ne nbd, upd_ne nbd, upd_ne nb, upd_ne nbd]
    exact hb
end
theorem bg_raise {K : PySem.W.Frag} {C t : Addr} {i : Nat} {σ : L2.St} {xs : List V} {H : Hp} {E : XK} (e : ErrT K C) (n1 : PySem.W.findIn K (.ref C) "mating" = some none) (ht : H t = some (.tup xs)) (hx : ∀ y ∈ xs, MV y) (hl : xs.length ≤ 20) (hσ : σ[i]? = some (some (.ref t)))
    (q2 : ∀ (H' : Hp) (d : Addr), Same H H' → H d = none → H' d = some (.xd (bgF (.ref t))) → E (.ref C) (some d) H') : (tMkO C (spBgInit K) [] (tCons (tVar i) tNil)) σ H (fun cls d H' => E cls d H') := by
  refine ⟨.ref t, hσ, by show 1 ≤ 1000; decide, fun a na => ?_⟩
  refine ⟨a, C, t, xs, rfl, same_upd na _ _ ht, hx, hl, e, n1, upd_same, fun H' dx ndx ea ed kp => ⟨rfl, dx, bgF (.ref t), ea, ed, (same_upd na).free ndx, ?_⟩⟩
  refine q2 _ dx (fun b o hb' => ?_) ((same_upd na).free ndx) upd_same
  have nba : b ≠ a := ne_of_none hb' na
  have nbd : b ≠ dx := ne_of_none hb' ((same_upd na).free ndx)
  rw [upd_ne nbd, del_ne nba]
  exact kp b o nba (by rw [upd_ne nba]; exact hb')
theorem fu_raise {K : PySem.W.Frag} {C : Addr} {ta : TE} {σ : L2.St} {n : V} {H : Hp} {E : XK} (e : ErrT K C) (n1 : PySem.W.findIn K (.ref C) "most" = some none) (hn : FV n) (hσ : ∀ Q : VK, Q n H → ta σ H Q)
    (q2 : ∀ (H' : Hp) (d : Addr), Same H H' → H d = none → H' d = some (.xd (fuF n)) → E (.ref C) (some d) H') : (tMkO C (spFuInit K) [] (tCons ta tNil)) σ H (fun cls d H' => E cls d H') := by
  refine hσ _ ⟨by show 1 ≤ 1000; decide, fun a na => ?_⟩
  refine ⟨a, C, n, rfl, hn, e, n1, upd_same, fun H' dx ndx ea ed kp => ⟨rfl, dx, fuF n, ea, ed, (same_upd na).free ndx, ?_⟩⟩
  refine q2 _ dx (fun b o hb' => ?_) ((same_upd na).free ndx) upd_same
  have nba : b ≠ a := ne_of_none hb' na
  have nbd : b ≠ dx := ne_of_none hb' ((same_upd na).free ndx)
  rw [upd_ne nbd, del_ne nba]
  exact kp b o nba (by rw [upd_ne nba]; exact hb')
theorem bn_raiseE {K : PySem.W.Frag} {C : Addr} {ta : TE} {σ : L2.St} {n : V} {H : Hp} {E : XK} (e : ErrT K C) (n1 : PySem.W.findIn K (.ref C) "number" = some none) (hn : FV n) (hσ : ∀ Q : VK, Q n H → ta σ H Q)
    (q2 : ∀ (H' : Hp) (d : Addr), Same H H' → H d = none → H' d = some (.xd (bnF n)) → E (.ref C) (some d) H') : (tMkO C (spBnInit K) [] (tCons ta tNil)) σ H (fun cls d H' => E cls d H') := by
  refine hσ _ ⟨by show 1 ≤ 1000; decide, fun a na => ?_⟩
  refine ⟨a, C, n, rfl, hn, e, n1, upd_same, fun H' dx ndx ea ed kp => ⟨rfl, dx, bnF n, ea, ed, (same_upd na).free ndx, ?_⟩⟩
  refine q2 _ dx (fun b o hb' => ?_) ((same_upd na).free ndx) upd_same
  have nba : b ≠ a := ne_of_none hb' na
  have nbd : b ≠ dx := ne_of_none hb' ((same_upd na).free ndx)
  rw [upd_ne nbd, del_ne nba]
  exact kp b o nba (by rw [upd_ne nba]; exact hb')
theorem bn_wordE (x : V) : (bnF x).lookup ("word" : Str) = some (.str "BadNumber") := by
  unfold bnF
  rw [lookup_put, if_pos rfl]
theorem bn_fldE (x : V) : (bnF x).lookup ("number" : Str) = some x := by
  unfold bnF
  rw [lookup_put, if_neg (by decide +kernel), lookup_put, if_pos rfl]
theorem bg_wordE (x : V) : (bgF x).lookup ("word" : Str) = some (.str "BadMating") := by
  unfold bgF
  rw [lookup_put, if_pos rfl]
theorem bg_fldE (x : V) : (bgF x).lookup ("mating" : Str) = some x := by
  unfold bgF
  rw [lookup_put, if_neg (by decide +kernel), lookup_put, if_pos rfl]
theorem fu_wordE (x : V) : (fuF x).lookup ("word" : Str) = some (.str "Full") := by
  unfold fuF
  rw [lookup_put, if_pos rfl]
theorem fu_fldE (x : V) : (fuF x).lookup ("most" : Str) = some x := by
  unfold fuF
  rw [lookup_put, if_neg (by decide +kernel), lookup_put, if_pos rfl]
/-! ### _law_fields of the three errors of a road -/
structure OthBnE (K : PySem.W.Frag) (mg : Str → Option Value) (C c0 c1 c2 : Addr) : Prop where
  g_NoMating : mg "NoMating" = some (.ref c0)
  g_NoFamily : mg "NoFamily" = some (.ref c1)
  g_TooMuch : mg "TooMuch" = some (.ref c2)
structure OthBgE (K : PySem.W.Frag) (mg : Str → Option Value) (C c0 c1 c2 c3 c4 c5 c6 : Addr) : Prop where
  g_BadNumber : mg "BadNumber" = some (.ref c0)
  g_NoMating : mg "NoMating" = some (.ref c1)
  g_NoFamily : mg "NoFamily" = some (.ref c2)
  g_TooMuch : mg "TooMuch" = some (.ref c3)
  g_BadName : mg "BadName" = some (.ref c4)
  g_Taken : mg "Taken" = some (.ref c5)
  g_NoRoad : mg "NoRoad" = some (.ref c6)
  no : ∀ D ∈ [c0, c1, c2, c3, c4, c5, c6], PySem.W.kitOne K (.ref C) (.ref D) = some false
structure OthFuE (K : PySem.W.Frag) (mg : Str → Option Value) (C c0 c1 c2 c3 c4 c5 c6 c7 c8 c9 c10 c11 c12 c13 c14 c15 c16 : Addr) : Prop where
  g_BadNumber : mg "BadNumber" = some (.ref c0)
  g_NoMating : mg "NoMating" = some (.ref c1)
  g_NoFamily : mg "NoFamily" = some (.ref c2)
  g_TooMuch : mg "TooMuch" = some (.ref c3)
  g_BadName : mg "BadName" = some (.ref c4)
  g_Taken : mg "Taken" = some (.ref c5)
  g_NoRoad : mg "NoRoad" = some (.ref c6)
  g_BadMating : mg "BadMating" = some (.ref c7)
  g_BadPlace : mg "BadPlace" = some (.ref c8)
  g_BadStretch : mg "BadStretch" = some (.ref c9)
  g_BadMove : mg "BadMove" = some (.ref c10)
  g_BadMoves : mg "BadMoves" = some (.ref c11)
  g_BadText : mg "BadText" = some (.ref c12)
  g_BadBoard : mg "BadBoard" = some (.ref c13)
  g_BadCounts : mg "BadCounts" = some (.ref c14)
  g_BadSide : mg "BadSide" = some (.ref c15)
  g_NoSide : mg "NoSide" = some (.ref c16)
  no : ∀ D ∈ [c0, c1, c2, c3, c4, c5, c6, c7, c8, c9, c10, c11, c12, c13, c14, c15, c16], PySem.W.kitOne K (.ref C) (.ref D) = some false
section
variable {P : Program} {w : World} {K : PySem.W.Frag} {mg : Str → Option Value} {base : Heap}
theorem ok_fieldsBnE {f CF C fI c0 c1 c2 dd : Addr} {fd fdI : FuncData} {p : Addr × Obj} {N : List Str} (x : V) (D : DefAt K mg "_law_fields" s_fields P_fields f fd) (B : Bn mg) (T : ErT K mg CF C fI fdI "BadNumber" N) (O : OthBnE K mg C c0 c1 c2)
    (n1 : PySem.W.findIn K (.ref C) "number" = some none) (hH : Held p C dd) : FnP P w K mg base p 1 f fd P_fields (spFieldsG p dd (fun f => f = bnF x) (fun _ v _ => v = x)) := by
  refine Fun.okP D.F sc_fields (fun vs H Q E h => ?_) (fun cdv A outer s H vs Q E hr h => ?_)
  · obtain ⟨fs, rfl, _⟩ := h
    rfl
  · obtain ⟨fs, rfl, hd, rfl, q⟩ := h
    refine ⟨_, (pss_cons (ps_if (pt_val (pe_callB (call_heldT hH List.mem_cons_self T.c) (by rfl) B.isinstance (by decide +kernel) (pa_cons (pv 0) (pa_cons (pe_tup (pa_cons (pe_glob (v := .ref C) (by rfl) T.gC rfl) (pa_cons (pe_glob (v := .ref c0) (by rfl) O.g_NoMating rfl) (pa_cons (pe_glob (v := .ref c1) (by rfl) O.g_NoFamily rfl) (pa_cons (pe_glob (v := .ref c2) (by rfl) O.g_TooMuch rfl) pa_nil))))) pa_nil)))) (pss_one (ps_ret (pe_heldf hH List.mem_cons_self T.x n1 (pv 0)))) pss_nil) pss_never), ?_⟩
    have s0 : Same H H := fun b o hb => hb
    refine ⟨.ref p.1, rfl, by show 4 ≤ sizeLine; decide, fun tp0 ntp0 => ?_⟩
    have s1 := s0.trans (same_upd (o := .tup [.ref C, .ref c0, .ref c1, .ref c2]) ntp0)
    refine ⟨tp0, _, [.ref C, .ref c0, .ref c1, .ref c2], true, bnF x, rfl, upd_same, (.cons (.own _) (.cons (.own _) (.cons (.own _) (.cons (.own _) .nil)))), by simp [PySem.W.kitAny, PySem.W.kitOne], s1 _ _ hd, _, rfl, iteT ?_⟩
    exact ⟨.ref p.1, rfl, rfl, bnF x, x, s1 _ _ hd, bn_fldE x, q _ _ s1 rfl⟩
theorem ok_fieldsBgE {f CF C fI c0 c1 c2 c3 c4 c5 c6 dd : Addr} {fd fdI : FuncData} {p : Addr × Obj} {N : List Str} (x : V) (D : DefAt K mg "_law_fields" s_fields P_fields f fd) (B : Bn mg) (T : ErT K mg CF C fI fdI "BadMating" N) (O : OthBgE K mg C c0 c1 c2 c3 c4 c5 c6)
    (n1 : PySem.W.findIn K (.ref C) "mating" = some none) (hH : Held p C dd) : FnP P w K mg base p 1 f fd P_fields (spFieldsG p dd (fun f => f = bgF x) (fun _ v _ => v = x)) := by
  refine Fun.okP D.F sc_fields (fun vs H Q E h => ?_) (fun cdv A outer s H vs Q E hr h => ?_)
  · obtain ⟨fs, rfl, _⟩ := h
    rfl
  · obtain ⟨fs, rfl, hd, rfl, q⟩ := h
    refine ⟨_, (pss_cons (ps_if (pt_val (pe_callB (call_heldT hH List.mem_cons_self T.c) (by rfl) B.isinstance (by decide +kernel) (pa_cons (pv 0) (pa_cons (pe_tup (pa_cons (pe_glob (v := .ref c0) (by rfl) O.g_BadNumber rfl) (pa_cons (pe_glob (v := .ref c1) (by rfl) O.g_NoMating rfl) (pa_cons (pe_glob (v := .ref c2) (by rfl) O.g_NoFamily rfl) (pa_cons (pe_glob (v := .ref c3) (by rfl) O.g_TooMuch rfl) pa_nil))))) pa_nil)))) (pss_one ps_never) pss_nil)
      (pss_cons (ps_if (pt_val (pe_callB (call_heldT hH List.mem_cons_self T.c) (by rfl) B.isinstance (by decide +kernel) (pa_cons (pv 0) (pa_cons (pe_tup (pa_cons (pe_glob (v := .ref c4) (by rfl) O.g_BadName rfl) (pa_cons (pe_glob (v := .ref c5) (by rfl) O.g_Taken rfl) (pa_cons (pe_glob (v := .ref c6) (by rfl) O.g_NoRoad rfl) pa_nil)))) pa_nil)))) (pss_one ps_never) pss_nil)
      (pss_cons (ps_if (pt_val (pe_callB (call_held1 hH List.mem_cons_self T.c) (by rfl) B.isinstance (by decide +kernel) (pa_cons (pv 0) (pa_cons (pe_glob (v := .ref C) (by rfl) T.gC rfl) pa_nil)))) (pss_one (ps_ret (pe_heldf hH List.mem_cons_self T.x n1 (pv 0)))) pss_nil) pss_never))), ?_⟩
    have s0 : Same H H := fun b o hb => hb
    refine ⟨.ref p.1, rfl, by show 4 ≤ sizeLine; decide, fun tp0 ntp0 => ?_⟩
    have s1 := s0.trans (same_upd (o := .tup [.ref c0, .ref c1, .ref c2, .ref c3]) ntp0)
    refine ⟨tp0, _, [.ref c0, .ref c1, .ref c2, .ref c3], false, bgF x, rfl, upd_same, (.cons (.own _) (.cons (.own _) (.cons (.own _) (.cons (.own _) .nil)))), any_no (ds := [c0, c1, c2, c3]) fun D hD => O.no D (by revert hD; simp only [List.mem_cons, List.not_mem_nil, or_false]; intro hD; rcases hD with h | h | h | h <;> simp [h]), s1 _ _ hd, _, rfl, iteF ?_⟩
    refine ⟨.ref p.1, rfl, by show 3 ≤ sizeLine; decide, fun tp1 ntp1 => ?_⟩
    have s2 := s1.trans (same_upd (o := .tup [.ref c4, .ref c5, .ref c6]) ntp1)
    refine ⟨tp1, _, [.ref c4, .ref c5, .ref c6], false, bgF x, rfl, upd_same, (.cons (.own _) (.cons (.own _) (.cons (.own _) .nil))), any_no (ds := [c4, c5, c6]) fun D hD => O.no D (by revert hD; simp only [List.mem_cons, List.not_mem_nil, or_false]; intro hD; rcases hD with h | h | h <;> simp [h]), s2 _ _ hd, _, rfl, iteF ?_⟩
    refine ⟨.ref p.1, rfl, C, true, bgF x, rfl, by simp [PySem.W.kitOne], s2 _ _ hd, _, rfl, iteT ?_⟩
    exact ⟨.ref p.1, rfl, rfl, bgF x, x, s2 _ _ hd, bg_fldE x, q _ _ s2 rfl⟩
theorem ok_fieldsFuE {f CF C fI c0 c1 c2 c3 c4 c5 c6 c7 c8 c9 c10 c11 c12 c13 c14 c15 c16 dd : Addr} {fd fdI : FuncData} {p : Addr × Obj} {N : List Str} (x : V) (D : DefAt K mg "_law_fields" s_fields P_fields f fd) (B : Bn mg) (T : ErT K mg CF C fI fdI "Full" N) (O : OthFuE K mg C c0 c1 c2 c3 c4 c5 c6 c7 c8 c9 c10 c11 c12 c13 c14 c15 c16)
    (n1 : PySem.W.findIn K (.ref C) "most" = some none) (hH : Held p C dd) : FnP P w K mg base p 1 f fd P_fields (spFieldsG p dd (fun f => f = fuF x) (fun _ v _ => v = x)) := by
  refine Fun.okP D.F sc_fields (fun vs H Q E h => ?_) (fun cdv A outer s H vs Q E hr h => ?_)
  · obtain ⟨fs, rfl, _⟩ := h
    rfl
  · obtain ⟨fs, rfl, hd, rfl, q⟩ := h
    refine ⟨_, (pss_cons (ps_if (pt_val (pe_callB (call_heldT hH List.mem_cons_self T.c) (by rfl) B.isinstance (by decide +kernel) (pa_cons (pv 0) (pa_cons (pe_tup (pa_cons (pe_glob (v := .ref c0) (by rfl) O.g_BadNumber rfl) (pa_cons (pe_glob (v := .ref c1) (by rfl) O.g_NoMating rfl) (pa_cons (pe_glob (v := .ref c2) (by rfl) O.g_NoFamily rfl) (pa_cons (pe_glob (v := .ref c3) (by rfl) O.g_TooMuch rfl) pa_nil))))) pa_nil)))) (pss_one ps_never) pss_nil)
      (pss_cons (ps_if (pt_val (pe_callB (call_heldT hH List.mem_cons_self T.c) (by rfl) B.isinstance (by decide +kernel) (pa_cons (pv 0) (pa_cons (pe_tup (pa_cons (pe_glob (v := .ref c4) (by rfl) O.g_BadName rfl) (pa_cons (pe_glob (v := .ref c5) (by rfl) O.g_Taken rfl) (pa_cons (pe_glob (v := .ref c6) (by rfl) O.g_NoRoad rfl) pa_nil)))) pa_nil)))) (pss_one ps_never) pss_nil)
      (pss_cons (ps_if (pt_val (pe_callB (call_held1 hH List.mem_cons_self T.c) (by rfl) B.isinstance (by decide +kernel) (pa_cons (pv 0) (pa_cons (pe_glob (v := .ref c7) (by rfl) O.g_BadMating rfl) pa_nil)))) (pss_one ps_never) pss_nil)
      (pss_cons (ps_if (pt_val (pe_callB (call_held1 hH List.mem_cons_self T.c) (by rfl) B.isinstance (by decide +kernel) (pa_cons (pv 0) (pa_cons (pe_glob (v := .ref c8) (by rfl) O.g_BadPlace rfl) pa_nil)))) (pss_one ps_never) pss_nil)
      (pss_cons (ps_if (pt_val (pe_callB (call_held1 hH List.mem_cons_self T.c) (by rfl) B.isinstance (by decide +kernel) (pa_cons (pv 0) (pa_cons (pe_glob (v := .ref c9) (by rfl) O.g_BadStretch rfl) pa_nil)))) (pss_one ps_never) pss_nil)
      (pss_cons (ps_if (pt_val (pe_callB (call_held1 hH List.mem_cons_self T.c) (by rfl) B.isinstance (by decide +kernel) (pa_cons (pv 0) (pa_cons (pe_glob (v := .ref c10) (by rfl) O.g_BadMove rfl) pa_nil)))) (pss_one ps_never) pss_nil)
      (pss_cons (ps_if (pt_val (pe_callB (call_heldT hH List.mem_cons_self T.c) (by rfl) B.isinstance (by decide +kernel) (pa_cons (pv 0) (pa_cons (pe_tup (pa_cons (pe_glob (v := .ref c11) (by rfl) O.g_BadMoves rfl) (pa_cons (pe_glob (v := .ref c12) (by rfl) O.g_BadText rfl) pa_nil))) pa_nil)))) (pss_one ps_never) pss_nil)
      (pss_cons (ps_if (pt_val (pe_callB (call_heldT hH List.mem_cons_self T.c) (by rfl) B.isinstance (by decide +kernel) (pa_cons (pv 0) (pa_cons (pe_tup (pa_cons (pe_glob (v := .ref c13) (by rfl) O.g_BadBoard rfl) (pa_cons (pe_glob (v := .ref c14) (by rfl) O.g_BadCounts rfl) pa_nil))) pa_nil)))) (pss_one ps_never) pss_nil)
      (pss_cons (ps_if (pt_val (pe_callB (call_heldT hH List.mem_cons_self T.c) (by rfl) B.isinstance (by decide +kernel) (pa_cons (pv 0) (pa_cons (pe_tup (pa_cons (pe_glob (v := .ref c15) (by rfl) O.g_BadSide rfl) (pa_cons (pe_glob (v := .ref c16) (by rfl) O.g_NoSide rfl) pa_nil))) pa_nil)))) (pss_one ps_never) pss_nil)
      (pss_one (ps_ret (pe_ifExp (pt_val (pe_callB (call_held1 hH List.mem_cons_self T.c) (by rfl) B.isinstance (by decide +kernel) (pa_cons (pv 0) (pa_cons (pe_glob (v := .ref C) (by rfl) T.gC rfl) pa_nil)))) (pe_heldf hH List.mem_cons_self T.x n1 (pv 0)) pe_non)))))))))))), ?_⟩
    have s0 : Same H H := fun b o hb => hb
    refine ⟨.ref p.1, rfl, by show 4 ≤ sizeLine; decide, fun tp0 ntp0 => ?_⟩
    have s1 := s0.trans (same_upd (o := .tup [.ref c0, .ref c1, .ref c2, .ref c3]) ntp0)
    refine ⟨tp0, _, [.ref c0, .ref c1, .ref c2, .ref c3], false, fuF x, rfl, upd_same, (.cons (.own _) (.cons (.own _) (.cons (.own _) (.cons (.own _) .nil)))), any_no (ds := [c0, c1, c2, c3]) fun D hD => O.no D (by revert hD; simp only [List.mem_cons, List.not_mem_nil, or_false]; intro hD; rcases hD with h | h | h | h <;> simp [h]), s1 _ _ hd, _, rfl, iteF ?_⟩
    refine ⟨.ref p.1, rfl, by show 3 ≤ sizeLine; decide, fun tp1 ntp1 => ?_⟩
    have s2 := s1.trans (same_upd (o := .tup [.ref c4, .ref c5, .ref c6]) ntp1)
    refine ⟨tp1, _, [.ref c4, .ref c5, .ref c6], false, fuF x, rfl, upd_same, (.cons (.own _) (.cons (.own _) (.cons (.own _) .nil))), any_no (ds := [c4, c5, c6]) fun D hD => O.no D (by revert hD; simp only [List.mem_cons, List.not_mem_nil, or_false]; intro hD; rcases hD with h | h | h <;> simp [h]), s2 _ _ hd, _, rfl, iteF ?_⟩
    refine ⟨.ref p.1, rfl, c7, false, fuF x, rfl, O.no c7 (by simp), s2 _ _ hd, _, rfl, iteF ?_⟩
    refine ⟨.ref p.1, rfl, c8, false, fuF x, rfl, O.no c8 (by simp), s2 _ _ hd, _, rfl, iteF ?_⟩
    refine ⟨.ref p.1, rfl, c9, false, fuF x, rfl, O.no c9 (by simp), s2 _ _ hd, _, rfl, iteF ?_⟩
    refine ⟨.ref p.1, rfl, c10, false, fuF x, rfl, O.no c10 (by simp), s2 _ _ hd, _, rfl, iteF ?_⟩
    refine ⟨.ref p.1, rfl, by show 2 ≤ sizeLine; decide, fun tp2 ntp2 => ?_⟩
    have s3 := s2.trans (same_upd (o := .tup [.ref c11, .ref c12]) ntp2)
    refine ⟨tp2, _, [.ref c11, .ref c12], false, fuF x, rfl, upd_same, (.cons (.own _) (.cons (.own _) .nil)), any_no (ds := [c11, c12]) fun D hD => O.no D (by revert hD; simp only [List.mem_cons, List.not_mem_nil, or_false]; intro hD; rcases hD with h | h <;> simp [h]), s3 _ _ hd, _, rfl, iteF ?_⟩
    refine ⟨.ref p.1, rfl, by show 2 ≤ sizeLine; decide, fun tp3 ntp3 => ?_⟩
    have s4 := s3.trans (same_upd (o := .tup [.ref c13, .ref c14]) ntp3)
    refine ⟨tp3, _, [.ref c13, .ref c14], false, fuF x, rfl, upd_same, (.cons (.own _) (.cons (.own _) .nil)), any_no (ds := [c13, c14]) fun D hD => O.no D (by revert hD; simp only [List.mem_cons, List.not_mem_nil, or_false]; intro hD; rcases hD with h | h <;> simp [h]), s4 _ _ hd, _, rfl, iteF ?_⟩
    refine ⟨.ref p.1, rfl, by show 2 ≤ sizeLine; decide, fun tp4 ntp4 => ?_⟩
    have s5 := s4.trans (same_upd (o := .tup [.ref c15, .ref c16]) ntp4)
    refine ⟨tp4, _, [.ref c15, .ref c16], false, fuF x, rfl, upd_same, (.cons (.own _) (.cons (.own _) .nil)), any_no (ds := [c15, c16]) fun D hD => O.no D (by revert hD; simp only [List.mem_cons, List.not_mem_nil, or_false]; intro hD; rcases hD with h | h <;> simp [h]), s5 _ _ hd, _, rfl, iteF ?_⟩
    refine ⟨.ref p.1, rfl, C, true, fuF x, rfl, by simp [PySem.W.kitOne], s5 _ _ hd, _, rfl, iteT ?_⟩
    exact ⟨.ref p.1, rfl, rfl, fuF x, x, s5 _ _ hd, fu_fldE x, q _ _ s5 rfl⟩
end

/-! made by errs.py BadName Taken NoRoad -/
/-- one of several classes takes it -/
theorem any_yes {K : PySem.W.Frag} {C : Addr} {r : List Value} : ∀ {ds : List Addr}, (∀ D ∈ ds, PySem.W.kitOne K (.ref C) (.ref D) = some false) → PySem.W.kitAny K (.ref C) (ds.map Value.ref ++ .ref C :: r) = some true
  | [], _ => by
    have own : PySem.W.kitOne K (.ref C) (.ref C) = some true := by simp [PySem.W.kitOne]
    show (match PySem.W.kitOne K (.ref C) (.ref C) with | some true => some true | some false => PySem.W.kitAny K (.ref C) r | none => none) = some true
    rw [own]
  | D :: q, h => by
    show (match PySem.W.kitOne K (.ref C) (.ref D) with | some true => some true | some false => PySem.W.kitAny K (.ref C) (q.map Value.ref ++ .ref C :: r) | none => none) = some true
    rw [h D List.mem_cons_self]
    exact any_yes fun E hE => h E (List.mem_cons_of_mem _ hE)
/-! ### BadName -/
abbrev N_erBadName : List Str := ["self", "name"]
theorem sc_erBadName : FnScope N_erBadName N_erBadName (defScope s_erBadName) := ⟨rfl, rfl, rfl, by decide +kernel, rfl, by decide +kernel, by decide +kernel⟩
def erBadNameF (n : V) : Fds := [("word", .str "BadName"), ("name", n), ("word", .str "FarError")]
def sp_erBadName (K : PySem.W.Frag) : Sp := fun vs H Q _ => ∃ (a C : Addr) (n : V), vs = [.ref a, n] ∧ (∃ y : Str, n = .str y ∧ y.length ≤ 5000) ∧ ErrT K C ∧ PySem.W.findIn K (.ref C) "name" = some none ∧ H a = some (exo a C none) ∧
  ∀ (H' : Hp) (dx : Addr), H dx = none → H' a = some (exo a C (some dx)) → H' dx = some (exd dx (erBadNameF n)) → (∀ b o, b ≠ a → H b = some o → H' b = some o) → Q .non H'
section
variable {P : Program} {w : World} {K : PySem.W.Frag} {mg : Str → Option Value} {base : Heap}
theorem ok_erBadName {f fF CF : Addr} {fd fdF : FuncData} (F : Fun K "__init__" "BadName.__init__" s_erBadName f fd) (gF : mg "FarError" = some (.ref CF)) (TF : ClsFn K CF "__init__" fF) (bF : Binds K fdF N_farinit [])
    (GF : FnOk P w K mg base CX0 1 fF fdF N_farinit (spFarInit K)) : FnOk P w K mg base CX0 2 f fd N_erBadName (sp_erBadName K) := by
  refine F.ok sc_erBadName (fun vs H Q E h => ?_) (fun cdv A outer s H vs Q E hr h => ?_)
  · obtain ⟨a, C, n, rfl, _⟩ := h
    rfl
  · obtain ⟨a, C, n, rfl, hn, T, hno, ha, q⟩ := h
    refine ⟨_, pss_cons (ps_expr (pe_clsfn (by rfl) gF TF GF hr bF pass0 (pa_cons (pv 0) (pa_cons (pe_joined (.cons pe_str (.cons (pe_fmt (pv 1)) .nil))) pa_nil))))
      (pss_cons (ps_ost (pv 0) (pv 1)) (pss_one (ps_ost (pv 0) pe_str))), ?_⟩
    refine ⟨.ref a, rfl, _, rfl, fits_of (n := 100) (by decide +kernel) (by decide), ?_⟩
    obtain ⟨y, rfl, hy⟩ := hn
    refine ⟨.str y, rfl, .inl ⟨y, rfl, fits_of (n := 5000) hy (by decide), ?_⟩⟩
    refine ⟨y, rfl, fits_of (app_fits (n := 100) (by decide +kernel) hy) (by decide), ?_⟩
    refine ⟨a, C, _, rfl, T.o, T.w, ha, fun dx ndx ne => ?_⟩
    have e1 : (upd (upd H dx (exd dx [("word", .str "FarError")])) a (exo a C (some dx))) a = some (exo a C (some dx)) := upd_same
    have e2 : (upd (upd H dx (exd dx [("word", .str "FarError")])) a (exo a C (some dx))) dx = some (exd dx [("word", .str "FarError")]) := by rw [upd_ne ne, upd_same]
    refine ⟨.str y, rfl, .ref a, rfl, a, C, rfl, T.o, hno, .inr ⟨dx, _, e1, e2, by show 1 ≤ 900; decide, ?_⟩⟩
    refine ⟨.ref a, rfl, a, C, rfl, T.o, T.w, .inr ⟨dx, _, by rw [upd_ne ne.symm]; exact e1, upd_same, by show 2 ≤ 900; decide, ?_⟩⟩
    refine q _ dx ndx (by rw [upd_ne ne.symm, upd_ne ne.symm]; exact e1) upd_same fun b o nb hb => ?_
    have nbd : b ≠ dx := ne_of_none hb ndx
    rw [upd_ne nbd, upd_ne nbd, upd_ne nb, upd_ne nbd]
    exact hb
end
theorem erBadName_raise {K : PySem.W.Frag} {CN : Addr} {ta : TE} {σ : L2.St} {n : V} {H : Hp} {E : XK} (e : ErrT K CN) (n1 : PySem.W.findIn K (.ref CN) "name" = some none) (hn : (∃ y : Str, n = .str y ∧ y.length ≤ 5000)) (hσ : ∀ Q : VK, Q n H → ta σ H Q)
    (q2 : ∀ (H' : Hp) (d : Addr), Same H H' → H d = none → H' d = some (.xd (erBadNameF n)) → E (.ref CN) (some d) H') : (tMkO CN (sp_erBadName K) [] (tCons ta tNil)) σ H (fun cls d H' => E cls d H') := by
  refine hσ _ ⟨by show 1 ≤ 1000; decide, fun a na => ?_⟩
  refine ⟨a, CN, n, rfl, hn, e, n1, upd_same, fun H' dx ndx ea ed kp => ⟨rfl, dx, erBadNameF n, ea, ed, (same_upd na).free ndx, ?_⟩⟩
  refine q2 _ dx (fun b o hb' => ?_) ((same_upd na).free ndx) upd_same
  have nba : b ≠ a := ne_of_none hb' na
  have nbd : b ≠ dx := ne_of_none hb' ((same_upd na).free ndx)
  rw [upd_ne nbd, del_ne nba]
  exact kp b o nba (by rw [upd_ne nba]; exact hb')
theorem erBadName_word (n : V) : (erBadNameF n).lookup ("word" : Str) = some (.str "BadName") := by
  unfold erBadNameF
  rw [lookup_put, if_pos rfl]
theorem erBadName_fld (n : V) : (erBadNameF n).lookup ("name" : Str) = some n := by
  unfold erBadNameF
  rw [lookup_put, if_neg (by decide +kernel), lookup_put, if_pos rfl]
structure OtherBadName (K : PySem.W.Frag) (mg : Str → Option Value) (C c_BadNumber c_NoMating c_NoFamily c_TooMuch c_Taken c_NoRoad : Addr) : Prop where
  g_BadNumber : mg "BadNumber" = some (.ref c_BadNumber)
  g_NoMating : mg "NoMating" = some (.ref c_NoMating)
  g_NoFamily : mg "NoFamily" = some (.ref c_NoFamily)
  g_TooMuch : mg "TooMuch" = some (.ref c_TooMuch)
  g_Taken : mg "Taken" = some (.ref c_Taken)
  g_NoRoad : mg "NoRoad" = some (.ref c_NoRoad)
  no : ∀ D ∈ ([c_BadNumber, c_NoMating, c_NoFamily, c_TooMuch] : List Addr), PySem.W.kitOne K (.ref C) (.ref D) = some false
section
variable {P : Program} {w : World} {K : PySem.W.Frag} {mg : Str → Option Value} {base : Heap}
theorem ok_fieldserBadName {f CF C fI c_BadNumber c_NoMating c_NoFamily c_TooMuch c_Taken c_NoRoad dd : Addr} {fd fdI : FuncData} {p : Addr × Obj} {N : List Str} (x : V) (D : DefAt K mg "_law_fields" s_fields P_fields f fd) (B : Bn mg) (T : ErT K mg CF C fI fdI "BadName" N) (O : OtherBadName K mg C c_BadNumber c_NoMating c_NoFamily c_TooMuch c_Taken c_NoRoad)
    (n1 : PySem.W.findIn K (.ref C) "name" = some none) (hH : Held p C dd) : FnP P w K mg base p 1 f fd P_fields (spFieldsG p dd (fun f => f = erBadNameF x) (fun _ v _ => v = x)) := by
  refine Fun.okP D.F sc_fields (fun vs H Q E h => ?_) (fun cdv A outer s H vs Q E hr h => ?_)
  · obtain ⟨fs, rfl, _⟩ := h
    rfl
  · obtain ⟨fs, rfl, hd, rfl, q⟩ := h
    refine ⟨_, (pss_cons (ps_if (pt_val (pe_callB (call_heldT hH List.mem_cons_self T.c) (by rfl) B.isinstance (by decide +kernel) (pa_cons (pv 0) (pa_cons (pe_tup (pa_cons (pe_glob (v := .ref c_BadNumber) (by rfl) O.g_BadNumber rfl) (pa_cons (pe_glob (v := .ref c_NoMating) (by rfl) O.g_NoMating rfl) (pa_cons (pe_glob (v := .ref c_NoFamily) (by rfl) O.g_NoFamily rfl) (pa_cons (pe_glob (v := .ref c_TooMuch) (by rfl) O.g_TooMuch rfl) pa_nil))))) pa_nil)))) (pss_one ps_never) pss_nil)
      (pss_cons (ps_if (pt_val (pe_callB (call_heldT hH List.mem_cons_self T.c) (by rfl) B.isinstance (by decide +kernel) (pa_cons (pv 0) (pa_cons (pe_tup (pa_cons (pe_glob (v := .ref C) (by rfl) T.gC rfl) (pa_cons (pe_glob (v := .ref c_Taken) (by rfl) O.g_Taken rfl) (pa_cons (pe_glob (v := .ref c_NoRoad) (by rfl) O.g_NoRoad rfl) pa_nil)))) pa_nil)))) (pss_one (ps_ret (pe_heldf hH List.mem_cons_self T.x n1 (pv 0)))) pss_nil) pss_never)), ?_⟩
    have s0 : Same H H := fun b o hb => hb
    refine ⟨.ref p.1, rfl, by show 4 ≤ sizeLine; decide, fun tp0 ntp0 => ?_⟩
    have s1 := s0.trans (same_upd (o := .tup [.ref c_BadNumber, .ref c_NoMating, .ref c_NoFamily, .ref c_TooMuch]) ntp0)
    refine ⟨tp0, _, [.ref c_BadNumber, .ref c_NoMating, .ref c_NoFamily, .ref c_TooMuch], false, erBadNameF x, rfl, upd_same, (.cons (.own _) (.cons (.own _) (.cons (.own _) (.cons (.own _) .nil)))), any_no (ds := [c_BadNumber, c_NoMating, c_NoFamily, c_TooMuch]) fun D hD => O.no D (by revert hD; simp only [List.mem_cons, List.not_mem_nil, or_false]; intro hD; rcases hD with h | h | h | h <;> simp [h]), s1 _ _ hd, _, rfl, iteF ?_⟩
    refine ⟨.ref p.1, rfl, by show 3 ≤ sizeLine; decide, fun tp1 ntp1 => ?_⟩
    have s2 := s1.trans (same_upd (o := .tup [.ref C, .ref c_Taken, .ref c_NoRoad]) ntp1)
    refine ⟨tp1, _, [.ref C, .ref c_Taken, .ref c_NoRoad], true, erBadNameF x, rfl, upd_same, (.cons (.own _) (.cons (.own _) (.cons (.own _) .nil))), any_yes (ds := []) (r := [.ref c_Taken, .ref c_NoRoad]) fun D hD => O.no D (by revert hD; simp only [List.mem_cons, List.not_mem_nil, or_false]; intro hD; exact hD.elim), s2 _ _ hd, _, rfl, iteT ?_⟩
    exact ⟨.ref p.1, rfl, rfl, erBadNameF x, x, s2 _ _ hd, erBadName_fld x, q _ _ s2 rfl⟩
end
/-! ### Taken -/
abbrev N_erTaken : List Str := ["self", "name"]
theorem sc_erTaken : FnScope N_erTaken N_erTaken (defScope s_erTaken) := ⟨rfl, rfl, rfl, by decide +kernel, rfl, by decide +kernel, by decide +kernel⟩
def erTakenF (n : V) : Fds := [("word", .str "Taken"), ("name", n), ("word", .str "FarError")]
def sp_erTaken (K : PySem.W.Frag) : Sp := fun vs H Q _ => ∃ (a C : Addr) (n : V), vs = [.ref a, n] ∧ (∃ y : Str, n = .str y ∧ y.length ≤ 5000) ∧ ErrT K C ∧ PySem.W.findIn K (.ref C) "name" = some none ∧ H a = some (exo a C none) ∧
  ∀ (H' : Hp) (dx : Addr), H dx = none → H' a = some (exo a C (some dx)) → H' dx = some (exd dx (erTakenF n)) → (∀ b o, b ≠ a → H b = some o → H' b = some o) → Q .non H'
section
variable {P : Program} {w : World} {K : PySem.W.Frag} {mg : Str → Option Value} {base : Heap}
theorem ok_erTaken {f fF CF : Addr} {fd fdF : FuncData} (F : Fun K "__init__" "Taken.__init__" s_erTaken f fd) (gF : mg "FarError" = some (.ref CF)) (TF : ClsFn K CF "__init__" fF) (bF : Binds K fdF N_farinit [])
    (GF : FnOk P w K mg base CX0 1 fF fdF N_farinit (spFarInit K)) : FnOk P w K mg base CX0 2 f fd N_erTaken (sp_erTaken K) := by
  refine F.ok sc_erTaken (fun vs H Q E h => ?_) (fun cdv A outer s H vs Q E hr h => ?_)
  · obtain ⟨a, C, n, rfl, _⟩ := h
    rfl
  · obtain ⟨a, C, n, rfl, hn, T, hno, ha, q⟩ := h
    refine ⟨_, pss_cons (ps_expr (pe_clsfn (by rfl) gF TF GF hr bF pass0 (pa_cons (pv 0) (pa_cons (pe_joined (.cons pe_str (.cons (pe_fmt (pv 1)) .nil))) pa_nil))))
      (pss_cons (ps_ost (pv 0) (pv 1)) (pss_one (ps_ost (pv 0) pe_str))), ?_⟩
    refine ⟨.ref a, rfl, _, rfl, fits_of (n := 100) (by decide +kernel) (by decide), ?_⟩
    obtain ⟨y, rfl, hy⟩ := hn
    refine ⟨.str y, rfl, .inl ⟨y, rfl, fits_of (n := 5000) hy (by decide), ?_⟩⟩
    refine ⟨y, rfl, fits_of (app_fits (n := 100) (by decide +kernel) hy) (by decide), ?_⟩
    refine ⟨a, C, _, rfl, T.o, T.w, ha, fun dx ndx ne => ?_⟩
    have e1 : (upd (upd H dx (exd dx [("word", .str "FarError")])) a (exo a C (some dx))) a = some (exo a C (some dx)) := upd_same
    have e2 : (upd (upd H dx (exd dx [("word", .str "FarError")])) a (exo a C (some dx))) dx = some (exd dx [("word", .str "FarError")]) := by rw [upd_ne ne, upd_same]
    refine ⟨.str y, rfl, .ref a, rfl, a, C, rfl, T.o, hno, .inr ⟨dx, _, e1, e2, by show 1 ≤ 900; decide, ?_⟩⟩
    refine ⟨.ref a, rfl, a, C, rfl, T.o, T.w, .inr ⟨dx, _, by rw [upd_ne ne.symm]; exact e1, upd_same, by show 2 ≤ 900; decide, ?_⟩⟩
    refine q _ dx ndx (by rw [upd_ne ne.symm, upd_ne ne.symm]; exact e1) upd_same fun b o nb hb => ?_
    have nbd : b ≠ dx := ne_of_none hb ndx
    rw [upd_ne nbd, upd_ne nbd, upd_ne nb, upd_ne nbd]
    exact hb
end
theorem erTaken_raise {K : PySem.W.Frag} {CN : Addr} {ta : TE} {σ : L2.St} {n : V} {H : Hp} {E : XK} (e : ErrT K CN) (n1 : PySem.W.findIn K (.ref CN) "name" = some none) (hn : (∃ y : Str, n = .str y ∧ y.length ≤ 5000)) (hσ : ∀ Q : VK, Q n H → ta σ H Q)
    (q2 : ∀ (H' : Hp) (d : Addr), Same H H' → H d = none → H' d = some (.xd (erTakenF n)) → E (.ref CN) (some d) H') : (tMkO CN (sp_erTaken K) [] (tCons ta tNil)) σ H (fun cls d H' => E cls d H') := by
  refine hσ _ ⟨by show 1 ≤ 1000; decide, fun a na => ?_⟩
  refine ⟨a, CN, n, rfl, hn, e, n1, upd_same, fun H' dx ndx ea ed kp => ⟨rfl, dx, erTakenF n, ea, ed, (same_upd na).free ndx, ?_⟩⟩
  refine q2 _ dx (fun b o hb' => ?_) ((same_upd na).free ndx) upd_same
  have nba : b ≠ a := ne_of_none hb' na
  have nbd : b ≠ dx := ne_of_none hb' ((same_upd na).free ndx)
  rw [upd_ne nbd, del_ne nba]
  exact kp b o nba (by rw [upd_ne nba]; exact hb')
theorem erTaken_word (n : V) : (erTakenF n).lookup ("word" : Str) = some (.str "Taken") := by
  unfold erTakenF
  rw [lookup_put, if_pos rfl]
theorem erTaken_fld (n : V) : (erTakenF n).lookup ("name" : Str) = some n := by
  unfold erTakenF
  rw [lookup_put, if_neg (by decide +kernel), lookup_put, if_pos rfl]
structure OtherTaken (K : PySem.W.Frag) (mg : Str → Option Value) (C c_BadNumber c_NoMating c_NoFamily c_TooMuch c_BadName c_NoRoad : Addr) : Prop where
  g_BadNumber : mg "BadNumber" = some (.ref c_BadNumber)
  g_NoMating : mg "NoMating" = some (.ref c_NoMating)
  g_NoFamily : mg "NoFamily" = some (.ref c_NoFamily)
  g_TooMuch : mg "TooMuch" = some (.ref c_TooMuch)
  g_BadName : mg "BadName" = some (.ref c_BadName)
  g_NoRoad : mg "NoRoad" = some (.ref c_NoRoad)
  no : ∀ D ∈ ([c_BadNumber, c_NoMating, c_NoFamily, c_TooMuch, c_BadName] : List Addr), PySem.W.kitOne K (.ref C) (.ref D) = some false
section
variable {P : Program} {w : World} {K : PySem.W.Frag} {mg : Str → Option Value} {base : Heap}
theorem ok_fieldserTaken {f CF C fI c_BadNumber c_NoMating c_NoFamily c_TooMuch c_BadName c_NoRoad dd : Addr} {fd fdI : FuncData} {p : Addr × Obj} {N : List Str} (x : V) (D : DefAt K mg "_law_fields" s_fields P_fields f fd) (B : Bn mg) (T : ErT K mg CF C fI fdI "Taken" N) (O : OtherTaken K mg C c_BadNumber c_NoMating c_NoFamily c_TooMuch c_BadName c_NoRoad)
    (n1 : PySem.W.findIn K (.ref C) "name" = some none) (hH : Held p C dd) : FnP P w K mg base p 1 f fd P_fields (spFieldsG p dd (fun f => f = erTakenF x) (fun _ v _ => v = x)) := by
  refine Fun.okP D.F sc_fields (fun vs H Q E h => ?_) (fun cdv A outer s H vs Q E hr h => ?_)
  · obtain ⟨fs, rfl, _⟩ := h
    rfl
  · obtain ⟨fs, rfl, hd, rfl, q⟩ := h
    refine ⟨_, (pss_cons (ps_if (pt_val (pe_callB (call_heldT hH List.mem_cons_self T.c) (by rfl) B.isinstance (by decide +kernel) (pa_cons (pv 0) (pa_cons (pe_tup (pa_cons (pe_glob (v := .ref c_BadNumber) (by rfl) O.g_BadNumber rfl) (pa_cons (pe_glob (v := .ref c_NoMating) (by rfl) O.g_NoMating rfl) (pa_cons (pe_glob (v := .ref c_NoFamily) (by rfl) O.g_NoFamily rfl) (pa_cons (pe_glob (v := .ref c_TooMuch) (by rfl) O.g_TooMuch rfl) pa_nil))))) pa_nil)))) (pss_one ps_never) pss_nil)
      (pss_cons (ps_if (pt_val (pe_callB (call_heldT hH List.mem_cons_self T.c) (by rfl) B.isinstance (by decide +kernel) (pa_cons (pv 0) (pa_cons (pe_tup (pa_cons (pe_glob (v := .ref c_BadName) (by rfl) O.g_BadName rfl) (pa_cons (pe_glob (v := .ref C) (by rfl) T.gC rfl) (pa_cons (pe_glob (v := .ref c_NoRoad) (by rfl) O.g_NoRoad rfl) pa_nil)))) pa_nil)))) (pss_one (ps_ret (pe_heldf hH List.mem_cons_self T.x n1 (pv 0)))) pss_nil) pss_never)), ?_⟩
    have s0 : Same H H := fun b o hb => hb
    refine ⟨.ref p.1, rfl, by show 4 ≤ sizeLine; decide, fun tp0 ntp0 => ?_⟩
    have s1 := s0.trans (same_upd (o := .tup [.ref c_BadNumber, .ref c_NoMating, .ref c_NoFamily, .ref c_TooMuch]) ntp0)
    refine ⟨tp0, _, [.ref c_BadNumber, .ref c_NoMating, .ref c_NoFamily, .ref c_TooMuch], false, erTakenF x, rfl, upd_same, (.cons (.own _) (.cons (.own _) (.cons (.own _) (.cons (.own _) .nil)))), any_no (ds := [c_BadNumber, c_NoMating, c_NoFamily, c_TooMuch]) fun D hD => O.no D (by revert hD; simp only [List.mem_cons, List.not_mem_nil, or_false]; intro hD; rcases hD with h | h | h | h <;> simp [h]), s1 _ _ hd, _, rfl, iteF ?_⟩
    refine ⟨.ref p.1, rfl, by show 3 ≤ sizeLine; decide, fun tp1 ntp1 => ?_⟩
    have s2 := s1.trans (same_upd (o := .tup [.ref c_BadName, .ref C, .ref c_NoRoad]) ntp1)
    refine ⟨tp1, _, [.ref c_BadName, .ref C, .ref c_NoRoad], true, erTakenF x, rfl, upd_same, (.cons (.own _) (.cons (.own _) (.cons (.own _) .nil))), any_yes (ds := [c_BadName]) (r := [.ref c_NoRoad]) fun D hD => O.no D (by revert hD; simp only [List.mem_cons, List.not_mem_nil, or_false]; intro hD; rw [hD] <;> simp), s2 _ _ hd, _, rfl, iteT ?_⟩
    exact ⟨.ref p.1, rfl, rfl, erTakenF x, x, s2 _ _ hd, erTaken_fld x, q _ _ s2 rfl⟩
end
/-! ### NoRoad -/
abbrev N_erNoRoad : List Str := ["self", "name"]
theorem sc_erNoRoad : FnScope N_erNoRoad N_erNoRoad (defScope s_erNoRoad) := ⟨rfl, rfl, rfl, by decide +kernel, rfl, by decide +kernel, by decide +kernel⟩
def erNoRoadF (n : V) : Fds := [("word", .str "NoRoad"), ("name", n), ("word", .str "Missing")]
def sp_erNoRoad (K : PySem.W.Frag) : Sp := fun vs H Q _ => ∃ (a C : Addr) (n : V), vs = [.ref a, n] ∧ (∃ y : Str, n = .str y ∧ y.length ≤ 5000) ∧ LerT K C ∧ PySem.W.findIn K (.ref C) "name" = some none ∧ H a = some (exo a C none) ∧
  ∀ (H' : Hp) (dx : Addr), H dx = none → H' a = some (exo a C (some dx)) → H' dx = some (exd dx (erNoRoadF n)) → (∀ b o, b ≠ a → H b = some o → H' b = some o) → Q .non H'
section
variable {P : Program} {w : World} {K : PySem.W.Frag} {mg : Str → Option Value} {base : Heap}
theorem ok_erNoRoad {f fF CM : Addr} {fd fdF : FuncData} (F : Fun K "__init__" "NoRoad.__init__" s_erNoRoad f fd) (gM : mg "Missing" = some (.ref CM)) (TM : ClsFn K CM "__init__" fF) (bM : Binds K fdF N_misinit [])
    (GM : FnOk P w K mg base CX0 1 fF fdF N_misinit (spMisInit K)) : FnOk P w K mg base CX0 2 f fd N_erNoRoad (sp_erNoRoad K) := by
  refine F.ok sc_erNoRoad (fun vs H Q E h => ?_) (fun cdv A outer s H vs Q E hr h => ?_)
  · obtain ⟨a, C, n, rfl, _⟩ := h
    rfl
  · obtain ⟨a, C, n, rfl, hn, T, hno, ha, q⟩ := h
    refine ⟨_, pss_cons (ps_expr (pe_clsfn (by rfl) gM TM GM hr bM pass0 (pa_cons (pv 0) (pa_cons (pe_joined (.cons pe_str (.cons (pe_fmt (pv 1)) .nil))) pa_nil))))
      (pss_cons (ps_lst (pv 0) (pv 1)) (pss_one (ps_lst (pv 0) pe_str))), ?_⟩
    refine ⟨.ref a, rfl, _, rfl, fits_of (n := 100) (by decide +kernel) (by decide), ?_⟩
    obtain ⟨y, rfl, hy⟩ := hn
    refine ⟨.str y, rfl, .inl ⟨y, rfl, fits_of (n := 5000) hy (by decide), ?_⟩⟩
    refine ⟨y, rfl, fits_of (app_fits (n := 100) (by decide +kernel) hy) (by decide), ?_⟩
    refine ⟨a, C, _, rfl, T.o, T.w, ha, fun dx ndx ne => ?_⟩
    have e1 : (upd (upd H dx (exd dx [("word", .str "Missing")])) a (exo a C (some dx))) a = some (exo a C (some dx)) := upd_same
    have e2 : (upd (upd H dx (exd dx [("word", .str "Missing")])) a (exo a C (some dx))) dx = some (exd dx [("word", .str "Missing")]) := by rw [upd_ne ne, upd_same]
    refine ⟨.str y, rfl, .ref a, rfl, a, C, rfl, T.o, hno, .inr ⟨dx, _, e1, e2, by show 1 ≤ 900; decide, ?_⟩⟩
    refine ⟨.ref a, rfl, a, C, rfl, T.o, T.w, .inr ⟨dx, _, by rw [upd_ne ne.symm]; exact e1, upd_same, by show 2 ≤ 900; decide, ?_⟩⟩
    refine q _ dx ndx (by rw [upd_ne ne.symm, upd_ne ne.symm]; exact e1) upd_same fun b o nb hb => ?_
    have nbd : b ≠ dx := ne_of_none hb ndx
    rw [upd_ne nbd, upd_ne nbd, upd_ne nb, upd_ne nbd]
    exact hb
end
theorem erNoRoad_raise {K : PySem.W.Frag} {CN : Addr} {ta : TE} {σ : L2.St} {n : V} {H : Hp} {E : XK} (e : LerT K CN) (n1 : PySem.W.findIn K (.ref CN) "name" = some none) (hn : (∃ y : Str, n = .str y ∧ y.length ≤ 5000)) (hσ : ∀ Q : VK, Q n H → ta σ H Q)
    (q2 : ∀ (H' : Hp) (d : Addr), Same H H' → H d = none → H' d = some (.xd (erNoRoadF n)) → E (.ref CN) (some d) H') : (tMkO CN (sp_erNoRoad K) [] (tCons ta tNil)) σ H (fun cls d H' => E cls d H') := by
  refine hσ _ ⟨by show 1 ≤ 1000; decide, fun a na => ?_⟩
  refine ⟨a, CN, n, rfl, hn, e, n1, upd_same, fun H' dx ndx ea ed kp => ⟨rfl, dx, erNoRoadF n, ea, ed, (same_upd na).free ndx, ?_⟩⟩
  refine q2 _ dx (fun b o hb' => ?_) ((same_upd na).free ndx) upd_same
  have nba : b ≠ a := ne_of_none hb' na
  have nbd : b ≠ dx := ne_of_none hb' ((same_upd na).free ndx)
  rw [upd_ne nbd, del_ne nba]
  exact kp b o nba (by rw [upd_ne nba]; exact hb')
theorem erNoRoad_word (n : V) : (erNoRoadF n).lookup ("word" : Str) = some (.str "NoRoad") := by
  unfold erNoRoadF
  rw [lookup_put, if_pos rfl]
theorem erNoRoad_fld (n : V) : (erNoRoadF n).lookup ("name" : Str) = some n := by
  unfold erNoRoadF
  rw [lookup_put, if_neg (by decide +kernel), lookup_put, if_pos rfl]
structure OtherNoRoad (K : PySem.W.Frag) (mg : Str → Option Value) (C c_BadNumber c_NoMating c_NoFamily c_TooMuch c_BadName c_Taken : Addr) : Prop where
  g_BadNumber : mg "BadNumber" = some (.ref c_BadNumber)
  g_NoMating : mg "NoMating" = some (.ref c_NoMating)
  g_NoFamily : mg "NoFamily" = some (.ref c_NoFamily)
  g_TooMuch : mg "TooMuch" = some (.ref c_TooMuch)
  g_BadName : mg "BadName" = some (.ref c_BadName)
  g_Taken : mg "Taken" = some (.ref c_Taken)
  no : ∀ D ∈ ([c_BadNumber, c_NoMating, c_NoFamily, c_TooMuch, c_BadName, c_Taken] : List Addr), PySem.W.kitOne K (.ref C) (.ref D) = some false
section
variable {P : Program} {w : World} {K : PySem.W.Frag} {mg : Str → Option Value} {base : Heap}
theorem ok_fieldserNoRoad {f CF CM C fI c_BadNumber c_NoMating c_NoFamily c_TooMuch c_BadName c_Taken dd : Addr} {fd fdI : FuncData} {p : Addr × Obj} {N : List Str} (x : V) (D : DefAt K mg "_law_fields" s_fields P_fields f fd) (B : Bn mg) (T : LrT K mg CF CM C fI fdI "NoRoad" N) (O : OtherNoRoad K mg C c_BadNumber c_NoMating c_NoFamily c_TooMuch c_BadName c_Taken)
    (n1 : PySem.W.findIn K (.ref C) "name" = some none) (hH : Held p C dd) : FnP P w K mg base p 1 f fd P_fields (spFieldsG p dd (fun f => f = erNoRoadF x) (fun _ v _ => v = x)) := by
  refine Fun.okP D.F sc_fields (fun vs H Q E h => ?_) (fun cdv A outer s H vs Q E hr h => ?_)
  · obtain ⟨fs, rfl, _⟩ := h
    rfl
  · obtain ⟨fs, rfl, hd, rfl, q⟩ := h
    refine ⟨_, (pss_cons (ps_if (pt_val (pe_callB (call_heldT hH List.mem_cons_self T.c) (by rfl) B.isinstance (by decide +kernel) (pa_cons (pv 0) (pa_cons (pe_tup (pa_cons (pe_glob (v := .ref c_BadNumber) (by rfl) O.g_BadNumber rfl) (pa_cons (pe_glob (v := .ref c_NoMating) (by rfl) O.g_NoMating rfl) (pa_cons (pe_glob (v := .ref c_NoFamily) (by rfl) O.g_NoFamily rfl) (pa_cons (pe_glob (v := .ref c_TooMuch) (by rfl) O.g_TooMuch rfl) pa_nil))))) pa_nil)))) (pss_one ps_never) pss_nil)
      (pss_cons (ps_if (pt_val (pe_callB (call_heldT hH List.mem_cons_self T.c) (by rfl) B.isinstance (by decide +kernel) (pa_cons (pv 0) (pa_cons (pe_tup (pa_cons (pe_glob (v := .ref c_BadName) (by rfl) O.g_BadName rfl) (pa_cons (pe_glob (v := .ref c_Taken) (by rfl) O.g_Taken rfl) (pa_cons (pe_glob (v := .ref C) (by rfl) T.gC rfl) pa_nil)))) pa_nil)))) (pss_one (ps_ret (pe_heldf hH List.mem_cons_self T.x n1 (pv 0)))) pss_nil) pss_never)), ?_⟩
    have s0 : Same H H := fun b o hb => hb
    refine ⟨.ref p.1, rfl, by show 4 ≤ sizeLine; decide, fun tp0 ntp0 => ?_⟩
    have s1 := s0.trans (same_upd (o := .tup [.ref c_BadNumber, .ref c_NoMating, .ref c_NoFamily, .ref c_TooMuch]) ntp0)
    refine ⟨tp0, _, [.ref c_BadNumber, .ref c_NoMating, .ref c_NoFamily, .ref c_TooMuch], false, erNoRoadF x, rfl, upd_same, (.cons (.own _) (.cons (.own _) (.cons (.own _) (.cons (.own _) .nil)))), any_no (ds := [c_BadNumber, c_NoMating, c_NoFamily, c_TooMuch]) fun D hD => O.no D (by revert hD; simp only [List.mem_cons, List.not_mem_nil, or_false]; intro hD; rcases hD with h | h | h | h <;> simp [h]), s1 _ _ hd, _, rfl, iteF ?_⟩
    refine ⟨.ref p.1, rfl, by show 3 ≤ sizeLine; decide, fun tp1 ntp1 => ?_⟩
    have s2 := s1.trans (same_upd (o := .tup [.ref c_BadName, .ref c_Taken, .ref C]) ntp1)
    refine ⟨tp1, _, [.ref c_BadName, .ref c_Taken, .ref C], true, erNoRoadF x, rfl, upd_same, (.cons (.own _) (.cons (.own _) (.cons (.own _) .nil))), any_yes (ds := [c_BadName, c_Taken]) (r := []) fun D hD => O.no D (by revert hD; simp only [List.mem_cons, List.not_mem_nil, or_false]; intro hD; rcases hD with h | h <;> simp [h]), s2 _ _ hd, _, rfl, iteT ?_⟩
    exact ⟨.ref p.1, rfl, rfl, erNoRoadF x, x, s2 _ _ hd, erNoRoad_fld x, q _ _ s2 rfl⟩
end

/-! ### a road that is none: need_road refuses (behind 82x_need, 76_roaderrs) -/
def goodLen (n : V) : Prop := ∃ i : Int, n = .int i ∧ 0 ≤ i ∧ i ≤ 1000000000000000000
/-- four values, told as a mating -/
abbrev Q4 := V × V × V × V
def q4 (x : Q4) : List V := [x.1, x.2.1, x.2.2.1, x.2.2.2]
def IBq (x : Q4) : Prop := IB x.1 ∧ IB x.2.1 ∧ IB x.2.2.1 ∧ IB x.2.2.2
abbrev isM (n : Int) (x : Q4) : Bool := isMat n x.1 x.2.1 x.2.2.1 x.2.2.2
def Mqs (H : Hp) (ts : List Addr) (qs : List Q4) : Prop := Paired (fun t x => H t = some (.tup (q4 x))) ts qs
theorem Mqs.keep {H H' : Hp} (k : KeepT H H') : ∀ {ts : List Addr} {qs : List Q4}, Mqs H ts qs → Mqs H' ts qs
  | _, _, .nil => .nil
  | _, _, .cons h r => .cons (k _ _ h) (Mqs.keep k r)
theorem Mqs.length {H : Hp} : ∀ {ts : List Addr} {qs : List Q4}, Mqs H ts qs → ts.length = qs.length
  | _, _, .nil => rfl
  | _, _, .cons _ r => congrArg (· + 1) (Mqs.length r)
theorem Mqs.at {H : Hp} : ∀ {ts : List Addr} {qs : List Q4}, Mqs H ts qs → ∀ (i : Nat) (t : Addr), ts[i]? = some t → ∃ x, qs[i]? = some x ∧ H t = some (.tup (q4 x))
  | _, _, .nil, i, t, h => by simp at h
  | _, _, .cons (b := x) h r, 0, t, e => by
    cases e
    exact ⟨x, rfl, h⟩
  | _, _, .cons h r, i + 1, t, e => Mqs.at r i t e
/-- what refuses a road, and with what -/
inductive RdBad (x : V) (ts : List Addr) (qs : List Q4) : Str → V → Prop
  | num : ¬ goodLen x → RdBad x ts qs "BadNumber" x
  | mat {n : Int} {j : Nat} {t : Addr} {q : Q4} : x = .int n → 0 ≤ n → n ≤ 1000000000000000000 → ts[j]? = some t → qs[j]? = some q → isM n q = false → (∀ i q', i < j → qs[i]? = some q' → isM n q' = true) → RdBad x ts qs "BadMating" (.ref t)
  | full {n : Int} : x = .int n → 0 ≤ n → n ≤ 1000000000000000000 → (∀ q ∈ qs, isM n q = true) → 24 < qs.length → RdBad x ts qs "Full" (.int 24)
/-- the error with this word and this value -/
def ErrIs (CB CG CU : Addr) (word : Str) (v : V) (C : Addr) (fs : Fds) : Prop := (word = "BadNumber" ∧ C = CB ∧ fs = bnF v) ∨ (word = "BadMating" ∧ C = CG ∧ fs = bgF v) ∨ (word = "Full" ∧ C = CU ∧ fs = fuF v)
/-- E takes the error -/
def TakesE (CB CG CU : Addr) (H : Hp) (E : XK) (word : Str) (v : V) : Prop := ∀ (C : Addr) (fs : Fds) (H' : Hp) (d : Addr), ErrIs CB CG CU word v C fs → Same H H' → H d = none → H' d = some (.xd fs) → E (.ref C) (some d) H'
theorem TakesE.same {CB CG CU : Addr} {H H1 : Hp} {E : XK} {word : Str} {v : V} (h : TakesE CB CG CU H E word v) (s : Same H H1) : TakesE CB CG CU H1 E word v := fun C fs H' d e s' nd ed => h C fs H' d e (s.trans s') (s.free nd) ed
/-- a road in memory, a list or a tuple, told with any values -/
structure RqAt (H : Hp) (L : Addr) (ts : List Addr) (qs : List Q4) : Prop where
  at_L : H L = some (.lst (ts.map V.ref)) ∨ H L = some (.tup (ts.map V.ref))
  mq : Mqs H ts qs
  ib : ∀ q ∈ qs, IBq q
  len : qs.length ≤ 1000
theorem RqAt.same {H H' : Hp} {L : Addr} {ts : List Addr} {qs : List Q4} (h : RqAt H L ts qs) (s : Same H H') : RqAt H' L ts qs := ⟨h.at_L.imp (s _ _) (s _ _), h.mq.keep (fun b xs hb => s _ _ hb), h.ib, h.len⟩
def spFromX (CB CG CU : Addr) : Sp := fun vs H Q E => ∃ (lo : Int) (n : V), vs = [.int lo, n] ∧ FV n ∧ ((∃ i : Int, n = .int i ∧ lo ≤ i ∧ Q .non H) ∨ ((∀ i : Int, n = .int i → i < lo) ∧ TakesE CB CG CU H E "BadNumber" n))
def spWithinX (CB CG CU : Addr) : Sp := fun vs H Q E => ∃ (lo hi : Int) (n : V), vs = [.int lo, .int hi, n] ∧ FV n ∧ (∀ i : Int, n = .int i → i < lo ∨ hi < i) ∧ TakesE CB CG CU H E "BadNumber" n
def spLenX (CB CG CU : Addr) : Sp := fun vs H _ E => ∃ n : V, vs = [n] ∧ FV n ∧ ¬ goodLen n ∧ TakesE CB CG CU H E "BadNumber" n
def spMatX (CB CG CU : Addr) : Sp := fun vs H Q E => ∃ (n : Int) (t : Addr) (q : Q4), vs = [.int n, .ref t] ∧ 0 ≤ n ∧ n ≤ 1000000000000000000 ∧ H t = some (.tup (q4 q)) ∧ IBq q ∧ (isM n q = true → ∀ H', Same H H' → Q .non H') ∧ (isM n q = false → TakesE CB CG CU H E "BadMating" (.ref t))
section
variable {P : Program} {w : World} {K : PySem.W.Frag} {mg : Str → Option Value} {base : Heap} {CB CG CU : Addr}
theorem ok_fromX {f CF fI : Addr} {fd fdI : FuncData} (D : DefAt K mg "need_from" s_need_from P_need_from f fd) (B : Bn mg) (Tb : ErT K mg CF CB fI fdI "BadNumber" N_bninit) (n1 : PySem.W.findIn K (.ref CB) "number" = some none) (GB : FnOk P w K mg base CX0 2 fI fdI N_bninit (spBnInit K)) : FnOk P w K mg base (L2.CX P w) 4 f fd P_need_from (spFromX CB CG CU) := by
  refine D.F.okX sc_need_from (fun vs H Q E h => ?_) (fun cdv A outer s H vs Q E hr h => ?_)
  · obtain ⟨lo, n, rfl, _⟩ := h
    rfl
  · obtain ⟨lo, n, rfl, hn, q⟩ := h
    refine ⟨_, (pss_one (ps_if (PW.pt (pw_or (pt_val (pe_callB call_isi (by rfl) B.isinstance (by decide +kernel) (pa_cons (pv 1) (pa_cons (pe_bltn (v := .ty "bool") (by rfl) B.bool (by decide +kernel) rfl) pa_nil)))) (pw_or1 (pt_cmpR op_lt (pv 1) (pv 0) (nomark _))))) (pss_one (ps_raise rfl (takes_of rfl rfl rfl rfl) (pmk_oex Tb.e.o Tb.iC Tb.tI GB (hr.mono (by omega)) Tb.bI .nil pass0 (by rfl) Tb.gC (pa_cons (pv 1) pa_nil)))) pss_nil)), ?_⟩
    have bad : (∀ i : Int, n = .int i → i < lo) ∧ TakesE CB CG CU H E "BadNumber" n → (tMkO CB (spBnInit K) [] (tCons (tVar 1) tNil)) [some (.int lo), some n] H (fun cls d H' => E cls d H') := fun z => bn_raiseE Tb.e n1 hn (fun Q q => ⟨n, rfl, q⟩) fun H' d s nd ed => z.2 _ _ _ _ (.inl ⟨rfl, rfl, rfl⟩) s nd ed
    rcases id hn with ⟨i, rfl, hi⟩ | ⟨b, rfl⟩
    · refine ⟨.int i, rfl, _, _, _, _, false, rfl, ClsV.ty _, TyX.base (TyOf.int _), kit_ty (by decide +kernel), _, rfl, ?_⟩
      refine ⟨.int i, rfl, .int lo, rfl, i, lo, rfl, rfl, _, rfl, ite2 (fun h0 => ?_) (fun h0 => ?_)⟩
      · have h0' : i < lo := of_decide_eq_true h0
        rcases q with ⟨j, e, lj, _⟩ | q
        · cases e
          omega
        · exact bad q
      · have h0' : ¬ i < lo := fun z => h0 (decide_eq_true z)
        rcases q with ⟨j, e, lj, q⟩ | q
        · exact q
        · exact absurd (q.1 i rfl) h0'
    · refine ⟨.bl b, rfl, _, _, _, _, true, rfl, ClsV.ty _, TyX.base (TyOf.bl _), kit_ty (by decide +kernel), _, rfl, ?_⟩
      rcases q with ⟨j, e, _⟩ | q
      · cases e
      · exact bad q
theorem ok_withinX {f fN CF fI : Addr} {fd fdN fdI : FuncData} (D : DefAt K mg "need_within" s_need_within P_need_within f fd) (D_need_from : DefAt K mg "need_from" s_need_from P_need_from fN fdN) (B : Bn mg) (Tb : ErT K mg CF CB fI fdI "BadNumber" N_bninit) (n1 : PySem.W.findIn K (.ref CB) "number" = some none) (GB : FnOk P w K mg base CX0 2 fI fdI N_bninit (spBnInit K)) : FnOk P w K mg base (L2.CX P w) 5 f fd P_need_within (spWithinX CB CG CU) := by
  have G_need_from : FnOk P w K mg base (L2.CX P w) 4 fN fdN P_need_from (spFromX CB CG CU) := ok_fromX D_need_from B Tb n1 GB
  refine D.F.okX sc_need_within (fun vs H Q E h => ?_) (fun cdv A outer s H vs Q E hr h => ?_)
  · obtain ⟨lo, hi, n, rfl, _⟩ := h
    rfl
  · obtain ⟨lo, hi, n, rfl, hn, bad, tk⟩ := h
    refine ⟨_, (pss_cons (ps_expr (pe_call G_need_from (hr.mono (by omega)) (by rfl) D_need_from.g D_need_from.F.kp D_need_from.b .nil (passes_call (takes_of rfl rfl rfl rfl) fun _ _ _ _ h => h) (pa_cons (pv 0) (pa_cons (pv 2) pa_nil))))
      (pss_one (ps_if (pt_cmpR op_gt (pv 2) (pv 1) (nomark _)) (pss_one (ps_raise rfl (takes_of rfl rfl rfl rfl) (pmk_oex Tb.e.o Tb.iC Tb.tI GB (hr.mono (by omega)) Tb.bI .nil pass0 (by rfl) Tb.gC (pa_cons (pv 2) pa_nil)))) pss_nil))), ?_⟩
    refine ⟨.int lo, rfl, n, rfl, lo, n, rfl, hn, ?_⟩
    by_cases g : ∃ i : Int, n = .int i ∧ lo ≤ i
    · obtain ⟨i, rfl, li⟩ := g
      refine .inl ⟨i, rfl, li, .int i, rfl, .int hi, rfl, i, hi, rfl, rfl, _, rfl, ite2 (fun h => ?_) (fun h => ?_)⟩
      · exact bn_raiseE Tb.e n1 hn (fun Q q => ⟨.int i, rfl, q⟩) fun H' d s nd ed => tk _ _ _ _ (.inl ⟨rfl, rfl, rfl⟩) s nd ed
      · have h' : ¬ hi < i := fun z => h (decide_eq_true z)
        have := bad i rfl
        omega
    · exact .inr ⟨fun i e => Int.not_le.mp fun z => g ⟨i, e, z⟩, tk⟩
theorem ok_lenX {f fN fV CF fI : Addr} {fd fdN fdV fdI : FuncData} {tok : Tok} (D : DefAt K mg "need_length" s_need_length P_need_length f fd) (D_need_from : DefAt K mg "need_from" s_need_from P_need_from fN fdN) (D_need_within : DefAt K mg "need_within" s_need_within P_need_within fV fdV) (B : Bn mg) (Tb : ErT K mg CF CB fI fdI "BadNumber" N_bninit) (n1 : PySem.W.findIn K (.ref CB) "number" = some none) (g_FAR : mg "FAR" = some (.int 1000000000000000000 tok))
    (GB : FnOk P w K mg base CX0 2 fI fdI N_bninit (spBnInit K)) : FnOk P w K mg base (L2.CX P w) 6 f fd P_need_length (spLenX CB CG CU) := by
  have G_need_within : FnOk P w K mg base (L2.CX P w) 5 fV fdV P_need_within (spWithinX CB CG CU) := ok_withinX D_need_within D_need_from B Tb n1 GB
  refine D.F.okX sc_need_length (fun vs H Q E h => ?_) (fun cdv A outer s H vs Q E hr h => ?_)
  · obtain ⟨n, rfl, _⟩ := h
    rfl
  · obtain ⟨n, rfl, hn, bad, tk⟩ := h
    refine ⟨_, (pss_one (ps_expr (pe_call G_need_within (hr.mono (by omega)) (by rfl) D_need_within.g D_need_within.F.kp D_need_within.b .nil (passes_call (takes_of rfl rfl rfl rfl) fun _ _ _ _ h => h) (pa_cons pe_int (pa_cons (pe_glob (v := .int _) (by rfl) g_FAR ⟨_, rfl⟩) (pa_cons (pv 0) pa_nil)))))), ?_⟩
    refine ⟨n, rfl, 0, 1000000000000000000, n, rfl, hn, fun i e => ?_, tk⟩
    refine Classical.byContradiction fun z => bad ⟨i, e, by omega, by omega⟩
theorem ok_matX {f fM CF fI : Addr} {fd fdM fdI : FuncData} (D : DefAt K mg "need_mating" s_need_mating P_need_mating f fd) (D_is_mating : DefAt K mg "is_mating" s_is_mating P_is_mating fM fdM) (B : Bn mg) (Tg : ErT K mg CF CG fI fdI "BadMating" N_bginit) (n2 : PySem.W.findIn K (.ref CG) "mating" = some none) (GG : FnOk P w K mg base CX0 2 fI fdI N_bginit (spBgInit K)) : FnOk P w K mg base (L2.CX P w) 4 f fd P_need_mating (spMatX CB CG CU) := by
  have G_is_mating : FnOk P w K mg base CX0 1 fM fdM P_is_mating spIsMat := ok_is_mating D_is_mating B
  refine D.F.okX sc_need_mating (fun vs H Q E h => ?_) (fun cdv A outer s H vs Q E hr h => ?_)
  · obtain ⟨n, t, q, rfl, _⟩ := h
    rfl
  · obtain ⟨n, t, q, rfl, n0, n1, et, ⟨i1, i2, i3, i4⟩, q1, q2⟩ := h
    refine ⟨_, (pss_one (ps_if (pt_not (pt_val (pe_call G_is_mating (hr.mono (by omega)) (by rfl) D_is_mating.g D_is_mating.F.kp D_is_mating.b .nil pass0 (pa_cons (pv 0) (pa_cons (pv 1) pa_nil))))) (pss_one (ps_raise rfl (takes_of rfl rfl rfl rfl) (pmk_oex Tg.e.o Tg.iC Tg.tI GG (hr.mono (by omega)) Tg.bI .nil pass0 (by rfl) Tg.gC (pa_cons (pv 1) pa_nil)))) pss_nil)), ?_⟩
    refine ⟨.int n, rfl, .ref t, rfl, n, t, q.1, q.2.1, q.2.2.1, q.2.2.2, rfl, by omega, et, i1, i2, i3, i4, fun H3 s3 => ?_⟩
    cases e : isM n q with
    | true =>
      rw [show isMat n q.1 q.2.1 q.2.2.1 q.2.2.2 = true from e]
      exact ⟨true, rfl, iteF (q1 e _ s3)⟩
    | false =>
      rw [show isMat n q.1 q.2.1 q.2.2.1 q.2.2.2 = false from e]
      refine ⟨false, rfl, iteT ?_⟩
      refine bg_raise (σ := [some (.int n), some (.ref t)]) (i := 1) Tg.e n2 (s3 _ _ et) (fun y hy => ?_) (by show 4 ≤ 20; decide) rfl fun H' d s nd ed => (q2 e).same s3 _ _ _ _ (.inr (.inl ⟨rfl, rfl, rfl⟩)) s nd ed
      have hy : y ∈ [q.1, q.2.1, q.2.2.1, q.2.2.2] := hy
      simp only [List.mem_cons, List.not_mem_nil, or_false] at hy
      rcases hy with rfl | rfl | rfl | rfl
      · exact .inl i1.fv
      · exact .inl i2.fv
      · exact .inl i3.fv
      · exact .inl i4.fv
end

/-! ### _law_odd: what is no length (behind 82r_refuse) -/
abbrev N_odd : List Str := ["_law_draw", "_law_big"]
abbrev P_odd : List Str := ["_law_draw"]
theorem sc_odd : FnScope N_odd P_odd (defScope s_odd) := ⟨rfl, rfl, rfl, by decide +kernel, rfl, by decide +kernel, by decide +kernel⟩
def spOddL : Sp := fun vs H Q _ => ∃ (d l : Addr), vs = [.ref d] ∧ Draw H d l ∧ ∀ (x : V) (H' : Hp), IB x → ¬ goodLen x → Draw H' d l → Keep d H H' → Q x H'
theorem no_len {i : Int} (h : i < 0 ∨ 1000000000000000000 < i) : ¬ goodLen (.int i) := fun ⟨j, e, a, b⟩ => by
  cases e
  omega
section
variable {P : Program} {w : World} {K : PySem.W.Frag} {mg : Str → Option Value} {base : Heap}
theorem ok_oddL {f fP : Addr} {fd fdP : FuncData} (D : DefAt K mg "_law_odd" s_odd P_odd f fd) (D_pull : DefAt K mg "_law_pull" s_pull P_pull fP fdP) (B : Bn mg) : FnOk P w K mg base CX0 2 f fd P_odd spOddL := by
  have G_pull : FnOk P w K mg base CX0 1 fP fdP P_pull spPull := ok_pull D_pull B
  refine D.F.ok sc_odd (fun vs H Q E h => ?_) (fun cdv A outer s H vs Q E hr h => ?_)
  · obtain ⟨d, l, rfl, _⟩ := h
    rfl
  · obtain ⟨d, l, rfl, hD, q⟩ := h
    refine ⟨_, (pss_cons (ps_set (i := 1) sc_odd.nd rfl (.inl rfl) (pe_op op_add pe_int (pe_call G_pull (hr.mono (by omega)) (by rfl) D_pull.g D_pull.F.kp D_pull.b .nil pass0 (pa_cons (pv 0) (pa_cons (pe_op op_pow pe_int pe_int) pa_nil)))))
      (pss_one (ps_ret (pe_ix ix_list (pe_lst (pa_cons (pe_un un_neg pe_int) (pa_cons pe_bl (pa_cons pe_bl (pa_cons (pe_op op_sub pe_int (pv 1)) (pa_cons (pe_op op_sub pe_int (pe_op op_mul (pv 1) (pe_op op_pow pe_int pe_int))) (pa_cons (pe_op op_add (pe_op op_pow pe_int pe_int) (pv 1)) (pa_cons (pe_op op_add (pe_op op_pow pe_int pe_int) (pv 1)) pa_nil)))))))) (pe_call G_pull (hr.mono (by omega)) (by rfl) D_pull.g D_pull.F.kp D_pull.b .nil pass0 (pa_cons (pv 0) (pa_cons pe_int pa_nil))) (fun _ _ => rfl))))), ?_⟩
    refine ⟨.ref d, rfl, 10, 9, rfl, rfl, ⟨by decide, by decide, by decide⟩, d, l, _, rfl, hD, by decide, by decide, fun b H1 b0 b1 D1 k1 => ?_⟩
    have b1' : b < 1000000000 := b1
    refine ⟨1, b, rfl, rfl, ?_⟩
    refine ⟨1, rfl, .int (1 + b), rfl, 0, 1 + b, rfl, rfl, .int (1 + b), rfl, 10, 20, rfl, rfl, ⟨by decide, by decide, by decide⟩, 1 + b, _, rfl, rfl, .inl ⟨by omega, by omega⟩, 0, _, rfl, rfl, 10, 18, rfl, rfl, ⟨by decide, by decide, by decide⟩, .int (1 + b), rfl, _, 1 + b, rfl, rfl, 10, 29, rfl, rfl, ⟨by decide, by decide, by decide⟩, .int (1 + b), rfl, _, 1 + b, rfl, rfl, by show 7 ≤ sizeLine; decide, fun L nL => ?_⟩
    refine ⟨.ref d, rfl, d, l, 7, rfl, D1.same (same_upd nL), by decide, by decide, fun v H2 v0 v1 D2 k2 => ?_⟩
    obtain ⟨x, hx, ib, nb⟩ : ∃ x : V, atI [V.int (-1), V.bl true, V.bl false, V.int (0 - (1 + b)), V.int (0 - (1 + b) * 10 ^ (20 : Int).toNat), V.int (10 ^ (18 : Int).toNat + (1 + b)), V.int (10 ^ (29 : Int).toNat + (1 + b))] v = some x ∧ IB x ∧ ¬ goodLen x := by
      rcases (show v = 0 ∨ v = 1 ∨ v = 2 ∨ v = 3 ∨ v = 4 ∨ v = 5 ∨ v = 6 by omega) with rfl | rfl | rfl | rfl | rfl | rfl | rfl
      · exact ⟨_, atI_nat (j := 0) rfl, .int (by decide), no_len (by omega)⟩
      · exact ⟨_, atI_nat (j := 1) rfl, .inr ⟨_, rfl⟩, fun ⟨_, e, _⟩ => by cases e⟩
      · exact ⟨_, atI_nat (j := 2) rfl, .inr ⟨_, rfl⟩, fun ⟨_, e, _⟩ => by cases e⟩
      · exact ⟨_, atI_nat (j := 3) rfl, .int (by omega), no_len (by omega)⟩
      · rw [show (10 : Int) ^ (20 : Int).toNat = 100000000000000000000 by decide]
        exact ⟨_, atI_nat (j := 4) rfl, .int (by omega), no_len (by omega)⟩
      · rw [show (10 : Int) ^ (18 : Int).toNat = 1000000000000000000 by decide]
        exact ⟨_, atI_nat (j := 5) rfl, .int (by omega), no_len (by omega)⟩
      · rw [show (10 : Int) ^ (29 : Int).toNat = 100000000000000000000000000000 by decide]
        exact ⟨_, atI_nat (j := 6) rfl, .int (by omega), no_len (by omega)⟩
    exact ⟨L, _, v, x, rfl, rfl, SqL.of (k2.of upd_same (D1.ne_new nL)), hx, q _ _ ib nb D2 (k1.trans ((keepS (same_upd nL)).trans k2))⟩
end

/-! ### mate_as, mate, strike refused (behind rd5, rd6, 82r_refuse, 75n_nomating) -/
def spMateAsR (C5 CG CU : Addr) : Sp := fun vs H _ E => ∃ (g st t : Addr) (n i : Int) (S : StL) (k : V) (c : Int) (q : Q4), vs = [.ref g, .int i, .ref t] ∧ RoAt C5 H g st n S k c ∧ RoW n S ∧ H t = some (.tup (q4 q)) ∧ IBq q ∧
  ((isM n q = false ∧ TakesE CG CG CU H E "BadMating" (.ref t)) ∨ (isM n q = true ∧ 24 ≤ S.length ∧ TakesE CG CG CU H E "Full" (.int 24)))
def spMateR (C5 CG CU : Addr) : Sp := fun vs H _ E => ∃ (g st : Addr) (n : Int) (S : StL) (k : V) (c : Int) (q : Q4), vs = [.ref g, q.1, q.2.1, q.2.2.1, q.2.2.2] ∧ RoAt C5 H g st n S k c ∧ RoW n S ∧ IBq q ∧
  ∀ (H1 : Hp) (t : Addr), Same H H1 → H t = none → H1 t = some (.tup (q4 q)) → (isM n q = false ∧ TakesE CG CG CU H1 E "BadMating" (.ref t)) ∨ (isM n q = true ∧ 24 ≤ S.length ∧ TakesE CG CG CU H1 E "Full" (.int 24))
def spStrikeR (C5 CM : Addr) : Sp := fun vs H _ E => ∃ (g st : Addr) (n : Int) (S : StL) (k : V) (c : Int) (x : V), vs = [.ref g, x] ∧ RoAt C5 H g st n S k c ∧ FV x ∧ (∀ i : Int, x = .int i → sget S i = none) ∧
  ∀ (H' : Hp) (d : Addr), Same H H' → H d = none → H' d = some (.xd (nmF x)) → E (.ref CM) (some d) H'
section
variable {P : Program} {w : World} {K : PySem.W.Frag} {mg : Str → Option Value} {base : Heap} {C5 CG CU CM : Addr}
theorem ok_MateAsR {f fB fM fI CF fGi fUi : Addr} {fd fdB fdM fdI fdGi fdUi : FuncData} {tok : Tok} (F : Fun K "mate_as" "Road.mate_as" s_Ro_mate_as f fd) (TRo_ : RoT K mg C5) (M_Ro_become : Meth K C5 "become" fB) (G_Ro_become : FnOk P w K mg base CX0 1 fB fdB P_Ro_become (spBecome C5)) (b_Ro_become : Binds K fdB P_Ro_become [])
    (D_need_mating : DefAt K mg "need_mating" s_need_mating P_need_mating fM fdM) (D_is_mating : DefAt K mg "is_mating" s_is_mating P_is_mating fI fdI) (g_MOST : mg "MOST" = some (.int 24 tok)) (B : Bn mg)
    (Tg : ErT K mg CF CG fGi fdGi "BadMating" N_bginit) (n2 : PySem.W.findIn K (.ref CG) "mating" = some none) (GG : FnOk P w K mg base CX0 2 fGi fdGi N_bginit (spBgInit K))
    (Tu : ErT K mg CF CU fUi fdUi "Full" N_fuinit) (n3 : PySem.W.findIn K (.ref CU) "most" = some none) (GU : FnOk P w K mg base CX0 2 fUi fdUi N_fuinit (spFuInit K)) : FnOk P w K mg base (L2.CX P w) 6 f fd P_Ro_mate_as (spMateAsR C5 CG CU) := by
  have G_need_mating : FnOk P w K mg base (L2.CX P w) 4 fM fdM P_need_mating (spMatX CG CG CU) := ok_matX D_need_mating D_is_mating B Tg n2 GG
  refine F.okX sc_Ro_mate_as (fun vs H Q E h => ?_) (fun cdv A outer s H vs Q E hr h => ?_)
  · obtain ⟨g, st, t, n, i, S, k, c, q, rfl, _⟩ := h
    rfl
  · obtain ⟨g, st, t, n, i, S, k, c, q, rfl, fa, wf, ht, ib, qq⟩ := h
    refine ⟨_, (pss_cons (ps_expr (pe_call G_need_mating (hr.mono (by omega)) (by rfl) D_need_mating.g D_need_mating.F.kp D_need_mating.b .nil (passes_call (takes_of rfl rfl rfl rfl) fun _ _ _ _ h => h) (pa_cons (pe_fld (pv 0) rfl) (pa_cons (pv 2) pa_nil))))
      (pss_cons (ps_if (pt_cmpR op_ge (pe_callB call_lenDk (by rfl) B.len (by decide +kernel) (pa_cons (pe_fld (pv 0) rfl) pa_nil)) (pe_glob (v := .int _) (by rfl) g_MOST ⟨_, rfl⟩) (nomark _)) (pss_one (ps_raise rfl (takes_of rfl rfl rfl rfl) (pmk_oex Tu.e.o Tu.iC Tu.tI GU (hr.mono (by omega)) Tu.bI .nil pass0 (by rfl) Tu.gC (pa_cons (pe_glob (v := .int _) (by rfl) g_MOST ⟨_, rfl⟩) pa_nil)))) pss_nil)
      (pss_one (ps_expr (pe_meth (pv 0) TRo_.cl M_Ro_become G_Ro_become (hr.mono (by omega)) b_Ro_become .nil pass0 (pa_cons (pe_fld (pv 0) rfl) (pa_cons (DStar.pe_dstar (pe_fld (pv 0) rfl) (pv 1) (pv 2)) pa_nil))))))), ?_⟩
    obtain ⟨⟨dx, ea⟩, kvs, es, sd⟩ := id fa
    refine ⟨.ref g, rfl, g, C5, dx, _, .int n, rfl, ea, TRo_.cl, TRo_.nE, rfl, .ref t, rfl, n, t, q, rfl, wf.n0, wf.n1, ht, ib, fun h1 H1 s1 => ?_, fun h0 => ?_⟩
    · rcases qq with ⟨z, _⟩ | ⟨_, hl, tk⟩
      · rw [h1] at z
        cases z
      · obtain ⟨⟨dx1, ea1⟩, kvs1, es1, sd1⟩ := fa.same s1
        have el := sd1.length
        refine ⟨.ref g, rfl, g, C5, dx1, _, .ref st, rfl, ea1, TRo_.cl, TRo_.nS, rfl, st, kvs1, rfl, es1, ?_⟩
        refine ⟨(kvs1.length : Int), 24, rfl, rfl, _, rfl, ite2 (fun _ => ?_) (fun h => absurd (decide_eq_true (show (24 : Int) ≤ (kvs1.length : Int) by omega)) h)⟩
        exact fu_raise Tu.e n3 (.inl ⟨24, rfl, by decide⟩) (fun Q q => q) fun H' d s nd ed => (tk.same s1) _ _ _ _ (.inr (.inr ⟨rfl, rfl, rfl⟩)) s nd ed
    · rcases qq with ⟨_, tk⟩ | ⟨z, _⟩
      · exact tk
      · rw [h0] at z
        cases z
theorem ok_MateR {f fN fA : Addr} {fd fdN fdA : FuncData} {dvs : List V} {kws : List (Str × V)} (F : FunD K "mate" "Road.mate" (defArgs s_Ro_mate) (defBody s_Ro_mate) (defScope s_Ro_mate) dvs kws f fd) (TRo_ : RoT K mg C5) (M_Ro_next_number : Meth K C5 "next_number" fN) (G_Ro_next_number : FnOk P w K mg base CX0 1 fN fdN P_Ro_next_number (spNext C5)) (b_Ro_next_number : Binds K fdN P_Ro_next_number [])
    (M_Ro_mate_as : Meth K C5 "mate_as" fA) (GX_Ro_mate_as : FnOk P w K mg base (L2.CX P w) 6 fA fdA P_Ro_mate_as (spMateAsR C5 CG CU)) (b_Ro_mate_as : Binds K fdA P_Ro_mate_as []) : FnOk P w K mg base (L2.CX P w) 7 f fd P_Ro_mate (spMateR C5 CG CU) := by
  refine F.ok (CX := L2.CX P w) (k := 6) sc_Ro_mate (fun vs H Q E h => ?_) (fun cdv A outer s H vs Q E hr h => ?_)
  · obtain ⟨g, st, n, S, k, c, q, rfl, _⟩ := h
    rfl
  · obtain ⟨g, st, n, S, k, c, q, rfl, fa, wf, ib, qq⟩ := h
    refine ⟨_, (pss_cons (ps_set (i := 5) sc_Ro_mate.nd rfl (.inl rfl) (pe_meth0 (pv 0) TRo_.cl M_Ro_next_number G_Ro_next_number (hr.mono (by omega)) b_Ro_next_number .nil pass0))
      (pss_cons (ps_expr (pe_meth (pv 0) TRo_.cl M_Ro_mate_as GX_Ro_mate_as (hr.mono (by omega)) b_Ro_mate_as .nil (passes_call (takes_of rfl rfl rfl rfl) fun _ _ _ _ h => h) (pa_cons (pv 5) (pa_cons (pe_tup (pa_cons (pv 1) (pa_cons (pv 2) (pa_cons (pv 3) (pa_cons (pv 4) pa_nil))))) pa_nil))))
      (pss_one (ps_ret (pv 5))))), ?_⟩
    obtain ⟨dx, ea⟩ := fa.at_g
    have hlen := wf.len
    refine ⟨.ref g, rfl, g, dx, _, rfl, ea, rfl, g, st, n, S, k, c, rfl, fa, by omega, wf.low, fun H1 s1 => ?_⟩
    refine ⟨.ref g, rfl, g, dx, _, rfl, s1 _ _ ea, rfl, .int (nxt S), rfl, q.1, rfl, q.2.1, rfl, q.2.2.1, rfl, q.2.2.2, rfl, by show 4 ≤ sizeLine; decide, fun t nt => ?_⟩
    have s2 := same_upd (H := H1) (o := .tup (q4 q)) nt
    have s12 := s1.trans s2
    exact ⟨g, st, t, n, nxt S, S, k, c, q, rfl, fa.same s12, wf, upd_same, ib, qq _ t s12 (s1.free nt) upd_same⟩
theorem ok_StrikeR {f fB CF CI fMi : Addr} {fd fdB fdMi : FuncData} (F : Fun K "strike" "Road.strike" s_Ro_strike f fd) (TRo_ : RoT K mg C5) (M_Ro_become : Meth K C5 "become" fB) (G_Ro_become : FnOk P w K mg base CX0 1 fB fdB P_Ro_become (spBecome C5)) (b_Ro_become : Binds K fdB P_Ro_become []) (B : Bn mg)
    (Tm : LrT K mg CF CI CM fMi fdMi "NoMating" N_nminit) (n4 : PySem.W.findIn K (.ref CM) "number" = some none) (GM : FnOk P w K mg base CX0 2 fMi fdMi N_nminit (spNmInit K)) : FnOk P w K mg base (L2.CX P w) 5 f fd P_Ro_strike (spStrikeR C5 CM) := by
  refine F.okX sc_Ro_strike (fun vs H Q E h => ?_) (fun cdv A outer s H vs Q E hr h => ?_)
  · obtain ⟨g, st, n, S, k, c, x, rfl, _⟩ := h
    rfl
  · obtain ⟨g, st, n, S, k, c, x, rfl, fa, fx, no, qq⟩ := h
    have hu := hu_of hr
    refine ⟨_, (pss_cons (ps_if (PW.pt (pw_or (pt_val (pe_callB call_isi (by rfl) B.isinstance (by decide +kernel) (pa_cons (pv 1) (pa_cons (pe_bltn (v := .ty "bool") (by rfl) B.bool (by decide +kernel) rfl) pa_nil)))) (pw_or1 (pt_cmp (pc_dnotin hu (pv 1) (pe_fld (pv 0) rfl)))))) (pss_one (ps_raise rfl (takes_of rfl rfl rfl rfl) (pmk_lex Tm.e.o Tm.iC Tm.tI GM (hr.mono (by omega)) Tm.bI .nil pass0 (by rfl) Tm.gC (pa_cons (pv 1) pa_nil)))) pss_nil)
      (pss_one (ps_expr (pe_meth (pv 0) TRo_.cl M_Ro_become G_Ro_become (hr.mono (by omega)) b_Ro_become .nil pass0 (pa_cons (pe_fld (pv 0) rfl) (pa_cons (pe_lock (pe_dc (own := [("k", 2)]) (g := gName 2) (by rfl) sc_Ro_strike.nd (pi_keys (pe_fld (pv 0) rfl)) (blkOk_by (own := [("k", 2)]) (N := N_Ro_strike) (sc := defScope s_Ro_strike) (by decide +kernel)) (fun _ _ _ _ _ => (pg_name (i := 2) sc_Ro_strike.nd rfl (.inl rfl))) (fun _ _ _ _ _ => (pts_one (pt_cmpR op_ne (pv 2) (pv 1) (nomark _)))) (fun _ _ _ _ _ => (pv 2)) (fun _ _ _ _ _ => (pe_dget hu (pe_fldK (K := K) rfl (pv 0) rfl) (pv 2) (fun _ _ => rfl))))) pa_nil)))))), ?_⟩
    obtain ⟨⟨dx, ea⟩, kvs, es, sd⟩ := id fa
    have bad := nm_raise (σ := [some (.ref g), some x]) (i := 1) Tm.e n4 fx rfl qq
    rcases id fx with ⟨i, rfl, hi⟩ | ⟨b, rfl⟩
    · refine ⟨.int i, rfl, _, _, _, _, false, rfl, ClsV.ty _, TyX.base (TyOf.int _), kit_ty (by decide +kernel), _, rfl, iteF ?_⟩
      refine ⟨.int i, rfl, .ref g, rfl, g, C5, dx, _, .ref st, rfl, ea, TRo_.cl, TRo_.nS, rfl, st, none, rfl, ?_, _, rfl, iteT ?_⟩
      · have z := DGet.k (H := H) (k := Sum.inl i) es
        rw [(sd.get i).1 (no i rfl)] at z
        exact z
      · exact bad
    · refine ⟨.bl b, rfl, _, _, _, _, true, rfl, ClsV.ty _, TyX.base (TyOf.bl _), kit_ty (by decide +kernel), _, rfl, iteT ?_⟩
      exact bad
end

/-! ### moved -/
abbrev N_moved : List Str := ["mating", "by", "one", "other", "many", "turned"]
abbrev P_moved : List Str := ["mating", "by"]
theorem sc_moved : FnScope N_moved P_moved (defScope s_moved) := ⟨rfl, rfl, rfl, by decide +kernel, rfl, by decide +kernel, by decide +kernel⟩
def spMoved : Sp := fun vs H Q _ => ∃ (t : Addr) (o p m f b : Int), vs = [.ref t, .int b] ∧ H t = some (tup4 o p m f) ∧ ∀ r, H r = none → Q (.ref r) (upd H r (tup4 (o + b) (p + b) m f))
section
variable {P : Program} {w : World} {K : PySem.W.Frag} {mg : Str → Option Value} {base : Heap}
theorem ok_moved {f : Addr} {fd : FuncData} (D : DefAt K mg "moved" s_moved P_moved f fd) : FnOk P w K mg base CX0 1 f fd P_moved spMoved := by
  refine D.F.ok sc_moved (fun vs H Q E h => ?_) (fun cdv A outer s H vs Q E hr h => ?_)
  · obtain ⟨t, o, p, m, f, b, rfl, _⟩ := h
    rfl
  · obtain ⟨t, o, p, m, f, b, rfl, ht, q⟩ := h
    refine ⟨_, (pss_cons (ps_asg (pv 0) (pg_tup (by rfl) (pgs_cons (pg_name (i := 2) sc_moved.nd rfl (.inl rfl)) (pgs_cons (pg_name (i := 3) sc_moved.nd rfl (.inl rfl)) (pgs_cons (pg_name (i := 4) sc_moved.nd rfl (.inl rfl)) (pgs_cons (pg_name (i := 5) sc_moved.nd rfl (.inl rfl)) pgs_nil))))))
      (pss_one (ps_ret (pe_tup (pa_cons (pe_op op_add (pv 2) (pv 1)) (pa_cons (pe_op op_add (pv 3) (pv 1)) (pa_cons (pv 4) (pa_cons (pv 5) pa_nil)))))))), ?_⟩
    refine ⟨.ref t, rfl, t, _, rfl, SqT.of ht, rfl, .int o, _, rfl, .int p, _, rfl, .int m, _, rfl, .int f, _, rfl, rfl, ?_⟩
    exact ⟨.int o, rfl, .int b, rfl, o, b, rfl, rfl, .int p, rfl, .int b, rfl, p, b, rfl, rfl, .int m, rfl, .int f, rfl, by show 4 ≤ sizeLine; decide, fun r hr' => q r hr'⟩
end

/-! ### a road: behind -/
abbrev N_Ro_behind : List Str := ["self", "other", "length", "standing", "at", "number", "mating"]
abbrev P_Ro_behind : List Str := ["self", "other"]
theorem sc_Ro_behind : FnScope N_Ro_behind P_Ro_behind (defScope s_Ro_behind) := ⟨rfl, rfl, rfl, by decide +kernel, rfl, by decide +kernel, by decide +kernel⟩
def mvX (b : Int) (x : M4) : M4 := (x.1 + b, x.2.1 + b, x.2.2.1, x.2.2.2)
def bhS (N b : Int) : StL → StL
  | [] => []
  | s :: r => (N, mvX b s.2) :: bhS (N + 1) b r
theorem bhS_len (b : Int) : ∀ (N : Int) (l : StL), (bhS N b l).length = l.length
  | _, [] => rfl
  | N, s :: r => congrArg (· + 1) (bhS_len b (N + 1) r)
theorem bhS_snoc (b : Int) (s : Int × M4) : ∀ (N : Int) (l : StL), bhS N b (l ++ [s]) = bhS N b l ++ [(N + (l.length : Nat), mvX b s.2)]
  | N, [] => by
    show [(N, mvX b s.2)] = [(N + ((0 : Nat) : Int), mvX b s.2)]
    rw [show N + ((0 : Nat) : Int) = N by omega]
  | N, y :: r => by
    show (N, mvX b y.2) :: bhS (N + 1) b (r ++ [s]) = (N, mvX b y.2) :: (bhS (N + 1) b r ++ [(N + ((r.length + 1 : Nat) : Int), mvX b s.2)])
    rw [bhS_snoc b s (N + 1) r, show N + 1 + (r.length : Int) = N + ((r.length + 1 : Nat) : Int) by omega]
theorem bhS_in (b : Int) : ∀ (N : Int) (l : StL) (s : Int × M4), s ∈ bhS N b l → N ≤ s.1 ∧ s.1 < N + (l.length : Nat) ∧ ∃ t ∈ l, s.2 = mvX b t.2
  | N, y :: r, s, h => by
    simp only [List.length_cons]
    rcases List.mem_cons.mp h with rfl | h
    · exact ⟨Int.le_refl _, by show N < _; omega, y, List.mem_cons_self, rfl⟩
    · obtain ⟨h1, h2, t, ht, e⟩ := bhS_in b (N + 1) r s h
      exact ⟨by omega, by omega, t, List.mem_cons_of_mem _ ht, e⟩
theorem bhS_up (b : Int) : ∀ (N : Int) (l : StL), ((bhS N b l).map (·.1)).Pairwise (· < ·)
  | _, [] => List.Pairwise.nil
  | N, y :: r => by
    refine List.pairwise_cons.mpr ⟨fun z hz => ?_, bhS_up b (N + 1) r⟩
    obtain ⟨s, hs, rfl⟩ := List.mem_map.mp hz
    have := bhS_in b (N + 1) r s hs
    show N < s.1
    omega
theorem lg2_62 {i : Int} (h0 : 0 < i) (h1 : i < 4611686018427387904) : i.natAbs.log2 < 1920 :=
  (Nat.log2_lt (by omega)).mpr (Nat.lt_of_lt_of_le (show i.natAbs < 2 ^ 62 by omega) (Nat.pow_le_pow_right (by decide) (by decide)))
/-- the matings of S, those of S2 behind them -/
def bhd (n : Int) (S S2 : StL) : StL := S ++ bhS (nxt S) n S2
theorem bhd_up {n : Int} {S S2 : StL} (u : (S.map (·.1)).Pairwise (· < ·)) : ((bhd n S S2).map (·.1)).Pairwise (· < ·) := by
  unfold bhd
  rw [List.map_append, List.pairwise_append]
  refine ⟨u, bhS_up _ _ _, fun a ha b hb => ?_⟩
  obtain ⟨s, hs, rfl⟩ := List.mem_map.mp ha
  obtain ⟨t, ht, rfl⟩ := List.mem_map.mp hb
  have h1 := nxt_gt hs
  have h2 := (bhS_in _ _ _ _ ht).1
  omega
theorem RoW.behind {n n2 : Int} {S S2 : StL} (h : RoW n S) (h2 : RoW n2 S2) (hf : n + n2 ≤ 1000000000000000000) (hl : S.length + S2.length ≤ 24) : RoW (n + n2) (bhd n S S2) := by
  have n0 := h.n0
  have n20 := h2.n0
  refine ⟨by omega, hf, bhd_up h.up, fun s hs => ?_, ?_, fun s hs => ?_⟩
  · rcases List.mem_append.mp hs with z | z
    · exact h.low s z
    · have := (bhS_in _ _ _ _ z).1
      have := nxt_1 S
      omega
  · unfold bhd
    rw [List.length_append, bhS_len]
    exact hl
  · rcases List.mem_append.mp hs with z | z
    · obtain ⟨a1, a2, a3, a4, a5, a6⟩ := h.ok s z
      exact ⟨a1, a2, a3, a4, by omega, by omega⟩
    · obtain ⟨_, _, t, ht, e⟩ := bhS_in _ _ _ _ z
      obtain ⟨a1, a2, a3, a4, a5, a6⟩ := h2.ok t ht
      rw [e]
      exact ⟨a1, a2, by show 0 ≤ t.2.1 + n; omega, by show 0 ≤ t.2.2.1 + n; omega, by show t.2.1 + n + t.2.2.2.1 ≤ _; omega, by show t.2.2.1 + n + t.2.2.2.1 ≤ _; omega⟩
def spBehind (C5 CB CG CU : Addr) : Sp := fun vs H Q E => ∃ (g st g2 st2 : Addr) (n n2 : Int) (S S2 : StL) (k k2 : V) (c c2 : Int), vs = [.ref g, .ref g2] ∧ RoAt C5 H g st n S k c ∧ RoAt C5 H g2 st2 n2 S2 k2 c2 ∧ RoW n S ∧ RoW n2 S2 ∧
  (1000000000000000000 < n + n2 → TakesE CB CG CU H E "BadNumber" (.int (n + n2))) ∧ (n + n2 ≤ 1000000000000000000 → 24 < S.length + S2.length → TakesE CB CG CU H E "Full" (.int 24)) ∧
  (n + n2 ≤ 1000000000000000000 → S.length + S2.length ≤ 24 → ∀ (H' : Hp) (st' : Addr), RoAt C5 H' g st' (n + n2) (bhd n S S2) (if n + n2 = n ∧ bhd n S S2 = S then k else .non) c → Keep g H H' → H st' = none → Q .non H')
section
variable {P : Program} {w : World} {K : PySem.W.Frag} {mg : Str → Option Value} {base : Heap} {C5 CB CG CU : Addr}
theorem ok_Behind {f fB fN fL fM fV CF gB gU : Addr} {fd fdB fdN fdL fdM fdV gdB gdU : FuncData} {tok1 tok2 : Tok} (F : Fun K "behind" "Road.behind" s_Ro_behind f fd) (TRo_ : RoT K mg C5) (M_Ro_become : Meth K C5 "become" fB) (G_Ro_become : FnOk P w K mg base CX0 1 fB fdB P_Ro_become (spBecome C5)) (b_Ro_become : Binds K fdB P_Ro_become [])
    (M_Ro_next_number : Meth K C5 "next_number" fN) (G_Ro_next_number : FnOk P w K mg base CX0 1 fN fdN P_Ro_next_number (spNext C5)) (b_Ro_next_number : Binds K fdN P_Ro_next_number []) (M_Ro_length : Meth K C5 "length" fL) (G_Ro_length : FnOk P w K mg base CX0 1 fL fdL P_Ro_length (spRoLen C5)) (b_Ro_length : Binds K fdL P_Ro_length [])
    (M_Ro_matings : Meth K C5 "matings" fM) (G_Ro_matings : FnOk P w K mg base CX0 1 fM fdM P_Ro_matings (spMatings C5)) (b_Ro_matings : Binds K fdM P_Ro_matings []) (D_moved : DefAt K mg "moved" s_moved P_moved fV fdV)
    (g_FAR : mg "FAR" = some (.int 1000000000000000000 tok1)) (g_MOST : mg "MOST" = some (.int 24 tok2)) (zE : mg "enumerate" = none) (B : Bn mg) (Tb : ErT K mg CF CB gB gdB "BadNumber" N_bninit) (m1 : PySem.W.findIn K (.ref CB) "number" = some none) (GB : FnOk P w K mg base CX0 2 gB gdB N_bninit (spBnInit K))
    (Tu : ErT K mg CF CU gU gdU "Full" N_fuinit) (m3 : PySem.W.findIn K (.ref CU) "most" = some none) (GU : FnOk P w K mg base CX0 2 gU gdU N_fuinit (spFuInit K)) : FnOk P w K mg base (L2.CX P w) 4 f fd P_Ro_behind (spBehind C5 CB CG CU) := by
  have G_moved : FnOk P w K mg base CX0 1 fV fdV P_moved spMoved := ok_moved D_moved
  refine F.okX sc_Ro_behind (fun vs H Q E h => ?_) (fun cdv A outer s H vs Q E hr h => ?_)
  · obtain ⟨g, st, g2, st2, n, n2, S, S2, k, k2, c, c2, rfl, _⟩ := h
    rfl
  · obtain ⟨g, st, g2, st2, n, n2, S, S2, k, k2, c, c2, rfl, fa, fb, wf, wf2, q1, q2, qq⟩ := h
    have hu := hu_of hr
    obtain ⟨⟨dx, ea⟩, kvs, es, sd⟩ := id fa
    obtain ⟨⟨dx2, ea2⟩, kvs2, es2, sd2⟩ := id fb
    have n0 := wf.n0
    have n1 := wf.n1
    have n20 := wf2.n0
    have n21 := wf2.n1
    have lS := wf.len
    have lS2 := wf2.len
    have elk := sd.length
    refine ⟨_, (pss_cons (ps_set (i := 2) sc_Ro_behind.nd rfl (.inl rfl) (pe_op op_add (pe_fld (pv 0) rfl) (pe_meth0 (pv 1) TRo_.cl M_Ro_length G_Ro_length (hr.mono (by omega)) b_Ro_length .nil pass0)))
      (pss_cons (ps_if (pt_cmpR op_gt (pv 2) (pe_glob (v := .int _) (by rfl) g_FAR ⟨_, rfl⟩) (nomark _)) (pss_one (ps_raise rfl (takes_of rfl rfl rfl rfl) (pmk_oex Tb.e.o Tb.iC Tb.tI GB (hr.mono (by omega)) Tb.bI .nil pass0 (by rfl) Tb.gC (pa_cons (pv 2) pa_nil)))) pss_nil)
      (pss_cons (ps_if (pt_cmpR op_gt (pe_op op_add (pe_callB call_lenDk (by rfl) B.len (by decide +kernel) (pa_cons (pe_fld (pv 0) rfl) pa_nil)) (pe_callB call_len_seq (by rfl) B.len (by decide +kernel) (pa_cons (pe_meth0 (pv 1) TRo_.cl M_Ro_matings G_Ro_matings (hr.mono (by omega)) b_Ro_matings .nil pass0) pa_nil))) (pe_glob (v := .int _) (by rfl) g_MOST ⟨_, rfl⟩) (nomark _)) (pss_one (ps_raise rfl (takes_of rfl rfl rfl rfl) (pmk_oex Tu.e.o Tu.iC Tu.tI GU (hr.mono (by omega)) Tu.bI .nil pass0 (by rfl) Tu.gC (pa_cons (pe_glob (v := .int _) (by rfl) g_MOST ⟨_, rfl⟩) pa_nil)))) pss_nil)
      (pss_cons (ps_set (i := 3) sc_Ro_behind.nd rfl (.inl rfl) (pe_callTy call_dictD (by rfl) B.dict (by decide +kernel) (pa_cons (pe_fld (pv 0) rfl) pa_nil)))
      (pss_cons (ps_for (passes_of rfl) rfl (pi_enum (by rfl) zE (pa_cons (pe_meth0 (pv 1) TRo_.cl M_Ro_matings G_Ro_matings (hr.mono (by omega)) b_Ro_matings .nil pass0) pa_nil)) (pg_tup (by rfl) (pgs_cons (pg_name (i := 4) sc_Ro_behind.nd rfl (.inl rfl)) (pgs_cons (pg_tup (by rfl) (pgs_cons (pg_name (i := 5) sc_Ro_behind.nd rfl (.inl rfl)) (pgs_cons (pg_name (i := 6) sc_Ro_behind.nd rfl (.inl rfl)) pgs_nil))) pgs_nil))) (pss_one (ps_dput hu (pv 3) (pe_op op_add (pe_meth0 (pv 0) TRo_.cl M_Ro_next_number G_Ro_next_number (hr.mono (by omega)) b_Ro_next_number .nil pass0) (pv 4)) (pe_call G_moved (hr.mono (by omega)) (by rfl) D_moved.g D_moved.F.kp D_moved.b .nil pass0 (pa_cons (pv 6) (pa_cons (pe_fld (pv 0) rfl) pa_nil))) rfl)))
      (pss_one (ps_expr (pe_meth (pv 0) TRo_.cl M_Ro_become G_Ro_become (hr.mono (by omega)) b_Ro_become .nil pass0 (pa_cons (pv 2) (pa_cons (pv 3) pa_nil)))))))))), ?_⟩
    refine ⟨.ref g, rfl, g, C5, dx, _, .int n, rfl, ea, TRo_.cl, TRo_.nE, rfl, .ref g2, rfl, g2, dx2, _, rfl, ea2, rfl, g2, dx2, st2, n2, k2, c2, rfl, ea2, n, n2, rfl, rfl, ?_⟩
    refine ⟨.int (n + n2), rfl, n + n2, 1000000000000000000, rfl, rfl, _, rfl, ite2 (fun h => ?_) (fun h => ?_)⟩
    · have h' := of_decide_eq_true h
      exact bn_raiseE Tb.e m1 (.inl ⟨_, rfl, lg2_62 (by omega) (by omega)⟩) (fun Q q => ⟨.int (n + n2), rfl, q⟩) fun H' d s nd ed => q1 (by omega) _ _ _ _ (.inl ⟨rfl, rfl, rfl⟩) s nd ed
    have hF : n + n2 ≤ 1000000000000000000 := by
      have h' : ¬ n + n2 > 1000000000000000000 := fun z => h (decide_eq_true z)
      omega
    refine ⟨.ref g, rfl, g, C5, dx, _, .ref st, rfl, ea, TRo_.cl, TRo_.nS, rfl, st, kvs, rfl, es, .ref g2, rfl, g2, dx2, _, rfl, ea2, rfl, g2, st2, n2, S2, k2, c2, rfl, fb, wf2.up, by omega, fun H1 r1 us1 s1 nr1 er1 ls1 => ?_⟩
    have lu1 := ls1.length
    refine ⟨r1, _, rfl, .inl (SqL.of er1), (kvs.length : Int), _, rfl, rfl, _, 24, rfl, rfl, _, rfl, ite2 (fun h => ?_) (fun h => ?_)⟩
    · have h' := of_decide_eq_true h
      rw [List.length_map] at h'
      exact fu_raise Tu.e m3 (.inl ⟨24, rfl, by decide⟩) (fun Q q => q) fun H' d s nd ed => ((q2 hF (by omega)).same s1) _ _ _ _ (.inr (.inr ⟨rfl, rfl, rfl⟩)) s nd ed
    have hL : S.length + S2.length ≤ 24 := by
      have h' : ¬ ((kvs.length : Int) + (((us1.map V.ref).length : Nat) : Int)) > 24 := fun z => h (decide_eq_true z)
      rw [List.length_map] at h'
      omega
    have z0 := qq hF hL
    refine ⟨.ref g, rfl, g, C5, dx, _, .ref st, rfl, s1 _ _ ea, TRo_.cl, TRo_.nS, rfl, st, kvs, rfl, .inl (s1 _ _ es), fun D nD => ?_⟩
    have s2 := same_upd (H := H1) (o := .dK kvs) nD
    have s12 := s1.trans s2
    have nD0 : H D = none := s1.free nD
    have eD2 : (upd H1 D (.dK kvs)) D = some (.dK kvs) := upd_same
    generalize upd H1 D (.dK kvs) = H2 at s2 s12 eD2
    refine ⟨.ref g2, rfl, g2, dx2, _, rfl, s12 _ _ ea2, rfl, g2, st2, n2, S2, k2, c2, rfl, fb.same s12, wf2.up, by omega, fun H3 r us s3 nr er ls => ?_⟩
    have s13 := s12.trans s3
    have eD3 := s3 _ _ eD2
    have lu := ls.length
    have nDg : D ≠ g := (ne_of_none ea nD0).symm
    refine ⟨r, us.map V.ref, rfl, SqL.of er, for_it walk_enum (fun i σ G => ∃ y4 y5 y6 ks, σ = [some (.ref g), some (.ref g2), some (.int (n + n2)), some (.ref D), y4, y5, y6] ∧ Same H G ∧ G r = some (.lst (us.map V.ref)) ∧ Ls G us S2 ∧ G D = some (.dK ks) ∧ Std G ks (S ++ bhS (nxt S) n (S2.take i)))
      ⟨none, none, none, kvs, rfl, s13, er, ls, eD3, by rw [List.take_zero]; show Std _ _ (S ++ []); rw [List.append_nil]; exact sd.keep fun b xs hb => s13 _ _ hb⟩ (fun i σ G _ ⟨_, _, _, _, _, _, e, _⟩ => SqL.of e) ?_ ?_⟩
    · rintro i x σ G G' hi ⟨y4, y5, y6, ks, rfl, sm, erG, lsG, eDG, sdG⟩ ⟨Tn, x1, y1, rfl, nTn, rfl, hx, hy⟩
      cases hx
      have hy : (us.map V.ref)[i]? = some y1 := hy
      rw [List.getElem?_map] at hy
      obtain ⟨t, ht, rfl⟩ := Option.map_eq_some_iff.mp hy
      obtain ⟨z, hz, tt, et, ett⟩ := LiI.paired_get lsG ht
      have s7 := same_upd (H := G) (o := .tup [.int (i : Nat), .ref t]) nTn
      have e7 : (upd G Tn (.tup [.int (i : Nat), .ref t])) Tn = some (.tup [.int (i : Nat), .ref t]) := upd_same
      generalize upd G Tn (.tup [.int (i : Nat), .ref t]) = G7 at s7 e7
      have sm7 := sm.trans s7
      refine ⟨Tn, _, rfl, SqT.of e7, rfl, .int (i : Nat), _, rfl, .ref t, _, rfl, t, _, rfl, SqT.of (s7 _ _ et), rfl, .int z.1, _, rfl, .ref tt, _, rfl, rfl, rfl, ?_⟩
      refine ⟨.ref tt, rfl, .ref g, rfl, g, C5, dx, _, .int n, rfl, sm7 _ _ ea, TRo_.cl, TRo_.nE, rfl, tt, z.2.1, z.2.2.1, z.2.2.2.1, z.2.2.2.2, n, rfl, s7 _ _ ett, fun r2 nr2 => ?_⟩
      have s8 := same_upd (H := G7) (o := tup4 (z.2.1 + n) (z.2.2.1 + n) z.2.2.2.1 z.2.2.2.2) nr2
      have e8 : (upd G7 r2 (tup4 (z.2.1 + n) (z.2.2.1 + n) z.2.2.2.1 z.2.2.2.2)) r2 = some (t4 (mvX n z.2)) := upd_same
      generalize upd G7 r2 (tup4 (z.2.1 + n) (z.2.2.1 + n) z.2.2.2.1 z.2.2.2.2) = G8 at s8 e8
      have sm8 := sm7.trans s8
      refine ⟨.ref D, rfl, .ref g, rfl, g, dx, _, rfl, sm8 _ _ ea, rfl, g, st, n, S, k, c, rfl, fa.same sm8, by omega, wf.low, fun G9 s9 => ?_⟩
      have smG9 : Same G G9 := (s7.trans s8).trans s9
      have lk := sdG.length
      rw [List.length_append, bhS_len, List.length_take] at lk
      have hi2 : i < S2.length := (List.getElem?_eq_some_iff.mp hz).1
      have hno : valV ks (Sum.inl (nxt S + (i : Int))) = none := (sdG.get _).1 (sget_not fun s hs => by
        rcases List.mem_append.mp hs with h | h
        · have := nxt_gt h
          omega
        · have := (bhS_in _ _ _ _ h).2.1
          rw [List.length_take] at this
          omega)
      have eD9 := smG9 _ _ eDG
      have kt : KeepT G9 (upd G9 D (.dK (putK ks (Sum.inl (nxt S + (i : Int))) (.ref r2)))) := fun b xs hb => by
        rw [upd_ne (ne_of hb eD9 (fun z => by cases z))]
        exact hb
      have nrD : r ≠ D := ne_of erG eDG (fun z => by cases z)
      refine ⟨.int (i : Nat), rfl, nxt S, (i : Int), rfl, rfl, D, _, rfl, DPut.k (k := Sum.inl (nxt S + (i : Int))) eD9 (sz_lt (by omega)), _, _, _, _, rfl, fun b o hb => ?_, ?_, lsG.keep fun b xs hb => kt _ _ (smG9 _ _ hb), upd_same, ?_⟩
      · rw [upd_ne (ne_of_none hb nD0)]
        exact smG9 _ _ (sm _ _ hb)
      · rw [upd_ne nrD]
        exact smG9 _ _ erG
      · rw [List.take_add_one, hz, show (some z).toList = [z] from rfl, bhS_snoc, ← List.append_assoc]
        generalize upd G9 D (.dK (putK ks (Sum.inl (nxt S + (i : Int))) (.ref r2))) = GX at kt
        rw [putK_new _ hno]
        refine Std.snoc (s := (nxt S + ((S2.take i).length : Nat), mvX n z.2)) ⟨?_, r2, rfl, kt _ _ (s9 _ _ e8)⟩ ((sdG.keep fun b xs hb => smG9 _ _ hb).keep kt)
        show Sum.inl (nxt S + (i : Int)) = Sum.inl (nxt S + ((S2.take i).length : Int))
        rw [List.length_take, Nat.min_eq_left (by omega)]
    · rintro σ G ⟨y4, y5, y6, ks, rfl, sm, erG, lsG, eDG, sdG⟩
      rw [List.length_map, lu, List.take_length] at sdG
      refine ⟨.ref g, rfl, g, dx, _, rfl, sm _ _ ea, rfl, .int (n + n2), rfl, .ref D, rfl, ?_⟩
      refine ⟨g, st, D, dx, n, n + n2, S, bhd n S S2, k, c, kvs, ks, rfl, sm _ _ ea, sm _ _ es, sd.keep fun b xs hb => sm _ _ hb, eDG, sdG, wf.up, bhd_up wf.up, fun H5 e5 k5 => ?_⟩
      exact z0 H5 D ⟨⟨dx, e5⟩, ks, k5 _ _ nDg eDG, sdG.keep fun b xs hb => k5 _ _ (ne_of hb (sm _ _ ea) (fun z => by cases z)) hb⟩ (fun b o nb hb => k5 _ _ nb (sm _ _ hb)) nD0
end

/-! ### grow, trim, swell refused; _law_refusals (behind rt1_held, 82r_refuse, 46q_oddlen, 75b_ask) -/
def TakesB (CB : Addr) (H : Hp) (E : XK) (x : V) : Prop := ∀ (H' : Hp) (d : Addr), Same H H' → H d = none → H' d = some (.xd (bnF x)) → E (.ref CB) (some d) H'
def spGrowX (C5 CB : Addr) : Sp := fun vs H _ E => ∃ (g st : Addr) (n c : Int) (S : StL) (k x : V), vs = [.ref g, x] ∧ RoAt C5 H g st n S k c ∧ FV x ∧ (∀ i : Int, x = .int i → i < 0 ∨ 1000000000000000000 - n < i) ∧ TakesB CB H E x
def spTrimX (C5 CB : Addr) : Sp := fun vs H _ E => ∃ (g st : Addr) (n c : Int) (S : StL) (k x : V), vs = [.ref g, x] ∧ RoAt C5 H g st n S k c ∧ FV x ∧ (∀ i : Int, x = .int i → i < 0 ∨ n < i) ∧ TakesB CB H E x
def spSwellX (C5 CB : Addr) : Sp := fun vs H _ E => ∃ (g st : Addr) (n c : Int) (S : StL) (k x : V), vs = [.ref g, x] ∧ RoAt C5 H g st n S k c ∧ FV x ∧ 0 ≤ n ∧ n ≤ 1000000000000000000 ∧ (∀ i : Int, x = .int i → i < 1 ∨ 1000000000000000000 < n * i) ∧ TakesB CB H E x
theorem takesB_of {CB : Addr} {H : Hp} {E : XK} {x : V} (q : TakesB CB H E x) : TakesE CB CB CB H E "BadNumber" x := fun C fs H' d e s nd ed => by
  rcases e with ⟨_, rfl, rfl⟩ | ⟨z, _⟩ | ⟨z, _⟩
  · exact q H' d s nd ed
  · exact absurd z (by decide +kernel)
  · exact absurd z (by decide +kernel)
section
variable {P : Program} {w : World} {K : PySem.W.Frag} {mg : Str → Option Value} {base : Heap} {C5 CB : Addr}
theorem ok_GrowX {f fB fW fA CF fI : Addr} {fd fdB fdW fdA fdI : FuncData} {tok : Tok} (F : Fun K "grow" "Road.grow" s_Ro_grow f fd) (TRo_ : RoT K mg C5) (M_Ro_become : Meth K C5 "become" fB) (G_Ro_become : FnOk P w K mg base CX0 1 fB fdB P_Ro_become (spBecome C5)) (b_Ro_become : Binds K fdB P_Ro_become [])
    (D_need_within : DefAt K mg "need_within" s_need_within P_need_within fW fdW) (D_need_from : DefAt K mg "need_from" s_need_from P_need_from fA fdA) (g_FAR : mg "FAR" = some (.int 1000000000000000000 tok)) (B : Bn mg)
    (Tb : ErT K mg CF CB fI fdI "BadNumber" N_bninit) (nb : PySem.W.findIn K (.ref CB) "number" = some none) (GB : FnOk P w K mg base CX0 2 fI fdI N_bninit (spBnInit K)) : FnOk P w K mg base (L2.CX P w) 7 f fd P_Ro_grow (spGrowX C5 CB) := by
  have G_need_within := (ok_withinX D_need_within D_need_from B Tb nb GB : FnOk P w K mg base (L2.CX P w) _ fW fdW P_need_within (spWithinX CB CB CB))
  refine F.okX sc_Ro_grow (fun vs H Q E h => ?_) (fun cdv A outer s H vs Q E hr h => ?_)
  · obtain ⟨g, st, n, c, S, k, x, rfl, _⟩ := h
    rfl
  · obtain ⟨g, st, n, c, S, k, x, rfl, ra, fx, bad, q⟩ := h
    refine ⟨_, (pss_cons (ps_expr (pe_call G_need_within (hr.mono (by omega)) (by rfl) D_need_within.g D_need_within.F.kp D_need_within.b .nil (passes_call (takes_of rfl rfl rfl rfl) fun _ _ _ _ h => h) (pa_cons pe_int (pa_cons (pe_op op_sub (pe_glob (v := .int _) (by rfl) g_FAR ⟨_, rfl⟩) (pe_fld (pv 0) rfl)) (pa_cons (pv 1) pa_nil)))))
      (pss_one (ps_expr (pe_meth (pv 0) TRo_.cl M_Ro_become G_Ro_become (hr.mono (by omega)) b_Ro_become .nil pass0 (pa_cons (pe_op op_add (pe_fld (pv 0) rfl) (pv 1)) (pa_cons (pe_fld (pv 0) rfl) pa_nil)))))), ?_⟩
    obtain ⟨dx, ea⟩ := ra.at_g
    exact ⟨.ref g, rfl, g, C5, dx, _, .int n, rfl, ea, TRo_.cl, TRo_.nE, rfl, 1000000000000000000, n, rfl, rfl, x, rfl, 0, 1000000000000000000 - n, x, rfl, fx, bad, takesB_of q⟩
theorem ok_TrimX {f fB fW fA fC fP fH CF fI : Addr} {fd fdB fdW fdA fdC fdP fdH fdI : FuncData} (F : Fun K "trim" "Road.trim" s_Ro_trim f fd) (TRo_ : RoT K mg C5) (M_Ro_become : Meth K C5 "become" fB) (G_Ro_become : FnOk P w K mg base CX0 1 fB fdB P_Ro_become (spBecome C5)) (b_Ro_become : Binds K fdB P_Ro_become [])
    (D_need_within : DefAt K mg "need_within" s_need_within P_need_within fW fdW) (D_need_from : DefAt K mg "need_from" s_need_from P_need_from fA fdA) (D_clipped : DefAt K mg "clipped" s_clipped P_clipped fC fdC) (D_part : DefAt K mg "part" s_part P_part fP fdP) (D_holds : DefAt K mg "holds" s_holds P_holds fH fdH) (B : Bn mg)
    (Tb : ErT K mg CF CB fI fdI "BadNumber" N_bninit) (nb : PySem.W.findIn K (.ref CB) "number" = some none) (GB : FnOk P w K mg base CX0 2 fI fdI N_bninit (spBnInit K)) : FnOk P w K mg base (L2.CX P w) 7 f fd P_Ro_trim (spTrimX C5 CB) := by
  have G_need_within := (ok_withinX D_need_within D_need_from B Tb nb GB : FnOk P w K mg base (L2.CX P w) _ fW fdW P_need_within (spWithinX CB CB CB))
  have G_clipped : FnOk P w K mg base CX0 3 fC fdC P_clipped spClipped := ok_clipped D_clipped D_part D_holds B
  refine F.okX sc_Ro_trim (fun vs H Q E h => ?_) (fun cdv A outer s H vs Q E hr h => ?_)
  · obtain ⟨g, st, n, c, S, k, x, rfl, _⟩ := h
    rfl
  · obtain ⟨g, st, n, c, S, k, x, rfl, ra, fx, bad, q⟩ := h
    have hu := hu_of hr
    refine ⟨_, (pss_cons (ps_expr (pe_call G_need_within (hr.mono (by omega)) (by rfl) D_need_within.g D_need_within.F.kp D_need_within.b .nil (passes_call (takes_of rfl rfl rfl rfl) fun _ _ _ _ h => h) (pa_cons pe_int (pa_cons (pe_fld (pv 0) rfl) (pa_cons (pv 1) pa_nil)))))
      (pss_cons (ps_set (i := 2) sc_Ro_trim.nd rfl (.inl rfl) pe_dnewK)
      (pss_cons (ps_for (passes_of rfl) rfl (pi_list (pe_callB (call_sortedDI rfl) (by rfl) B.sorted (by decide +kernel) (pa_cons (pe_fld (pv 0) rfl) pa_nil))) (pg_name (i := 3) sc_Ro_trim.nd rfl (.inl rfl)) (pss_cons (ps_set (i := 4) sc_Ro_trim.nd rfl (.inl rfl) (pe_call G_clipped (hr.mono (by omega)) (by rfl) D_clipped.g D_clipped.F.kp D_clipped.b .nil pass0 (pa_cons (pe_dget hu (pe_fld (pv 0) rfl) (pv 3) (fun _ _ => rfl)) (pa_cons (pv 1) pa_nil))))
      (pss_one (ps_if (pt_cmpR op_notN (pv 4) pe_non (nomark _)) (pss_one (ps_dput hu (pv 2) (pv 3) (pv 4) rfl)) pss_nil))))
      (pss_one (ps_expr (pe_meth (pv 0) TRo_.cl M_Ro_become G_Ro_become (hr.mono (by omega)) b_Ro_become .nil pass0 (pa_cons (pv 1) (pa_cons (pv 2) pa_nil)))))))), ?_⟩
    obtain ⟨dx, ea⟩ := ra.at_g
    exact ⟨.ref g, rfl, g, C5, dx, _, .int n, rfl, ea, TRo_.cl, TRo_.nE, rfl, x, rfl, 0, n, x, rfl, fx, bad, takesB_of q⟩
theorem ok_SwellX {f fB fA fS CF fI : Addr} {fd fdB fdA fdS fdI : FuncData} {tok : Tok} (F : Fun K "swell" "Road.swell" s_Ro_swell f fd) (TRo_ : RoT K mg C5) (M_Ro_become : Meth K C5 "become" fB) (G_Ro_become : FnOk P w K mg base CX0 1 fB fdB P_Ro_become (spBecome C5)) (b_Ro_become : Binds K fdB P_Ro_become [])
    (D_need_from : DefAt K mg "need_from" s_need_from P_need_from fA fdA) (D_swelled : DefAt K mg "swelled" s_swelled P_swelled fS fdS) (g_FAR : mg "FAR" = some (.int 1000000000000000000 tok)) (B : Bn mg)
    (Tb : ErT K mg CF CB fI fdI "BadNumber" N_bninit) (nb : PySem.W.findIn K (.ref CB) "number" = some none) (GB : FnOk P w K mg base CX0 2 fI fdI N_bninit (spBnInit K)) : FnOk P w K mg base (L2.CX P w) 7 f fd P_Ro_swell (spSwellX C5 CB) := by
  have G_swelled : FnOk P w K mg base CX0 1 fS fdS P_swelled spSwelled := ok_swelled D_swelled
  refine F.okX sc_Ro_swell (fun vs H Q E h => ?_) (fun cdv A outer s H vs Q E hr h => ?_)
  · obtain ⟨g, st, n, c, S, k, x, rfl, _⟩ := h
    rfl
  · obtain ⟨g, st, n, c, S, k, x, rfl, ra, fx, n0, n1, bad, q⟩ := h
    have hu := hu_of hr
    obtain ⟨dx, ea⟩ := ra.at_g
    by_cases good : ∃ i : Int, x = .int i ∧ 1 ≤ i
    · obtain ⟨i, rfl, i1⟩ := good
      have G_need_from : FnOk P w K mg base CX0 1 fA fdA P_need_from spFrom0 := ok_from0 D_need_from B
      refine ⟨_, (pss_cons (ps_expr (pe_call G_need_from (hr.mono (by omega)) (by rfl) D_need_from.g D_need_from.F.kp D_need_from.b .nil pass0 (pa_cons pe_int (pa_cons (pv 1) pa_nil))))
      (pss_cons (ps_if (pt_cmpR op_gt (pe_op op_mul (pe_fld (pv 0) rfl) (pv 1)) (pe_glob (v := .int _) (by rfl) g_FAR ⟨_, rfl⟩) (nomark _)) (pss_one (ps_raise rfl (takes_of rfl rfl rfl rfl) (pmk_oex Tb.e.o Tb.iC Tb.tI GB (hr.mono (by omega)) Tb.bI .nil pass0 (by rfl) Tb.gC (pa_cons (pv 1) pa_nil)))) pss_nil)
      (pss_one (ps_expr (pe_meth (pv 0) TRo_.cl M_Ro_become G_Ro_become (hr.mono (by omega)) b_Ro_become .nil pass0 (pa_cons (pe_op op_mul (pe_fld (pv 0) rfl) (pv 1)) (pa_cons (pe_lock (pe_dc (own := [("k", 2)]) (g := gName 2) (by rfl) sc_Ro_swell.nd (pi_keys (pe_fld (pv 0) rfl)) (blkOk_by (own := [("k", 2)]) (N := N_Ro_swell) (sc := defScope s_Ro_swell) (by decide +kernel)) (fun _ _ _ _ _ => (pg_name (i := 2) sc_Ro_swell.nd rfl (.inl rfl))) (fun _ _ _ _ _ => pts_nil) (fun _ _ _ _ _ => (pv 2)) (fun _ _ _ _ _ => (pe_call G_swelled (hr.mono (by omega)) (by rfl) D_swelled.g D_swelled.F.kp D_swelled.b .nil pass0 (pa_cons (pe_dget hu (pe_fldK (K := K) rfl (pv 0) rfl) (pv 2) (fun _ _ => rfl)) (pa_cons (pv 1) pa_nil)))))) pa_nil))))))), ?_⟩
      have big : 1000000000000000000 < n * i := by
        rcases bad i rfl with h | h
        · omega
        · exact h
      refine ⟨.int i, rfl, 1, i, rfl, i1, .ref g, rfl, g, C5, dx, _, .int n, rfl, ea, TRo_.cl, TRo_.nE, rfl, .int i, rfl, n, i, rfl, rfl, .inl ⟨by omega, by omega⟩, n * i, 1000000000000000000, rfl, rfl, _, rfl, ite2 (fun _ => ?_) (fun h => absurd (decide_eq_true big) h)⟩
      exact bn_raiseE Tb.e nb fx (fun Q q => ⟨_, rfl, q⟩) q
    · have G_need_from : FnOk P w K mg base (L2.CX P w) 4 fA fdA P_need_from (spFromX CB CB CB) := ok_fromX D_need_from B Tb nb GB
      refine ⟨_, (pss_cons (ps_expr (pe_call G_need_from (hr.mono (by omega)) (by rfl) D_need_from.g D_need_from.F.kp D_need_from.b .nil (passes_call (takes_of rfl rfl rfl rfl) fun _ _ _ _ h => h) (pa_cons pe_int (pa_cons (pv 1) pa_nil))))
      (pss_cons (ps_if (pt_cmpR op_gt (pe_op op_mul (pe_fld (pv 0) rfl) (pv 1)) (pe_glob (v := .int _) (by rfl) g_FAR ⟨_, rfl⟩) (nomark _)) (pss_one (ps_raise rfl (takes_of rfl rfl rfl rfl) (pmk_oex Tb.e.o Tb.iC Tb.tI GB (hr.mono (by omega)) Tb.bI .nil pass0 (by rfl) Tb.gC (pa_cons (pv 1) pa_nil)))) pss_nil)
      (pss_one (ps_expr (pe_meth (pv 0) TRo_.cl M_Ro_become G_Ro_become (hr.mono (by omega)) b_Ro_become .nil pass0 (pa_cons (pe_op op_mul (pe_fld (pv 0) rfl) (pv 1)) (pa_cons (pe_lock (pe_dc (own := [("k", 2)]) (g := gName 2) (by rfl) sc_Ro_swell.nd (pi_keys (pe_fld (pv 0) rfl)) (blkOk_by (own := [("k", 2)]) (N := N_Ro_swell) (sc := defScope s_Ro_swell) (by decide +kernel)) (fun _ _ _ _ _ => (pg_name (i := 2) sc_Ro_swell.nd rfl (.inl rfl))) (fun _ _ _ _ _ => pts_nil) (fun _ _ _ _ _ => (pv 2)) (fun _ _ _ _ _ => (pe_call G_swelled (hr.mono (by omega)) (by rfl) D_swelled.g D_swelled.F.kp D_swelled.b .nil pass0 (pa_cons (pe_dget hu (pe_fldK (K := K) rfl (pv 0) rfl) (pv 2) (fun _ _ => rfl)) (pa_cons (pv 1) pa_nil)))))) pa_nil))))))), ?_⟩
      exact ⟨x, rfl, 1, x, rfl, fx, .inr ⟨fun i e => by
        by_cases z : i < 1
        · exact z
        · exact absurd ⟨i, e, by omega⟩ good, takesB_of q⟩⟩
end

/-! ### _law_any, _law_odd -/
abbrev N_any : List Str := ["_law_draw", "_law_some"]
abbrev P_any : List Str := ["_law_draw", "_law_some"]
theorem sc_any : FnScope N_any P_any (defScope s_any) := ⟨rfl, rfl, rfl, by decide +kernel, rfl, by decide +kernel, by decide +kernel⟩
def spAny : Sp := fun vs H Q _ => ∃ (d l L : Addr) (xs : List V), vs = [.ref d, .ref L] ∧ Draw H d l ∧ H L = some (.lst xs) ∧ L ≠ d ∧ 1 ≤ xs.length ∧ xs.length ≤ 1000 ∧ ∀ (x : V) (H' : Hp), x ∈ xs → Draw H' d l → Keep d H H' → Q x H'
section
variable {P : Program} {w : World} {K : PySem.W.Frag} {mg : Str → Option Value} {base : Heap}
theorem ok_any {f fP : Addr} {fd fdP : FuncData} (D : DefAt K mg "_law_any" s_any P_any f fd) (D_pull : DefAt K mg "_law_pull" s_pull P_pull fP fdP) (B : Bn mg) : FnOk P w K mg base CX0 2 f fd P_any spAny := by
  have G_pull : FnOk P w K mg base CX0 1 fP fdP P_pull spPull := ok_pull D_pull B
  refine D.F.ok sc_any (fun vs H Q E h => ?_) (fun cdv A outer s H vs Q E hr h => ?_)
  · obtain ⟨d, l, L, xs, rfl, _⟩ := h
    rfl
  · obtain ⟨d, l, L, xs, rfl, hD, hL, nL, l1, l2, q⟩ := h
    refine ⟨_, (pss_one (ps_ret (pe_ix ix_list (pv 1) (pe_call G_pull (hr.mono (by omega)) (by rfl) D_pull.g D_pull.F.kp D_pull.b .nil pass0 (pa_cons (pv 0) (pa_cons (pe_callB call_len_seq (by rfl) B.len (by decide +kernel) (pa_cons (pv 1) pa_nil)) pa_nil))) (fun _ _ => rfl)))), ?_⟩
    refine ⟨.ref L, rfl, .ref d, rfl, .ref L, rfl, L, xs, rfl, .inl (SqL.of hL), d, l, _, rfl, hD, by omega, by omega, fun v H1 v0 v1 D1 k1 => ?_⟩
    obtain ⟨j, rfl⟩ : ∃ j : Nat, v = (j : Int) := ⟨v.toNat, by omega⟩
    have hj : j < xs.length := by omega
    exact ⟨L, xs, (j : Int), xs[j], rfl, rfl, SqL.of (k1.of hL nL), atI_nat (List.getElem?_eq_getElem hj), q _ _ (List.getElem_mem hj) D1 k1⟩
end

/-! ### a def that answers by the one word and refuses by the other (from 36u_lenset) -/
section
variable {P : Program} {w : World} {K : PySem.W.Frag} {mg : Str → Option Value} {base : Heap}
/-- what answers by the one word and refuses by the other -/
theorem FnOk.both {j k m : Nat} {f : Addr} {fd : FuncData} {ps : List Str} {sp1 sp2 : Sp} (F1 : FnOk P w K mg base CX0 j f fd ps sp1) (F2 : FnOk P w K mg base (L2.CX P w) k f fd ps sp2) (hj : j ≤ m) (hk : k ≤ m) : FnOk P w K mg base (L2.CX P w) m f fd ps (fun vs H Q E => sp1 vs H Q E ∨ sp2 vs H Q E) := by
  refine ⟨fun vs H Q E h => ?_, fun A outer s H args us vs Q E hr he hb hv h => ?_⟩
  · rcases h with h | h
    · exact F1.len _ _ _ _ h
    · exact F2.len _ _ _ _ h
  · rcases h with h | h
    · refine codeAny_mono (F1.run A outer s H args us vs Q E (hr.mono hj) he hb hv h) fun r s' c => ?_
      cases r with
      | error e => exact (show False from c).elim
      | ok fl => cases fl <;> exact c
    · exact F2.run A outer s H args us vs Q E (hr.mono hk) he hb hv h
end

/-! ### the law's table of code objects -/
theorem tabs_keep {T : List (Addr × Str)} {H H' : Hp} {d l : Addr} (t : LamX.Tabs T H) (D : Draw H d l) (k : Keep d H H') : LamX.Tabs T H' := fun p hp => by
  obtain ⟨ps, h1, h2, h3⟩ := t p hp
  obtain ⟨ns, i, z, s, W⟩ := D
  refine ⟨ps, k.of h1 (ne_of h1 W.at_d (fun e => by cases e)), h2, fun pos cv hc => ?_⟩
  obtain ⟨c, e1, e2⟩ := h3 pos cv hc
  exact ⟨c, e1, k.of e2 (ne_of e2 W.at_d (fun e => by unfold LamX.CodeO at e; cases e))⟩
theorem draw_extN {H H' : Hp} {d l : Addr} (D : Draw H d l) (e : LamX.ExtN H H') : Draw H' d l := by
  obtain ⟨ns, i, z, s, W⟩ := D
  exact ⟨ns, i, z, s, { W with at_d := e _ _ W.at_d (fun _ q => by cases q), at_l := e _ _ W.at_l (fun _ q => by cases q) }⟩
def spLawT (K : PySem.W.Frag) (Pt : Addr) : Sp := fun vs H Q _ => ∃ (a : Addr) (ns : List Int), vs = [.ref a] ∧ SqL K H a (ns.map V.int) ∧ ns.length ≤ 63 ∧ H Pt = some (.tbl #[]) ∧ ∀ H', Q (.bl true) H'
abbrev lamQ : Str := (("law" : Str) ++ ".<locals>.") ++ "<lambda>"
abbrev lamT (Pt : Addr) : List (Addr × Str) := [(Pt, lamQ)]
/-! ### a list stored anew, beside the table and the drawing -/
/-! ### a folding stands while the drawing goes on -/
/-- all but tables and the drawing list stands -/
def KeepD (H H' : Hp) : Prop := ∀ b o, H b = some o → (∀ ps, o ≠ .tbl ps) → (∀ (l : Addr) (i z s : Int), o ≠ .lst [.ref l, .int i, .int z, .int s]) → H' b = some o
theorem KeepD.trans {H H1 H2 : Hp} (a : KeepD H H1) (b : KeepD H1 H2) : KeepD H H2 := fun c o h t n => b c o (a c o h t n) t n
theorem KeepD.ext {H H' : Hp} (e : LamX.ExtN H H') : KeepD H H' := fun b o h t _ => e b o h t
theorem KeepD.same {H H' : Hp} (s : Same H H') : KeepD H H' := fun b o h _ _ => s b o h
theorem KeepD.draw {H H' : Hp} {d l : Addr} (D : Draw H d l) (k : Keep d H H') : KeepD H H' := fun b o h _ n => k.of h fun z => by
  obtain ⟨_, i, zz, s, W⟩ := D
  rw [z, W.at_d] at h
  exact n _ _ _ _ (Option.some.inj h).symm
theorem KeepD.ints {H H' : Hp} (k : KeepD H H') {b : Addr} {xs : List Int} (h : H b = some (.lst (xs.map V.int))) : H' b = some (.lst (xs.map V.int)) :=
  k _ _ h (fun _ z => by cases z) fun l i z s e => by
    cases xs with
    | nil => cases e
    | cons x r => cases e
theorem KeepD.tup {H H' : Hp} (k : KeepD H H') : KeepT H H' := fun b xs h => k _ _ h (fun _ z => by cases z) (fun _ _ _ _ z => by cases z)
theorem FV.ty {K : PySem.W.Frag} {H : Hp} {x : V} (h : FV x) : ∃ t, TyX K H x t ∧ PySem.W.kitOne K t (.type "bool") = some (isB x) := by
  rcases h with ⟨i, rfl, hi⟩ | ⟨b, rfl⟩
  · exact ⟨_, TyX.base (TyOf.int _), kit_ty (r := false) (by decide +kernel)⟩
  · exact ⟨_, TyX.base (TyOf.bl _), kit_ty (r := true) (by decide +kernel)⟩
theorem FV.dat {x : V} (h : FV x) : ∃ D : PyData, ∀ (H : Hp) (n : Nat), Rp H n x D := by
  rcases h with ⟨i, rfl, _⟩ | ⟨b, rfl⟩
  · exact ⟨_, fun H n => .int n i⟩
  · exact ⟨_, fun H n => .bl n b⟩
mutual
theorem Rp.extN {H H' : Hp} (e : LamX.ExtN H H') : ∀ {n : Nat} {v : V} {d : PyData}, Rp H n v d → Rp H' n v d
  | _, _, _, .non n => .non n
  | _, _, _, .bl n b => .bl n b
  | _, _, _, .int n i => .int n i
  | _, _, _, .str n x => .str n x
  | _, _, _, .lst h l r => .lst (e _ _ h (fun _ z => by cases z)) l (RpAll.extN e r)
  | _, _, _, .tup h l r => .tup (e _ _ h (fun _ z => by cases z)) l (RpAll.extN e r)
theorem RpAll.extN {H H' : Hp} (e : LamX.ExtN H H') : ∀ {n : Nat} {vs : List V} {ds : List PyData}, RpAll H n vs ds → RpAll H' n vs ds
  | _, _, _, .nil n => .nil n
  | _, _, _, .cons h r => .cons (Rp.extN e h) (RpAll.extN e r)
end

/-! ### _law_ends -/
abbrev N_ends : List Str := ["_law_mating_here", "_law_one", "_law_other", "_law_many", "_law_flips", "_law_found", "_law_k"]
abbrev P_ends : List Str := ["_law_mating_here"]
theorem sc_ends : FnScope N_ends P_ends (defScope s_ends) := ⟨rfl, rfl, rfl, by decide +kernel, rfl, by decide +kernel, by decide +kernel⟩
def endQ (p m f k : Int) : Int := if f = 1 then p + m - 1 - k else p + k
def endL (o p m f : Int) (n : Nat) : List (Int × Int) := (List.range n).map fun (k : Nat) => (o + (k : Int), endQ p m f (k : Int))
/-- the pairs at these addresses -/
def Prs (H : Hp) (ps : List Addr) (xs : List (Int × Int)) : Prop := Paired (fun a x => H a = some (.tup [.int x.1, .int x.2])) ps xs
theorem Paired.same {H H' : Hp} (e : Same H H') : ∀ {ps : List Addr} {xs : List (Int × Int)}, Prs H ps xs → Prs H' ps xs
  | _, _, .nil => .nil
  | _, _, .cons h r => .cons (e _ _ h) (Paired.same e r)
theorem Prs.same {H H' : Hp} {ps : List Addr} {xs : List (Int × Int)} (h : Prs H ps xs) (e : Same H H') : Prs H' ps xs := Paired.same e h
theorem Prs.snoc {H : Hp} : ∀ {ps : List Addr} {xs : List (Int × Int)} {a : Addr} {x : Int × Int}, Prs H ps xs → H a = some (.tup [.int x.1, .int x.2]) → Prs H (ps ++ [a]) (xs ++ [x])
  | _, _, _, _, .nil, h => .cons h .nil
  | _, _, _, _, .cons h r, h2 => .cons h (Prs.snoc r h2)
theorem Prs.length {H : Hp} : ∀ {ps : List Addr} {xs : List (Int × Int)}, Prs H ps xs → ps.length = xs.length
  | _, _, .nil => rfl
  | _, _, .cons _ r => congrArg (· + 1) (Prs.length r)
theorem Prs.get {H : Hp} : ∀ {ps : List Addr} {xs : List (Int × Int)}, Prs H ps xs → ∀ (i : Nat) (x : Int × Int), xs[i]? = some x → ∃ a, ps[i]? = some a ∧ H a = some (.tup [.int x.1, .int x.2])
  | _, _, .nil, i, x, h => by simp at h
  | _, _, .cons (a := a) h r, 0, x, e => by
    cases e
    exact ⟨a, rfl, h⟩
  | _, _, .cons h r, i + 1, x, e => Prs.get r i x e
theorem Prs.rp {H : Hp} : ∀ {ps : List Addr} {xs : List (Int × Int)}, Prs H ps xs → ∀ n, RpAll H (n + 1) (ps.map V.ref) (xs.map fun x => .tuple [.int x.1, .int x.2])
  | _, _, .nil, n => .nil _
  | _, _, .cons h r, n => .cons (.tup h (by show 2 ≤ 100000; decide) (.cons (.int _ _) (.cons (.int _ _) (.nil _)))) (Prs.rp r n)
theorem endL_snoc (o p m f : Int) (n : Nat) : endL o p m f (n + 1) = endL o p m f n ++ [(o + (n : Int), endQ p m f (n : Int))] := by
  unfold endL
  rw [List.range_succ, List.map_append]
  rfl
theorem endL_length (o p m f : Int) (n : Nat) : (endL o p m f n).length = n := by
  unfold endL
  rw [List.length_map, List.length_range]
def spEnds : Sp := fun vs H Q _ => ∃ (t : Addr) (o p f : Int) (m : Nat), vs = [.ref t] ∧ H t = some (tup4 o p (m : Int) f) ∧ m ≤ 50000 ∧
  ∀ (H' : Hp) (r : Addr) (ps : List Addr), Same H H' → H r = none → H' r = some (.lst (ps.map V.ref)) → Prs H' ps (endL o p m f m) → Q (.ref r) H'
section
variable {P : Program} {w : World} {K : PySem.W.Frag} {mg : Str → Option Value} {base : Heap}
theorem ok_ends {f : Addr} {fd : FuncData} (D : DefAt K mg "_law_ends" s_ends P_ends f fd) (B : Bn mg) : FnOk P w K mg base CX0 1 f fd P_ends spEnds := by
  refine D.F.ok sc_ends (fun vs H Q E h => ?_) (fun cdv A outer s H vs Q E hr h => ?_)
  · obtain ⟨t, o, p, f, m, rfl, _⟩ := h
    rfl
  · obtain ⟨t, o, p, f, m, rfl, ht, hm, q⟩ := h
    refine ⟨_, (pss_cons (ps_asg (pv 0) (pg_tup (by rfl) (pgs_cons (pg_name (i := 1) sc_ends.nd rfl (.inl rfl)) (pgs_cons (pg_name (i := 2) sc_ends.nd rfl (.inl rfl)) (pgs_cons (pg_name (i := 3) sc_ends.nd rfl (.inl rfl)) (pgs_cons (pg_name (i := 4) sc_ends.nd rfl (.inl rfl)) pgs_nil))))))
      (pss_cons (ps_set (i := 5) sc_ends.nd rfl (.inl rfl) (pe_lst pa_nil))
      (pss_cons (ps_for PassesOwn.never rfl (pi_range1 (by rfl) B.range (pa_cons (pv 3) pa_nil)) (pg_name (i := 6) sc_ends.nd rfl (.inl rfl)) (pss_one (ps_expr (pe_bm PySem.F.plainAttrs_list PySem.F.slot_list_append PySem.F.type_list_append mt_append (pv 5) (pa_cons (pe_tup (pa_cons (pe_op op_add (pv 1) (pv 6)) (pa_cons (pe_ifExp (pt_cmpR op_eq (pv 4) pe_int (nomark _)) (pe_op op_sub (pe_op op_sub (pe_op op_add (pv 2) (pv 3)) pe_int) (pv 6)) (pe_op op_add (pv 2) (pv 6))) pa_nil))) pa_nil)))))
      (pss_one (ps_ret (pv 5)))))), ?_⟩
    refine ⟨.ref t, rfl, t, _, rfl, SqT.of ht, rfl, .int o, _, rfl, .int p, _, rfl, .int (m : Int), _, rfl, .int f, _, rfl, rfl, ?_⟩
    refine ⟨Nat.zero_le _, fun r nr => ?_⟩
    refine ⟨.int (m : Int), rfl, (m : Int), rfl, by omega, by omega, for_range (lo := 0) (n := ((m : Int)).toNat) (fun i σ H2 => ∃ (y : Option V) (ps : List Addr), σ = [some (.ref t), some (.int o), some (.int p), some (.int (m : Int)), some (.int f), some (.ref r), y] ∧ Same H H2 ∧ H2 r = some (.lst (ps.map V.ref)) ∧ Prs H2 ps (endL o p m f i))
      ⟨none, [], rfl, same_upd nr, upd_same, .nil⟩ ?_ ?_⟩
    · rintro i σ H2 hi ⟨y, ps, rfl, sm, e2, pr⟩
      have hl := pr.length
      rw [endL_length] at hl
      have hlt : (ps.map V.ref).length < sizeLine := sz_lt (by rw [List.length_map]; omega)
      have fin : ∀ (a : Addr) (z : Int), H2 a = none → z = endQ p m f (i : Int) → ∃ (y : Option V) (ps' : List Addr), ([some (.ref t), some (.int o), some (.int p), some (.int (m : Int)), some (.int f), some (.ref r), some (.int (0 + (i : Int)))] : List (Option V)) = [some (.ref t), some (.int o), some (.int p), some (.int (m : Int)), some (.int f), some (.ref r), y] ∧ Same H (upd (upd H2 a (.tup [.int (o + (0 + (i : Int))), .int z])) r (.lst ((ps.map V.ref) ++ [.ref a]))) ∧
          (upd (upd H2 a (.tup [.int (o + (0 + (i : Int))), .int z])) r (.lst ((ps.map V.ref) ++ [.ref a]))) r = some (.lst (ps'.map V.ref)) ∧ Prs (upd (upd H2 a (.tup [.int (o + (0 + (i : Int))), .int z])) r (.lst ((ps.map V.ref) ++ [.ref a]))) ps' (endL o p m f (i + 1)) := fun a z na ez => by
        have nar : a ≠ r := (ne_of_none e2 na).symm
        refine ⟨_, ps ++ [a], rfl, fun b o' hb => ?_, ?_, ?_⟩
        · rw [upd_ne (ne_of_none hb nr), upd_ne (ne_of_none (sm _ _ hb) na)]
          exact sm _ _ hb
        · rw [upd_same, List.map_append]
          rfl
        · rw [endL_snoc]
          refine Prs.snoc (Paired.mapP pr fun b x hb => ?_) ?_
          · have nbr : b ≠ r := ne_of hb e2 (fun z => by cases z)
            rw [upd_ne nbr, upd_ne (ne_of_none hb na)]
            exact hb
          · rw [upd_ne nar, upd_same, ez, show o + (0 + (i : Int)) = o + (i : Int) by omega]
      -- found.append((one + k, ..))
      refine ⟨.ref r, rfl, .inl ⟨rfl, _, SqL.of e2⟩, .int o, rfl, .int (0 + (i : Int)), rfl, o, _, rfl, rfl, .int f, rfl, rfl, _, rfl, ?_⟩
      refine ite2 (fun hf => ?_) (fun hf => ?_)
      · have hf' : f = 1 := V.int.inj (of_decide_eq_true hf)
        refine ⟨.int p, rfl, .int (m : Int), rfl, p, _, rfl, rfl, _, 1, rfl, rfl, .int (0 + (i : Int)), rfl, _, _, rfl, rfl, by show 2 ≤ sizeLine; decide, fun a na => ?_⟩
        exact ⟨r, _, _, rfl, rfl, (by rw [upd_ne (ne_of_none e2 na)]; exact e2), hlt, fin a _ na (by unfold endQ; rw [if_pos hf']; omega)⟩
      · have hf' : ¬ f = 1 := fun z => hf (decide_eq_true (congrArg V.int z))
        refine ⟨.int p, rfl, .int (0 + (i : Int)), rfl, p, _, rfl, rfl, by show 2 ≤ sizeLine; decide, fun a na => ?_⟩
        exact ⟨r, _, _, rfl, rfl, (by rw [upd_ne (ne_of_none e2 na)]; exact e2), hlt, fin a _ na (by unfold endQ; rw [if_neg hf']; omega)⟩
    · rintro σ H2 ⟨y, ps, rfl, sm, e2, pr⟩
      exact ⟨.ref r, rfl, q H2 r ps sm nr e2 (by rw [Int.toNat_natCast] at pr; exact pr)⟩
end

/-! ### a mating made as much greater (for texts without 99f0_road) -/
def scX (k : Int) (x : M4) : M4 := (x.1 * k, x.2.1 * k, x.2.2.1 * k, x.2.2.2)

/-! ### _law_scaled of a row of matings -/
abbrev N_scaled : List Str := ["_law_matings", "_law_times", "_law_one", "_law_other", "_law_many", "_law_flips"]
abbrev P_scaled : List Str := ["_law_matings", "_law_times"]
theorem sc_scaled : FnScope N_scaled P_scaled (defScope s_scaled) := ⟨rfl, rfl, rfl, by decide +kernel, rfl, by decide +kernel, by decide +kernel⟩
def spScaledL : Sp := fun vs H Q _ => ∃ (L : Addr) (k : Int) (ts : List Addr) (ms : List M4), vs = [.ref L, .int k] ∧ H L = some (.lst (ts.map V.ref)) ∧ Mts H ts ms ∧ ms.length ≤ 100 ∧ (ms ≠ [] → -(2 ^ 64) < k ∧ k < 2 ^ 64) ∧
  ∀ (H' : Hp) (r : Addr) (us : List Addr), Same H H' → H r = none → H' r = some (.lst (us.map V.ref)) → Mts H' us (ms.map (scX k)) → Q (.ref r) H'
section
variable {P : Program} {w : World} {K : PySem.W.Frag} {mg : Str → Option Value} {base : Heap}
theorem ok_scaledL {f : Addr} {fd : FuncData} (D : DefAt K mg "_law_scaled" s_scaled P_scaled f fd) : FnOk P w K mg base CX0 1 f fd P_scaled spScaledL := by
  refine D.F.ok sc_scaled (fun vs H Q E h => ?_) (fun cdv A outer s H vs Q E hr h => ?_)
  · obtain ⟨L, k, ts, ms, rfl, _⟩ := h
    rfl
  · obtain ⟨L, k, ts, ms, rfl, hL, hM, hl, hk, q⟩ := h
    refine ⟨_, (pss_one (ps_ret (pe_lc (own := [("_law_one", 2), ("_law_other", 3), ("_law_many", 4), ("_law_flips", 5)]) (g := gTup K 4 (gCons (gName 2) (gCons (gName 3) (gCons (gName 4) (gCons (gName 5) gNil))))) (by rfl) sc_scaled.nd (pi_list (pv 0)) (blkOk_by (own := [("_law_one", 2), ("_law_other", 3), ("_law_many", 4), ("_law_flips", 5)]) (N := N_scaled) (sc := defScope s_scaled) (by decide +kernel)) (fun _ _ _ _ _ => (pg_tup (by rfl) (pgs_cons (pg_name (i := 2) sc_scaled.nd rfl (.inl rfl)) (pgs_cons (pg_name (i := 3) sc_scaled.nd rfl (.inl rfl)) (pgs_cons (pg_name (i := 4) sc_scaled.nd rfl (.inl rfl)) (pgs_cons (pg_name (i := 5) sc_scaled.nd rfl (.inl rfl)) pgs_nil)))))) (fun _ _ _ _ _ => pts_nil) (fun _ _ _ _ _ => (pe_tup (pa_cons (pe_op op_mul (pv 2) (pv 1)) (pa_cons (pe_op op_mul (pv 3) (pv 1)) (pa_cons (pe_op op_mul (pv 4) (pv 1)) (pa_cons (pv 5) pa_nil))))))))), ?_⟩
    have hml := hM.length
    refine ⟨.ref L, rfl, L, rfl, ⟨_, SqL.of hL⟩, fun R nR => lc_list (K := K) (a := L) (xs := ts.map V.ref) (fun i H2 => ∃ us, Same H H2 ∧ H2 R = some (.lst (us.map V.ref)) ∧ Mts H2 us ((ms.take i).map (scX k)))
      ⟨[], same_upd nR, upd_same, .nil⟩ (fun i H2 _ ⟨_, sm, _⟩ => SqL.of (sm _ _ hL)) ?_ ?_⟩
    · rintro i x H2 hx ⟨us, sm, eR, hU⟩
      rw [List.getElem?_map] at hx
      obtain ⟨t, ht, rfl⟩ := Option.map_eq_some_iff.mp hx
      obtain ⟨y, hy, ey⟩ := hM.at i t ht
      have e2 := sm _ _ ey
      have hk := hk fun z => by rw [z] at hy; cases hy
      have hul := hU.length
      rw [List.length_map, List.length_take] at hul
      refine ⟨t, _, rfl, SqT.of e2, rfl, .int y.1, _, rfl, .int y.2.1, _, rfl, .int y.2.2.1, _, rfl, .int y.2.2.2, _, rfl, rfl, rfl, ?_⟩
      refine ⟨.int y.1, rfl, .int k, rfl, _, _, rfl, rfl, .inr hk, .int y.2.1, rfl, .int k, rfl, _, _, rfl, rfl, .inr hk, .int y.2.2.1, rfl, .int k, rfl, _, _, rfl, rfl, .inr hk, .int y.2.2.2, rfl, by show 4 ≤ sizeLine; decide, fun u nu => ?_⟩
      have su := same_upd (H := H2) (o := t4 (scX k y)) nu
      refine ⟨_, su _ _ eR, sz_lt (by rw [List.length_map]; omega), us ++ [u], fun b o hb => ?_, by rw [upd_same, List.map_append]; rfl, ?_⟩
      · rw [upd_ne (ne_of_none hb nR)]
        exact su _ _ (sm _ _ hb)
      · have kt : KeepT (upd H2 u (t4 (scX k y))) (upd (upd H2 u (t4 (scX k y))) R (.lst (us.map V.ref ++ [.ref u]))) := fun b xs hb => by
          rw [upd_ne (ne_of hb (su _ _ eR) (fun q => by cases q))]
          exact hb
        rw [List.take_add_one, hy, List.map_append]
        exact Mts.snoc (kt _ _ upd_same) ((hU.keep fun b xs hb => su _ _ hb).keep kt)
    · rintro H2 ⟨us, sm, eR, hU⟩
      rw [List.length_map, hml, List.take_length] at hU
      exact q H2 R us sm nR eR hU
end

/-! ### max of a tuple of ints -/
section
open PySem.Spec PyProof.Rows
variable {prog : Program} {w : World} {A : Around} {E : Value → Shared → Prop} {s : Shared} {l : Addr}
theorem iter_tup {its : Array Value} {Q : Value → Shared → Prop} (hl : s.heap.IsTuple l its)
    (h : ∀ s₂ : Shared, s₂ = { s with heap := s.heap.push { cls := .type "tuple_iterator", data := .fields #[.ref l, .int 0 0] } } →
      (s₂.heap.IsTupleIter s.heap.objs.size l 0 ∧ s₂.heap.IsTuple l its) → (∀ b ∈ [s.heap.objs.size, l], b < s₂.heap.objs.size) → l ≠ s.heap.objs.size → Q (.ref s.heap.objs.size) s₂) :
    wpAny (model prog w) A (pyIter (.ref l)) Q E s := by
  have hlt : l < s.heap.objs.size := by obtain ⟨_, e, _⟩ := hl; exact Heap.lt_size e
  refine wpAny_pyIter_tuple hl (h _ rfl ⟨⟨_, Heap.get?_push_size _ rfl, rfl, rfl⟩, hl.push _⟩ (fun b hb => ?_) (Nat.ne_of_lt hlt))
  show b < (s.heap.push _).objs.size
  rw [Heap.size_push]
  rcases List.mem_cons.mp hb with rfl | hb
  · exact Nat.lt_succ_self _
  · rcases List.mem_cons.mp hb with rfl | hb
    · exact Nat.lt_succ_of_lt hlt
    · cases hb
theorem kept_old {ob : Obj} {h' : Heap} (hk : ∀ b o, b ∉ [s.heap.objs.size] → (s.heap.push ob).get? b = some o → h'.get? b = some o) :
    ∀ b o, s.heap.get? b = some o → h'.get? b = some o := fun b o e => by
  refine hk b o (fun hm => ?_) (Heap.get?_push_of_some _ e)
  rcases List.mem_cons.mp hm with e1 | hm
  · exact absurd (e1 ▸ Heap.lt_size e) (Nat.lt_irrefl _)
  · cases hm
theorem max_tupInts {xs : Array (Int × Tok)} {Q : Value → Shared → Prop} (hh : A.handled = none) (hl : s.heap.IsTuple l (intItems xs)) (hne : 0 < xs.size)
    (h : ∀ v h' tk, (intItems xs)[argBest (fun i j => decide (numAt xs i > numAt xs j)) (xs.size - 1)]? = some v → (∀ b o, s.heap.get? b = some o → h'.get? b = some o) → Q v { s with heap := h', toks := tk }) :
    wpAny (model prog w) A (call (.builtin "max") [.ref l]) Q E s := by
  refine call_max_walk (iter_tup hl fun s₂ e st hfp hlI => ?_)
  subst e
  refine ⟨_, _, _, _, _, _, _, rfl, Walks.tuple (A := A.in1) hh _ l hlI (intItems xs), st, hfp, by simpa [intItems] using hne, CmpOf.ints_gt (numAt xs) (fun _ _ => intItems_at), fun v h' tk hP hk => ?_⟩
  exact h v h' tk (by simpa [intItems] using hP) (kept_old hk)
theorem max_rawT {its : List Value} {ns : List Int} {Q : Value → Shared → Prop} (hh : A.handled = none) (hl : s.heap.IsTuple l its.toArray) (hi : IntsAre its ns) (hne : 0 < ns.length)
    (h : ∀ h' tk M t', (∀ b o, s.heap.get? b = some o → h'.get? b = some o) → M ∈ ns → (∀ a, a ∈ ns → a ≤ M) → Q (.int M t') { s with heap := h', toks := tk }) : wpAny (model prog w) A (call (.builtin "max") [.ref l]) Q E s := by
  obtain ⟨xs, e⟩ := hi.allInts.items
  have hn : numsOf (intItems xs).toList = ns := by rw [← e]; exact hi.numsOf
  rw [nums_intItems] at hn
  subst hn
  rw [e] at hl
  have hsz : 0 < xs.size := by simpa using hne
  refine max_tupInts hh hl hsz fun v h' tk hv hk => ?_
  obtain ⟨t, rfl⟩ := intItems_at hv
  obtain ⟨h1, h2⟩ := argBest_gt (numAt xs) (xs.size - 1)
  refine h h' tk _ t hk ?_ fun a ha => ?_
  · rw [numAt_eq]; exact PySem.getD_mem (by rw [List.length_map, Array.length_toList]; omega)
  · obtain ⟨j, hj, rfl⟩ := mem_getD ha
    rw [List.length_map, Array.length_toList] at hj
    rw [← numAt_eq]; exact h2 j (by omega)
end
def rMaxT (K : PySem.W.Frag) : List V → Hp → VK → Prop := fun vs H Q => ∃ (a : Addr) (ns : List Int), vs = [V.ref a] ∧ SqT K H a (ns.map V.int) ∧ 0 < ns.length ∧ ∀ m, m ∈ ns → (∀ y, y ∈ ns → y ≤ m) → Q (.int m) H
theorem cr_maxT {X : Cx} (hc : X.calm = true) : CallR X (.builtin "max") (rMaxT X.K) := by
  intro pins s σ H vs us Q I r h
  obtain ⟨a, ns, rfl, hs, hne, q⟩ := h
  obtain ⟨its, rv, hl, _⟩ := I.tuple hs
  rw [Vals.ref1 r]
  exact max_rawT (I.ok.hd hc) hl rv.ints hne fun h' tk m t' hk h1 h2 => ⟨.int _, H, I.kept hk, ⟨_, rfl⟩, q m h1 h2⟩

/-! ### y in d, y an int, a text or a truth (a truth is found as 0 or 1) -/
section
open PySem.Spec PyProof.Rows PpSet
end

/-! ### min of a tuple of ints, max of a dict with int keys -/
section
open PySem.Spec PyProof.Rows
variable {prog : Program} {w : World} {A : Around} {E : Value → Shared → Prop} {s : Shared} {l : Addr}
end
section
open PySem.Spec PyProof.Rows
end

/-! ### del d[k] and del xs[k:] -/
section
open PySem.Spec PyProof.Rows
theorem cut_idx {α : Type} {p : Nat → Bool} {k n : Nat} (hp : ∀ j, j < n → p j = decide (k ≤ j)) : ∀ (l : List α) (o : Nat), o + l.length ≤ n → (l.zipIdx o).filterMap (fun x => if p x.2 = true then none else some x.1) = l.take (k - o)
  | [], o, _ => by simp
  | a :: r, o, h => by
    rw [List.length_cons] at h
    have ih := cut_idx hp r (o + 1) (by omega)
    rw [List.zipIdx_cons, List.filterMap_cons, ih]
    by_cases c : k ≤ o
    · rw [if_pos (by rw [hp o (by omega)]; exact decide_eq_true c), show k - o = 0 by omega, show k - (o + 1) = 0 by omega]
      rfl
    · rw [if_neg (by rw [hp o (by omega)]; simpa using c), show k - o = (k - (o + 1)) + 1 by omega]
      rfl
theorem from_bounds (k n : Nat) : sliceBounds (some (k : Int)) none none n = (max 0 (min (k : Int) n), (n : Int), 1) := by
  have c : ¬ ((k : Int) < 0) := by omega
  simp [sliceBounds, c]
theorem delOne {M : Model} {A : Around} {E : Value → Shared → Prop} {s : Shared} {env : Env} {t : Expr} {pos : Pos} {Q : Flow → Shared → Prop} (h : wpAny M A (delete t env) (fun _ s1 => Q .next s1) E s) : wpAny M A (exec (.Delete [t] pos) env) Q E s := by
  rw [arm_exec_Delete]
  refine wpAny_bind (wpAny_standAt (wpAny_bind ?_))
  rw [arm_deleteEach_cons, arm_deleteEach_nil]
  exact wpAny_bind (thn h fun _ _ z => wpAny_pure (wpAny_pure z))
/-- what a list is behind del xs[k:] -/
def sDelFrom (td ty : TE) : TS := fun D σ H => td σ H fun x H1 => ty σ H1 fun y H2 => ∃ l xs, ∃ k : Nat, x = .ref l ∧ y = .int (k : Int) ∧ H2 l = some (.lst xs) ∧ D.nx σ (upd H2 l (.lst (xs.take k)))
variable {prog : Program} {w : World} {A : Around} {E : Value → Shared → Prop} {s : Shared}
theorem del_from {l sl : Addr} {its : List Value} {n k : Nat} {t : Tok} {Q : Unit → Shared → Prop} (e : s.heap.get? l = some { cls := .type "list", data := .seq its.toArray n }) (hs : s.heap.IsSliceOf sl (.int (k : Int) t) .none .none) (hz : its.length ≤ sizeLine)
    (h : ∀ f : Array Value → Array Value, f its.toArray = (its.take k).toArray → Q () { s with heap := s.heap.update l (Obj.mapSeq f) }) : wpAny (model prog w) A (delItem (.ref l) (.ref sl)) Q E s := by
  obtain ⟨os, hos, hcs, hds⟩ := id hs
  have tS : s.TypeIs (.ref sl) "slice" := ⟨os, hos, hcs⟩
  have tL : s.TypeIs (.ref l) "list" := ⟨_, e, rfl⟩
  refine wpAny_delItem_slot tL (by decide) F.slot_list_delitem (wpAny_call_entry F.slot_list_delitem tL F.entry_list_delitem ?_ (F.args_list_delitem_2 _ _))
  show wpAny _ _ (Builtin.List.listSubscript? (.ref sl) >>= _) _ _ s
  refine wpAny_bind ?_
  unfold Builtin.List.listSubscript?
  refine wpAny_bind (wpAny_specialOf tS slice_no_index ?_)
  simp only [Option.isNone_none, if_true]
  refine wpAny_pure ?_
  show wpAny _ _ (typeOf (.ref sl) >>= _) _ _ s
  refine wpAny_bind (wpAny_typeOf tS ?_)
  rw [if_neg (by decide), listSliceParts_eq]
  refine wpAny_bind (wpAny_bind (wpAny_field hos hds (x := .none) rfl (wpAny_bind (wpAny_listPart .none ?_))))
  rw [if_neg (show ¬ ((rawPart none == rawInt 0) = true) from Bool.false_ne_true)]
  refine wpAny_bind (wpAny_field hos hds (x := .int (k : Int) t) rfl (wpAny_bind (wpAny_listPart (.int _ _) ?_)))
  refine wpAny_bind (wpAny_field hos hds (x := .none) rfl (wpAny_bind (wpAny_listPart .none (wpAny_pure ?_))))
  refine wpAny_bind (m := Builtin.List.listItems (.ref l)) ?_
  unfold Builtin.List.listItems
  refine wpAny_bind (wpAny_seqItems e rfl (wpAny_pure ?_))
  refine wpAny_bind (wpAny_of_eq (sliceIndices_raw (some (k : Int)) none none its.toArray.size (by simp)) ?_)
  refine wpAny_bind (wpAny_rule ?_)
  have key : ∀ (p : Nat → Bool), (∀ j, j < its.length → p j = decide (k ≤ j)) → ∀ f : Array Value → Array Value, (f = fun xs => (xs.toList.zipIdx.filterMap fun x => if p x.2 = true then none else some x.1).toArray) → f its.toArray = (its.take k).toArray := fun p hp f hf => by
    rw [hf]
    exact congrArg List.toArray (cut_idx hp its 0 (by omega))
  rw [List.size_toArray, from_bounds]
  refine wpAny_bind (wpAny_updateSeq (a := l) e rfl ?_ (by simpa using hz) ?_)
  · refine wpAny_bind (wpAny_letGo (wpAny_pure ⟨_, rfl, h _ (key _ ?_ _ rfl)⟩))
    intro j hj
    show (decide (max 0 (min (k : Int) its.length) ≤ (j : Int)) && decide ((j : Int) < its.length) && (((j : Int) - max 0 (min (k : Int) its.length)) % 1 == 0)) = _
    rw [Int.emod_one, decide_eq_true (show (j : Int) < its.length by omega)]
    by_cases c : k ≤ j
    · rw [decide_eq_true c, decide_eq_true (by omega)]
      rfl
    · rw [decide_eq_false c, decide_eq_false (by omega)]
      rfl
  · rw [List.size_toArray]
    exact Nat.le_trans (List.length_filterMap_le _ _) (by rw [List.length_zipIdx]; exact Nat.le_succ_of_le hz)
end
section
variable {X : Cx} {o i : Expr} {td ty : TE} {pos pos' p2 : Pos}
theorem ps_delfrom (ho : PE X o td) (hi : PE X i ty) : PS X (.Delete [.Subscript o (.Slice (some i) none none p2) pos] pos') (sDelFrom td ty) := by
  refine ⟨fun pins s σ H D I h => delOne ?_⟩
  rw [arm_delete_Subscript]
  refine wpAny_bind (thn (ho.run pins s σ H _ I h) fun u s1 ⟨x, H1, I1, r1, q1⟩ => wpAny_bind (wpAny_holding (wpAny_Slice ?_)))
  rw [evalPart_some]
  refine thn (hi.run pins s1 σ H1 _ I1 q1) fun v s2 ⟨y, H2, I2, r2, l, xs, k, ex, ey, eH, q2⟩ => ?_
  subst ex ey
  cases r1
  obtain ⟨t, rfl⟩ := r2
  rw [evalPart_none]
  refine wpAny_pure (wpAny_pure (wpAny_bind (wpAny_standAt (wpAny_bind (wpAny_holding ?_)))))
  have I3 : Inv X pins σ H2 { s2 with heap := s2.heap.push { cls := .type "slice", data := .fields #[.int (k : Int) t, .none, .none] } } := I2.kept (t' := s2.toks) fun b ob q => Heap.get?_push_of_some _ q
  obtain ⟨z, its, n, r, hl, e⟩ := I3.lstM eH
  refine del_from e (Heap.IsSliceOf.new ..) (by omega) fun f hf => wpAny_release ?_
  exact ⟨σ, _, I3.lset (t' := s2.toks) eH e hf (r.take k) (by rw [List.length_take]; omega), q2⟩
end

/-! ### a, b, *c = a tuple -/
section
open PySem.Spec PyProof.Rows
theorem star_items {prog : Program} {w : World} {A : Around} {E : Value → Shared → Prop} {s : Shared} {l : Addr} {its : Array Value} {i : Nat} {Q : List Value → Shared → Prop} (ht : IsTup s.heap l its) (hh : A.handled = none) (hi : i ≤ its.size) (hz : its.size ≤ sizeLine)
    (h : ∀ (h' : Heap) (tk : Nat), (∀ b o, s.heap.get? b = some o → h'.get? b = some o) → Q (its.toList.take i ++ [.ref h'.objs.size]) { s with heap := h'.push { cls := .type "list", data := .seq (its.toList.drop i).toArray 0 }, toks := tk }) :
    wpAny (model prog w) A (unpackItems (.ref l) (i + 1) (some i)) Q E s := by
  obtain ⟨ol, gl, _⟩ := id ht
  have ll : l < s.heap.objs.size := Heap.lt_size gl
  have nl : l ≠ s.heap.objs.size := Nat.ne_of_lt ll
  unfold unpackItems notIterableAtAll
  refine wpAny_bind (wpAny_bind (wpAny_specialOf ht.typeIs slot_tuple_iter.lookup (wpAny_pure ?_)))
  simp only [Bool.false_eq_true, if_false]
  refine wpAny_bind (wpAny_holding (iter_tuple ht (wpAny_bind (wpAny_holding ?_))))
  refine draw_tuple nl i 0 _ _ ⟨_, Heap.get?_push_size _ rfl, rfl, rfl⟩ (ht.push _) (by omega) fun g1 it1 b1 => ?_
  rw [Nat.zero_add] at it1
  have t1 : IsTup g1 l its := (ht.push _).extBut b1.extBut nl
  obtain ⟨oi, gi, _⟩ := id it1
  obtain ⟨ol1, gl1, _⟩ := id t1
  have lf : (its.toList.take i).length = i := by rw [List.length_take, Array.length_toList]; omega
  rw [List.drop_zero, if_neg (by rw [lf]; exact Nat.lt_irrefl i)]
  refine wpAny_bind (wpAny_holding (PySem.W.kun_collect (s := { s with heap := g1 }) (T := "tuple_iterator") (.inr (.inr (.inr rfl))) (Walks.tuple (A := A.in1) hh s.heap.objs.size l nl its) (fun j u z => z.1.typeIs) (k := i) hi ⟨it1, t1⟩ (Heap.lt_size gi) (Heap.lt_size gl1) (fun g2 tk k2 => ?_) hz))
  show wpAny _ _ (if (its.toList.drop i).length < i + 1 - 1 - i then _ else _) _ _ _
  rw [if_neg (by omega)]
  show wpAny _ _ (newList ((its.toList.drop i).take ((its.toList.drop i).length - (i + 1 - 1 - i))) >>= fun d => pure (its.toList.take i ++ [d] ++ (its.toList.drop i).drop ((its.toList.drop i).length - (i + 1 - 1 - i)))) _ _ _
  rw [show i + 1 - 1 - i = 0 by omega, Nat.sub_zero, List.take_length, List.drop_length]
  refine wpAny_bind (wpAny_newList (wpAny_pure ?_) (by rw [List.length_drop, Array.length_toList]; omega))
  rw [List.append_nil]
  exact h g2 tk fun b o e => k2 b o (fun z => Nat.lt_irrefl _ (z ▸ Heap.lt_size e)) (b1.extBut b o (fun z => Nat.lt_irrefl _ (z ▸ Heap.lt_size e)) (Heap.get?_push_of_some _ e))
end
section
variable {X : Cx} {pos : Pos}
theorem pgs_star {t : Expr} {p : Pos} {g : TG} (h : PG X t g) : PGs X [.Starred t p] (gCons g gNil) := by
  refine ⟨fun pins s σ H vs us Q I r hq => ?_⟩
  obtain ⟨v, rest, e, hq⟩ := hq
  subst e
  cases r with
  | cons r rr =>
    show wpAny (model X.prog X.w) X.A (assignInOrder [assign t X.env] _) _ _ s
    refine PyProof.Rows.assignInOrder_cons (thn (h.run pins s σ H _ _ _ I r hq) fun _ s1 ⟨σ1, H1, I1, e1, q1⟩ => ?_)
    subst e1
    cases rr
    exact PyProof.Rows.assignInOrder_nil ⟨σ1, H1, I1, q1⟩
/-- (a, .., *c) = a tuple: i names ahead of the last one, which gets a new list -/
def gStar (K : PySem.W.Frag) (i : Nat) (t : TGs) : TG := fun v σ H Q => ∃ a xs, v = .ref a ∧ SqT K H a xs ∧ i ≤ xs.length ∧ ∀ D, H D = none → t (xs.take i ++ [.ref D]) σ (upd H D (.lst (xs.drop i))) Q
theorem pg_star {es : List Expr} {k i : Nat} {t : TGs} (hc : X.calm = true) (h : PGs X es t) (hn : (assignEach es X.env).length = i + 1 := by rfl) (hst : (assignEach es X.env).findIdx? (·.1) = some i := by rfl) : PG X (.Tuple es k pos) (gStar X.K i t) := by
  refine ⟨fun pins s σ H v u Q I r hw => ?_⟩
  obtain ⟨a, xs, e1, hq, hl, hw⟩ := hw
  subst e1
  cases r
  obtain ⟨its, rv, ht, hz⟩ := I.tuple hq
  have len := rv.length
  rw [PyProof.Rows.assign_Tuple]
  refine wpAny_bind (wpAny_standAt ?_)
  unfold unpack
  rw [hn, hst]
  refine wpAny_bind (wpAny_holding (star_items ht (I.ok.hd hc) (by rw [List.size_toArray]; omega) (by rw [List.size_toArray]; omega) fun h' tk hk => ?_))
  have I1 : Inv X pins σ H { s with heap := h', toks := tk } := I.kept hk
  have I2 := I1.lnew (t' := tk) (rv.drop i) (by rw [List.length_drop]; omega)
  exact h.run pins _ σ _ _ _ Q I2 ((rv.take i).append (.cons (show RelV (V.ref h'.objs.size) (.ref h'.objs.size) from rfl) .nil)) (hw _ I1.fresh)
end

/-! ### ends of matings swelled and trimmed (the pure part of k07b; behind 41_ends, 50c_clipped) -/
def below (s : Int) (x : Int × Int) : Bool := decide (x.1 < s ∧ x.2 < s)
theorem filter_range (a b : Nat) (g : Nat → Bool) (hg : ∀ k, g k = decide (a ≤ k ∧ k < b)) : ∀ m : Nat, (List.range m).filter g = (List.range (min b m - a)).map (a + ·)
  | 0 => by
    rw [Nat.min_zero, Nat.zero_sub]
    rfl
  | m + 1 => by
    rw [List.range_succ, List.filter_append, filter_range a b g hg m]
    by_cases h : a ≤ m ∧ m < b
    · rw [List.filter_cons_of_pos (by rw [hg]; exact decide_eq_true h), show min b (m + 1) - a = (min b m - a) + 1 by omega, List.range_succ, List.map_append, List.filter_nil]
      congr 1
      show [m] = [a + (min b m - a)]
      rw [show a + (min b m - a) = m by omega]
    · rw [List.filter_cons_of_neg (by rw [hg, decide_eq_false h]; exact Bool.false_ne_true), List.filter_nil, List.append_nil]
      congr 2
      omega
theorem below_is {o p f s : Int} {m : Nat} (o0 : 0 ≤ o) (p0 : 0 ≤ p) (hf : f = 0 ∨ f = 1) : (endL o p m f m).filter (below s) =
    if clipLo o p m f s < clipHi o p m f s then endL (clipLo o p m f s) (partP o p m f (clipLo o p m f s) (clipHi o p m f s - clipLo o p m f s)) (clipHi o p m f s - clipLo o p m f s) f (clipHi o p m f s - clipLo o p m f s).toNat else [] := by
  have hlo := clip_lo o p m f s
  have hhi := clip_hi o p m f s
  obtain ⟨a, ha⟩ : ∃ a : Nat, clipLo o p m f s - o = (a : Int) := ⟨(clipLo o p m f s - o).toNat, by omega⟩
  obtain ⟨b, hb⟩ : ∃ b : Nat, (if clipHi o p m f s < o then 0 else clipHi o p m f s - o) = (b : Int) := ⟨(if clipHi o p m f s < o then 0 else clipHi o p m f s - o).toNat, by split <;> omega⟩
  have hg : ∀ k : Nat, k < m → (below s ∘ fun (k : Nat) => (o + (k : Int), endQ p m f (k : Int))) k = decide (a ≤ k ∧ k < b) := fun k hk => by
    show decide (o + (k : Int) < s ∧ endQ p m f (k : Int) < s) = _
    refine decide_eq_decide.mpr ?_
    unfold endQ
    unfold clipLo at ha
    unfold clipHi at hb
    rcases hf with rfl | rfl
    · rw [if_neg (by decide)] at ha ⊢
      rw [if_neg (show ¬ (0 : Int) = 1 by decide)] at hb
      split at hb <;> split at hb <;> (try split at hb) <;> constructor <;> intro h <;> omega
    · rw [if_pos rfl] at ha ⊢
      rw [if_pos (show (1 : Int) = 1 from rfl)] at hb
      split at ha <;> split at hb <;> (try split at hb) <;> constructor <;> intro h <;> omega
  have e : (endL o p m f m).filter (below s) = ((List.range m).filter fun k => decide (a ≤ k ∧ k < b)).map fun (k : Nat) => (o + (k : Int), endQ p m f (k : Int)) := by
    unfold endL
    rw [List.filter_map]
    congr 1
    exact List.filter_congr fun k hk => hg k (List.mem_range.mp hk)
  rw [e, filter_range a b _ (fun _ => rfl), List.map_map]
  have hbm : b ≤ m := by
    split at hb <;> omega
  rw [Nat.min_eq_left hbm]
  by_cases h : clipLo o p m f s < clipHi o p m f s
  · rw [if_pos h]
    rw [if_neg (by omega)] at hb
    have en : (clipHi o p m f s - clipLo o p m f s).toNat = b - a := by omega
    rw [en]
    unfold endL
    refine List.map_congr_left fun k hk => ?_
    have hk' := List.mem_range.mp hk
    refine Prod.ext ?_ ?_
    · show o + ((a + k : Nat) : Int) = clipLo o p m f s + (k : Int)
      omega
    · show endQ p m f ((a + k : Nat) : Int) = endQ (partP o p m f (clipLo o p m f s) (clipHi o p m f s - clipLo o p m f s)) (clipHi o p m f s - clipLo o p m f s) f (k : Int)
      unfold endQ partP
      split <;> omega
  · rw [if_neg h]
    have : b - a = 0 := by
      split at hb <;> omega
    rw [this]
    rfl

/-! ### lists of pairs as data -/
def pd (x : Int × Int) : PyData := .tuple [.int x.1, .int x.2]
theorem lay_pairs : ∀ xs : List (Int × Int), PyData.canLayAll0 (xs.map pd) = true
  | [] => rfl
  | x :: r => by
    show (PyData.canLay0 (pd x) && PyData.canLayAll0 (r.map pd)) = true
    rw [lay_pairs r]
    rfl
theorem depth_pairs : ∀ xs : List (Int × Int), PyData.depthAll (xs.map pd) ≤ 1
  | [] => Nat.zero_le _
  | x :: r => Nat.max_le.mpr ⟨Nat.le_refl 1, depth_pairs r⟩
theorem shaped_pairs (xs : List (Int × Int)) : SeqAt.shaped (.list (xs.map pd)) = true := by
  unfold SeqAt.shaped
  rw [show PyData.canLay0 (.list (xs.map pd)) = true from lay_pairs xs, Bool.true_and, decide_eq_true_eq]
  have := depth_pairs xs
  show PyData.depthAll (xs.map pd) + 1 ≤ 64
  omega
theorem eqv_nil : ∀ xs : List (Int × Int), PyData.eqv (.list (xs.map pd)) (.list []) = xs.isEmpty
  | [] => rfl
  | x :: r => rfl
theorem Prs.dp {H : Hp} {K : PySem.W.Frag} : ∀ {ps : List Addr} {xs : List (Int × Int)}, Prs H ps xs → DpAll K H (ps.map V.ref) (xs.map pd)
  | _, _, .nil => .nil
  | _, _, .cons h r => .cons (.tup (SqT.of h) (.cons (.int _) (.cons (.int _) .nil))) (Prs.dp r)
/-- a list of pairs that grows by one -/
theorem Prs.grow {H : Hp} {r a : Addr} {ps : List Addr} {xs : List (Int × Int)} {x : Int × Int} {o : HO} (h : Prs H ps xs) (hr : H r = some (.lst (ps.map V.ref))) (ha : H a = some (.tup [.int x.1, .int x.2])) :
    Prs (upd H r (.lst ((ps.map V.ref) ++ [.ref a]))) (ps ++ [a]) (xs ++ [x]) := by
  have ne : ∀ {b : Addr} {y : Int × Int}, H b = some (.tup [.int y.1, .int y.2]) → b ≠ r := fun hb => ne_of hb hr (fun z => by cases z)
  refine Prs.snoc (Paired.mapP h fun b y hb => ?_) ?_
  · rw [upd_ne (ne hb)]
    exact hb
  · rw [upd_ne (ne ha)]
    exact ha

/-! ### names of roads of a hall: is_name, _law_good_name -/
abbrev N_is_name : List Str := ["text", "longest", "sign"]
abbrev P_is_name : List Str := ["text", "longest"]
theorem sc_is_name : FnScope N_is_name P_is_name (defScope s_is_name) := ⟨rfl, rfl, rfl, by decide +kernel, rfl, by decide +kernel, by decide +kernel⟩
abbrev N_good_name : List Str := ["_law_name", "_law_sign"]
abbrev P_good_name : List Str := ["_law_name"]
theorem sc_good_name : FnScope N_good_name P_good_name (defScope s_good_name) := ⟨rfl, rfl, rfl, by decide +kernel, rfl, by decide +kernel, by decide +kernel⟩
theorem sign_abc (c : Nat) : decide (c ∈ ("abcdefghijklmnopqrstuvwxyz" : Str).cps.toList) = decide (97 ≤ c ∧ c ≤ 122) := by
  rw [show (("abcdefghijklmnopqrstuvwxyz" : Str).cps.toList : List Nat) = (List.range 26).map (· + 97) from by decide +kernel]
  refine decide_eq_decide.mpr ⟨fun h => ?_, fun h => List.mem_map.mpr ⟨c - 97, List.mem_range.mpr (by omega), by omega⟩⟩
  obtain ⟨j, hj, rfl⟩ := List.mem_map.mp h
  have := List.mem_range.mp hj
  omega
/-- the signs of a text are letters -/
def allL (x : Str) : List Bool := x.cps.toList.map fun c => decide (97 ≤ c ∧ c ≤ 122)
def goodN (x : Str) : Bool := decide (1 ≤ x.length ∧ x.length ≤ 6) && (allL x).all id
def spIsNameH : Sp := fun vs H Q _ => ∃ x : Str, vs = [.str x, .int 6] ∧ x.length ≤ 1000 ∧ ∀ H', Same H H' → Q (.bl (goodN x)) H'
def spGoodN : Sp := fun vs H Q _ => ∃ x : Str, vs = [.str x] ∧ x.length ≤ 1000 ∧ ∀ H', Same H H' → Q (.bl (goodN x)) H'
theorem str_len (x : Str) : x.cps.toList.length = x.length := rfl
/-- all signs of a text asked -/
theorem all_signs {K : PySem.W.Frag} {x : Str} {i j : Nat} {σ : L2.St} {H : Hp} {Q : VK} (hi : σ[i]? = some (some (.str x))) (hw : ∀ v, wipe (List.set (wipe σ [j]) j (some v)) [j] = wipe σ [j]) (hj : ∀ v, (List.set (wipe σ [j]) j (some v))[j]? = some (some v)) (hx : x.length ≤ 1000) (q : ∀ H', Same H H' → Q (.bl ((allL x).all id)) H') :
    (tCB (rAll K) (tCons (tLc (iStr (tVar i)) (gName j) tYes (tOp (fun x y H Q => ∃ c z, x = V.str ⟨#[c]⟩ ∧ y = V.str z ∧ Q (V.bl (decide (c ∈ z.cps.toList))) H) (tVar j) (tC (V.str "abcdefghijklmnopqrstuvwxyz"))) [j]) tNil)) σ H Q := by
  refine ⟨.str x, hi, x, rfl, fun D nD => lc_it walk_str (fun k G => Same H G ∧ G D = some (.lst (((allL x).take k).map V.bl))) ⟨same_upd nD, upd_same⟩ (fun _ _ _ _ => trivial) ?_ ?_⟩
  · rintro k y H2 H3 hk ⟨s2, eD⟩ ⟨rfl, c, hc, rfl⟩
    have hc' : (allL x)[k]? = some (decide (97 ≤ c ∧ c ≤ 122)) := by
      unfold allL
      rw [List.getElem?_map, Array.getElem?_toList, hc]
      rfl
    have lt : ((allL x).take k).length ≤ 1000 := by
      rw [List.length_take]
      unfold allL
      rw [List.length_map, str_len]
      omega
    refine ⟨hw _, .str ⟨#[c]⟩, hj _, c, _, rfl, rfl, _, eD, sz_lt (by rw [List.length_map]; omega), fun b o hb => ?_, ?_⟩
    · rw [upd_ne (ne_of_none hb nD)]
      exact s2 _ _ hb
    · rw [upd_same, sign_abc, List.take_add_one, hc', List.map_append]
      rfl
  · rintro G ⟨s2, eD⟩
    rw [show x.cps.size = (allL x).length by unfold allL; rw [List.length_map]; rfl, List.take_length] at eD
    exact ⟨D, _, rfl, SqL.of eD, q G s2⟩
section
variable {P : Program} {w : World} {K : PySem.W.Frag} {mg : Str → Option Value} {base : Heap}
theorem ok_isNameH {f : Addr} {fd : FuncData} {tok : Tok} (D : DefAt K mg "is_name" s_is_name P_is_name f fd) (g_LETTERS : mg "LETTERS" = some (.str "abcdefghijklmnopqrstuvwxyz" tok)) (B : Bn mg) : FnOk P w K mg base CX0 1 f fd P_is_name spIsNameH := by
  refine D.F.ok sc_is_name (fun vs H Q E h => ?_) (fun cdv A0 outer s H vs Q E hr h => ?_)
  · obtain ⟨x, rfl, _⟩ := h
    rfl
  · obtain ⟨x, rfl, hx, q⟩ := h
    refine ⟨_, (pss_one (ps_ret (pe_and (pe_chain op_le op_le pe_int (pe_callB call_len_str (by rfl) B.len (by decide +kernel) (pa_cons (pv 0) pa_nil)) (pv 1)) (pe_one (pe_callB (cr_all rfl) (by rfl) B.all (by decide +kernel) (pa_cons (pe_lc (own := [("sign", 2)]) (g := gName 2) (by rfl) sc_is_name.nd (pi_str (pv 0)) (blkOk_by (own := [("sign", 2)]) (N := N_is_name) (sc := defScope s_is_name) (by decide +kernel)) (fun _ _ _ _ _ => (pg_name (i := 2) sc_is_name.nd rfl (.inl rfl))) (fun _ _ _ _ _ => pts_nil) (fun _ _ _ _ _ => (pe_cmpR op_in_sign (pv 2) (pe_glob (v := .str _) (by rfl) g_LETTERS ⟨_, rfl⟩) (by rfl)))) pa_nil)))))), ?_⟩
    have big : x.length ≤ sizeLine := Nat.le_trans hx (by decide)
    have fin : ∀ b : Bool, b = decide (1 ≤ x.length ∧ x.length ≤ 6) → (if b = true then (tCB (rAll K) (tCons (tLc (iStr (tVar 0)) (gName 2) tYes (tOp (fun x y H Q => ∃ c z, x = V.str ⟨#[c]⟩ ∧ y = V.str z ∧ Q (V.bl (decide (c ∈ z.cps.toList))) H) (tVar 2) (tC (V.str "abcdefghijklmnopqrstuvwxyz"))) [2]) tNil)) (L2.start N_is_name [.str x, .int 6]) H Q else Q (.bl false) H) := fun b eb => by
      unfold goodN at q
      rw [← eb] at q
      cases b with
      | false => exact iteF (q H (Same.refl H))
      | true => exact iteT (all_signs rfl (fun _ => rfl) (fun _ => rfl) hx q)
    refine ⟨.str x, rfl, x, rfl, big, 1, _, rfl, rfl, _, rfl, ite2 (fun h => ?_) (fun h => ?_)⟩
    · have h : (1 : Int) ≤ (x.length : Int) := of_decide_eq_true h
      refine ⟨.int 6, rfl, _, 6, rfl, rfl, _, rfl, fin _ (decide_eq_decide.mpr ⟨fun z => ⟨by omega, by omega⟩, fun z => by omega⟩)⟩
    · have h : ¬ (1 : Int) ≤ (x.length : Int) := fun z => h (decide_eq_true z)
      exact ⟨false, rfl, fin false (decide_eq_false fun z => by omega).symm⟩
theorem ok_goodN {f : Addr} {fd : FuncData} (D : DefAt K mg "_law_good_name" s_good_name P_good_name f fd) (B : Bn mg) : FnOk P w K mg base CX0 1 f fd P_good_name spGoodN := by
  refine D.F.ok sc_good_name (fun vs H Q E h => ?_) (fun cdv A0 outer s H vs Q E hr h => ?_)
  · obtain ⟨x, rfl, _⟩ := h
    rfl
  · obtain ⟨x, rfl, hx, q⟩ := h
    refine ⟨_, (pss_one (ps_ret (pe_and (pe_chain op_le op_le pe_int (pe_callB call_len_str (by rfl) B.len (by decide +kernel) (pa_cons (pv 0) pa_nil)) pe_int) (pe_one (pe_callB (cr_all rfl) (by rfl) B.all (by decide +kernel) (pa_cons (pe_lc (own := [("_law_sign", 1)]) (g := gName 1) (by rfl) sc_good_name.nd (pi_str (pv 0)) (blkOk_by (own := [("_law_sign", 1)]) (N := N_good_name) (sc := defScope s_good_name) (by decide +kernel)) (fun _ _ _ _ _ => (pg_name (i := 1) sc_good_name.nd rfl (.inl rfl))) (fun _ _ _ _ _ => pts_nil) (fun _ _ _ _ _ => (pe_cmpR op_in_sign (pv 1) pe_str (by rfl)))) pa_nil)))))), ?_⟩
    have big : x.length ≤ sizeLine := Nat.le_trans hx (by decide)
    have fin : ∀ b : Bool, b = decide (1 ≤ x.length ∧ x.length ≤ 6) → (if b = true then (tCB (rAll K) (tCons (tLc (iStr (tVar 0)) (gName 1) tYes (tOp (fun x y H Q => ∃ c z, x = V.str ⟨#[c]⟩ ∧ y = V.str z ∧ Q (V.bl (decide (c ∈ z.cps.toList))) H) (tVar 1) (tC (V.str "abcdefghijklmnopqrstuvwxyz"))) [1]) tNil)) (L2.start N_good_name [.str x]) H Q else Q (.bl false) H) := fun b eb => by
      unfold goodN at q
      rw [← eb] at q
      cases b with
      | false => exact iteF (q H (Same.refl H))
      | true => exact iteT (all_signs rfl (fun _ => rfl) (fun _ => rfl) hx q)
    refine ⟨.str x, rfl, x, rfl, big, 1, _, rfl, rfl, _, rfl, ite2 (fun h => ?_) (fun h => ?_)⟩
    · have h : (1 : Int) ≤ (x.length : Int) := of_decide_eq_true h
      refine ⟨_, 6, rfl, rfl, _, rfl, fin _ (decide_eq_decide.mpr ⟨fun z => ⟨by omega, by omega⟩, fun z => by omega⟩)⟩
    · have h : ¬ (1 : Int) ≤ (x.length : Int) := fun z => h (decide_eq_true z)
      exact ⟨false, rfl, fin false (decide_eq_false fun z => by omega).symm⟩
end

/-! ### the law's own hall: a dict of names to lengths and matings; _law_room, _law_no_number -/
abbrev N_room : List Str := ["_law_model", "_law_name", "_law_cap"]
abbrev P_room : List Str := ["_law_model", "_law_name", "_law_cap"]
theorem sc_room : FnScope N_room P_room (defScope s_room) := ⟨rfl, rfl, rfl, by decide +kernel, rfl, by decide +kernel, by decide +kernel⟩
abbrev N_no_number : List Str := ["_law_number", "_law_low", "_law_high"]
abbrev P_no_number : List Str := ["_law_number", "_law_low", "_law_high"]
theorem sc_no_number : FnScope N_no_number P_no_number (defScope s_no_number) := ⟨rfl, rfl, rfl, by decide +kernel, rfl, by decide +kernel, by decide +kernel⟩
abbrev RdM := Int × StL
abbrev MoL := List (Str × RdM)
/-- a road of the law's: its length and its matings -/
def RmAt (H : Hp) (v : V) (r : RdM) : Prop := ∃ (t hd : Addr) (kvs : List (Key × V)), v = .ref t ∧ H t = some (.tup [.int r.1, .ref hd]) ∧ H hd = some (.dK kvs) ∧ Std H kvs r.2
def MdR (H : Hp) (kv : Key × V) (m : Str × RdM) : Prop := kv.1 = Sum.inr m.1 ∧ RmAt H kv.2 m.2
def MdAt (H : Hp) (md : Addr) (M : MoL) : Prop := ∃ kvs, H md = some (.dK kvs) ∧ Paired (MdR H) kvs M
/-- what is neither a list nor a table stands -/
def KeepO (H H' : Hp) : Prop := ∀ b o, H b = some o → (∀ xs, o ≠ .lst xs) → (∀ ps, o ≠ .tbl ps) → H' b = some o
theorem KeepO.trans {H H1 H2 : Hp} (a : KeepO H H1) (b : KeepO H1 H2) : KeepO H H2 := fun c o h n m => b c o (a c o h n m) n m
theorem KeepO.same {H H' : Hp} (s : Same H H') : KeepO H H' := fun b o h _ _ => s b o h
theorem KeepO.extN {H H' : Hp} (s : LamX.ExtN H H') : KeepO H H' := fun b o h _ n => s b o h n
theorem KeepO.lst {H H' : Hp} {d : Addr} {xs : List V} (e : H d = some (.lst xs)) (k : Keep d H H') : KeepO H H' := fun b o h n _ => k _ _ (fun z => by rw [z, e] at h; cases h; exact n _ rfl) h
theorem KeepO.draw {H H' : Hp} {d l : Addr} (D : Draw H d l) (k : Keep d H H') : KeepO H H' := by
  obtain ⟨ns, i, z, s, W⟩ := D
  exact .lst W.at_d k
theorem KeepO.tup {H H' : Hp} (k : KeepO H H') : KeepT H H' := fun b xs hb => k b _ hb (fun _ z => by cases z) (fun _ z => by cases z)
theorem RmAt.keepO {H H' : Hp} {v : V} {r : RdM} (h : RmAt H v r) (k : KeepO H H') : RmAt H' v r := by
  obtain ⟨t, hd, kvs, e, e1, e2, s⟩ := h
  exact ⟨t, hd, kvs, e, k.tup _ _ e1, k _ _ e2 (fun _ z => by cases z) (fun _ z => by cases z), s.keep k.tup⟩
theorem MdAt.keepO {H H' : Hp} {md : Addr} {M : MoL} (h : MdAt H md M) (k : KeepO H H') : MdAt H' md M := by
  obtain ⟨kvs, e, p⟩ := h
  exact ⟨kvs, k _ _ e (fun _ z => by cases z) (fun _ z => by cases z), Paired.mapP p fun a b z => ⟨z.1, z.2.keepO k⟩⟩
/-- a road of the model by its name -/
def mget : MoL → Str → Option RdM
  | [], _ => none
  | m :: r, x => if m.1 = x then some m.2 else mget r x
theorem mget_val {H : Hp} (x : Str) : ∀ {kvs : List (Key × V)} {M : MoL}, Paired (MdR H) kvs M → (mget M x = none → valV kvs (Sum.inr x) = none) ∧ ∀ r, mget M x = some r → ∃ v, valV kvs (Sum.inr x) = some v ∧ RmAt H v r
  | _, _, .nil => ⟨fun _ => rfl, fun _ h => by cases h⟩
  | _, _, .cons (a := kv) (b := m) h t => by
    obtain ⟨i1, i2⟩ := mget_val x t
    by_cases c : m.1 = x
    · have e : kv.1 = Sum.inr x := h.1.trans (congrArg _ c)
      refine ⟨fun z => ?_, fun r z => ⟨kv.2, valV_pos e, ?_⟩⟩
      · unfold mget at z
        rw [if_pos c] at z
        cases z
      · unfold mget at z
        rw [if_pos c] at z
        cases z
        exact h.2
    · have e : ¬ kv.1 = Sum.inr x := fun z => c (Sum.inr.inj (h.1.symm.trans z))
      unfold mget
      rw [if_neg c, valV_neg e]
      exact ⟨i1, i2⟩
/-- what is due of a new name -/
def roomP (cap : Int) (M : MoL) (x : Str) : Str × V := if goodN x = true then (if (mget M x).isSome = true then ("Taken", .str x) else if cap ≤ (M.length : Int) then ("Full", .int cap) else ("", .non)) else ("BadName", .str x)
def spRoom : Sp := fun vs H Q _ => ∃ (md : Addr) (M : MoL) (x : Str) (cap : Int), vs = [.ref md, .str x, .int cap] ∧ MdAt H md M ∧ x.length ≤ 1000 ∧ ∀ (H' : Hp) (t : Addr), Same H H' → H' t = some (.tup [.str (roomP cap M x).1, (roomP cap M x).2]) → Q (.ref t) H'
def noNum (v : V) (lo hi : Int) : Bool := match v with
  | .int i => !decide (lo ≤ i ∧ i ≤ hi)
  | _ => true
def spNoNum : Sp := fun vs H Q _ => ∃ (v : V) (lo hi : Int), vs = [v, .int lo, .int hi] ∧ IB v ∧ Q (.bl (noNum v lo hi)) H
section
variable {P : Program} {w : World} {K : PySem.W.Frag} {mg : Str → Option Value} {base : Heap}
theorem ok_room {f fG : Addr} {fd fdG : FuncData} (D : DefAt K mg "_law_room" s_room P_room f fd) (D_good_name : DefAt K mg "_law_good_name" s_good_name P_good_name fG fdG) (B : Bn mg) : FnOk P w K mg base CX0 2 f fd P_room spRoom := by
  have G_good_name : FnOk P w K mg base CX0 1 fG fdG P_good_name spGoodN := ok_goodN D_good_name B
  refine D.F.ok sc_room (fun vs H Q E h => ?_) (fun cdv A outer s H vs Q E hr h => ?_)
  · obtain ⟨md, M, x, cap, rfl, _⟩ := h
    rfl
  · obtain ⟨md, M, x, cap, rfl, hm, hx, q⟩ := h
    have hu := hu_of hr
    refine ⟨_, (pss_cons (ps_if (pt_not (pt_val (pe_call G_good_name (hr.mono (by omega)) (by rfl) D_good_name.g D_good_name.F.kp D_good_name.b .nil pass0 (pa_cons (pv 1) pa_nil)))) (pss_one (ps_ret (pe_tup (pa_cons pe_str (pa_cons (pv 1) pa_nil))))) pss_nil)
      (pss_cons (ps_if (pt_cmp (pc_din hu (pv 1) (pv 0))) (pss_one (ps_ret (pe_tup (pa_cons pe_str (pa_cons (pv 1) pa_nil))))) pss_nil)
      (pss_one (ps_ret (pe_ifExp (pt_cmpR op_ge (pe_callB call_lenDk (by rfl) B.len (by decide +kernel) (pa_cons (pv 0) pa_nil)) (pv 2) (nomark _)) (pe_tup (pa_cons pe_str (pa_cons (pv 2) pa_nil))) (pe_tup (pa_cons pe_str (pa_cons pe_non pa_nil)))))))), ?_⟩
    have two : 2 ≤ sizeLine := by decide
    unfold roomP at q
    refine ⟨.str x, rfl, x, rfl, hx, fun H1 s1 => ⟨_, rfl, ?_⟩⟩
    cases hg : goodN x with
    | false =>
      rw [hg] at q
      exact iteT ⟨.str x, rfl, two, fun t nt => q _ t (s1.trans (same_upd nt)) upd_same⟩
    | true =>
      rw [hg] at q
      refine iteF ?_
      obtain ⟨kvs, e, p⟩ := hm.keepO (.same s1)
      have lm := p.length
      have mv := mget_val x p
      refine ⟨.str x, rfl, .ref md, rfl, md, _, rfl, DGet.k (k := Sum.inr x) e, _, rfl, ?_⟩
      cases em : mget M x with
      | some r =>
        obtain ⟨v, ev, _⟩ := mv.2 r em
        rw [em] at q
        rw [ev]
        exact iteT ⟨.str x, rfl, two, fun t nt => q _ t (s1.trans (same_upd nt)) upd_same⟩
      | none =>
        rw [em] at q
        rw [mv.1 em]
        refine iteF ⟨.ref md, rfl, md, kvs, rfl, e, .int cap, rfl, _, _, rfl, rfl, _, rfl, ite2 (fun c => ?_) (fun c => ?_)⟩
        · have c : cap ≤ (kvs.length : Int) := of_decide_eq_true c
          refine ⟨.int cap, rfl, two, fun t nt => q _ t (s1.trans (same_upd nt)) ?_⟩
          rw [if_pos rfl, if_neg (by decide), if_pos (by omega)]
          exact upd_same
        · have c : ¬ cap ≤ (kvs.length : Int) := fun z => c (decide_eq_true z)
          refine ⟨two, fun t nt => q _ t (s1.trans (same_upd nt)) ?_⟩
          rw [if_pos rfl, if_neg (by decide), if_neg (by omega)]
          exact upd_same
theorem ok_noNum {f : Addr} {fd : FuncData} (D : DefAt K mg "_law_no_number" s_no_number P_no_number f fd) (B : Bn mg) : FnOk P w K mg base CX0 1 f fd P_no_number spNoNum := by
  refine D.F.ok sc_no_number (fun vs H Q E h => ?_) (fun cdv A outer s H vs Q E hr h => ?_)
  · obtain ⟨v, lo, hi, rfl, _⟩ := h
    rfl
  · obtain ⟨v, lo, hi, rfl, ib, q⟩ := h
    refine ⟨_, (pss_one (ps_ret (pe_or (pe_callB call_isi (by rfl) B.isinstance (by decide +kernel) (pa_cons (pv 0) (pa_cons (pe_bltn (v := .ty "bool") (by rfl) B.bool (by decide +kernel) rfl) pa_nil))) (pe_one (pe_not (pe_chain op_le op_le (pv 1) (pv 0) (pv 2))))))), ?_⟩
    rcases ib with ⟨i, rfl, _⟩ | ⟨b, rfl⟩
    · have q : Q (.bl (!decide (lo ≤ i ∧ i ≤ hi))) H := q
      refine ⟨.int i, rfl, _, _, _, _, false, rfl, ClsV.ty _, TyX.base (TyOf.int _), kit_ty (by decide +kernel), _, rfl, iteF ?_⟩
      refine ⟨.int lo, rfl, .int i, rfl, lo, i, rfl, rfl, _, rfl, ite2 (fun h => ?_) (fun h => ?_)⟩
      · have h : lo ≤ i := of_decide_eq_true h
        refine ⟨.int hi, rfl, i, hi, rfl, rfl, _, rfl, ?_⟩
        rw [show decide (i ≤ hi) = decide (lo ≤ i ∧ i ≤ hi) from decide_eq_decide.mpr ⟨fun z => ⟨h, z⟩, fun z => z.2⟩]
        exact q
      · have h : ¬ lo ≤ i := fun z => h (decide_eq_true z)
        rw [decide_eq_false (fun z : lo ≤ i ∧ i ≤ hi => h z.1)] at q
        exact ⟨false, rfl, q⟩
    · exact ⟨.bl b, rfl, _, _, _, _, true, rfl, ClsV.ty _, TyX.base (TyOf.bl _), kit_ty (by decide +kernel), _, rfl, iteT q⟩
end

/-! ### _law_clip (behind 07p_wide, 41_ends) -/
abbrev N_clip : List Str := ["_law_row", "_law_short", "_law_pairs", "_law_ends_here"]
abbrev P_clip : List Str := ["_law_row", "_law_short"]
theorem sc_clip : FnScope N_clip P_clip (defScope s_clip) := ⟨rfl, rfl, rfl, by decide +kernel, rfl, by decide +kernel, by decide +kernel⟩
def endM (x : M4) : List (Int × Int) := endL x.1 x.2.1 x.2.2.1 x.2.2.2 x.2.2.1.toNat
theorem endM_len {x : M4} : (endM x).length = x.2.2.1.toNat := endL_length _ _ _ _ _
theorem clip_end {n m : Int} {x : M4} (h : Mok n x) : (endM x).filter (below m) = match clipM m x with | some y => endM y | none => [] := by
  obtain ⟨o, p, q, f⟩ := x
  obtain ⟨hf, q1, o0, p0, _, _⟩ := h
  simp only at hf q1 o0 p0
  obtain ⟨k, rfl⟩ := Int.eq_ofNat_of_zero_le (show 0 ≤ q by omega)
  have e := below_is (o := o) (p := p) (f := f) (s := m) (m := k) o0 p0 hf
  show (endL o p (k : Int) f k).filter (below m) = _
  rw [e]
  unfold clipM
  simp only
  by_cases c : clipLo o p (k : Int) f m < clipHi o p (k : Int) f m
  · rw [if_pos c, if_neg (by omega)]
    rfl
  · rw [if_neg c, if_pos (by omega)]
theorem max_below {a b s m : Int} (h1 : m ∈ [a, b]) (h2 : ∀ y ∈ [a, b], y ≤ m) : decide (m < s) = below s (a, b) := by
  refine decide_eq_decide.mpr ?_
  have ha := h2 a List.mem_cons_self
  have hb := h2 b (List.mem_cons_of_mem _ List.mem_cons_self)
  have hm : m = a ∨ m = b := by simpa using h1
  show m < s ↔ a < s ∧ b < s
  omega
theorem Prs.keepT {G G' : Hp} (k : KeepT G G') : ∀ {ps : List Addr} {xs : List (Int × Int)}, Prs G ps xs → Prs G' ps xs
  | _, _, .nil => .nil
  | _, _, .cons h r => .cons (k _ _ h) (Prs.keepT k r)
theorem min_ends {n : Int} {y : M4} (h : Mok n y) {mn : Int} (h1 : mn ∈ (endM y).map (·.2)) (h2 : ∀ z ∈ (endM y).map (·.2), mn ≤ z) : mn = y.2.1 := by
  obtain ⟨o, p, q, f⟩ := y
  obtain ⟨hf, q1, _⟩ := h
  simp only at hf q1
  have at_ : ∀ k : Nat, (k : Int) < q → endQ p q f (k : Int) ∈ (endM (o, p, q, f)).map (·.2) := fun k hk => by
    unfold endM endL
    rw [List.map_map]
    exact List.mem_map.mpr ⟨k, List.mem_range.mpr (by simp only; omega), rfl⟩
  have low : p ≤ mn := by
    unfold endM endL at h1
    rw [List.map_map] at h1
    obtain ⟨k, hk, e⟩ := List.mem_map.mp h1
    have hk := List.mem_range.mp hk
    simp only at hk
    have e : endQ p q f (k : Int) = mn := e
    unfold endQ at e
    rcases hf with rfl | rfl
    · rw [if_neg (by decide)] at e
      omega
    · rw [if_pos rfl] at e
      omega
  have up : mn ≤ p := by
    rcases hf with rfl | rfl
    · have z := h2 _ (at_ 0 (by omega))
      unfold endQ at z
      rw [if_neg (by decide)] at z
      omega
    · have z := h2 _ (at_ (q - 1).toNat (by omega))
      unfold endQ at z
      rw [if_pos rfl] at z
      omega
  show mn = p
  omega
theorem clipM_f {s : Int} {x y : M4} (h : clipM s x = some y) : y.2.2.2 = x.2.2.2 := by
  unfold clipM at h
  split at h
  · cases h
  · cases h
    rfl
theorem endM_first {y : M4} (h : 1 ≤ y.2.2.1) : (endM y)[0]? = some (y.1, endQ y.2.1 y.2.2.1 y.2.2.2 0) := by
  unfold endM endL
  rw [List.getElem?_map, List.getElem?_range (by omega)]
  show some (y.1 + ((0 : Nat) : Int), _) = _
  rw [show y.1 + ((0 : Nat) : Int) = y.1 by omega]
  rfl
def spClipL : Sp := fun vs H Q _ => ∃ (t : Addr) (x : M4) (n s : Int), vs = [.ref t, .int s] ∧ H t = some (t4 x) ∧ Mok n x ∧ 0 ≤ s ∧ x.2.2.1 ≤ 200 ∧
  (clipM s x = none → ∀ H', Same H H' → Q .non H') ∧ ∀ y, clipM s x = some y → ∀ (H' : Hp) (r : Addr), Same H H' → H' r = some (t4 y) → Q (.ref r) H'
section
variable {P : Program} {w : World} {K : PySem.W.Frag} {mg : Str → Option Value} {base : Heap}
theorem ok_clipL {f fE : Addr} {fd fdE : FuncData} (D : DefAt K mg "_law_clip" s_clip P_clip f fd) (D_ends : DefAt K mg "_law_ends" s_ends P_ends fE fdE) (B : Bn mg) : FnOk P w K mg base CX0 2 f fd P_clip spClipL := by
  have G_ends : FnOk P w K mg base CX0 1 fE fdE P_ends spEnds := ok_ends D_ends B
  refine D.F.ok sc_clip (fun vs H Q E h => ?_) (fun cdv A outer s H vs Q E hr h => ?_)
  · obtain ⟨t, x, n, s, rfl, _⟩ := h
    rfl
  · obtain ⟨t, x, n, s0, rfl, et, mok, s00, m50, q1, q2⟩ := h
    have hu := hu_of hr
    refine ⟨_, (C8.pss_cut (ps_setLc (i := 2) (own := [("_law_ends_here", 3)]) (g := gName 3) (by rfl) sc_clip.nd rfl rfl (sw_true rfl rfl rfl (by decide +kernel)) (pi_list (pe_call G_ends (hr.mono (by omega)) (by rfl) D_ends.g D_ends.F.kp D_ends.b .nil pass0 (pa_cons (pv 0) pa_nil))) (blkOk_by (own := [("_law_ends_here", 3)]) (N := N_clip) (sc := defScope s_clip) (by decide +kernel)) (fun _ _ _ _ _ => (pg_name (i := 3) sc_clip.nd rfl (.inl rfl))) (fun _ _ _ _ _ => (pts_one (pt_cmpR op_lt (pe_callB (show CallR _ _ (rMaxT K) from cr_maxT rfl) (by rfl) B.max (by decide +kernel) (pa_cons (pv 3) pa_nil)) (pv 1) (nomark _)))) (fun _ _ _ _ _ => (pv 3)))
      (pss_cons (ps_if (pt_cmpR (op_eqD hr.units) (pv 2) (pe_lst pa_nil) (nomark _)) (pss_one (ps_ret pe_non)) pss_nil)
      (pss_one (ps_ret (pe_tup (pa_cons (pe_ix ix_tup (pe_ix ix_list (pv 2) pe_int (fun _ _ => rfl)) pe_int (fun _ _ => rfl)) (pa_cons (pe_callB (cr_min rfl) (by rfl) B.min (by decide +kernel) (pa_cons (pe_lc (own := [("_law_ends_here", 3)]) (g := gName 3) (by rfl) sc_clip.nd (pi_list (pv 2)) (blkOk_by (own := [("_law_ends_here", 3)]) (N := N_clip) (sc := defScope s_clip) (by decide +kernel)) (fun _ _ _ _ _ => (pg_name (i := 3) sc_clip.nd rfl (.inl rfl))) (fun _ _ _ _ _ => pts_nil) (fun _ _ _ _ _ => (pe_ix (show IxR _ (rIxT K) from ix_tup) (pv 3) pe_int (fun _ _ => rfl)))) pa_nil)) (pa_cons (pe_callB call_len_seq (by rfl) B.len (by decide +kernel) (pa_cons (pv 2) pa_nil)) (pa_cons (pe_ix ix_tup (pv 0) pe_int (fun _ _ => rfl)) pa_nil))))))))), ?_⟩
    have ce := clip_end (m := s0) mok
    have m1 := mok.2.1
    obtain ⟨k, hk⟩ : ∃ k : Nat, x.2.2.1 = (k : Int) := ⟨x.2.2.1.toNat, by omega⟩
    have eE : endL x.1 x.2.1 (k : Int) x.2.2.2 k = endM x := by
      unfold endM
      rw [hk]
      rfl
    refine ⟨fun σ G => ∃ (M : Addr) (ys : List Addr), σ = [some (.ref t), some (.int s0), some (.ref M), none] ∧ Same H G ∧ G M = some (.lst (ys.map V.ref)) ∧ Prs G ys ((endM x).filter (below s0)), ?_, ?_⟩
    · refine ⟨.ref t, rfl, t, x.1, x.2.1, x.2.2.2, k, rfl, by rw [et, ← hk], by omega, fun G2 r ps s2 nr er pr => ?_⟩
      rw [eE] at pr
      have lps := pr.length
      have le : (endM x).length ≤ 200 := by rw [endM_len]; omega
      refine ⟨r, rfl, ⟨_, SqL.of er⟩, fun M nM => lc_list (K := K) (a := r) (xs := ps.map V.ref) (fun j G' => ∃ ys : List Addr, Same G2 G' ∧ G' M = some (.lst (ys.map V.ref)) ∧ Prs G' ys (((endM x).take j).filter (below s0))) ⟨[], same_upd nM, upd_same, .nil⟩ (fun j G' _ ⟨_, sm, _⟩ => SqL.of (sm _ _ er)) ?_ ?_⟩
      · rintro j z G' hx ⟨ys, sm5, eM, py⟩
        rw [List.getElem?_map] at hx
        obtain ⟨u, hu', rfl⟩ := Option.map_eq_some_iff.mp hx
        have hj : j < ps.length := (List.getElem?_eq_some_iff.mp hu').1
        have ej := List.getElem?_eq_getElem (show j < (endM x).length by omega)
        generalize (endM x)[j]'_ = pq at ej
        obtain ⟨u', hu2, eu⟩ := pr.get j pq ej
        rw [hu'] at hu2
        cases hu2
        have lpy := py.length
        have lfl := List.length_filter_le (below s0) ((endM x).take j)
        rw [List.length_take] at lfl
        refine ⟨rfl, .ref u, rfl, u, [pq.1, pq.2], rfl, SqT.of (sm5 _ _ eu), Nat.zero_lt_succ _, fun mx h1 h2 => ⟨.int s0, rfl, mx, s0, rfl, rfl, _, rfl, ?_⟩⟩
        have eb := max_below h1 h2 (s := s0)
        have stp : ((endM x).take (j + 1)).filter (below s0) = ((endM x).take j).filter (below s0) ++ (if below s0 pq = true then [pq] else []) := by
          rw [List.take_add_one, ej, List.filter_append]
          congr 1
          show List.filter (below s0) [pq] = _
          rw [List.filter_cons, List.filter_nil]
        refine ite2 (fun hb => ?_) (fun hb => ?_)
        · have hb : below s0 pq = true := eb.symm.trans hb
          rw [if_pos hb] at stp
          have kM : Keep M G' (upd G' M (.lst (ys.map V.ref ++ [.ref u]))) := Keep.upd
          have kt : KeepT G' (upd G' M (.lst (ys.map V.ref ++ [.ref u]))) := fun b xs hb => kM.of hb (ne_of hb eM (fun z => by cases z))
          refine ⟨.ref u, rfl, _, eM, sz_lt (by rw [List.length_map]; omega), ys ++ [u], fun b o hb => kM.of (sm5 _ _ hb) (ne_of_none hb nM), by rw [upd_same, List.map_append]; rfl, ?_⟩
          rw [stp]
          exact Prs.snoc (py.keepT kt) (kt _ _ (sm5 _ _ eu))
        · have hb : ¬ below s0 pq = true := fun z => hb (eb.trans z)
          rw [if_neg hb, List.append_nil] at stp
          refine ⟨ys, sm5, eM, ?_⟩
          rw [stp]
          exact py
      · rintro G5 ⟨ys, sm5, eM, py⟩
        rw [List.length_map, lps, List.take_length] at py
        exact ⟨M, ys, rfl, s2.trans sm5, eM, py⟩
    rintro σ G ⟨M, ys, rfl, sG, eM, py⟩
    refine ⟨.ref M, rfl, Nat.zero_le _, fun L nL => ?_⟩
    have s1 := same_upd (H := G) (o := .lst []) nL
    have eL : (upd G L (.lst [])) L = some (.lst []) := upd_same
    generalize upd G L (.lst []) = G1 at s1 eL
    have eM1 := s1 _ _ eM
    have py1 := Paired.same s1 py
    have sH1 := sG.trans s1
    refine ⟨.list (((endM x).filter (below s0)).map pd), .list [], .lst (SqL.of eM1) py1.dp, .lst (SqL.of eL) .nil, shaped_pairs _, rfl, _, rfl, ?_⟩
    rw [eqv_nil]
    cases ec : clipM s0 x with
    | none =>
      rw [ec] at ce
      rw [ce]
      exact iteT (q1 ec G1 sH1)
    | some y =>
      rw [ec] at ce
      have ce : (endM x).filter (below s0) = endM y := ce
      have yok := clipM_ok mok s00 ec
      have y1 := yok.2.1
      have e0 := endM_first y1
      rw [ce] at py1 ⊢
      have ly := py1.length
      have le : (endM y).length ≤ (endM x).length := by rw [← ce]; exact List.length_filter_le _ _
      rw [endM_len, endM_len] at le
      have ly2 : (endM y).length = y.2.2.1.toNat := endM_len
      rw [show (endM y).isEmpty = false by cases h : endM y with | nil => rw [h] at e0; cases e0 | cons _ _ => rfl]
      refine iteF ?_
      obtain ⟨u0, hu0, eu0⟩ := py1.get 0 _ e0
      refine ⟨.ref M, rfl, M, _, 0, .ref u0, rfl, rfl, SqL.of eM1, atI_nat (j := 0) (by rw [List.getElem?_map, hu0]; rfl), u0, _, 0, .int y.1, rfl, rfl, SqT.of eu0, atI_nat (j := 0) rfl, ?_⟩
      refine ⟨.ref M, rfl, M, rfl, ⟨_, SqL.of eM1⟩, fun D nD => lc_list (K := K) (a := M) (xs := ys.map V.ref) (fun j G' => Same G1 G' ∧ G' D = some (.lst ((((endM y).take j).map (·.2)).map V.int))) ⟨same_upd nD, upd_same⟩ (fun j G' _ ⟨sm, _⟩ => SqL.of (sm _ _ eM1)) ?_ ?_⟩
      · rintro j z G' hx ⟨sm, eD⟩
        rw [List.getElem?_map] at hx
        obtain ⟨u, hu', rfl⟩ := Option.map_eq_some_iff.mp hx
        have hj : j < ys.length := (List.getElem?_eq_some_iff.mp hu').1
        have ej := List.getElem?_eq_getElem (show j < (endM y).length by omega)
        generalize (endM y)[j]'_ = pq at ej
        obtain ⟨u', hu2, eu⟩ := py1.get j pq ej
        rw [hu'] at hu2
        cases hu2
        refine ⟨rfl, .ref u, rfl, u, _, 1, .int pq.2, rfl, rfl, SqT.of (sm _ _ eu), atI_nat (j := 1) rfl, _, eD, sz_lt (by rw [List.length_map, List.length_map, List.length_take]; omega), fun b o hb => ?_, ?_⟩
        · rw [upd_ne (ne_of_none hb nD)]
          exact sm _ _ hb
        · rw [upd_same, List.take_add_one, ej, List.map_append, List.map_append]
          rfl
      · rintro G2 ⟨sm, eD⟩
        rw [List.length_map, ly, List.take_length] at eD
        refine ⟨D, _, rfl, SqL.of eD, by rw [List.length_map]; omega, fun mn h1 h2 => ?_⟩
        have emn := min_ends yok h1 h2
        subst emn
        refine ⟨.ref M, rfl, M, _, rfl, .inl (SqL.of (sm _ _ eM1)), .ref t, rfl, t, _, 3, .int x.2.2.2, rfl, rfl, SqT.of (sm _ _ (sH1 _ _ et)), atI_nat (j := 3) rfl, by show 4 ≤ sizeLine; decide, fun r nr => ?_⟩
        refine q2 y ec _ r ((sH1.trans sm).trans (same_upd nr)) ?_
        rw [upd_same, List.length_map, ly, ly2, ← clipM_f ec, Int.toNat_of_nonneg (by omega)]
        rfl
end

/-! ### _law_taken_behind -/
abbrev N_taken_behind : List Str := ["_law_road", "_law_other", "_law_length", "_law_held", "_law_rows", "_law_last", "_law_at", "_law_one", "_law_two", "_law_many", "_law_flips"]
abbrev P_taken_behind : List Str := ["_law_road", "_law_other"]
theorem sc_taken_behind : FnScope N_taken_behind P_taken_behind (defScope s_taken_behind) := ⟨rfl, rfl, rfl, by decide +kernel, rfl, by decide +kernel, by decide +kernel⟩
theorem nxt_is {S : StL} {M : Int} (h1 : M = 0 ∨ M ∈ S.map (·.1)) (h0 : 0 ≤ M) (h2 : ∀ y ∈ S.map (·.1), y ≤ M) : M + 1 = nxt S := by
  unfold nxt
  rw [← max_is h0 h1 h2]
/-- what is due of one road taken behind another -/
def tbP (r r2 : RdM) : (Str × V) × RdM := if 1000000000000000000 < r.1 + r2.1 then (("BadNumber", .int (r.1 + r2.1)), r) else if 24 < r.2.length + r2.2.length then (("Full", .int 24), r) else (("", .non), (r.1 + r2.1, bhd r.1 r.2 r2.2))
/-- an answer of the law's: what is due, and a road -/
def DueR (H : Hp) (t : Addr) (p : (Str × V) × RdM) : Prop := ∃ (u : Addr) (v : V), H t = some (.tup [.ref u, v]) ∧ H u = some (.tup [.str p.1.1, p.1.2]) ∧ RmAt H v p.2
def spTakenB : Sp := fun vs H Q _ => ∃ (v v2 : V) (r r2 : RdM), vs = [v, v2] ∧ RmAt H v r ∧ RmAt H v2 r2 ∧ RoW r.1 r.2 ∧ RoW r2.1 r2.2 ∧ ∀ (H' : Hp) (t : Addr), Same H H' → DueR H' t (tbP r r2) → Q (.ref t) H'
section
variable {P : Program} {w : World} {K : PySem.W.Frag} {mg : Str → Option Value} {base : Heap}
theorem ok_takenB {f : Addr} {fd : FuncData} (D : DefAt K mg "_law_taken_behind" s_taken_behind P_taken_behind f fd) (B : Bn mg) : FnOk P w K mg base CX0 1 f fd P_taken_behind spTakenB := by
  refine D.F.ok sc_taken_behind (fun vs H Q E h => ?_) (fun cdv A outer s H vs Q E hr h => ?_)
  · obtain ⟨v, v2, r, r2, rfl, _⟩ := h
    rfl
  · obtain ⟨v, v2, r, r2, rfl, h1, h2, w1, w2, q⟩ := h
    have hu := hu_of hr
    refine ⟨_, (pss_cons (ps_asg (pv 0) (pg_tup (by rfl) (pgs_cons (pg_name (i := 2) sc_taken_behind.nd rfl (.inl rfl)) (pgs_cons (pg_name (i := 3) sc_taken_behind.nd rfl (.inl rfl)) pgs_nil))))
      (C8.pss_cut (ps_if (pt_cmpR op_gt (pe_op op_add (pv 2) (pe_ix ix_tup (pv 1) pe_int (fun _ _ => rfl))) (pe_op op_pow pe_int pe_int) (nomark _)) (pss_one (ps_ret (pe_tup (pa_cons (pe_tup (pa_cons pe_str (pa_cons (pe_op op_add (pv 2) (pe_ix ix_tup (pv 1) pe_int (fun _ _ => rfl))) pa_nil))) (pa_cons (pv 0) pa_nil))))) pss_nil)
      (C8.pss_cut (ps_if (pt_cmpR op_gt (pe_op op_add (pe_callB call_lenDk (by rfl) B.len (by decide +kernel) (pa_cons (pv 3) pa_nil)) (pe_callB call_lenDk (by rfl) B.len (by decide +kernel) (pa_cons (pe_ix ix_tup (pv 1) pe_int (fun _ _ => rfl)) pa_nil))) pe_int (nomark _)) (pss_one (ps_ret (pe_tup (pa_cons (pe_tup (pa_cons pe_str (pa_cons pe_int pa_nil))) (pa_cons (pv 0) pa_nil))))) pss_nil)
      (C8.pss_cut (ps_par (i := 4) (j := 5) (by rfl) sc_taken_behind.nd rfl rfl (by decide) rfl rfl (pa_cons (pe_callTy call_dictD (by rfl) B.dict (by decide +kernel) (pa_cons (pv 3) pa_nil)) (pa_cons (pe_callB (cr_max rfl) (by rfl) B.max (by decide +kernel) (pa_cons (pe_op op_cat (pe_lst (pa_cons pe_int pa_nil)) (pe_callB (call_sortedDI rfl) (by rfl) B.sorted (by decide +kernel) (pa_cons (pv 3) pa_nil))) pa_nil)) pa_nil)) (by rfl))
      (pss_cons (ps_for PassesOwn.never rfl (pi_list (pe_callB (call_sortedDI rfl) (by rfl) B.sorted (by decide +kernel) (pa_cons (pe_ix ix_tup (pv 1) pe_int (fun _ _ => rfl)) pa_nil))) (pg_name (i := 6) sc_taken_behind.nd rfl (.inl rfl)) (pss_cons (ps_set (i := 5) sc_taken_behind.nd rfl (.inl rfl) (pe_op op_add (pv 5) pe_int))
      (pss_cons (ps_asg (pe_dget hu (pe_ix ix_tup (pv 1) pe_int (fun _ _ => rfl)) (pv 6) (fun _ _ => rfl)) (pg_tup (by rfl) (pgs_cons (pg_name (i := 7) sc_taken_behind.nd rfl (.inl rfl)) (pgs_cons (pg_name (i := 8) sc_taken_behind.nd rfl (.inl rfl)) (pgs_cons (pg_name (i := 9) sc_taken_behind.nd rfl (.inl rfl)) (pgs_cons (pg_name (i := 10) sc_taken_behind.nd rfl (.inl rfl)) pgs_nil))))))
      (pss_one (ps_dput hu (pv 4) (pv 5) (pe_tup (pa_cons (pe_op op_add (pv 7) (pv 2)) (pa_cons (pe_op op_add (pv 8) (pv 2)) (pa_cons (pv 9) (pa_cons (pv 10) pa_nil))))) rfl)))))
      (pss_one (ps_ret (pe_tup (pa_cons (pe_tup (pa_cons pe_str (pa_cons pe_non pa_nil))) (pa_cons (pe_tup (pa_cons (pe_op op_add (pv 2) (pe_ix ix_tup (pv 1) pe_int (fun _ _ => rfl))) (pa_cons (pv 4) pa_nil))) pa_nil)))))))))), ?_⟩
    have two : 2 ≤ sizeLine := by decide
    obtain ⟨t, hd, kvs, rfl, et, eh, sd⟩ := id h1
    obtain ⟨t2, hd2, kvs2, rfl, et2, eh2, sd2⟩ := id h2
    have lk := sd.length
    have lk2 := sd2.length
    have l1 := w1.len
    have l2 := w2.len
    unfold tbP at q
    refine ⟨.ref t, rfl, t, _, rfl, SqT.of et, rfl, .int r.1, _, rfl, .ref hd, _, rfl, rfl, ?_⟩
    refine ⟨fun σ G => σ = [some (.ref t), some (.ref t2), some (.int r.1), some (.ref hd), none, none, none, none, none, none, none] ∧ G = H ∧ ¬ 1000000000000000000 < r.1 + r2.1, ?_, ?_⟩
    · refine ⟨.int r.1, rfl, .ref t2, rfl, t2, _, 0, .int r2.1, rfl, rfl, SqT.of et2, atI_nat (j := 0) rfl, r.1, r2.1, rfl, rfl, 10, 18, rfl, rfl, ⟨by decide, by decide, by decide⟩, _, _, rfl, rfl, _, rfl, ite2 (fun c => ?_) (fun c => ⟨rfl, rfl, fun z => c (decide_eq_true z)⟩)⟩
      have c : 1000000000000000000 < r.1 + r2.1 := of_decide_eq_true c
      rw [if_pos c] at q
      refine ⟨.int r.1, rfl, .ref t2, rfl, t2, _, 0, .int r2.1, rfl, rfl, SqT.of et2, atI_nat (j := 0) rfl, r.1, r2.1, rfl, rfl, two, fun u nu => ⟨.ref t, rfl, two, fun a na => ?_⟩⟩
      have s1 := same_upd (H := H) (o := .tup [.str "BadNumber", .int (r.1 + r2.1)]) nu
      have e1 : (upd H u (.tup [.str "BadNumber", .int (r.1 + r2.1)])) u = some (.tup [.str "BadNumber", .int (r.1 + r2.1)]) := upd_same
      generalize upd H u (.tup [.str "BadNumber", .int (r.1 + r2.1)]) = G1 at s1 e1 na ⊢
      have s2 := same_upd (H := G1) (o := .tup [.ref u, .ref t]) na
      exact q _ a (s1.trans s2) ⟨u, .ref t, upd_same, s2 _ _ e1, h1.keepO (.same (s1.trans s2))⟩
    rintro σ G ⟨rfl, rfl, c1⟩
    rw [if_neg c1] at q
    refine ⟨fun σ G' => σ = [some (.ref t), some (.ref t2), some (.int r.1), some (.ref hd), none, none, none, none, none, none, none] ∧ G' = G ∧ ¬ 24 < r.2.length + r2.2.length, ?_, ?_⟩
    · refine ⟨.ref hd, rfl, hd, kvs, rfl, eh, .ref t2, rfl, t2, _, 1, .ref hd2, rfl, rfl, SqT.of et2, atI_nat (j := 1) rfl, hd2, kvs2, rfl, eh2, _, _, rfl, rfl, _, _, rfl, rfl, _, rfl, ite2 (fun c => ?_) (fun c => ⟨rfl, rfl, fun z => c (decide_eq_true (show (24 : Int) < (kvs.length : Int) + (kvs2.length : Int) by omega))⟩)⟩
      have c : (24 : Int) < (kvs.length : Int) + (kvs2.length : Int) := of_decide_eq_true c
      rw [if_pos (by omega)] at q
      refine ⟨two, fun u nu => ⟨.ref t, rfl, two, fun a na => ?_⟩⟩
      have s1 := same_upd (H := G) (o := .tup [.str "Full", .int 24]) nu
      have e1 : (upd G u (.tup [.str "Full", .int 24])) u = some (.tup [.str "Full", .int 24]) := upd_same
      generalize upd G u (.tup [.str "Full", .int 24]) = G1 at s1 e1 na ⊢
      have s2 := same_upd (H := G1) (o := .tup [.ref u, .ref t]) na
      exact q _ a (s1.trans s2) ⟨u, .ref t, upd_same, s2 _ _ e1, h1.keepO (.same (s1.trans s2))⟩
    rintro σ G' ⟨rfl, rfl, c2⟩
    rw [if_neg c2] at q
    -- the rows anew
    refine ⟨fun σ G => ∃ R : Addr, σ = [some (.ref t), some (.ref t2), some (.int r.1), some (.ref hd), some (.ref R), some (.int (nxt r.2 - 1)), none, none, none, none, none] ∧ Same G' G ∧ G' R = none ∧ G R = some (.dK kvs), ?_, ?_⟩
    · refine ⟨.ref hd, rfl, hd, kvs, rfl, .inl eh, fun R nR => ?_⟩
      have s1 := same_upd (H := G') (o := .dK kvs) nR
      have eR : (upd G' R (.dK kvs)) R = some (.dK kvs) := upd_same
      generalize upd G' R (.dK kvs) = G1 at s1 eR
      refine ⟨by show 1 ≤ sizeLine; decide, fun L nL => ?_⟩
      have s2 := same_upd (H := G1) (o := .lst [.int 0]) nL
      have eL : (upd G1 L (.lst [.int 0])) L = some (.lst [.int 0]) := upd_same
      generalize upd G1 L (.lst [.int 0]) = G2 at s2 eL
      refine ⟨.ref hd, rfl, hd, kvs, r.2.map (·.1), rfl, .inl (s2 _ _ (s1 _ _ eh)), sd.keys, by rw [List.length_map]; omega, fun ys p pm pw np => ?_⟩
      have s3 := same_upd (H := G2) (o := .lst (ys.map V.int)) np
      have ep : (upd G2 p (.lst (ys.map V.int))) p = some (.lst (ys.map V.int)) := upd_same
      generalize upd G2 p (.lst (ys.map V.int)) = G3 at s3 ep
      have ly : ys.length = r.2.length := by rw [pm.length_eq, List.length_map]
      refine ⟨L, p, _, _, rfl, rfl, s3 _ _ eL, ep, by rw [List.length_map]; exact Nat.le_trans (show 1 + ys.length ≤ 63 by omega) (by decide), fun M nM => ?_⟩
      have s4 := same_upd (H := G3) (o := .lst ([.int 0] ++ ys.map V.int)) nM
      have eM : (upd G3 M (.lst ([.int 0] ++ ys.map V.int))) M = some (.lst ((0 :: ys).map V.int)) := upd_same
      generalize upd G3 M (.lst ([.int 0] ++ ys.map V.int)) = G4 at s4 eM
      refine ⟨M, 0 :: ys, rfl, SqL.of eM, Nat.zero_lt_succ _, fun mx hmx lmx => ?_⟩
      have emx : mx + 1 = nxt r.2 := nxt_is (by
        rcases List.mem_cons.mp hmx with z | z
        · exact .inl z
        · exact .inr (pm.mem_iff.mp z)) (lmx 0 List.mem_cons_self) fun y hy => lmx y (List.mem_cons_of_mem _ (pm.mem_iff.mpr hy))
      refine ⟨.ref R, .int mx, rfl, R, ?_, s1.trans (s2.trans (s3.trans s4)), nR, s4 _ _ (s3 _ _ (s2 _ _ eR))⟩
      rw [show nxt r.2 - 1 = mx by omega]
      rfl
    rintro σ G ⟨R, rfl, sG, nR, eR⟩
    have et2G := sG _ _ et2
    have eh2G := sG _ _ eh2
    refine ⟨.ref t2, rfl, t2, _, 1, .ref hd2, rfl, rfl, SqT.of et2G, atI_nat (j := 1) rfl, hd2, kvs2, r2.2.map (·.1), rfl, .inl eh2G, sd2.keys, by rw [List.length_map]; omega, fun ys p pm pw np => ?_⟩
    have ey := perm_sorted pm pw w2.up
    subst ey
    have s1 := same_upd (H := G) (o := .lst ((r2.2.map (·.1)).map V.int)) np
    have ep : (upd G p (.lst ((r2.2.map (·.1)).map V.int))) p = some (.lst ((r2.2.map (·.1)).map V.int)) := upd_same
    generalize upd G p (.lst ((r2.2.map (·.1)).map V.int)) = G1 at s1 ep
    have s01 := sG.trans s1
    refine ⟨p, rfl, ⟨_, SqL.of ep⟩, for_list (K := K) (a := p) (xs := (r2.2.map (·.1)).map V.int) (fun i σ H2 => ∃ (y6 y7 y8 y9 y10 : Option V) (ks : List (Key × V)), σ = [some (.ref t), some (.ref t2), some (.int r.1), some (.ref hd), some (.ref R), some (.int (nxt r.2 - 1 + (i : Int))), y6, y7, y8, y9, y10] ∧ Same G' H2 ∧ H2 p = some (.lst ((r2.2.map (·.1)).map V.int)) ∧ H2 R = some (.dK ks) ∧ Std H2 ks (r.2 ++ bhS (nxt r.2) r.1 (r2.2.take i)))
      ⟨none, none, none, none, none, kvs, by rw [show nxt r.2 - 1 + ((0 : Nat) : Int) = nxt r.2 - 1 by omega], s01, ep, s1 _ _ eR, by rw [List.take_zero]; show Std G1 kvs (r.2 ++ []); rw [List.append_nil]; exact sd.keep fun b xs hb => s01 _ _ hb⟩ (fun i σ H2 _ ⟨_, _, _, _, _, _, _, _, e, _⟩ => SqL.of e) ?_ ?_⟩
    · rintro i y σ H2 hy ⟨y6, y7, y8, y9, y10, ks, rfl, sm, ep, eR, s3⟩
      rw [List.map_map, List.getElem?_map] at hy
      obtain ⟨z, hz, rfl⟩ := Option.map_eq_some_iff.mp hy
      have hi : i < r2.2.length := (List.getElem?_eq_some_iff.mp hz).1
      have eh2' := sm _ _ eh2
      obtain ⟨tx, gt, _, htx⟩ := (sd2.keep (H' := H2) (fun b xs hb => sm _ _ hb)).dget eh2' (sget_mem w2.up (List.mem_of_getElem? hz))
      have ltk : (r2.2.take i).length = i := by rw [List.length_take]; omega
      refine ⟨.int (nxt r.2 - 1 + (i : Int)), rfl, _, 1, rfl, rfl, .ref t2, rfl, t2, _, 1, .ref hd2, rfl, rfl, SqT.of (sm _ _ et2), atI_nat (j := 1) rfl, .int z.1, rfl, hd2, .ref tx, rfl, gt, tx, _, rfl, SqT.of htx, rfl, .int z.2.1, _, rfl, .int z.2.2.1, _, rfl, .int z.2.2.2.1, _, rfl, .int z.2.2.2.2, _, rfl, rfl, ?_⟩
      refine ⟨.int z.2.1, rfl, .int r.1, rfl, _, _, rfl, rfl, .int z.2.2.1, rfl, .int r.1, rfl, _, _, rfl, rfl, .int z.2.2.2.1, rfl, .int z.2.2.2.2, rfl, by show 4 ≤ sizeLine; decide, fun u nu => ?_⟩
      have s5 := same_upd (H := H2) (o := .tup [.int (z.2.1 + r.1), .int (z.2.2.1 + r.1), .int z.2.2.2.1, .int z.2.2.2.2]) nu
      have eu : (upd H2 u (.tup [.int (z.2.1 + r.1), .int (z.2.2.1 + r.1), .int z.2.2.2.1, .int z.2.2.2.2])) u = some (t4 (mvX r.1 z.2)) := upd_same
      generalize upd H2 u (.tup [.int (z.2.1 + r.1), .int (z.2.2.1 + r.1), .int z.2.2.2.1, .int z.2.2.2.2]) = H3 at s5 eu
      have eR3 := s5 _ _ eR
      have s33 := s3.keep (H' := H3) (fun b xs hb => s5 _ _ hb)
      have lks := s3.length
      rw [List.length_append, bhS_len, ltk] at lks
      refine ⟨.ref R, rfl, .int (nxt r.2 - 1 + (i : Int) + 1), rfl, R, _, rfl, DPut.k (k := Sum.inl (nxt r.2 - 1 + (i : Int) + 1)) eR3 (sz_lt (by omega)), ?_⟩
      have ek : nxt r.2 - 1 + (i : Int) + 1 = nxt r.2 + (i : Int) := by omega
      rw [ek]
      have vn : valV ks (Sum.inl (nxt r.2 + (i : Int))) = none := (s33.get _).1 (sget_not fun s hs => by
        rcases List.mem_append.mp hs with h | h
        · have := nxt_gt h
          omega
        · have := (bhS_in _ _ _ _ h).2.1
          rw [ltk] at this
          omega)
      rw [putK_new _ vn]
      have kR : Keep R H3 (upd H3 R (.dK (ks ++ [(Sum.inl (nxt r.2 + (i : Int)), .ref u)]))) := Keep.upd
      refine ⟨_, _, _, _, _, _, by rw [show nxt r.2 - 1 + ((i + 1 : Nat) : Int) = nxt r.2 - 1 + (i : Int) + 1 by omega]; rfl, fun b o hb => kR.of (s5 _ _ (sm _ _ hb)) (ne_of_none hb nR), kR.of (s5 _ _ ep) (ne_of (s5 _ _ ep) eR3 (fun z => by cases z)), upd_same, ?_⟩
      rw [List.take_add_one, hz, show (some z).toList = [z] from rfl, bhS_snoc, ltk, ← List.append_assoc]
      have kt : KeepT H3 (upd H3 R (.dK (ks ++ [(Sum.inl (nxt r.2 + (i : Int)), .ref u)]))) := fun b xs hb => kR.of hb (ne_of hb eR3 (fun z => by cases z))
      exact Std.snoc (kv := (Sum.inl (nxt r.2 + (i : Int)), .ref u)) (s := (nxt r.2 + (i : Int), mvX r.1 z.2)) ⟨rfl, u, rfl, kt _ _ eu⟩ (s33.keep kt)
    · rintro σ H2 ⟨y6, y7, y8, y9, y10, ks, rfl, sm, ep, eR, s3⟩
      rw [List.length_map, List.length_map, List.take_length] at s3
      refine ⟨two, fun u nu => ?_⟩
      have s5 := same_upd (H := H2) (o := .tup [.str "", .non]) nu
      have eu : (upd H2 u (.tup [.str "", .non])) u = some (.tup [.str "", .non]) := upd_same
      generalize upd H2 u (.tup [.str "", .non]) = H3 at s5 eu
      refine ⟨.int r.1, rfl, .ref t2, rfl, t2, _, 0, .int r2.1, rfl, rfl, SqT.of (s5 _ _ (sm _ _ et2)), atI_nat (j := 0) rfl, r.1, r2.1, rfl, rfl, .ref R, rfl, two, fun a na => ?_⟩
      have s6 := same_upd (H := H3) (o := .tup [.int (r.1 + r2.1), .ref R]) na
      have ea : (upd H3 a (.tup [.int (r.1 + r2.1), .ref R])) a = some (.tup [.int (r.1 + r2.1), .ref R]) := upd_same
      generalize upd H3 a (.tup [.int (r.1 + r2.1), .ref R]) = H4 at s6 ea
      refine ⟨two, fun b nb => ?_⟩
      have s7 := same_upd (H := H4) (o := .tup [.ref u, .ref a]) nb
      have s57 := s5.trans (s6.trans s7)
      exact q _ b (sm.trans s57) ⟨u, .ref a, upd_same, s7 _ _ (s6 _ _ eu), a, R, ks, rfl, s7 _ _ ea, s57 _ _ eR, s3.keep fun b xs hb => s57 _ _ hb⟩
end

/-! ### _law_road_deed -/
abbrev N_road_deed : List Str := ["_law_model", "_law_word", "_law_road", "_law_rest", "_law_length", "_law_held", "_law_rows", "_law_one", "_law_other", "_law_many", "_law_flips", "_law_good", "_law_number", "_law_left", "_law_wide", "_law_k", "_law_at"]
abbrev P_road_deed : List Str := ["_law_model", "_law_word", "_law_road", "_law_rest"]
theorem sc_road_deed : FnScope N_road_deed P_road_deed (defScope s_road_deed) := ⟨rfl, rfl, rfl, by decide +kernel, rfl, by decide +kernel, by decide +kernel⟩
inductive RDeed
  | mate (q : Q4)
  | strike (v : V)
  | grow (v : V)
  | trim (v : V)
  | swell (v : V)
def RDeed.word : RDeed → Str
  | .mate _ => "mate"
  | .strike _ => "strike"
  | .grow _ => "grow"
  | .trim _ => "trim"
  | .swell _ => "swell"
def RDeed.rest : RDeed → List V
  | .mate q => q4 q
  | .strike v => [v]
  | .grow v => [v]
  | .trim v => [v]
  | .swell v => [v]
def numV : V → Int
  | .int i => i
  | _ => 0
/-- the mating told by such values -/
def qM (q : Q4) : M4 := (numV q.1, numV q.2.1, numV q.2.2.1, numV q.2.2.2)
/-- what the law says of a deed on a road; a: where its rest stands -/
def rdP (a : Addr) (k : RDeed) (r : RdM) : (Str × V) × RdM := match k with
  | .mate q => if isM r.1 q = true then (if 23 < r.2.length then (("Full", .int 24), r) else (("", .non), (r.1, r.2 ++ [(nxt r.2, qM q)]))) else (("BadMating", .ref a), r)
  | .strike v => if (match v with | .int i => (sget r.2 i).isSome | _ => false) = true then (("", .non), (r.1, sdrop r.2 (numV v))) else (("NoMating", v), r)
  | .grow v => if noNum v 0 (1000000000000000000 - r.1) = true then (("BadNumber", v), r) else (("", .non), (r.1 + numV v, r.2))
  | .trim v => if noNum v 0 r.1 = true then (("BadNumber", v), r) else (("", .non), (numV v, trS (numV v) r.2))
  | .swell v => if (match v with | .int i => decide (1 ≤ i ∧ r.1 * i ≤ 1000000000000000000) | _ => false) = true then (("", .non), (r.1 * numV v, swS (numV v) r.2)) else (("BadNumber", v), r)
theorem isM_ints {n : Int} {q : Q4} (h : isM n q = true) : ∃ x : M4, q = (.int x.1, .int x.2.1, .int x.2.2.1, .int x.2.2.2) ∧ Mok n x := by
  obtain ⟨o, p, m, f⟩ := q
  cases o with
  | int o => cases p with
    | int p => cases m with
      | int m => cases f with
        | int f =>
          have z : (f = 0 ∨ f = 1) ∧ 1 ≤ m ∧ 0 ≤ o ∧ 0 ≤ p ∧ o + m ≤ n ∧ p + m ≤ n := of_decide_eq_true h
          exact ⟨(o, p, m, f), rfl, z⟩
        | _ => exact absurd h (by intro z; cases z)
      | _ => exact absurd h (by intro z; cases z)
    | _ => exact absurd h (by intro z; cases z)
  | _ => exact absurd h (by intro z; cases z)
theorem mergeK_new : ∀ {kvs acc : List (Key × V)} {ks : List Int}, kvs.map (·.1) = ks.map Sum.inl → ks.Pairwise (· < ·) → (∀ kv ∈ acc, ∃ i : Int, kv.1 = Sum.inl i ∧ ∀ k ∈ ks, i < k) → mergeK acc kvs = acc ++ kvs
  | [], acc, _, _, _, _ => (List.append_nil acc).symm
  | (k, v) :: r, acc, [], e, _, _ => by cases e
  | (k, v) :: r, acc, j :: ks, e, up, ha => by
    rw [List.map_cons, List.map_cons] at e
    obtain ⟨e1, e2⟩ := List.cons.inj e
    obtain ⟨u1, u2⟩ := List.pairwise_cons.mp up
    have no : valV acc k = none := by
      have key : ∀ l : List (Key × V), (∀ kv ∈ l, kv.1 ≠ k) → valV l k = none := fun l => by
        induction l with
        | nil => intro _; rfl
        | cons x t ih =>
          intro hx
          rw [valV_neg (hx x List.mem_cons_self)]
          exact ih fun y hy => hx y (List.mem_cons_of_mem _ hy)
      refine key acc fun kv hkv z => ?_
      obtain ⟨i, e3, lt⟩ := ha kv hkv
      have e1 : k = Sum.inl j := e1
      rw [e3, e1] at z
      have := Sum.inl.inj z
      have := lt j List.mem_cons_self
      omega
    show mergeK (putK acc k v) r = _
    rw [putK_new v no, mergeK_new e2 u2 (fun kv hkv => ?_), List.append_assoc]
    · rfl
    · rcases List.mem_append.mp hkv with h | h
      · obtain ⟨i, e3, lt⟩ := ha kv h
        exact ⟨i, e3, fun y hy => lt y (List.mem_cons_of_mem _ hy)⟩
      · rw [List.mem_singleton.mp h]
        exact ⟨j, e1, u1⟩
theorem sc_sw (i : Int) (x : M4) : scX i x = swX i x := by
  unfold scX swX
  rw [Int.mul_comm x.1, Int.mul_comm x.2.1, Int.mul_comm x.2.2.1]
theorem Paired.more {α β : Type} {F : α → β → Prop} {a : α} {b : β} (h' : F a b) : ∀ {as : List α} {bs : List β}, Paired F as bs → Paired F (as ++ [a]) (bs ++ [b])
  | _, _, .nil => .cons h' .nil
  | _, _, .cons h r => .cons h (Paired.more h' r)
/-- what is left of a mating behind a trim -/
def LfR (i : Int) (H : Hp) (kv : Key × V) (s : Int × M4) : Prop := kv.1 = Sum.inl s.1 ∧ ((clipM i s.2 = none ∧ kv.2 = .non) ∨ ∃ (y : M4) (t : Addr), clipM i s.2 = some y ∧ kv.2 = .ref t ∧ H t = some (t4 y))
theorem LfR.keep {i : Int} {H H' : Hp} (k : KeepT H H') {kv : Key × V} {s : Int × M4} (h : LfR i H kv s) : LfR i H' kv s :=
  ⟨h.1, h.2.imp id fun ⟨y, t, a, b, c⟩ => ⟨y, t, a, b, k _ _ c⟩⟩
theorem lf_keys {i : Int} {H : Hp} : ∀ {ks : List (Key × V)} {S : StL}, Paired (LfR i H) ks S → ks.map (·.1) = (S.map (·.1)).map Sum.inl
  | _, _, .nil => rfl
  | _, _, .cons h r => by rw [List.map_cons, List.map_cons, List.map_cons, h.1, lf_keys r]
theorem lf_get {i : Int} {H : Hp} {j : Nat} {z : Int × M4} : ∀ {ks : List (Key × V)} {S : StL}, Paired (LfR i H) ks S → (S.map (·.1)).Pairwise (· < ·) → S[j]? = some z → ∃ x, valV ks (Sum.inl z.1) = some x ∧ LfR i H (Sum.inl z.1, x) z := by
  intro ks S h
  induction h generalizing j with
  | nil => intro _ e; simp at e
  | @cons kv s _ r h1 t ih =>
    intro up e
    cases j with
    | zero =>
      have e : s = z := Option.some.inj e
      subst e
      exact ⟨kv.2, valV_pos h1.1, rfl, h1.2⟩
    | succ j =>
      have e : r[j]? = some z := e
      have up := List.pairwise_cons.mp up
      have lt : s.1 < z.1 := up.1 z.1 (List.mem_map.mpr ⟨z, List.mem_of_getElem? e, rfl⟩)
      obtain ⟨x, hx, hl⟩ := ih up.2 e
      refine ⟨x, ?_, hl⟩
      rw [valV_neg fun q => ?_]
      · exact hx
      · rw [h1.1] at q
        have := Sum.inl.inj q
        omega
abbrev sl49 (m : V) (w : Str) (t a : Addr) (n : Int) (hd : Addr) (R : Addr) (y7 y8 y9 y10 y11 y12 y13 y14 y15 y16 : Option V) : List (Option V) := [some m, some (.str w), some (.ref t), some (.ref a), some (.int n), some (.ref hd), some (.ref R), y7, y8, y9, y10, y11, y12, y13, y14, y15, y16]
def spRoadDeed : Sp := fun vs H Q _ => ∃ (m v : V) (a : Addr) (k : RDeed) (r : RdM), vs = [m, .str k.word, v, .ref a] ∧ RmAt H v r ∧ H a = some (.tup k.rest) ∧ (∀ x ∈ k.rest, IB x) ∧ RoW r.1 r.2 ∧ (∀ s ∈ r.2, s.2.2.2.1 ≤ 200) ∧ ∀ (H' : Hp) (t : Addr), Same H H' → DueR H' t (rdP a k r) → Q (.ref t) H'
section
variable {P : Program} {w : World} {K : PySem.W.Frag} {mg : Str → Option Value} {base : Heap}
theorem ok_roadDeed {f fN fC fE fS : Addr} {fd fdN fdC fdE fdS : FuncData} (D : DefAt K mg "_law_road_deed" s_road_deed P_road_deed f fd) (D_no_number : DefAt K mg "_law_no_number" s_no_number P_no_number fN fdN) (D_clip : DefAt K mg "_law_clip" s_clip P_clip fC fdC) (D_ends : DefAt K mg "_law_ends" s_ends P_ends fE fdE) (D_scaled : DefAt K mg "_law_scaled" s_scaled P_scaled fS fdS) (zE : mg "enumerate" = none) (B : Bn mg) :
    FnOk P w K mg base CX0 3 f fd P_road_deed spRoadDeed := by
  have G_no_number : FnOk P w K mg base CX0 1 fN fdN P_no_number spNoNum := ok_noNum D_no_number B
  have G_clip : FnOk P w K mg base CX0 2 fC fdC P_clip spClipL := ok_clipL D_clip D_ends B
  have G_scaled : FnOk P w K mg base CX0 1 fS fdS P_scaled spScaledL := ok_scaledL D_scaled
  refine D.F.ok sc_road_deed (fun vs H Q E h => ?_) (fun cdv A outer s H vs Q E hr h => ?_)
  · obtain ⟨m, v, a, k, r, rfl, _⟩ := h
    rfl
  · obtain ⟨m, v, a, k, r, rfl, hv, ha, ib, wf, mny, q⟩ := h
    have hu := hu_of hr
    refine ⟨_, (pss_cons (ps_asg (pv 2) (pg_tup (by rfl) (pgs_cons (pg_name (i := 4) sc_road_deed.nd rfl (.inl rfl)) (pgs_cons (pg_name (i := 5) sc_road_deed.nd rfl (.inr rfl)) pgs_nil))))
      (C8.pss_cut (ps_set (i := 6) sc_road_deed.nd rfl (.inl rfl) (pe_callTy call_dictD (by rfl) B.dict (by decide +kernel) (pa_cons (pv 5) pa_nil)))
      (pss_cons (ps_if (pt_cmpR op_eq (pv 1) pe_str (nomark _)) (pss_cons (ps_asg (pv 3) (pg_tup (by rfl) (pgs_cons (pg_name (i := 7) sc_road_deed.nd rfl (.inl rfl)) (pgs_cons (pg_name (i := 8) sc_road_deed.nd rfl (.inl rfl)) (pgs_cons (pg_name (i := 9) sc_road_deed.nd rfl (.inl rfl)) (pgs_cons (pg_name (i := 10) sc_road_deed.nd rfl (.inl rfl)) pgs_nil))))))
      (C8.pss_cut (ps_set (i := 11) sc_road_deed.nd rfl (.inl rfl) (pe_and (pe_not (pe_callB (cr_any rfl) (by rfl) B.any (by decide +kernel) (pa_cons (pe_lc (own := [("_law_k", 15)]) (g := gName 15) (by rfl) sc_road_deed.nd (pi_tup (pv 3)) (blkOk_by (own := [("_law_k", 15)]) (N := N_road_deed) (sc := defScope s_road_deed) (by decide +kernel)) (fun _ _ _ _ _ => (pg_name (i := 15) sc_road_deed.nd rfl (.inl rfl))) (fun _ _ _ _ _ => pts_nil) (fun _ _ _ _ _ => (pe_callB (show CallR _ _ (rIsi K) from call_isi) (by rfl) B.isinstance (by decide +kernel) (pa_cons (pv 15) (pa_cons (pe_bltn (v := .ty "bool") (by rfl) B.bool (by decide +kernel) rfl) pa_nil))))) pa_nil))) (pe_and (pe_cmpR op_ge (pv 9) pe_int (nomark _)) (pe_one (pe_cmpR op_in_seq (pv 10) (pe_tup (pa_cons pe_int (pa_cons pe_int pa_nil))) (by rfl))))))
      (C8.pss_cut (ps_if (PW.pt (pw_or (pt_not (pt_val (pv 11))) (pw_or (pt_cmpR op_lt (pe_callB (call_min2 rfl) (by rfl) B.min (by decide +kernel) (pa_cons (pv 7) (pa_cons (pv 8) pa_nil))) pe_int (nomark _)) (pw_or1 (pt_cmpR op_gt (pe_op op_add (pe_callB (call_max2 rfl) (by rfl) B.max (by decide +kernel) (pa_cons (pv 7) (pa_cons (pv 8) pa_nil))) (pv 9)) (pv 4) (nomark _)))))) (pss_one (ps_ret (pe_tup (pa_cons (pe_tup (pa_cons pe_str (pa_cons (pv 3) pa_nil))) (pa_cons (pv 2) pa_nil))))) pss_nil)
      (pss_cons (ps_if (pt_cmpR op_gt (pe_callB call_lenDk (by rfl) B.len (by decide +kernel) (pa_cons (pv 5) pa_nil)) pe_int (nomark _)) (pss_one (ps_ret (pe_tup (pa_cons (pe_tup (pa_cons pe_str (pa_cons pe_int pa_nil))) (pa_cons (pv 2) pa_nil))))) pss_nil)
      (pss_cons (ps_dput hu (pv 6) (pe_op op_add (pe_callB (cr_max rfl) (by rfl) B.max (by decide +kernel) (pa_cons (pe_op op_cat (pe_lst (pa_cons pe_int pa_nil)) (pe_callB (call_sortedDI rfl) (by rfl) B.sorted (by decide +kernel) (pa_cons (pv 5) pa_nil))) pa_nil)) pe_int) (pv 3) rfl)
      (pss_one (ps_ret (pe_tup (pa_cons (pe_tup (pa_cons pe_str (pa_cons pe_non pa_nil))) (pa_cons (pe_tup (pa_cons (pv 4) (pa_cons (pv 6) pa_nil))) pa_nil)))))))))) pss_nil)
      (pss_cons (ps_set (i := 12) sc_road_deed.nd rfl (.inr rfl) (pe_ix ix_tup (pv 3) pe_int (fun _ _ => rfl)))
      (pss_cons (ps_if (pt_cmpR op_eq (pv 1) pe_str (nomark _)) (C8.pss_cut (ps_if (PW.pt (pw_or (pt_val (pe_callB call_isi (by rfl) B.isinstance (by decide +kernel) (pa_cons (pv 12) (pa_cons (pe_bltn (v := .ty "bool") (by rfl) B.bool (by decide +kernel) rfl) pa_nil)))) (pw_or1 (pt_cmp (pc_dnotin hu (pv 12) (pv 5)))))) (pss_one (ps_ret (pe_tup (pa_cons (pe_tup (pa_cons pe_str (pa_cons (pv 12) pa_nil))) (pa_cons (pv 2) pa_nil))))) pss_nil)
      (pss_cons (ps_expr (pe_dpop1 (pv 6) (pv 12) ⟨rfl, rfl, rfl, rfl⟩))
      (pss_one (ps_ret (pe_tup (pa_cons (pe_tup (pa_cons pe_str (pa_cons pe_non pa_nil))) (pa_cons (pe_tup (pa_cons (pv 4) (pa_cons (pv 6) pa_nil))) pa_nil))))))) pss_nil)
      (pss_cons (ps_if (pt_cmpR op_eq (pv 1) pe_str (nomark _)) (pss_cons (ps_if (pt_val (pe_call G_no_number (hr.mono (by omega)) (by rfl) D_no_number.g D_no_number.F.kp D_no_number.b .nil pass0 (pa_cons (pv 12) (pa_cons pe_int (pa_cons (pe_op op_sub (pe_op op_pow pe_int pe_int) (pv 4)) pa_nil))))) (pss_one (ps_ret (pe_tup (pa_cons (pe_tup (pa_cons pe_str (pa_cons (pv 12) pa_nil))) (pa_cons (pv 2) pa_nil))))) pss_nil)
      (pss_one (ps_ret (pe_tup (pa_cons (pe_tup (pa_cons pe_str (pa_cons pe_non pa_nil))) (pa_cons (pe_tup (pa_cons (pe_op op_add (pv 4) (pv 12)) (pa_cons (pv 6) pa_nil))) pa_nil)))))) pss_nil)
      (pss_cons (ps_if (pt_cmpR op_eq (pv 1) pe_str (nomark _)) (pss_cons (ps_if (pt_val (pe_call G_no_number (hr.mono (by omega)) (by rfl) D_no_number.g D_no_number.F.kp D_no_number.b .nil pass0 (pa_cons (pv 12) (pa_cons pe_int (pa_cons (pv 4) pa_nil))))) (pss_one (ps_ret (pe_tup (pa_cons (pe_tup (pa_cons pe_str (pa_cons (pv 12) pa_nil))) (pa_cons (pv 2) pa_nil))))) pss_nil)
      (C8.pss_cut (ps_set (i := 13) sc_road_deed.nd rfl (.inr rfl) (pe_callTy (call_dictP rfl) (by rfl) B.dict (by decide +kernel) (pa_cons (pe_lc (own := [("_law_at", 16)]) (g := gName 16) (by rfl) sc_road_deed.nd (pi_list (pe_callB (call_sortedDI rfl) (by rfl) B.sorted (by decide +kernel) (pa_cons (pv 5) pa_nil))) (blkOk_by (own := [("_law_at", 16)]) (N := N_road_deed) (sc := defScope s_road_deed) (by decide +kernel)) (fun _ _ _ _ _ => (pg_name (i := 16) sc_road_deed.nd rfl (.inl rfl))) (fun _ _ _ _ _ => pts_nil) (fun _ _ _ _ _ => (pe_tup (pa_cons (pv 16) (pa_cons (pe_call G_clip (hr.mono (by omega)) (by rfl) D_clip.g D_clip.F.kp D_clip.b .nil pass0 (pa_cons (pe_dget hu (pv 5) (pv 16) (fun _ _ => rfl)) (pa_cons (pv 12) pa_nil))) pa_nil))))) pa_nil)))
      (pss_one (ps_ret (pe_tup (pa_cons (pe_tup (pa_cons pe_str (pa_cons pe_non pa_nil))) (pa_cons (pe_tup (pa_cons (pv 12) (pa_cons (pe_callTy (call_dictP rfl) (by rfl) B.dict (by decide +kernel) (pa_cons (pe_lc (own := [("_law_at", 16)]) (g := gName 16) (by rfl) sc_road_deed.nd (pi_list (pe_callB (call_sortedDI rfl) (by rfl) B.sorted (by decide +kernel) (pa_cons (pv 13) pa_nil))) (blkOk_by (own := [("_law_at", 16)]) (N := N_road_deed) (sc := defScope s_road_deed) (by decide +kernel)) (fun _ _ _ _ _ => (pg_name (i := 16) sc_road_deed.nd rfl (.inl rfl))) (fun _ _ _ _ _ => (pts_one (pt_cmpR op_notN (pe_dget hu (pv 13) (pv 16) (fun _ _ => rfl)) pe_non (nomark _)))) (fun _ _ _ _ _ => (pe_tup (pa_cons (pv 16) (pa_cons (pe_dget hu (pv 13) (pv 16) (fun _ _ => rfl)) pa_nil))))) pa_nil)) pa_nil))) pa_nil))))))) pss_nil)
      (C8.pss_cut (ps_if (PW.pt (pw_or (pt_val (pe_callB call_isi (by rfl) B.isinstance (by decide +kernel) (pa_cons (pv 12) (pa_cons (pe_bltn (v := .ty "bool") (by rfl) B.bool (by decide +kernel) rfl) pa_nil)))) (pw_or (pt_cmpR op_lt (pv 12) pe_int (nomark _)) (pw_or1 (pt_cmpR op_gt (pe_op op_mul (pv 4) (pv 12)) (pe_op op_pow pe_int pe_int) (nomark _)))))) (pss_one (ps_ret (pe_tup (pa_cons (pe_tup (pa_cons pe_str (pa_cons (pv 12) pa_nil))) (pa_cons (pv 2) pa_nil))))) pss_nil)
      (C8.pss_cut (ps_set (i := 14) sc_road_deed.nd rfl (.inr rfl) (pe_call G_scaled (hr.mono (by omega)) (by rfl) D_scaled.g D_scaled.F.kp D_scaled.b .nil pass0 (pa_cons (pe_lc (own := [("_law_at", 16)]) (g := gName 16) (by rfl) sc_road_deed.nd (pi_list (pe_callB (call_sortedDI rfl) (by rfl) B.sorted (by decide +kernel) (pa_cons (pv 5) pa_nil))) (blkOk_by (own := [("_law_at", 16)]) (N := N_road_deed) (sc := defScope s_road_deed) (by decide +kernel)) (fun _ _ _ _ _ => (pg_name (i := 16) sc_road_deed.nd rfl (.inl rfl))) (fun _ _ _ _ _ => pts_nil) (fun _ _ _ _ _ => (pe_dget hu (pv 5) (pv 16) (fun _ _ => rfl)))) (pa_cons (pv 12) pa_nil))))
      (pss_one (ps_ret (pe_tup (pa_cons (pe_tup (pa_cons pe_str (pa_cons pe_non pa_nil))) (pa_cons (pe_tup (pa_cons (pe_op op_mul (pv 4) (pv 12)) (pa_cons (pe_callTy (call_dictP rfl) (by rfl) B.dict (by decide +kernel) (pa_cons (pe_lc (own := [("_law_k", 15), ("_law_at", 16)]) (g := gTup K 2 (gCons (gName 15) (gCons (gName 16) gNil))) (by rfl) sc_road_deed.nd (pi_enum (by rfl) zE (pa_cons (pe_callB (call_sortedDI rfl) (by rfl) B.sorted (by decide +kernel) (pa_cons (pv 5) pa_nil)) pa_nil)) (blkOk_by (own := [("_law_k", 15), ("_law_at", 16)]) (N := N_road_deed) (sc := defScope s_road_deed) (by decide +kernel)) (fun _ _ _ _ _ => (pg_tup (by rfl) (pgs_cons (pg_name (i := 15) sc_road_deed.nd rfl (.inl rfl)) (pgs_cons (pg_name (i := 16) sc_road_deed.nd rfl (.inl rfl)) pgs_nil)))) (fun _ _ _ _ _ => pts_nil) (fun _ _ _ _ _ => (pe_tup (pa_cons (pv 16) (pa_cons (pe_ix (show IxR _ (rIxL K) from ix_list) (pv 14) (pv 15) (fun _ _ => rfl)) pa_nil))))) pa_nil)) pa_nil))) pa_nil)))))))))))))), ?_⟩
    have two : 2 ≤ sizeLine := by decide
    obtain ⟨t, hd, kvs, rfl, et, eh, sd⟩ := id hv
    have lk := sd.length
    have l24 := wf.len
    have bad : ∀ {G : Hp} {u : Str} {x : V}, Same H G → rdP a k r = ((u, x), r) → ∀ b, G b = none → ∀ c, (upd G b (.tup [.str u, x])) c = none → Q (.ref c) (upd (upd G b (.tup [.str u, x])) c (.tup [.ref b, .ref t])) := fun {G u x} s0 e b nb c nc => by
      have s1 := same_upd (H := G) (o := .tup [.str u, x]) nb
      have e1 : (upd G b (.tup [.str u, x])) b = some (.tup [.str u, x]) := upd_same
      generalize upd G b (.tup [.str u, x]) = G1 at s1 e1 nc ⊢
      have s2 := same_upd (H := G1) (o := .tup [.ref b, .ref t]) nc
      refine q _ c ((s0.trans s1).trans s2) ?_
      rw [e]
      exact ⟨b, .ref t, upd_same, s2 _ _ e1, hv.keepO (.same ((s0.trans s1).trans s2))⟩
    have good : ∀ {G : Hp} {R : Addr} {ks : List (Key × V)} {n2 : Int} {S2 : StL}, Same H G → G R = some (.dK ks) → Std G ks S2 → rdP a k r = ((("" : Str), V.non), (n2, S2)) → ∀ b, G b = none → ∀ c, (upd G b (.tup [.str "", .non])) c = none → ∀ d, (upd (upd G b (.tup [.str "", .non])) c (.tup [.int n2, .ref R])) d = none →
        Q (.ref d) (upd (upd (upd G b (.tup [.str "", .non])) c (.tup [.int n2, .ref R])) d (.tup [.ref b, .ref c])) := fun {G R ks n2 S2} s0 eR s3 e b nb c nc d nd => by
      have s1 := same_upd (H := G) (o := .tup [.str "", .non]) nb
      have e1 : (upd G b (.tup [.str "", .non])) b = some (.tup [.str "", .non]) := upd_same
      generalize upd G b (.tup [.str "", .non]) = G1 at s1 e1 nc nd ⊢
      have s2 := same_upd (H := G1) (o := .tup [.int n2, .ref R]) nc
      have e2 : (upd G1 c (.tup [.int n2, .ref R])) c = some (.tup [.int n2, .ref R]) := upd_same
      generalize upd G1 c (.tup [.int n2, .ref R]) = G2 at s2 e2 nd ⊢
      have s4 := same_upd (H := G2) (o := .tup [.ref b, .ref c]) nd
      have s14 := s1.trans (s2.trans s4)
      refine q _ d (s0.trans s14) ?_
      rw [e]
      exact ⟨b, .ref c, upd_same, s4 _ _ (s2 _ _ e1), c, R, ks, rfl, s4 _ _ e2, s14 _ _ eR, s3.keep fun b xs hb => s14 _ _ hb⟩
    have good2 : ∀ {G : Hp} {b R : Addr} {ks : List (Key × V)} {n2 : Int} {S2 : StL}, Same H G → G b = some (.tup [.str "", .non]) → G R = some (.dK ks) → Std G ks S2 → rdP a k r = ((("" : Str), V.non), (n2, S2)) → ∀ c, G c = none → ∀ d, (upd G c (.tup [.int n2, .ref R])) d = none →
        Q (.ref d) (upd (upd G c (.tup [.int n2, .ref R])) d (.tup [.ref b, .ref c])) := fun {G b R ks n2 S2} s0 eb eR s3 e c nc d nd => by
      have s2 := same_upd (H := G) (o := .tup [.int n2, .ref R]) nc
      have e2 : (upd G c (.tup [.int n2, .ref R])) c = some (.tup [.int n2, .ref R]) := upd_same
      generalize upd G c (.tup [.int n2, .ref R]) = G2 at s2 e2 nd ⊢
      have s4 := same_upd (H := G2) (o := .tup [.ref b, .ref c]) nd
      have s24 := s2.trans s4
      refine q _ d (s0.trans s24) ?_
      rw [e]
      exact ⟨b, .ref c, upd_same, s24 _ _ eb, c, R, ks, rfl, s4 _ _ e2, s24 _ _ eR, s3.keep fun b xs hb => s24 _ _ hb⟩
    refine ⟨.ref t, rfl, t, _, rfl, SqT.of et, rfl, .int r.1, _, rfl, .ref hd, _, rfl, rfl, ?_⟩
    refine ⟨fun σ G => ∃ R : Addr, σ = sl49 m k.word t a r.1 hd R none none none none none none none none none none ∧ Same H G ∧ H R = none ∧ G R = some (.dK kvs), ?_, ?_⟩
    · exact ⟨.ref hd, rfl, hd, kvs, rfl, .inl eh, fun R nR => ⟨R, rfl, same_upd nR, nR, upd_same⟩⟩
    rintro σ G ⟨R, rfl, sG, nR, eR⟩
    have ha1 := sG _ _ ha
    have eh1 := sG _ _ eh
    have sd1 := sd.keep (H' := G) (fun b xs hb => sG _ _ hb)
    clear q
    -- what stands when R is changed
    have kR : ∀ {G' : Hp} {o : HO}, Same H G' → Same H (upd G' R o) := fun {G' o} s b x hb => by
      rw [upd_ne (ne_of_none hb nR)]
      exact s _ _ hb
    cases k with
    | mate q =>
      refine ⟨.str "mate", rfl, rfl, _, rfl, ite2 (fun _ => ?_) (fun c => absurd (decide_eq_true rfl) c)⟩
      have ibq : IBq q := ⟨ib _ List.mem_cons_self, ib _ (List.mem_cons_of_mem _ List.mem_cons_self), ib _ (List.mem_cons_of_mem _ (List.mem_cons_of_mem _ List.mem_cons_self)), ib _ (List.mem_cons_of_mem _ (List.mem_cons_of_mem _ (List.mem_cons_of_mem _ List.mem_cons_self)))⟩
      have ha1 : G a = some (.tup (q4 q)) := ha1
      refine ⟨.ref a, rfl, a, _, rfl, SqT.of ha1, rfl, q.1, _, rfl, q.2.1, _, rfl, q.2.2.1, _, rfl, q.2.2.2, _, rfl, rfl, ?_⟩
      -- is it good
      refine ⟨fun σ G2 => ∃ b : Bool, σ = sl49 m "mate" t a r.1 hd R (some q.1) (some q.2.1) (some q.2.2.1) (some q.2.2.2) (some (.bl b)) none none none none none ∧ Same G G2 ∧ (b = true → ∃ o p m f : Int, q = (.int o, .int p, .int m, .int f) ∧ 1 ≤ m ∧ (f = 0 ∨ f = 1)) ∧ (b = false → isM r.1 q = false), ?_, ?_⟩
      · refine ⟨.ref a, rfl, a, rfl, ⟨_, SqT.of ha1⟩, fun L nL => lc_tup (K := K) (a := a) (xs := q4 q) (fun i G2 => Same G G2 ∧ G2 L = some (.lst ((((q4 q).map isB).take i).map V.bl))) ⟨same_upd nL, upd_same⟩ (fun i G2 _ ⟨sm, _⟩ => SqT.of (sm _ _ ha1)) ?_ ?_⟩
        · rintro i' x' G2 hx ⟨sm, e2⟩
          have hi' : i' < 4 := (List.getElem?_eq_some_iff.mp hx).1
          have hib : IB x' := ib x' (List.mem_of_getElem? hx)
          obtain ⟨ty, h1, h2⟩ := hib.ty (K := K) (H := G2)
          refine ⟨rfl, x', rfl, _, _, _, _, isB x', rfl, ClsV.ty _, h1, h2, _, e2, sz_lt (by rw [List.length_map, List.length_take]; omega), fun b o' hb => ?_, ?_⟩
          · rw [upd_ne (ne_of_none hb nL)]
            exact sm _ _ hb
          · rw [upd_same, List.take_add_one, List.getElem?_map, hx, List.map_append]
            rfl
        · rintro G2 ⟨sm, e2⟩
          have e2 : G2 L = some (.lst (((q4 q).map isB).map V.bl)) := by
            rw [show ((q4 q).map isB).take (q4 q).length = (q4 q).map isB from rfl] at e2
            exact e2
          refine ⟨L, _, rfl, SqL.of e2, _, rfl, _, rfl, ?_⟩
          cases hb : ((q4 q).map isB).any id with
          | true => exact iteF ⟨false, rfl, sm, (fun z => by cases z), fun _ => isMat_b hb⟩
          | false =>
            refine iteT ?_
            obtain ⟨o', p', m', f'⟩ := q
            obtain ⟨ib1, ib2, ib3, ib4⟩ := ibq
            simp only [q4, List.map_cons, List.map_nil, List.any_cons, List.any_nil, id, Bool.or_false, Bool.or_eq_false_iff] at hb
            obtain ⟨b1, b2', b3', b4'⟩ := hb
            obtain ⟨o', rfl, _⟩ := allInt ib1 b1
            obtain ⟨p', rfl, _⟩ := allInt ib2 b2'
            obtain ⟨m', rfl, _⟩ := allInt ib3 b3'
            obtain ⟨f', rfl, _⟩ := allInt ib4 b4'
            refine ⟨.int m', rfl, m', 1, rfl, rfl, _, rfl, ite2 (fun c => ?_) (fun c => ?_)⟩
            · have hm : 1 ≤ m' := of_decide_eq_true c
              refine ⟨.int f', rfl, two, fun t2 nt2 => ⟨t2, _, rfl, .inr (SqT.of upd_same), rfl, rfl, ?_⟩⟩
              rw [if_neg (by decide), inV01]
              exact ⟨_, rfl, sm.trans (same_upd nt2), fun z => ⟨o', p', m', f', rfl, hm, of_decide_eq_true z⟩, fun z => decide_eq_false fun y => of_decide_eq_false z y.1⟩
            · have c : decide (1 ≤ m') = false := by simpa using c
              exact ⟨false, rfl, sm, (fun z => by cases z), fun _ => decide_eq_false fun y => of_decide_eq_false c y.2.1⟩
      rintro σ G2 ⟨b, rfl, s2, bt, bf⟩
      have sG2 := sG.trans s2
      -- refused
      refine ⟨fun σ G' => ∃ y11, σ = sl49 m "mate" t a r.1 hd R (some q.1) (some q.2.1) (some q.2.2.1) (some q.2.2.2) y11 none none none none none ∧ G' = G2 ∧ isM r.1 q = true, ?_, ?_⟩
      · have no : isM r.1 q = false → ∀ b, G2 b = none → ∀ c, (upd G2 b (.tup [.str "BadMating", .ref a])) c = none → Q (.ref c) (upd (upd G2 b (.tup [.str "BadMating", .ref a])) c (.tup [.ref b, .ref t])) := fun z b nb c nc => bad sG2 (by
            show (if isM r.1 q = true then _ else _) = _
            rw [z]
            rfl) b nb c nc
        refine ⟨.bl b, rfl, b, rfl, ?_⟩
        cases b with
        | false => exact iteT (iteT ⟨.ref a, rfl, two, fun b nb => ⟨.ref t, rfl, two, fun c nc => no (bf rfl) b nb c nc⟩⟩)
        | true =>
          obtain ⟨o', p', m', f', rfl, hm, hf⟩ := bt rfl
          refine iteF ⟨.int o', rfl, .int p', rfl, o', p', rfl, _, _, rfl, rfl, _, rfl, ite2 (fun c => ?_) (fun c => ?_)⟩
          · have c : (if p' < o' then p' else o') < 0 := of_decide_eq_true c
            have z : isM r.1 (.int o', .int p', .int m', .int f') = false := decide_eq_false fun y => by split at c <;> omega
            exact iteT ⟨.ref a, rfl, two, fun b nb => ⟨.ref t, rfl, two, fun c nc => no z b nb c nc⟩⟩
          · have c : ¬ (if p' < o' then p' else o') < 0 := fun z => c (decide_eq_true z)
            refine ⟨.int o', rfl, .int p', rfl, o', p', rfl, .int m', rfl, _, _, rfl, rfl, .int r.1, rfl, _, _, rfl, rfl, _, rfl, ite2 (fun c2 => ?_) (fun c2 => ?_)⟩
            · have c2 : r.1 < (if p' > o' then p' else o') + m' := of_decide_eq_true c2
              have z : isM r.1 (.int o', .int p', .int m', .int f') = false := decide_eq_false fun y => by split at c2 <;> omega
              exact ⟨.ref a, rfl, two, fun b nb => ⟨.ref t, rfl, two, fun c nc => no z b nb c nc⟩⟩
            · have c2 : ¬ r.1 < (if p' > o' then p' else o') + m' := fun z => c2 (decide_eq_true z)
              exact ⟨_, rfl, rfl, decide_eq_true ⟨hf, hm, by split at c <;> omega, by split at c <;> omega, by split at c2 <;> omega, by split at c2 <;> omega⟩⟩
      clear bt bf
      rintro σ G' ⟨y11, rfl, rfl, hq⟩
      have ehG := sG2 _ _ eh
      have eRG := s2 _ _ eR
      refine ⟨.ref hd, rfl, hd, kvs, rfl, ehG, _, _, rfl, rfl, _, rfl, ite2 (fun c => ?_) (fun c => ?_)⟩
      · have c : (23 : Int) < (kvs.length : Int) := of_decide_eq_true c
        refine ⟨two, fun b nb => ⟨.ref t, rfl, two, fun c' nc => bad sG2 ?_ b nb c' nc⟩⟩
        show (if isM r.1 q = true then (if 23 < r.2.length then _ else _) else _) = _
        rw [if_pos hq, if_pos (by omega)]
      · have c : ¬ (23 : Int) < (kvs.length : Int) := fun z => c (decide_eq_true z)
        refine ⟨.ref a, rfl, .ref R, rfl, by show 1 ≤ sizeLine; decide, fun L nL => ?_⟩
        have s3 := same_upd (H := G') (o := .lst [.int 0]) nL
        have eL : (upd G' L (.lst [.int 0])) L = some (.lst [.int 0]) := upd_same
        generalize upd G' L (.lst [.int 0]) = G3 at s3 eL
        refine ⟨.ref hd, rfl, hd, kvs, r.2.map (·.1), rfl, .inl (s3 _ _ ehG), sd.keys, by rw [List.length_map]; omega, fun ys p pm pw np => ?_⟩
        have s4 := same_upd (H := G3) (o := .lst (ys.map V.int)) np
        have ep : (upd G3 p (.lst (ys.map V.int))) p = some (.lst (ys.map V.int)) := upd_same
        generalize upd G3 p (.lst (ys.map V.int)) = G4 at s4 ep
        have ly : ys.length = r.2.length := by rw [pm.length_eq, List.length_map]
        refine ⟨L, p, _, _, rfl, rfl, s4 _ _ eL, ep, by rw [List.length_map]; exact Nat.le_trans (show 1 + ys.length ≤ 63 by omega) (by decide), fun M nM => ?_⟩
        have s5 := same_upd (H := G4) (o := .lst ([.int 0] ++ ys.map V.int)) nM
        have eM : (upd G4 M (.lst ([.int 0] ++ ys.map V.int))) M = some (.lst ((0 :: ys).map V.int)) := upd_same
        generalize upd G4 M (.lst ([.int 0] ++ ys.map V.int)) = G5 at s5 eM
        refine ⟨M, 0 :: ys, rfl, SqL.of eM, Nat.zero_lt_succ _, fun mx hmx lmx => ?_⟩
        have emx : mx + 1 = nxt r.2 := nxt_is (by
          rcases List.mem_cons.mp hmx with z | z
          · exact .inl z
          · exact .inr (pm.mem_iff.mp z)) (lmx 0 List.mem_cons_self) fun y hy => lmx y (List.mem_cons_of_mem _ (pm.mem_iff.mpr hy))
        have s35 := s3.trans (s4.trans s5)
        have sH5 := sG2.trans s35
        have eR5 := s35 _ _ eRG
        refine ⟨mx, 1, rfl, rfl, R, _, rfl, DPut.k (k := Sum.inl (mx + 1)) eR5 (sz_lt (by omega)), ?_⟩
        rw [emx]
        have vn : valV kvs (Sum.inl (nxt r.2)) = none := (sd.get (nxt r.2)).1 (sget_not fun s hs => Int.ne_of_lt (nxt_gt hs))
        rw [putK_new _ vn]
        have s6 := kR (o := .dK (kvs ++ [(Sum.inl (nxt r.2), .ref a)])) sH5
        have e6 : (upd G5 R (.dK (kvs ++ [(Sum.inl (nxt r.2), .ref a)]))) R = some (.dK (kvs ++ [(Sum.inl (nxt r.2), .ref a)])) := upd_same
        obtain ⟨x4, eq4, _⟩ := isM_ints hq
        have sd6 : Std (upd G5 R (.dK (kvs ++ [(Sum.inl (nxt r.2), .ref a)]))) (kvs ++ [(Sum.inl (nxt r.2), .ref a)]) (r.2 ++ [(nxt r.2, qM q)]) :=
          Std.snoc (kv := (Sum.inl (nxt r.2), .ref a)) (s := (nxt r.2, qM q)) ⟨rfl, a, rfl, by rw [s6 _ _ ha, eq4]; rfl⟩ (sd.keep fun b xs hb => s6 _ _ hb)
        refine ⟨two, fun b nb => ⟨.int r.1, rfl, .ref R, rfl, two, fun c' nc => ⟨two, fun d nd => good s6 e6 sd6 ?_ b nb c' nc d nd⟩⟩⟩
        show (if isM r.1 q = true then (if 23 < r.2.length then _ else _) else _) = _
        rw [if_pos hq, if_neg (by omega)]
    | strike v =>
      refine ⟨.str "strike", rfl, rfl, _, rfl, ite2 (fun c => absurd c (by decide)) (fun _ => ?_)⟩
      refine ⟨.ref a, rfl, a, _, 0, v, rfl, rfl, SqT.of ha1, atI_nat (j := 0) rfl, ?_⟩
      refine ⟨.str "strike", rfl, rfl, _, rfl, ite2 (fun _ => ?_) (fun c => absurd (decide_eq_true rfl) c)⟩
      -- is it there
      have fx := ib v List.mem_cons_self
      refine ⟨fun σ G' => ∃ (i : Int) (x : M4), v = .int i ∧ sget r.2 i = some x ∧ σ = sl49 m "strike" t a r.1 hd R none none none none none (some v) none none none none ∧ G' = G, ?_, ?_⟩
      · rcases fx with ⟨i, rfl, _⟩ | ⟨b, rfl⟩
        · refine ⟨.int i, rfl, _, _, _, _, false, rfl, ClsV.ty _, TyX.base (TyOf.int _), kit_ty (by decide +kernel), _, rfl, iteF ?_⟩
          refine ⟨.int i, rfl, .ref hd, rfl, hd, _, rfl, DGet.k (k := Sum.inl i) eh1, _, rfl, ?_⟩
          cases ei : sget r.2 i with
          | none =>
            rw [(sd.get i).1 ei]
            refine iteT ⟨.int i, rfl, two, fun b nb => ⟨.ref t, rfl, two, fun c nc => bad sG ?_ b nb c nc⟩⟩
            show (if (sget r.2 i).isSome = true then _ else _) = _
            rw [ei]
            rfl
          | some x =>
            obtain ⟨tx, hx, _⟩ := (sd.get i).2 x ei
            rw [hx]
            exact iteF ⟨i, x, rfl, ei, rfl, rfl⟩
        · refine ⟨.bl b, rfl, _, _, _, _, true, rfl, ClsV.ty _, TyX.base (TyOf.bl _), kit_ty (by decide +kernel), _, rfl, iteT ?_⟩
          refine iteT ⟨.bl b, rfl, two, fun b' nb => ⟨.ref t, rfl, two, fun c nc => bad sG rfl b' nb c nc⟩⟩
      rintro σ G' ⟨i, x, rfl, ei, rfl, rfl⟩
      obtain ⟨tx, hx, _⟩ := (sd.get i).2 x ei
      refine ⟨.ref R, rfl, R, rfl, .inl ⟨_, .inl eR⟩, .int i, rfl, kvs, Sum.inl i, _, eR, rfl, hx, ?_⟩
      have s3 := kR (o := .dK (dropK kvs (Sum.inl i))) sG
      have e3 : (upd G' R (.dK (dropK kvs (Sum.inl i)))) R = some (.dK (dropK kvs (Sum.inl i))) := upd_same
      have sd3 : Std (upd G' R (.dK (dropK kvs (Sum.inl i)))) (dropK kvs (Sum.inl i)) (sdrop r.2 i) := Std.drop (sd.keep fun b xs hb => s3 _ _ hb)
      refine ⟨two, fun b nb => ⟨.int r.1, rfl, .ref R, rfl, two, fun c nc => ⟨two, fun d nd => good s3 e3 sd3 ?_ b nb c nc d nd⟩⟩⟩
      show (if (sget r.2 i).isSome = true then _ else _) = _
      rw [ei]
      rfl
    | grow v =>
      refine ⟨.str "grow", rfl, rfl, _, rfl, ite2 (fun c => absurd c (by decide)) (fun _ => ?_)⟩
      refine ⟨.ref a, rfl, a, _, 0, v, rfl, rfl, SqT.of ha1, atI_nat (j := 0) rfl, ?_⟩
      refine ⟨.str "grow", rfl, rfl, _, rfl, ite2 (fun c => absurd c (by decide)) (fun _ => ?_)⟩
      refine ⟨.str "grow", rfl, rfl, _, rfl, ite2 (fun _ => ?_) (fun c => absurd (decide_eq_true rfl) c)⟩
      have fx := ib v List.mem_cons_self
      refine ⟨v, rfl, 10, 18, rfl, rfl, ⟨by decide, by decide, by decide⟩, .int r.1, rfl, _, _, rfl, rfl, v, 0, 1000000000000000000 - r.1, rfl, fx, _, rfl, ?_⟩
      cases en : noNum v 0 (1000000000000000000 - r.1) with
      | true =>
        refine iteT ⟨v, rfl, two, fun b nb => ⟨.ref t, rfl, two, fun c nc => bad sG ?_ b nb c nc⟩⟩
        show (if noNum v 0 (1000000000000000000 - r.1) = true then _ else _) = _
        rw [en]
        rfl
      | false =>
        obtain ⟨i, rfl⟩ : ∃ i, v = .int i := by
          rcases fx with ⟨i, rfl, _⟩ | ⟨b, rfl⟩
          · exact ⟨i, rfl⟩
          · cases en
        refine iteF ⟨two, fun b nb => ⟨.int r.1, rfl, .int i, rfl, _, _, rfl, rfl, .ref R, rfl, two, fun c nc => ⟨two, fun d nd => good sG eR sd1 ?_ b nb c nc d nd⟩⟩⟩
        show (if noNum (.int i) 0 (1000000000000000000 - r.1) = true then _ else _) = _
        rw [en]
        rfl
    | trim v =>
      refine ⟨.str "trim", rfl, rfl, _, rfl, ite2 (fun c => absurd c (by decide)) (fun _ => ?_)⟩
      refine ⟨.ref a, rfl, a, _, 0, v, rfl, rfl, SqT.of ha1, atI_nat (j := 0) rfl, ?_⟩
      refine ⟨.str "trim", rfl, rfl, _, rfl, ite2 (fun c => absurd c (by decide)) (fun _ => ?_)⟩
      refine ⟨.str "trim", rfl, rfl, _, rfl, ite2 (fun c => absurd c (by decide)) (fun _ => ?_)⟩
      refine ⟨.str "trim", rfl, rfl, _, rfl, ite2 (fun _ => ?_) (fun c => absurd (decide_eq_true rfl) c)⟩
      have fx := ib v List.mem_cons_self
      refine ⟨v, rfl, .int r.1, rfl, v, 0, r.1, rfl, fx, _, rfl, ?_⟩
      cases en : noNum v 0 r.1 with
      | true =>
        refine iteT ⟨v, rfl, two, fun b nb => ⟨.ref t, rfl, two, fun c nc => bad sG ?_ b nb c nc⟩⟩
        show (if noNum v 0 r.1 = true then _ else _) = _
        rw [en]
        rfl
      | false =>
        obtain ⟨i, rfl⟩ : ∃ i, v = .int i := by
          rcases fx with ⟨i, rfl, _⟩ | ⟨b, rfl⟩
          · exact ⟨i, rfl⟩
          · cases en
        have ii : 0 ≤ i ∧ i ≤ r.1 := by
          have z : (!decide (0 ≤ i ∧ i ≤ r.1)) = false := en
          simpa using z
        refine iteF ?_
        -- what is left
        refine ⟨fun σ G2 => ∃ (lf : Addr) (ks : List (Key × V)), σ = sl49 m "trim" t a r.1 hd R none none none none none (some (.int i)) (some (.ref lf)) none none none ∧ Same G G2 ∧ G2 lf = some (.dK ks) ∧ Paired (LfR i G2) ks r.2, ?_, ?_⟩
        · refine ⟨.ref hd, rfl, hd, kvs, r.2.map (·.1), rfl, .inl eh1, sd.keys, by rw [List.length_map]; omega, fun ys p pm pw np => ?_⟩
          have ey := perm_sorted pm pw wf.up
          subst ey
          have s1 := same_upd (H := G) (o := .lst ((r.2.map (·.1)).map V.int)) np
          have ep : (upd G p (.lst ((r.2.map (·.1)).map V.int))) p = some (.lst ((r.2.map (·.1)).map V.int)) := upd_same
          generalize upd G p (.lst ((r.2.map (·.1)).map V.int)) = G1 at s1 ep
          refine ⟨p, rfl, ⟨_, SqL.of ep⟩, fun D nD => lc_list (K := K) (a := p) (xs := (r.2.map (·.1)).map V.int) (fun j G3 => ∃ (ps : List Addr) (ks : List (Key × V)), Same G1 G3 ∧ G3 D = some (.lst (ps.map V.ref)) ∧ Paired (fun (q : Addr) (kv : Key × V) => G3 q = some (.tup [kV kv.1, kv.2])) ps ks ∧ Paired (LfR i G3) ks (r.2.take j)) ⟨[], [], same_upd nD, upd_same, .nil, .nil⟩ (fun j G3 _ ⟨_, _, sm, _⟩ => SqL.of (sm _ _ ep)) ?_ ?_⟩
          · rintro j y G3 hx ⟨ps, ks, sm, eD, pp, lf⟩
            rw [List.map_map, List.getElem?_map] at hx
            obtain ⟨z, hz, rfl⟩ := Option.map_eq_some_iff.mp hx
            have zm := List.mem_of_getElem? hz
            have sm1 := s1.trans sm
            obtain ⟨tx, gt, _, htx⟩ := (sd1.keep (H' := G3) (fun b xs hb => sm1 _ _ hb)).dget (sm1 _ _ eh1) (sget_mem wf.up zm)
            have lps := pp.length
            have llf := lf.length
            rw [List.length_take] at llf
            have stp : ∀ (x : V) (G6 : Hp), Same G3 G6 → LfR i G6 (Sum.inl z.1, x) z → ∀ u, G6 u = none → ∃ acc, (upd G6 u (.tup [.int z.1, x])) D = some (.lst acc) ∧ acc.length < sizeLine ∧ ∃ (ps : List Addr) (ks : List (Key × V)), Same G1 (upd (upd G6 u (.tup [.int z.1, x])) D (.lst (acc ++ [.ref u]))) ∧ (upd (upd G6 u (.tup [.int z.1, x])) D (.lst (acc ++ [.ref u]))) D = some (.lst (ps.map V.ref)) ∧
                Paired (fun (q : Addr) (kv : Key × V) => (upd (upd G6 u (.tup [.int z.1, x])) D (.lst (acc ++ [.ref u]))) q = some (.tup [kV kv.1, kv.2])) ps ks ∧ Paired (LfR i (upd (upd G6 u (.tup [.int z.1, x])) D (.lst (acc ++ [.ref u])))) ks (r.2.take (j + 1)) := fun x G6 s6 hl u nu => by
              have s7 := same_upd (H := G6) (o := .tup [.int z.1, x]) nu
              have e7 : (upd G6 u (.tup [.int z.1, x])) u = some (.tup [.int z.1, x]) := upd_same
              generalize upd G6 u (.tup [.int z.1, x]) = G7 at s7 e7
              have s37 := s6.trans s7
              have eD7 := s37 _ _ eD
              have kt : KeepT G7 (upd G7 D (.lst (ps.map V.ref ++ [.ref u]))) := fun b xs hb => by
                rw [upd_ne (ne_of hb eD7 (fun q => by cases q))]
                exact hb
              have k37 : KeepT G3 (upd G7 D (.lst (ps.map V.ref ++ [.ref u]))) := fun b xs hb => kt _ _ (s37 _ _ hb)
              have pp7 : Paired (fun (q : Addr) (kv : Key × V) => (upd G7 D (.lst (ps.map V.ref ++ [.ref u]))) q = some (.tup [kV kv.1, kv.2])) ps ks := Paired.mapP pp fun q kv e => k37 _ _ e
              refine ⟨_, eD7, sz_lt (by rw [List.length_map]; omega), ps ++ [u], ks ++ [(Sum.inl z.1, x)], fun b o hb => ?_, by rw [upd_same, List.map_append]; rfl, Paired.more (F := fun (q : Addr) (kv : Key × V) => (upd G7 D (.lst (ps.map V.ref ++ [.ref u]))) q = some (.tup [kV kv.1, kv.2])) (b := (Sum.inl z.1, x)) (kt _ _ e7) pp7, ?_⟩
              · rw [upd_ne (ne_of_none hb nD)]
                exact s37 _ _ (sm _ _ hb)
              · rw [List.take_add_one, hz]
                exact Paired.more (hl.keep fun b xs hb => kt _ _ (s7 _ _ hb)) (Paired.mapP lf fun kv s h => LfR.keep k37 h)
            refine ⟨rfl, .int z.1, rfl, .ref hd, rfl, .int z.1, rfl, hd, .ref tx, rfl, gt, .int i, rfl, tx, z.2, r.1, i, rfl, htx, wf.ok z zm, ii.1, mny z zm, fun ec G6 s6 => ⟨two, fun u nu => stp .non G6 s6 ⟨rfl, .inl ⟨ec, rfl⟩⟩ u nu⟩, fun y' ec G6 rr s6 er => ⟨two, fun u nu => stp (.ref rr) G6 s6 ⟨rfl, .inr ⟨y', rr, ec, rfl, er⟩⟩ u nu⟩⟩
          · rintro G3 ⟨ps, ks, sm, eD, pp, lf⟩
            rw [List.length_map, List.length_map, List.take_length] at lf
            have mk : mergeK [] ks = ks := mergeK_new (ks := r.2.map (·.1)) (lf_keys lf) wf.up (fun kv h => by cases h)
            refine ⟨D, ps, ks, rfl, SqL.of eD, Paired.mapP pp fun q kv e => SqT.of e, fun p2 np2 => ?_⟩
            rw [mk]
            have s6 := same_upd (H := G3) (o := .dK ks) np2
            exact ⟨p2, ks, rfl, (s1.trans sm).trans s6, upd_same, Paired.mapP lf fun kv s h => LfR.keep (fun b xs hb => s6 _ _ hb) h⟩
        rintro σ G2 ⟨lf, ks, rfl, s2, el, lfR⟩
        have lks := lfR.length
        refine ⟨two, fun b nb => ?_⟩
        have sb := same_upd (H := G2) (o := .tup [.str "", .non]) nb
        have eb : (upd G2 b (.tup [.str "", .non])) b = some (.tup [.str "", .non]) := upd_same
        generalize upd G2 b (.tup [.str "", .non]) = G3 at sb eb ⊢
        have s03 := (sG.trans s2).trans sb
        refine ⟨.int i, rfl, .ref lf, rfl, lf, ks, r.2.map (·.1), rfl, .inl (sb _ _ el), lf_keys lfR, by rw [List.length_map]; omega, fun ys p pm pw np => ?_⟩
        have ey := perm_sorted pm pw wf.up
        subst ey
        have s4 := same_upd (H := G3) (o := .lst ((r.2.map (·.1)).map V.int)) np
        have ep : (upd G3 p (.lst ((r.2.map (·.1)).map V.int))) p = some (.lst ((r.2.map (·.1)).map V.int)) := upd_same
        generalize upd G3 p (.lst ((r.2.map (·.1)).map V.int)) = G4 at s4 ep
        have s24 := sb.trans s4
        have el4 := s24 _ _ el
        have lf4 : Paired (LfR i G4) ks r.2 := Paired.mapP lfR fun kv s h => LfR.keep (fun b xs hb => s24 _ _ hb) h
        refine ⟨p, rfl, ⟨_, SqL.of ep⟩, fun D nD => lc_list (K := K) (a := p) (xs := (r.2.map (·.1)).map V.int) (fun j G5 => ∃ (ps : List Addr) (k2 : List (Key × V)), Same G4 G5 ∧ G5 D = some (.lst (ps.map V.ref)) ∧ Paired (fun (q : Addr) (kv : Key × V) => G5 q = some (.tup [kV kv.1, kv.2])) ps k2 ∧ Std G5 k2 (trS i (r.2.take j))) ⟨[], [], same_upd nD, upd_same, .nil, .nil⟩ (fun j G5 _ ⟨_, _, sm, _⟩ => SqL.of (sm _ _ ep)) ?_ ?_⟩
        · rintro j y G5 hx ⟨ps, k2, sm, eD, pp, st⟩
          rw [List.map_map, List.getElem?_map] at hx
          obtain ⟨z, hz, rfl⟩ := Option.map_eq_some_iff.mp hx
          obtain ⟨x, hvx, _, hl⟩ := lf_get lf4 wf.up hz
          have el5 := sm _ _ el4
          have gt : DGet G5 lf (.int z.1) (some x) := by
            have q := DGet.k (k := Sum.inl z.1) el5
            rw [hvx] at q
            exact q
          have stp : trS i (r.2.take (j + 1)) = trS i (r.2.take j) ++ (match clipM i z.2 with | some y => [(z.1, y)] | none => []) := by
            unfold trS
            rw [List.take_add_one, hz, List.filterMap_append]
            congr 1
            show List.filterMap _ [z] = _
            rw [List.filterMap_cons, List.filterMap_nil]
            cases clipM i z.2 <;> rfl
          refine ⟨rfl, .ref lf, rfl, .int z.1, rfl, lf, x, rfl, gt, rfl, _, rfl, ?_⟩
          rcases hl with ⟨ec, rfl⟩ | ⟨y', t', ec, rfl, et'⟩
          · rw [ec, List.append_nil] at stp
            refine iteF ⟨ps, k2, sm, eD, pp, ?_⟩
            rw [stp]
            exact st
          · rw [ec] at stp
            rw [decide_eq_false (show ¬ V.ref t' = V.non from fun h => by cases h)]
            refine iteT ⟨.int z.1, rfl, .ref lf, rfl, .int z.1, rfl, lf, .ref t', rfl, gt, two, fun u nu => ?_⟩
            have s7 := same_upd (H := G5) (o := .tup [.int z.1, .ref t']) nu
            have e7 : (upd G5 u (.tup [.int z.1, .ref t'])) u = some (.tup [.int z.1, .ref t']) := upd_same
            generalize upd G5 u (.tup [.int z.1, .ref t']) = G7 at s7 e7
            have eD7 := s7 _ _ eD
            have kt : KeepT G7 (upd G7 D (.lst (ps.map V.ref ++ [.ref u]))) := fun b xs hb => by
              rw [upd_ne (ne_of hb eD7 (fun q => by cases q))]
              exact hb
            have k57 : KeepT G5 (upd G7 D (.lst (ps.map V.ref ++ [.ref u]))) := fun b xs hb => kt _ _ (s7 _ _ hb)
            have pp7 : Paired (fun (q : Addr) (kv : Key × V) => (upd G7 D (.lst (ps.map V.ref ++ [.ref u]))) q = some (.tup [kV kv.1, kv.2])) ps k2 := Paired.mapP pp fun q kv e => k57 _ _ e
            have lps := pp.length
            have lst' := st.length
            have ltr : (trS i (r.2.take j)).length ≤ (r.2.take j).length := List.length_filterMap_le _ _
            rw [List.length_take] at ltr
            refine ⟨_, eD7, sz_lt (by rw [List.length_map]; omega), ps ++ [u], k2 ++ [(Sum.inl z.1, .ref t')], fun b o hb => ?_, by rw [upd_same, List.map_append]; rfl, Paired.more (F := fun (q : Addr) (kv : Key × V) => (upd G7 D (.lst (ps.map V.ref ++ [.ref u]))) q = some (.tup [kV kv.1, kv.2])) (b := (Sum.inl z.1, .ref t')) (kt _ _ e7) pp7, ?_⟩
            · rw [upd_ne (ne_of_none hb nD)]
              exact s7 _ _ (sm _ _ hb)
            · rw [stp]
              exact Std.snoc (kv := (Sum.inl z.1, .ref t')) (s := (z.1, y')) ⟨rfl, t', rfl, k57 _ _ (sm _ _ et')⟩ (st.keep k57)
        · rintro G5 ⟨ps, k2, sm, eD, pp, st⟩
          rw [List.length_map, List.length_map, List.take_length] at st
          have up2 : ((trS i r.2).map (·.1)).Pairwise (· < ·) := trS_up wf.up
          have mk : mergeK [] k2 = k2 := mergeK_new (ks := (trS i r.2).map (·.1)) st.keys up2 (fun kv h => by cases h)
          refine ⟨D, ps, k2, rfl, SqL.of eD, Paired.mapP pp fun q kv e => SqT.of e, fun p2 np2 => ?_⟩
          rw [mk]
          have s6 := same_upd (H := G5) (o := .dK k2) np2
          have e6 : (upd G5 p2 (.dK k2)) p2 = some (.dK k2) := upd_same
          generalize upd G5 p2 (.dK k2) = G6 at s6 e6
          have s46 := s4.trans (sm.trans s6)
          refine ⟨two, fun c nc => ⟨two, fun d nd => good2 (s03.trans s46) (s46 _ _ eb) e6 (st.keep fun b xs hb => s6 _ _ hb) ?_ c nc d nd⟩⟩
          show (if noNum (.int i) 0 r.1 = true then _ else _) = _
          rw [en]
          rfl
    | swell v =>
      refine ⟨.str "swell", rfl, rfl, _, rfl, ite2 (fun c => absurd c (by decide)) (fun _ => ?_)⟩
      refine ⟨.ref a, rfl, a, _, 0, v, rfl, rfl, SqT.of ha1, atI_nat (j := 0) rfl, ?_⟩
      refine ⟨.str "swell", rfl, rfl, _, rfl, ite2 (fun c => absurd c (by decide)) (fun _ => ?_)⟩
      refine ⟨.str "swell", rfl, rfl, _, rfl, ite2 (fun c => absurd c (by decide)) (fun _ => ?_)⟩
      refine ⟨.str "swell", rfl, rfl, _, rfl, ite2 (fun c => absurd c (by decide)) (fun _ => ?_)⟩
      have fx := ib v List.mem_cons_self
      have n0 := wf.n0
      have n1 := wf.n1
      refine ⟨fun σ G' => ∃ i : Int, v = .int i ∧ 1 ≤ i ∧ r.1 * i ≤ 1000000000000000000 ∧ σ = sl49 m "swell" t a r.1 hd R none none none none none (some v) none none none none ∧ G' = G, ?_, ?_⟩
      · rcases fx with ⟨i, rfl, _⟩ | ⟨b, rfl⟩
        · have no : ¬ (1 ≤ i ∧ r.1 * i ≤ 1000000000000000000) → ∀ b, G b = none → ∀ c, (upd G b (.tup [.str "BadNumber", .int i])) c = none → Q (.ref c) (upd (upd G b (.tup [.str "BadNumber", .int i])) c (.tup [.ref b, .ref t])) := fun z b nb c nc => bad sG (by
            show (if decide (1 ≤ i ∧ r.1 * i ≤ 1000000000000000000) = true then _ else _) = _
            rw [decide_eq_false z]
            rfl) b nb c nc
          refine ⟨.int i, rfl, _, _, _, _, false, rfl, ClsV.ty _, TyX.base (TyOf.int _), kit_ty (by decide +kernel), _, rfl, iteF ?_⟩
          refine ⟨.int i, rfl, i, 1, rfl, rfl, _, rfl, ite2 (fun c => ?_) (fun c => ?_)⟩
          · have c : i < 1 := of_decide_eq_true c
            exact iteT ⟨.int i, rfl, two, fun b nb => ⟨.ref t, rfl, two, fun c' nc => no (fun z => by omega) b nb c' nc⟩⟩
          · have c : ¬ i < 1 := fun z => c (decide_eq_true z)
            refine ⟨.int r.1, rfl, .int i, rfl, _, _, rfl, rfl, .inl ⟨by omega, by omega⟩, 10, 18, rfl, rfl, ⟨by decide, by decide, by decide⟩, _, _, rfl, rfl, _, rfl, ite2 (fun c2 => ?_) (fun c2 => ?_)⟩
            · have c2 : 1000000000000000000 < r.1 * i := of_decide_eq_true c2
              exact ⟨.int i, rfl, two, fun b nb => ⟨.ref t, rfl, two, fun c' nc => no (fun z => by omega) b nb c' nc⟩⟩
            · have c2 : ¬ 1000000000000000000 < r.1 * i := fun z => c2 (decide_eq_true z)
              exact ⟨i, rfl, by omega, by omega, rfl, rfl⟩
        · refine ⟨.bl b, rfl, _, _, _, _, true, rfl, ClsV.ty _, TyX.base (TyOf.bl _), kit_ty (by decide +kernel), _, rfl, iteT (iteT ⟨.bl b, rfl, two, fun b' nb => ⟨.ref t, rfl, two, fun c nc => bad sG rfl b' nb c nc⟩⟩)⟩
      rintro σ G' ⟨i, rfl, i1, ni, rfl, rfl⟩
      -- the rows made as much greater
      refine ⟨fun σ G2 => ∃ (wd : Addr) (us : List Addr), σ = sl49 m "swell" t a r.1 hd R none none none none none (some (.int i)) none (some (.ref wd)) none none ∧ Same G' G2 ∧ G2 wd = some (.lst (us.map V.ref)) ∧ Mts G2 us ((r.2.map (·.2)).map (scX i)), ?_, ?_⟩
      · refine ⟨.ref hd, rfl, hd, kvs, r.2.map (·.1), rfl, .inl eh1, sd.keys, by rw [List.length_map]; omega, fun ys p pm pw np => ?_⟩
        have ey := perm_sorted pm pw wf.up
        subst ey
        have s1 := same_upd (H := G') (o := .lst ((r.2.map (·.1)).map V.int)) np
        have ep : (upd G' p (.lst ((r.2.map (·.1)).map V.int))) p = some (.lst ((r.2.map (·.1)).map V.int)) := upd_same
        generalize upd G' p (.lst ((r.2.map (·.1)).map V.int)) = G1 at s1 ep
        refine ⟨p, rfl, ⟨_, SqL.of ep⟩, fun D nD => lc_list (K := K) (a := p) (xs := (r.2.map (·.1)).map V.int) (fun j G3 => ∃ us : List Addr, Same G1 G3 ∧ G3 D = some (.lst (us.map V.ref)) ∧ Mts G3 us ((r.2.take j).map (·.2))) ⟨[], same_upd nD, upd_same, .nil⟩ (fun j G3 _ ⟨_, sm, _⟩ => SqL.of (sm _ _ ep)) ?_ ?_⟩
        · rintro j y G3 hx ⟨us, sm, eD, hU⟩
          rw [List.map_map, List.getElem?_map] at hx
          obtain ⟨z, hz, rfl⟩ := Option.map_eq_some_iff.mp hx
          have sm1 := s1.trans sm
          obtain ⟨tx, gt, _, htx⟩ := (sd1.keep (H' := G3) (fun b xs hb => sm1 _ _ hb)).dget (sm1 _ _ eh1) (sget_mem wf.up (List.mem_of_getElem? hz))
          have hul := hU.length
          rw [List.length_map, List.length_take] at hul
          refine ⟨rfl, .ref hd, rfl, .int z.1, rfl, hd, .ref tx, rfl, gt, _, eD, sz_lt (by rw [List.length_map]; omega), us ++ [tx], fun b o hb => ?_, by rw [upd_same, List.map_append]; rfl, ?_⟩
          · rw [upd_ne (ne_of_none hb nD)]
            exact sm _ _ hb
          · have kt : KeepT G3 (upd G3 D (.lst (us.map V.ref ++ [.ref tx]))) := fun b xs hb => by
              rw [upd_ne (ne_of hb eD (fun q => by cases q))]
              exact hb
            rw [List.take_add_one, hz, List.map_append]
            exact Mts.snoc (kt _ _ htx) (hU.keep kt)
        · rintro G3 ⟨us, sm, eD, hU⟩
          rw [List.length_map, List.length_map, List.take_length] at hU
          refine ⟨.int i, rfl, D, i, us, r.2.map (·.2), rfl, eD, hU, by rw [List.length_map]; omega, fun ne => ?_, fun H' wd us' s5 _ ew hW => ⟨wd, us', rfl, (s1.trans sm).trans s5, ew, hW⟩⟩
          obtain ⟨s0, hs0⟩ : ∃ s0, s0 ∈ r.2 := by
            cases h : r.2 with
            | nil => rw [h] at ne; exact absurd rfl ne
            | cons x _ => exact ⟨x, List.mem_cons_self⟩
          obtain ⟨_, k1, k2, k3, k4, _⟩ := wf.ok s0 hs0
          have np : 1 ≤ r.1 := by omega
          have : i ≤ r.1 * i := by
            have z := Int.mul_le_mul_of_nonneg_right np (show 0 ≤ i by omega)
            rwa [Int.one_mul] at z
          exact ⟨by omega, by omega⟩
      rintro σ G2 ⟨wd, us, rfl, s2, ew, hW⟩
      have eh2 := s2 _ _ eh1
      have nl := hW.length
      rw [List.length_map, List.length_map] at nl
      refine ⟨two, fun b nb => ?_⟩
      refine ⟨.int r.1, rfl, .int i, rfl, _, _, rfl, rfl, .inl ⟨by omega, by omega⟩, ?_⟩
      have s02 := sG.trans s2
      have sb := same_upd (H := G2) (o := .tup [.str "", .non]) nb
      have eb : (upd G2 b (.tup [.str "", .non])) b = some (.tup [.str "", .non]) := upd_same
      generalize upd G2 b (.tup [.str "", .non]) = G3 at sb eb ⊢
      have s03 := s02.trans sb
      refine ⟨.ref hd, rfl, hd, kvs, r.2.map (·.1), rfl, .inl (sb _ _ eh2), sd.keys, by rw [List.length_map]; omega, fun ys p pm pw np => ?_⟩
      have ey := perm_sorted pm pw wf.up
      subst ey
      have s4 := same_upd (H := G3) (o := .lst ((r.2.map (·.1)).map V.int)) np
      have ep : (upd G3 p (.lst ((r.2.map (·.1)).map V.int))) p = some (.lst ((r.2.map (·.1)).map V.int)) := upd_same
      generalize upd G3 p (.lst ((r.2.map (·.1)).map V.int)) = G4 at s4 ep
      have s24 := sb.trans s4
      have ew4 := s24 _ _ ew
      have hW4 := hW.keep (H' := G4) (fun b xs hb => s24 _ _ hb)
      refine ⟨p, _, rfl, SqL.of ep, fun D nD => lc_it walk_enum (fun j G5 => ∃ (ps : List Addr) (ks : List (Key × V)), Same G4 G5 ∧ G5 D = some (.lst (ps.map V.ref)) ∧ Paired (fun q kv => G5 q = some (.tup [kV kv.1, kv.2])) ps ks ∧ Std G5 ks (swS i (r.2.take j))) ⟨[], [], same_upd nD, upd_same, .nil, .nil⟩ (fun j G5 _ ⟨_, _, sm, _⟩ => SqL.of (sm _ _ ep)) ?_ ?_⟩
      · rintro j y G5 G6 hj ⟨ps, ks, sm, eD, pp, st⟩ ⟨T, x1, x2, rfl, nT, rfl, h1, h2⟩
        rw [List.length_map, List.length_map] at hj
        have hz := List.getElem?_eq_getElem hj
        generalize r.2[j]'hj = z at hz
        have h1 : V.int ((j : Nat) : Int) = x1 := Option.some.inj h1
        have h2 : ((r.2.map (·.1)).map V.int)[j]? = some x2 := h2
        rw [List.map_map, List.getElem?_map, hz] at h2
        have h2 : V.int z.1 = x2 := Option.some.inj h2
        subst h1 h2
        have hju : j < us.length := by omega
        have hu2 := List.getElem?_eq_getElem hju
        generalize us[j]'hju = tw at hu2
        obtain ⟨x, hx, ex⟩ := hW4.at j tw hu2
        rw [List.getElem?_map, List.getElem?_map, hz] at hx
        have hx : scX i z.2 = x := Option.some.inj hx
        rw [sc_sw] at hx
        subst hx
        have s6 := same_upd (H := G5) (o := .tup [.int ((j : Nat) : Int), .int z.1]) nT
        have e6 : (upd G5 T (.tup [.int ((j : Nat) : Int), .int z.1])) T = some (.tup [.int ((j : Nat) : Int), .int z.1]) := upd_same
        generalize upd G5 T (.tup [.int ((j : Nat) : Int), .int z.1]) = G6 at s6 e6
        have s46 := sm.trans s6
        refine ⟨T, _, rfl, SqT.of e6, rfl, .int ((j : Nat) : Int), _, rfl, .int z.1, _, rfl, rfl, rfl, ?_⟩
        refine ⟨.int z.1, rfl, .ref wd, rfl, .int ((j : Nat) : Int), rfl, wd, us.map V.ref, ((j : Nat) : Int), .ref tw, rfl, rfl, SqL.of (s46 _ _ ew4), atI_nat (j := j) (by rw [List.getElem?_map, hu2]; rfl), two, fun u nu => ?_⟩
        have s7 := same_upd (H := G6) (o := .tup [.int z.1, .ref tw]) nu
        have e7 : (upd G6 u (.tup [.int z.1, .ref tw])) u = some (.tup [.int z.1, .ref tw]) := upd_same
        generalize upd G6 u (.tup [.int z.1, .ref tw]) = G7 at s7 e7
        have s57 := s6.trans s7
        have eD7 := s57 _ _ eD
        have kt : KeepT G7 (upd G7 D (.lst (ps.map V.ref ++ [.ref u]))) := fun b xs hb => by
          rw [upd_ne (ne_of hb eD7 (fun q => by cases q))]
          exact hb
        have pp7 : Paired (fun (q : Addr) (kv : Key × V) => (upd G7 D (.lst (ps.map V.ref ++ [.ref u]))) q = some (.tup [kV kv.1, kv.2])) ps ks := Paired.mapP pp fun q kv e => kt _ _ (s57 _ _ e)
        have lps := pp.length
        have lst' := st.length
        unfold swS at lst'
        rw [List.length_map, List.length_take] at lst'
        refine ⟨_, eD7, sz_lt (by rw [List.length_map]; omega), ps ++ [u], ks ++ [(Sum.inl z.1, .ref tw)], fun b o hb => ?_, by rw [upd_same, List.map_append]; rfl, Paired.more (F := fun (q : Addr) (kv : Key × V) => (upd G7 D (.lst (ps.map V.ref ++ [.ref u]))) q = some (.tup [kV kv.1, kv.2])) (b := (Sum.inl z.1, .ref tw)) (kt _ _ e7) pp7, ?_⟩
        · rw [upd_ne (ne_of_none hb nD)]
          exact s57 _ _ (sm _ _ hb)
        · rw [List.take_add_one, hz]
          unfold swS
          rw [List.map_append]
          exact Std.snoc (kv := (Sum.inl z.1, .ref tw)) (s := (z.1, swX i z.2)) ⟨rfl, tw, rfl, kt _ _ (s7 _ _ (s46 _ _ ex))⟩ (st.keep fun b xs hb => kt _ _ (s57 _ _ hb))
      · rintro G5 ⟨ps, ks, sm, eD, pp, st⟩
        rw [List.length_map, List.length_map, List.take_length] at st
        have mk : mergeK [] ks = ks := mergeK_new (ks := r.2.map (·.1)) (by rw [st.keys, swS_keys]) wf.up (fun kv h => by cases h)
        refine ⟨D, ps, ks, rfl, SqL.of eD, Paired.mapP pp fun q kv e => SqT.of e, fun p2 np2 => ?_⟩
        rw [mk]
        have s6 := same_upd (H := G5) (o := .dK ks) np2
        have e6 : (upd G5 p2 (.dK ks)) p2 = some (.dK ks) := upd_same
        generalize upd G5 p2 (.dK ks) = G6 at s6 e6
        have s46 := s4.trans (sm.trans s6)
        refine ⟨two, fun c nc => ⟨two, fun d nd => good2 (s03.trans s46) (s46 _ _ eb) e6 (st.keep fun b xs hb => s6 _ _ hb) ?_ c nc d nd⟩⟩
        show (if decide (1 ≤ i ∧ r.1 * i ≤ 1000000000000000000) = true then _ else _) = _
        rw [decide_eq_true ⟨i1, ni⟩]
        rfl
end

/-! ### _law_step -/
abbrev N_step : List Str := ["_law_model", "_law_deed", "_law_cap", "_law_word", "_law_name", "_law_rest", "_law_later", "_law_due"]
abbrev P_step : List Str := ["_law_model", "_law_deed", "_law_cap"]
theorem sc_step : FnScope N_step P_step (defScope s_step) := ⟨rfl, rfl, rfl, by decide +kernel, rfl, by decide +kernel, by decide +kernel⟩
inductive HDeed
  | lay (x : Str) (v : V)
  | copy (x y : Str)
  | clear (x : Str)
  | behind (x y : Str)
  | road (x : Str) (k : RDeed)
def HDeed.word : HDeed → Str
  | .lay _ _ => "lay"
  | .copy _ _ => "copy"
  | .clear _ => "clear"
  | .behind _ _ => "behind"
  | .road _ k => k.word
def HDeed.name : HDeed → Str
  | .lay x _ => x
  | .copy x _ => x
  | .clear x => x
  | .behind x _ => x
  | .road x _ => x
def HDeed.rest : HDeed → List V
  | .lay _ v => [v]
  | .copy _ y => [.str y]
  | .clear _ => []
  | .behind _ y => [.str y]
  | .road _ k => k.rest
theorem RDeed.word_in (d : RDeed) : d.word = "mate" ∨ d.word = "strike" ∨ d.word = "grow" ∨ d.word = "trim" ∨ d.word = "swell" := by
  cases d with
  | mate _ => exact .inl rfl
  | strike _ => exact .inr (.inl rfl)
  | grow _ => exact .inr (.inr (.inl rfl))
  | trim _ => exact .inr (.inr (.inr (.inl rfl)))
  | swell _ => exact .inr (.inr (.inr (.inr rfl)))
/-- a road of the model told anew; left out -/
def mset (M : MoL) (x : Str) (r : RdM) : MoL := if (mget M x).isSome = true then M.map (fun m => if m.1 = x then (m.1, r) else m) else M ++ [(x, r)]
def mdrop (M : MoL) (x : Str) : MoL := M.filter fun m => decide (m.1 ≠ x)
theorem MdR.map {H : Hp} {x : Str} {v : V} {r : RdM} (hv : RmAt H v r) : ∀ {kvs : List (Key × V)} {M : MoL}, Paired (MdR H) kvs M → Paired (MdR H) (kvs.map fun kv => if kv.1 = Sum.inr x then (kv.1, v) else kv) (M.map fun m => if m.1 = x then (m.1, r) else m)
  | _, _, .nil => .nil
  | _, _, .cons (a := kv) (b := m) h t => by
    refine .cons ?_ (MdR.map hv t)
    show MdR H (if kv.1 = Sum.inr x then (kv.1, v) else kv) (if m.1 = x then (m.1, r) else m)
    by_cases e : m.1 = x
    · have ek : kv.1 = Sum.inr x := by rw [h.1, e]
      rw [if_pos ek, if_pos e]
      exact ⟨h.1, hv⟩
    · have ek : ¬ kv.1 = Sum.inr x := by
        rw [h.1]
        exact fun z => e (Sum.inr.inj z)
      rw [if_neg ek, if_neg e]
      exact h
theorem MdR.put {H : Hp} {x : Str} {v : V} {r : RdM} (hv : RmAt H v r) {kvs : List (Key × V)} {M : MoL} (h : Paired (MdR H) kvs M) : Paired (MdR H) (putK kvs (Sum.inr x) v) (mset M x r) := by
  unfold putK mset
  rw [valV_any]
  cases e : mget M x with
  | none =>
    rw [(mget_val x h).1 e]
    exact Paired.more ⟨rfl, hv⟩ h
  | some r0 =>
    obtain ⟨u, hu, _⟩ := (mget_val x h).2 r0 e
    rw [hu]
    exact MdR.map hv h
theorem MdR.drop {H : Hp} {x : Str} : ∀ {kvs : List (Key × V)} {M : MoL}, Paired (MdR H) kvs M → Paired (MdR H) (dropK kvs (Sum.inr x)) (mdrop M x)
  | _, _, .nil => .nil
  | _, _, .cons (a := kv) (b := m) h t => by
    have ih := MdR.drop (x := x) t
    unfold dropK mdrop at ih ⊢
    by_cases e : m.1 = x
    · have ek : kv.1 = Sum.inr x := by rw [h.1, e]
      rw [List.filter_cons_of_neg (by simpa using ek), List.filter_cons_of_neg (by simpa using e)]
      exact ih
    · have ek : ¬ kv.1 = Sum.inr x := by
        rw [h.1]
        exact fun z => e (Sum.inr.inj z)
      rw [List.filter_cons_of_pos (by simpa using ek), List.filter_cons_of_pos (by simpa using e)]
      exact .cons h ih
/-- one deed on the law's hall: what is due, and the hall behind it; a: where the deed's rest stands -/
def stepP (cap : Int) (a : Addr) (k : HDeed) (M : MoL) : (Str × V) × MoL := match k with
  | .lay x v => if (roomP cap M x).1 = "" then (if noNum v 0 1000000000000000000 = true then (("BadNumber", v), M) else (roomP cap M x, mset M x (numV v, []))) else (roomP cap M x, M)
  | .copy x y => match mget M x with
    | none => (("NoRoad", .str x), M)
    | some r => if (roomP cap M y).1 = "" then (roomP cap M y, mset M y r) else (roomP cap M y, M)
  | .clear x => match mget M x with
    | none => (("NoRoad", .str x), M)
    | some _ => (("", .non), mdrop M x)
  | .behind x y => match mget M x with
    | none => (("NoRoad", .str x), M)
    | some r => match mget M y with
      | none => (("NoRoad", .str y), M)
      | some r2 => if (tbP r r2).1.1 = "" then ((tbP r r2).1, mset M x (tbP r r2).2) else ((tbP r r2).1, M)
  | .road x d => match mget M x with
    | none => (("NoRoad", .str x), M)
    | some r => if (rdP a d r).1.1 = "" then ((rdP a d r).1, mset M x (rdP a d r).2) else ((rdP a d r).1, M)
/-- all roads of the model are right, and no mating is of many places -/
def MoK (M : MoL) : Prop := ∀ m ∈ M, RoW m.2.1 m.2.2 ∧ ∀ s ∈ m.2.2, s.2.2.2.1 ≤ 200
theorem mget_in {x : Str} {r : RdM} : ∀ {M : MoL}, mget M x = some r → ∃ m ∈ M, m.2 = r
  | m :: t, h => by
    unfold mget at h
    by_cases e : m.1 = x
    · rw [if_pos e] at h
      exact ⟨m, List.mem_cons_self, Option.some.inj h⟩
    · rw [if_neg e] at h
      obtain ⟨m', a, b⟩ := mget_in h
      exact ⟨m', List.mem_cons_of_mem _ a, b⟩
/-- a road of the law's stands where a dict of names is changed -/
theorem RmAt.offL {H G : Hp} {L : Addr} {kvs : List (Key × V)} {M : MoL} {v : V} {r : RdM} {o : HO} (eL : H L = some (.dK kvs)) (pm : Paired (MdR G) kvs M) (ne : M ≠ []) (h : RmAt H v r) : RmAt (upd H L o) v r := by
  obtain ⟨n, S⟩ := r
  obtain ⟨t, hd, kv2, e, e1, e2, s⟩ := h
  have s : Std H kv2 S := s
  have nh : hd ≠ L := fun z => by
    rw [z, eL] at e2
    cases e2
    cases pm with
    | nil => exact ne rfl
    | cons h1 _ =>
      cases s with
      | cons h2 _ =>
        have q := h1.1.symm.trans h2.1
        cases q
  have kt : KeepT H (upd H L o) := fun b xs hb => by
    rw [upd_ne (ne_of hb eL (fun q => by cases q))]
    exact hb
  exact ⟨t, hd, kv2, e, kt _ _ e1, by rw [upd_ne nh]; exact e2, s.keep kt⟩
theorem cut2 (x y : V) (xs : List V) : cutV ([x, y] ++ xs) (some 2) none = xs := by
  unfold cutV
  rw [show (some (2 : Int)) = some ((2 : Nat) : Int) from rfl, HT.sIx_nat, HT.sIx_none]
  simp
def spStepH : Sp := fun vs H Q _ => ∃ (md dd : Addr) (M : MoL) (k : HDeed) (cap : Int), vs = [.ref md, .ref dd, .int cap] ∧ MdAt H md M ∧ H dd = some (.tup ([.str k.word, .str k.name] ++ k.rest)) ∧ (∀ x ∈ k.rest, IB x ∨ ∃ y : Str, x = .str y ∧ y.length ≤ 1000) ∧ (∀ x d, k = .road x d → ∀ v ∈ d.rest, IB v) ∧ (∀ x v, k = .lay x v → IB v) ∧ k.name.length ≤ 1000 ∧ MoK M ∧ M.length ≤ 60 ∧
  ∀ (H' : Hp) (t u md' a : Addr), Same H H' → H' a = some (.tup k.rest) → H' t = some (.tup [.ref u, .ref md']) → H' u = some (.tup [.str (stepP cap a k M).1.1, (stepP cap a k M).1.2]) → MdAt H' md' (stepP cap a k M).2 → Q (.ref t) H'
section
variable {P : Program} {w : World} {K : PySem.W.Frag} {mg : Str → Option Value} {base : Heap}
theorem ok_stepH {f fR fN fT fD fG fC fE fS : Addr} {fd fdR fdN fdT fdD fdG fdC fdE fdS : FuncData} (D : DefAt K mg "_law_step" s_step P_step f fd) (D_room : DefAt K mg "_law_room" s_room P_room fR fdR) (D_no_number : DefAt K mg "_law_no_number" s_no_number P_no_number fN fdN) (D_taken_behind : DefAt K mg "_law_taken_behind" s_taken_behind P_taken_behind fT fdT) (D_road_deed : DefAt K mg "_law_road_deed" s_road_deed P_road_deed fD fdD)
    (D_good_name : DefAt K mg "_law_good_name" s_good_name P_good_name fG fdG) (D_clip : DefAt K mg "_law_clip" s_clip P_clip fC fdC) (D_ends : DefAt K mg "_law_ends" s_ends P_ends fE fdE) (D_scaled : DefAt K mg "_law_scaled" s_scaled P_scaled fS fdS) (zE : mg "enumerate" = none) (B : Bn mg) :
    FnOk P w K mg base CX0 4 f fd P_step spStepH := by
  have G_room : FnOk P w K mg base CX0 2 fR fdR P_room spRoom := ok_room D_room D_good_name B
  have G_no_number : FnOk P w K mg base CX0 1 fN fdN P_no_number spNoNum := ok_noNum D_no_number B
  have G_taken_behind : FnOk P w K mg base CX0 1 fT fdT P_taken_behind spTakenB := ok_takenB D_taken_behind B
  have G_road_deed : FnOk P w K mg base CX0 3 fD fdD P_road_deed spRoadDeed := ok_roadDeed D_road_deed D_no_number D_clip D_ends D_scaled zE B
  refine D.F.ok sc_step (fun vs H Q E h => ?_) (fun cdv A outer s H vs Q E hr h => ?_)
  · obtain ⟨md, dd, M, k, cap, rfl, _⟩ := h
    rfl
  · obtain ⟨md, dd, M, k, cap, rfl, hm, hdd, ibr, ibd, ibl, hn, mok, lM, q⟩ := h
    have hu := hu_of hr
    refine ⟨_, (C8.pss_cut (ps_par3 (i := 3) (j := 4) (l := 5) (by rfl) sc_step.nd rfl rfl rfl (by decide) (by decide) (by decide) rfl rfl rfl (pa_cons (pe_ix ix_tup (pv 1) pe_int (fun _ _ => rfl)) (pa_cons (pe_ix ix_tup (pv 1) pe_int (fun _ _ => rfl)) (pa_cons (pe_callTy call_tuple_of (by rfl) B.tuple (by decide +kernel) (pa_cons (pe_slice sl_tup (pv 1) (po_some pe_int) po_none) pa_nil)) pa_nil))) (by rfl))
      (C8.pss_cut (ps_set (i := 6) sc_step.nd rfl (.inl rfl) (pe_callTy call_dictD (by rfl) B.dict (by decide +kernel) (pa_cons (pv 0) pa_nil)))
      (C8.pss_cut (ps_if (pt_cmpR op_eq (pv 3) pe_str (nomark _)) (pss_cons (ps_set (i := 7) sc_step.nd rfl (.inl rfl) (pe_call G_room (hr.mono (by omega)) (by rfl) D_room.g D_room.F.kp D_room.b .nil pass0 (pa_cons (pv 0) (pa_cons (pv 4) (pa_cons (pv 2) pa_nil)))))
      (C8.pss_cut (ps_if (PW.pt (pw_and (pt_cmpR op_eq (pe_ix ix_tup (pv 7) pe_int (fun _ _ => rfl)) pe_str (nomark _)) (pw_and1 (pt_val (pe_call G_no_number (hr.mono (by omega)) (by rfl) D_no_number.g D_no_number.F.kp D_no_number.b .nil pass0 (pa_cons (pe_ix ix_tup (pv 5) pe_int (fun _ _ => rfl)) (pa_cons pe_int (pa_cons (pe_op op_pow pe_int pe_int) pa_nil)))))))) (pss_one (ps_set (i := 7) sc_step.nd rfl (.inl rfl) (pe_tup (pa_cons pe_str (pa_cons (pe_ix ix_tup (pv 5) pe_int (fun _ _ => rfl)) pa_nil))))) pss_nil)
      (pss_one (ps_dput hu (pv 6) (pv 4) (pe_tup (pa_cons (pe_ix ix_tup (pv 5) pe_int (fun _ _ => rfl)) (pa_cons pe_dnewK pa_nil))) rfl)))) (pss_one (ps_if (pt_cmp (pc_dnotin hu (pv 4) (pv 0))) (pss_one (ps_set (i := 7) sc_step.nd rfl (.inl rfl) (pe_tup (pa_cons pe_str (pa_cons (pv 4) pa_nil))))) (pss_one (ps_if (pt_cmpR op_eq (pv 3) pe_str (nomark _)) (pss_cons (ps_set (i := 7) sc_step.nd rfl (.inl rfl) (pe_tup (pa_cons pe_str (pa_cons pe_non pa_nil))))
      (pss_one (ps_expr (pe_dpop1 (pv 6) (pv 4) ⟨rfl, rfl, rfl, rfl⟩)))) (pss_one (ps_if (pt_cmpR op_eq (pv 3) pe_str (nomark _)) (pss_cons (ps_set (i := 7) sc_step.nd rfl (.inl rfl) (pe_call G_room (hr.mono (by omega)) (by rfl) D_room.g D_room.F.kp D_room.b .nil pass0 (pa_cons (pv 0) (pa_cons (pe_ix ix_tup (pv 5) pe_int (fun _ _ => rfl)) (pa_cons (pv 2) pa_nil)))))
      (pss_one (ps_dput hu (pv 6) (pe_ix ix_tup (pv 5) pe_int (fun _ _ => rfl)) (pe_dget hu (pv 0) (pv 4) (fun _ _ => rfl)) rfl))) (pss_one (ps_if (pt_cmpR op_eq (pv 3) pe_str (nomark _)) (pss_cons (ps_set (i := 7) sc_step.nd rfl (.inl rfl) (pe_tup (pa_cons pe_str (pa_cons (pe_ix ix_tup (pv 5) pe_int (fun _ _ => rfl)) pa_nil))))
      (pss_one (ps_if (pt_cmp (pc_din hu (pe_ix ix_tup (pv 5) pe_int (fun _ _ => rfl)) (pv 0))) (pss_one (ps_asg (pe_call G_taken_behind (hr.mono (by omega)) (by rfl) D_taken_behind.g D_taken_behind.F.kp D_taken_behind.b .nil pass0 (pa_cons (pe_dget hu (pv 0) (pv 4) (fun _ _ => rfl)) (pa_cons (pe_dget hu (pv 0) (pe_ix ix_tup (pv 5) pe_int (fun _ _ => rfl)) (fun _ _ => rfl)) pa_nil))) (pg_tup (by rfl) (pgs_cons (pg_name (i := 7) sc_step.nd rfl (.inl rfl)) (pgs_cons (pg_sub (pv 6) (pv 4) (set_dict hu)) pgs_nil))))) pss_nil))) (pss_one (ps_asg (pe_call G_road_deed (hr.mono (by omega)) (by rfl) D_road_deed.g D_road_deed.F.kp D_road_deed.b .nil pass0 (pa_cons (pv 0) (pa_cons (pv 3) (pa_cons (pe_dget hu (pv 0) (pv 4) (fun _ _ => rfl)) (pa_cons (pv 5) pa_nil))))) (pg_tup (by rfl) (pgs_cons (pg_name (i := 7) sc_step.nd rfl (.inl rfl)) (pgs_cons (pg_sub (pv 6) (pv 4) (set_dict hu)) pgs_nil))))))))))))))
      (pss_one (ps_ret (pe_tup (pa_cons (pv 7) (pa_cons (pe_ifExp (pt_cmpR op_eq (pe_ix ix_tup (pv 7) pe_int (fun _ _ => rfl)) pe_str (nomark _)) (pv 6) (pv 0)) pa_nil)))))))), ?_⟩
    have two : 2 ≤ sizeLine := by decide
    have hdd : H dd = some (.tup ([.str k.word, .str k.name] ++ k.rest)) := hdd
    refine ⟨fun σ G => ∃ a : Addr, σ = [some (.ref md), some (.ref dd), some (.int cap), some (.str k.word), some (.str k.name), some (.ref a), none, none] ∧ Same H G ∧ G a = some (.tup k.rest), ?_, ?_⟩
    · refine ⟨.ref dd, rfl, dd, _, 0, .str k.word, rfl, rfl, SqT.of hdd, atI_nat (j := 0) rfl, .ref dd, rfl, dd, _, 1, .str k.name, rfl, rfl, SqT.of hdd, atI_nat (j := 1) rfl, .ref dd, rfl, 2, rfl, dd, _, rfl, SqT.of hdd, ?_, fun p np => ?_⟩
      · rw [show (some (2 : Int)) = some ((2 : Nat) : Int) from rfl, HT.sIx_nat]
        simp
      · rw [cut2]
        exact ⟨p, k.rest, rfl, .inr ⟨SqT.of upd_same, _, _, _, rfl, p, rfl, same_upd np, upd_same⟩⟩
    rintro σ G ⟨a, rfl, sG, ea⟩
    obtain ⟨kvs, em, pm⟩ := hm.keepO (.same sG)
    have lk := pm.length
    refine ⟨fun σ G2 => ∃ L : Addr, σ = [some (.ref md), some (.ref dd), some (.int cap), some (.str k.word), some (.str k.name), some (.ref a), some (.ref L), none] ∧ Same G G2 ∧ G L = none ∧ G2 L = some (.dK kvs), ?_, ?_⟩
    · exact ⟨.ref md, rfl, md, kvs, rfl, .inl em, fun L nL => ⟨L, rfl, same_upd nL, nL, upd_same⟩⟩
    rintro σ G2 ⟨L, rfl, s2, nL, eL⟩
    have em2 := s2 _ _ em
    have ea2 := s2 _ _ ea
    have pm2 : Paired (MdR G2) kvs M := Paired.mapP pm fun kv m h => ⟨h.1, h.2.keepO (.same s2)⟩
    have sH2 := sG.trans s2
    have hm2 : MdAt G2 md M := ⟨kvs, em2, pm2⟩
    have mv := fun x => mget_val (H := G2) x pm2
    refine ⟨fun σ G3 => ∃ (u : Addr) (ks : List (Key × V)), σ = [some (.ref md), some (.ref dd), some (.int cap), some (.str k.word), some (.str k.name), some (.ref a), some (.ref L), some (.ref u)] ∧ Same G G3 ∧ G3 u = some (.tup [.str (stepP cap a k M).1.1, (stepP cap a k M).1.2]) ∧ G3 L = some (.dK ks) ∧ (((stepP cap a k M).1.1 = "" ∧ Paired (MdR G3) ks (stepP cap a k M).2) ∨ ((stepP cap a k M).1.1 ≠ "" ∧ (stepP cap a k M).2 = M)), ?_, ?_⟩
    · clear q
      have fin1 : ∀ {G3 : Hp} {u : Addr}, Same G2 G3 → G3 u = some (.tup [.str (stepP cap a k M).1.1, (stepP cap a k M).1.2]) → (stepP cap a k M).1.1 ≠ "" → (stepP cap a k M).2 = M → ∃ (u' : Addr) (ks : List (Key × V)), [some (V.ref md), some (.ref dd), some (.int cap), some (.str k.word), some (.str k.name), some (.ref a), some (.ref L), some (.ref u)] = [some (V.ref md), some (.ref dd), some (.int cap), some (.str k.word), some (.str k.name), some (.ref a), some (.ref L), some (.ref u')] ∧ Same G G3 ∧ G3 u' = some (.tup [.str (stepP cap a k M).1.1, (stepP cap a k M).1.2]) ∧ G3 L = some (.dK ks) ∧ (((stepP cap a k M).1.1 = "" ∧ Paired (MdR G3) ks (stepP cap a k M).2) ∨ ((stepP cap a k M).1.1 ≠ "" ∧ (stepP cap a k M).2 = M)) :=
        fun {G3 u} s eu e1 e2 => ⟨u, kvs, rfl, s2.trans s, eu, s _ _ eL, .inr ⟨e1, e2⟩⟩
      have fin2 : ∀ {G3 : Hp} {u : Addr} {ks' : List (Key × V)}, Same G2 G3 → G3 u = some (.tup [.str (stepP cap a k M).1.1, (stepP cap a k M).1.2]) → (Same G (upd G3 L (.dK ks')) → ((stepP cap a k M).1.1 = "" ∧ Paired (MdR (upd G3 L (.dK ks'))) ks' (stepP cap a k M).2) ∨ ((stepP cap a k M).1.1 ≠ "" ∧ (stepP cap a k M).2 = M)) → ∃ (u' : Addr) (ks : List (Key × V)), [some (V.ref md), some (.ref dd), some (.int cap), some (.str k.word), some (.str k.name), some (.ref a), some (.ref L), some (.ref u)] = [some (V.ref md), some (.ref dd), some (.int cap), some (.str k.word), some (.str k.name), some (.ref a), some (.ref L), some (.ref u')] ∧ Same G (upd G3 L (.dK ks')) ∧ (upd G3 L (.dK ks')) u' = some (.tup [.str (stepP cap a k M).1.1, (stepP cap a k M).1.2]) ∧ (upd G3 L (.dK ks')) L = some (.dK ks) ∧ (((stepP cap a k M).1.1 = "" ∧ Paired (MdR (upd G3 L (.dK ks'))) ks (stepP cap a k M).2) ∨ ((stepP cap a k M).1.1 ≠ "" ∧ (stepP cap a k M).2 = M)) := fun {G3 u ks'} s eu h => by
        have sm : Same G (upd G3 L (.dK ks')) := fun b o hb => by
          rw [upd_ne (ne_of_none hb nL)]
          exact s _ _ (s2 _ _ hb)
        refine ⟨u, ks', rfl, sm, ?_, upd_same, h sm⟩
        rw [upd_ne (ne_of eu (s _ _ eL) (fun q => by cases q))]
        exact eu
      have pmS : ∀ {G4 : Hp}, Same G G4 → Paired (MdR G4) kvs M := fun s => Paired.mapP pm fun kv m h => ⟨h.1, h.2.keepO (.same s)⟩
      have none_ne : ∀ {x : Str} {r : RdM}, mget M x = some r → M ≠ [] := fun {x r} h z => by rw [z] at h; cases h
      cases k with
      | lay x v =>
        have iv : IB v := ibl x v rfl
        refine ⟨.str "lay", rfl, rfl, _, rfl, ite2 (fun _ => ?_) (fun c => absurd (decide_eq_true rfl) c)⟩
        refine ⟨.ref md, rfl, .str x, rfl, .int cap, rfl, md, M, x, cap, rfl, hm2, hn, fun G3 t s3 et => ?_⟩
        refine ⟨fun σ G5 => ∃ u : Addr, σ = [some (.ref md), some (.ref dd), some (.int cap), some (.str "lay"), some (.str x), some (.ref a), some (.ref L), some (.ref u)] ∧ Same G2 G5 ∧ G5 u = some (.tup [.str (stepP cap a (.lay x v) M).1.1, (stepP cap a (.lay x v) M).1.2]) ∧ (((stepP cap a (.lay x v) M).1.1 = "" ∧ (stepP cap a (.lay x v) M).2 = mset M x (numV v, []) ∧ ∃ i, v = .int i) ∨ ((stepP cap a (.lay x v) M).1.1 ≠ "" ∧ (stepP cap a (.lay x v) M).2 = M)), ?_, ?_⟩
        · refine ⟨.ref t, rfl, t, _, 0, .str (roomP cap M x).1, rfl, rfl, SqT.of et, atI_nat (j := 0) rfl, rfl, _, rfl, ?_⟩
          unfold stepP
          by_cases hdue : (roomP cap M x).1 = ""
          · rw [decide_eq_true (show V.str (roomP cap M x).1 = V.str "" from congrArg V.str hdue)]
            simp only [if_pos hdue]
            refine ⟨.ref a, rfl, a, _, 0, v, rfl, rfl, SqT.of (s3 _ _ ea2), atI_nat (j := 0) rfl, 10, 18, rfl, rfl, ⟨by decide, by decide, by decide⟩, v, 0, 1000000000000000000, rfl, iv, _, rfl, ?_⟩
            cases en : noNum v 0 1000000000000000000 with
            | true =>
              refine iteT ⟨.ref a, rfl, a, _, 0, v, rfl, rfl, SqT.of (s3 _ _ ea2), atI_nat (j := 0) rfl, two, fun u nu => ⟨u, rfl, s3.trans (same_upd nu), ?_, ?_⟩⟩
              · simp only [en, if_true]
                exact upd_same
              · simp only [en, if_true]
                exact .inr ⟨by decide, trivial⟩
            | false =>
              refine iteF ⟨t, rfl, s3, ?_, ?_⟩
              · simp only [en, Bool.false_eq_true, if_false]
                exact et
              · simp only [en, Bool.false_eq_true, if_false]
                refine .inl ⟨hdue, trivial, ?_⟩
                rcases iv with ⟨i, rfl, _⟩ | ⟨b, rfl⟩
                · exact ⟨i, rfl⟩
                · cases en
          · rw [decide_eq_false (show ¬ V.str (roomP cap M x).1 = V.str "" from fun z => hdue (V.str.inj z))]
            simp only [if_neg hdue]
            exact iteF (iteF ⟨t, rfl, s3, et, .inr ⟨hdue, trivial⟩⟩)
        clear s3 et
        rintro σ G5 ⟨u, rfl, s5, eu, alt⟩
        refine ⟨.ref a, rfl, a, _, 0, v, rfl, rfl, SqT.of (s5 _ _ ea2), atI_nat (j := 0) rfl, fun nd nnd => ⟨two, fun r nr => ?_⟩⟩
        have s6 := same_upd (H := G5) (o := .dK []) nnd
        have e6 : (upd G5 nd (.dK [])) nd = some (.dK []) := upd_same
        generalize upd G5 nd (.dK []) = G6 at s6 e6 nr ⊢
        have s7 := same_upd (H := G6) (o := .tup [v, .ref nd]) nr
        have e7 : (upd G6 r (.tup [v, .ref nd])) r = some (.tup [v, .ref nd]) := upd_same
        generalize upd G6 r (.tup [v, .ref nd]) = G7 at s7 e7 ⊢
        have s57 := s6.trans s7
        have eL7 := s57 _ _ (s5 _ _ eL)
        have ndL : nd ≠ L := (ne_of_none (s5 _ _ eL) nnd).symm
        refine ⟨.ref L, rfl, .str x, rfl, L, _, rfl, DPut.k (k := Sum.inr x) eL7 (sz_lt (by omega)), fin2 (s5.trans s57) (s57 _ _ eu) fun sm => ?_⟩
        rcases alt with ⟨e1, e2, i, rfl⟩ | ⟨e1, e2⟩
        · refine .inl ⟨e1, ?_⟩
          rw [e2]
          refine MdR.put (r := (i, [])) (v := .ref r) ⟨r, nd, [], rfl, ?_, ?_, .nil⟩ (pmS sm)
          · rw [upd_ne (ne_of e7 eL7 (fun q => by cases q))]
            exact e7
          · rw [upd_ne ndL]
            exact s7 _ _ e6
        · exact .inr ⟨e1, e2⟩
      | copy x y =>
        refine ⟨.str "copy", rfl, rfl, _, rfl, ite2 (fun c => absurd c (by decide)) (fun _ => ?_)⟩
        refine ⟨.str x, rfl, .ref md, rfl, md, _, rfl, DGet.k (k := Sum.inr x) em2, _, rfl, ?_⟩
        cases ex : mget M x with
        | none =>
          rw [(mv x).1 ex]
          refine iteT ⟨.str x, rfl, two, fun u nu => fin1 (same_upd nu) ?_ ?_ ?_⟩ <;> (unfold stepP; simp only [ex])
          · exact upd_same
          · decide
        | some r =>
          obtain ⟨wv, hw, hr'⟩ := (mv x).2 r ex
          rw [hw]
          refine iteF ⟨.str "copy", rfl, rfl, _, rfl, ite2 (fun c => absurd c (by decide)) (fun _ => ⟨.str "copy", rfl, rfl, _, rfl, ite2 (fun _ => ?_) (fun c => absurd (decide_eq_true rfl) c)⟩)⟩
          refine ⟨.ref md, rfl, .ref a, rfl, a, _, 0, .str y, rfl, rfl, SqT.of ea2, atI_nat (j := 0) rfl, .int cap, rfl, md, M, y, cap, rfl, hm2, ?_, fun G3 t s3 et => ?_⟩
          · rcases ibr (.str y) List.mem_cons_self with h | ⟨y', h, hl⟩
            · rcases h with ⟨i, h, _⟩ | ⟨b, h⟩ <;> cases h
            · cases h
              exact hl
          have gt : DGet G3 md (.str x) (some wv) := by
            have q := DGet.k (k := Sum.inr x) (s3 _ _ em2)
            rw [hw] at q
            exact q
          refine ⟨.ref md, rfl, .str x, rfl, md, wv, rfl, gt, .ref L, rfl, .ref a, rfl, a, _, 0, .str y, rfl, rfl, SqT.of (s3 _ _ ea2), atI_nat (j := 0) rfl, L, _, rfl, DPut.k (k := Sum.inr y) (s3 _ _ eL) (sz_lt (by omega)), fin2 s3 ?_ fun sm => ?_⟩
          · unfold stepP
            simp only [ex]
            by_cases hdue : (roomP cap M y).1 = ""
            · simp only [if_pos hdue]
              exact et
            · simp only [if_neg hdue]
              exact et
          · unfold stepP
            simp only [ex]
            by_cases hdue : (roomP cap M y).1 = ""
            · simp only [if_pos hdue]
              exact .inl ⟨hdue, MdR.put (RmAt.offL (s3 _ _ eL) pm (none_ne ex) (hr'.keepO (.same s3))) (pmS sm)⟩
            · simp only [if_neg hdue]
              exact .inr ⟨hdue, trivial⟩
      | clear x =>
        refine ⟨.str "clear", rfl, rfl, _, rfl, ite2 (fun c => absurd c (by decide)) (fun _ => ?_)⟩
        refine ⟨.str x, rfl, .ref md, rfl, md, _, rfl, DGet.k (k := Sum.inr x) em2, _, rfl, ?_⟩
        cases ex : mget M x with
        | none =>
          rw [(mv x).1 ex]
          refine iteT ⟨.str x, rfl, two, fun u nu => fin1 (same_upd nu) ?_ ?_ ?_⟩ <;> (unfold stepP; simp only [ex])
          · exact upd_same
          · decide
        | some r =>
          obtain ⟨wv, hw, hr'⟩ := (mv x).2 r ex
          rw [hw]
          refine iteF ⟨.str "clear", rfl, rfl, _, rfl, ite2 (fun _ => ?_) (fun c => absurd (decide_eq_true rfl) c)⟩
          refine ⟨two, fun u nu => ?_⟩
          have s3 := same_upd (H := G2) (o := .tup [.str "", .non]) nu
          have eu : (upd G2 u (.tup [.str "", .non])) u = some (.tup [.str "", .non]) := upd_same
          generalize upd G2 u (.tup [.str "", .non]) = G3 at s3 eu
          refine ⟨.ref L, rfl, L, rfl, .inl ⟨_, .inl (s3 _ _ eL)⟩, .str x, rfl, kvs, Sum.inr x, wv, s3 _ _ eL, rfl, hw, fin2 s3 ?_ fun sm => ?_⟩
          · unfold stepP
            simp only [ex]
            exact eu
          · unfold stepP
            simp only [ex]
            exact .inl ⟨trivial, MdR.drop (pmS sm)⟩
      | behind x y =>
        refine ⟨.str "behind", rfl, rfl, _, rfl, ite2 (fun c => absurd c (by decide)) (fun _ => ?_)⟩
        refine ⟨.str x, rfl, .ref md, rfl, md, _, rfl, DGet.k (k := Sum.inr x) em2, _, rfl, ?_⟩
        cases ex : mget M x with
        | none =>
          rw [(mv x).1 ex]
          refine iteT ⟨.str x, rfl, two, fun u nu => fin1 (same_upd nu) ?_ ?_ ?_⟩ <;> (unfold stepP; simp only [ex])
          · exact upd_same
          · decide
        | some r =>
          obtain ⟨wv, hw, hr'⟩ := (mv x).2 r ex
          rw [hw]
          refine iteF ⟨.str "behind", rfl, rfl, _, rfl, ite2 (fun c => absurd c (by decide)) (fun _ => ⟨.str "behind", rfl, rfl, _, rfl, ite2 (fun c => absurd c (by decide)) (fun _ => ⟨.str "behind", rfl, rfl, _, rfl, ite2 (fun _ => ?_) (fun c => absurd (decide_eq_true rfl) c)⟩)⟩)⟩
          refine ⟨.ref a, rfl, a, _, 0, .str y, rfl, rfl, SqT.of ea2, atI_nat (j := 0) rfl, two, fun u nu => ?_⟩
          have s3 := same_upd (H := G2) (o := .tup [.str "NoRoad", .str y]) nu
          have eu : (upd G2 u (.tup [.str "NoRoad", .str y])) u = some (.tup [.str "NoRoad", .str y]) := upd_same
          generalize upd G2 u (.tup [.str "NoRoad", .str y]) = G3 at s3 eu
          refine ⟨.ref a, rfl, a, _, 0, .str y, rfl, rfl, SqT.of (s3 _ _ ea2), atI_nat (j := 0) rfl, .ref md, rfl, md, _, rfl, DGet.k (k := Sum.inr y) (s3 _ _ em2), _, rfl, ?_⟩
          cases ey : mget M y with
          | none =>
            rw [(mv y).1 ey]
            refine iteF (fin1 s3 ?_ ?_ ?_) <;> (unfold stepP; simp only [ex, ey])
            · exact eu
            · decide
          | some r2 =>
            obtain ⟨wv2, hw2, hr2'⟩ := (mv y).2 r2 ey
            rw [hw2]
            have gt : DGet G3 md (.str x) (some wv) := by
              have q := DGet.k (k := Sum.inr x) (s3 _ _ em2)
              rw [hw] at q
              exact q
            have gt2 : DGet G3 md (.str y) (some wv2) := by
              have q := DGet.k (k := Sum.inr y) (s3 _ _ em2)
              rw [hw2] at q
              exact q
            obtain ⟨m1, hm1, rfl⟩ := mget_in ex
            obtain ⟨m2, hm2', rfl⟩ := mget_in ey
            refine iteT ⟨.ref md, rfl, .str x, rfl, md, wv, rfl, gt, .ref md, rfl, .ref a, rfl, a, _, 0, .str y, rfl, rfl, SqT.of (s3 _ _ ea2), atI_nat (j := 0) rfl, md, wv2, rfl, gt2, wv, wv2, m1.2, m2.2, rfl, hr'.keepO (.same s3), hr2'.keepO (.same s3), (mok m1 hm1).1, (mok m2 hm2').1, fun G4 t s4 hd => ?_⟩
            obtain ⟨u2, vv, et, eu2, hvv⟩ := hd
            have s34 := s3.trans s4
            refine ⟨t, _, rfl, SqT.of et, rfl, .ref u2, _, rfl, vv, _, rfl, .ref L, rfl, .str x, rfl, L, _, rfl, DPut.k (k := Sum.inr x) (s34 _ _ eL) (sz_lt (by omega)), rfl, fin2 s34 ?_ fun sm => ?_⟩
            · unfold stepP
              simp only [ex, ey]
              by_cases hdue : (tbP m1.2 m2.2).1.1 = ""
              · simp only [if_pos hdue]
                exact eu2
              · simp only [if_neg hdue]
                exact eu2
            · unfold stepP
              simp only [ex, ey]
              by_cases hdue : (tbP m1.2 m2.2).1.1 = ""
              · simp only [if_pos hdue]
                exact .inl ⟨hdue, MdR.put (RmAt.offL (s34 _ _ eL) pm (none_ne ex) hvv) (pmS sm)⟩
              · simp only [if_neg hdue]
                exact .inr ⟨hdue, trivial⟩
      | road x d =>
        have w1 : d.word ≠ "lay" := by rcases d.word_in with h | h | h | h | h <;> rw [h] <;> decide
        have w2 : d.word ≠ "clear" := by rcases d.word_in with h | h | h | h | h <;> rw [h] <;> decide
        have w3 : d.word ≠ "copy" := by rcases d.word_in with h | h | h | h | h <;> rw [h] <;> decide
        have w4 : d.word ≠ "behind" := by rcases d.word_in with h | h | h | h | h <;> rw [h] <;> decide
        have nw : ∀ {z : Str}, d.word ≠ z → decide (V.str d.word = V.str z) = true → False := fun hz c => hz (V.str.inj (of_decide_eq_true c))
        refine ⟨.str d.word, rfl, rfl, _, rfl, ite2 (fun c => (nw w1 c).elim) (fun _ => ?_)⟩
        refine ⟨.str x, rfl, .ref md, rfl, md, _, rfl, DGet.k (k := Sum.inr x) em2, _, rfl, ?_⟩
        cases ex : mget M x with
        | none =>
          rw [(mv x).1 ex]
          refine iteT ⟨.str x, rfl, two, fun u nu => fin1 (same_upd nu) ?_ ?_ ?_⟩ <;> (unfold stepP; simp only [ex])
          · exact upd_same
          · decide
        | some r =>
          obtain ⟨wv, hw, hr'⟩ := (mv x).2 r ex
          rw [hw]
          refine iteF ⟨.str d.word, rfl, rfl, _, rfl, ite2 (fun c => (nw w2 c).elim) (fun _ => ⟨.str d.word, rfl, rfl, _, rfl, ite2 (fun c => (nw w3 c).elim) (fun _ => ⟨.str d.word, rfl, rfl, _, rfl, ite2 (fun c => (nw w4 c).elim) (fun _ => ?_)⟩)⟩)⟩
          have gt : DGet G2 md (.str x) (some wv) := by
            have q := DGet.k (k := Sum.inr x) em2
            rw [hw] at q
            exact q
          obtain ⟨m1, hm1, rfl⟩ := mget_in ex
          refine ⟨.ref md, rfl, .str d.word, rfl, .ref md, rfl, .str x, rfl, md, wv, rfl, gt, .ref a, rfl, .ref md, wv, a, d, m1.2, rfl, hr', ea2, ibd x d rfl, (mok m1 hm1).1, (mok m1 hm1).2, fun G4 t s4 hd => ?_⟩
          obtain ⟨u2, vv, et, eu2, hvv⟩ := hd
          refine ⟨t, _, rfl, SqT.of et, rfl, .ref u2, _, rfl, vv, _, rfl, .ref L, rfl, .str x, rfl, L, _, rfl, DPut.k (k := Sum.inr x) (s4 _ _ eL) (sz_lt (by omega)), rfl, fin2 s4 ?_ fun sm => ?_⟩
          · unfold stepP
            simp only [ex]
            by_cases hdue : (rdP a d m1.2).1.1 = ""
            · simp only [if_pos hdue]
              exact eu2
            · simp only [if_neg hdue]
              exact eu2
          · unfold stepP
            simp only [ex]
            by_cases hdue : (rdP a d m1.2).1.1 = ""
            · simp only [if_pos hdue]
              exact .inl ⟨hdue, MdR.put (RmAt.offL (s4 _ _ eL) pm (none_ne ex) hvv) (pmS sm)⟩
            · simp only [if_neg hdue]
              exact .inr ⟨hdue, trivial⟩
    rintro σ G3 ⟨u, ks, rfl, s3, eu, eL3, alt⟩
    have sH3 := sG.trans s3
    refine ⟨.ref u, rfl, .ref u, rfl, u, _, 0, .str (stepP cap a k M).1.1, rfl, rfl, SqT.of eu, atI_nat (j := 0) rfl, rfl, _, rfl, ?_⟩
    rcases alt with ⟨e1, pk⟩ | ⟨e1, e2⟩
    · rw [decide_eq_true (show V.str (stepP cap a k M).1.1 = V.str "" from congrArg V.str e1)]
      refine iteT ⟨.ref L, rfl, two, fun t nt => ?_⟩
      have s4 := same_upd (H := G3) (o := .tup [.ref u, .ref L]) nt
      exact q _ t u L a (sH3.trans s4) (s4 _ _ (s3 _ _ ea)) upd_same (s4 _ _ eu) ⟨ks, s4 _ _ eL3, Paired.mapP pk fun kv m h => ⟨h.1, h.2.keepO (.same s4)⟩⟩
    · rw [decide_eq_false (show ¬ V.str (stepP cap a k M).1.1 = V.str "" from fun z => e1 (V.str.inj z))]
      refine iteF ⟨.ref md, rfl, two, fun t nt => ?_⟩
      have s4 := same_upd (H := G3) (o := .tup [.ref u, .ref md]) nt
      refine q _ t u md a (sH3.trans s4) (s4 _ _ (s3 _ _ ea)) upd_same (s4 _ _ eu) ?_
      rw [e2]
      exact hm.keepO (.same (sH3.trans s4))
end

/-! ### very_road -/
abbrev N_very_road : List Str := ["seats", "name"]
abbrev P_very_road : List Str := ["seats", "name"]
theorem sc_very_road : FnScope N_very_road P_very_road (defScope s_very_road) := ⟨rfl, rfl, rfl, by decide +kernel, rfl, by decide +kernel, by decide +kernel⟩
/-- a name's number and road -/
abbrev SeL := List (Str × Int × Addr)
def SeR (H : Hp) (kv : Key × V) (m : Str × Int × Addr) : Prop := kv.1 = Sum.inr m.1 ∧ ∃ t : Addr, kv.2 = .ref t ∧ H t = some (.tup [.int m.2.1, .ref m.2.2])
def SeAt (H : Hp) (sd : Addr) (L : SeL) : Prop := ∃ kvs, H sd = some (.dK kvs) ∧ Paired (SeR H) kvs L
def sfind : SeL → Str → Option (Int × Addr)
  | [], _ => none
  | m :: r, x => if m.1 = x then some m.2 else sfind r x
theorem SeAt.keepO {H H' : Hp} {sd : Addr} {L : SeL} (h : SeAt H sd L) (k : KeepO H H') : SeAt H' sd L := by
  obtain ⟨kvs, e, p⟩ := h
  exact ⟨kvs, k _ _ e (fun _ z => by cases z) (fun _ z => by cases z), Paired.mapP p fun a b z => ⟨z.1, z.2.imp fun t q => ⟨q.1, k.tup _ _ q.2⟩⟩⟩
theorem sfind_val {H : Hp} (x : Str) : ∀ {kvs : List (Key × V)} {L : SeL}, Paired (SeR H) kvs L → (sfind L x = none → valV kvs (Sum.inr x) = none) ∧ ∀ r, sfind L x = some r → ∃ t : Addr, valV kvs (Sum.inr x) = some (.ref t) ∧ H t = some (.tup [.int r.1, .ref r.2])
  | _, _, .nil => ⟨fun _ => rfl, fun _ h => by cases h⟩
  | _, _, .cons (a := kv) (b := m) h t => by
    obtain ⟨i1, i2⟩ := sfind_val x t
    by_cases c : m.1 = x
    · have e : kv.1 = Sum.inr x := h.1.trans (congrArg _ c)
      obtain ⟨t', h1, h2⟩ := h.2
      refine ⟨fun z => ?_, fun r z => ⟨t', by rw [valV_pos e, h1], ?_⟩⟩
      · unfold sfind at z
        rw [if_pos c] at z
        cases z
      · unfold sfind at z
        rw [if_pos c] at z
        cases z
        exact h2
    · have e : ¬ kv.1 = Sum.inr x := fun z => c (Sum.inr.inj (h.1.symm.trans z))
      unfold sfind
      rw [if_neg c, valV_neg e]
      exact ⟨i1, i2⟩
def spVery : Sp := fun vs H Q _ => ∃ (sd : Addr) (L : SeL) (x : Str) (r : Int × Addr), vs = [.ref sd, .str x] ∧ SeAt H sd L ∧ sfind L x = some r ∧ Q (.ref r.2) H
def spVeryX (CN : Addr) : Sp := fun vs H _ E => ∃ (sd : Addr) (L : SeL) (x : Str), vs = [.ref sd, .str x] ∧ SeAt H sd L ∧ x.length ≤ 1000 ∧ sfind L x = none ∧ ∀ (H' : Hp) (d : Addr), Same H H' → H d = none → H' d = some (.xd (erNoRoadF (.str x))) → E (.ref CN) (some d) H'
section
variable {P : Program} {w : World} {K : PySem.W.Frag} {mg : Str → Option Value} {base : Heap}
theorem ok_very {f : Addr} {fd : FuncData} (D : DefAt K mg "very_road" s_very_road P_very_road f fd) : FnOk P w K mg base CX0 1 f fd P_very_road spVery := by
  refine D.F.ok sc_very_road (fun vs H Q E h => ?_) (fun cdv A outer s H vs Q E hr h => ?_)
  · obtain ⟨sd, L, x, r, rfl, _⟩ := h
    rfl
  · obtain ⟨sd, L, x, r, rfl, hs, ex, q⟩ := h
    have hu := hu_of hr
    refine ⟨_, (pss_cons (ps_if (pt_cmp (pc_dnotin hu (pv 1) (pv 0))) (pss_one ps_never) pss_nil)
      (pss_one (ps_ret (pe_ix ix_tup (pe_dget hu (pv 0) (pv 1) (fun _ _ => rfl)) pe_int (fun _ _ => rfl))))), ?_⟩
    obtain ⟨kvs, e, p⟩ := hs
    obtain ⟨t, hv, et⟩ := (sfind_val x p).2 r ex
    have gt : DGet H sd (.str x) (some (.ref t)) := by
      have q := DGet.k (k := Sum.inr x) e
      rw [hv] at q
      exact q
    refine ⟨.str x, rfl, .ref sd, rfl, sd, _, rfl, gt, _, rfl, iteF ?_⟩
    exact ⟨.ref sd, rfl, .str x, rfl, sd, .ref t, rfl, gt, t, _, 1, .ref r.2, rfl, rfl, SqT.of et, atI_nat (j := 1) rfl, q⟩
theorem ok_veryX {f CF CI CN fI : Addr} {fd fdI : FuncData} (D : DefAt K mg "very_road" s_very_road P_very_road f fd) (Tr : LrT K mg CF CI CN fI fdI "NoRoad" N_erNoRoad) (n1 : PySem.W.findIn K (.ref CN) "name" = some none) (GR : FnOk P w K mg base CX0 2 fI fdI N_erNoRoad (sp_erNoRoad K)) : FnOk P w K mg base (L2.CX P w) 4 f fd P_very_road (spVeryX CN) := by
  refine D.F.okX sc_very_road (fun vs H Q E h => ?_) (fun cdv A outer s H vs Q E hr h => ?_)
  · obtain ⟨sd, L, x, rfl, _⟩ := h
    rfl
  · obtain ⟨sd, L, x, rfl, hs, hx, ex, q⟩ := h
    have hu := hu_of hr
    refine ⟨_, (pss_cons (ps_if (pt_cmp (pc_dnotin hu (pv 1) (pv 0))) (pss_one (ps_raise rfl (takes_of rfl rfl rfl rfl) (pmk_lex Tr.e.o Tr.iC Tr.tI GR (hr.mono (by omega)) Tr.bI .nil pass0 (by rfl) Tr.gC (pa_cons (pv 1) pa_nil)))) pss_nil)
      (pss_one (ps_ret (pe_ix ix_tup (pe_dget hu (pv 0) (pv 1) (fun _ _ => rfl)) pe_int (fun _ _ => rfl))))), ?_⟩
    obtain ⟨kvs, e, p⟩ := hs
    have gt : DGet H sd (.str x) none := by
      have q := DGet.k (k := Sum.inr x) e
      rw [(sfind_val x p).1 ex] at q
      exact q
    refine ⟨.str x, rfl, .ref sd, rfl, sd, _, rfl, gt, _, rfl, iteT ?_⟩
    exact erNoRoad_raise Tr.e n1 ⟨x, rfl, Nat.le_trans hx (by decide)⟩ (fun Q q => ⟨.str x, rfl, q⟩) q
end

/-! ### do_upon -/
abbrev N_do_upon : List Str := ["road", "word", "told", "one", "other", "many", "turned"]
abbrev P_do_upon : List Str := ["road", "word", "told"]
theorem sc_do_upon : FnScope N_do_upon P_do_upon (defScope s_do_upon) := ⟨rfl, rfl, rfl, by decide +kernel, rfl, by decide +kernel, by decide +kernel⟩
inductive UDeed
  | on (k : RDeed)
  | behind (g2 : Addr)
def UDeed.word : UDeed → Str
  | .on k => k.word
  | .behind _ => "behind"
def UDeed.rest : UDeed → List V
  | .on k => k.rest
  | .behind g2 => [.ref g2]
/-- a deed upon a road, by what its methods do -/
def spUpon (C5 : Addr) (spM spK spG spT spW spB : Sp) : Sp := fun vs H Q E => ∃ (g a dx : Addr) (n : Int) (st : Addr) (kp : V) (c : Int) (u : UDeed), vs = [.ref g, .str u.word, .ref a] ∧ H g = some (.ins C5 dx (roF n st kp c)) ∧ H a = some (.lst u.rest) ∧
  (match u with
  | .on (.mate q) => spM [.ref g, q.1, q.2.1, q.2.2.1, q.2.2.2]
  | .on (.strike v) => spK [.ref g, v]
  | .on (.grow v) => spG [.ref g, v]
  | .on (.trim v) => spT [.ref g, v]
  | .on (.swell v) => spW [.ref g, v]
  | .behind g2 => spB [.ref g, .ref g2]) H (fun _ H' => Q .non H') E
section
variable {P : Program} {w : World} {K : PySem.W.Frag} {mg : Str → Option Value} {base : Heap} {C5 : Addr}
theorem ok_upon {f fMt fSk fG fT fS fB : Addr} {fd fdMt fdSk fdG fdT fdS fdB : FuncData} {g0 : List Value → List Value → List Value} {spM spK spG spT spW spB : Sp} (D : DefAt K mg "do_upon" s_do_upon P_do_upon f fd) (TRo_ : RoT K mg C5)
    (M_Ro_mate : Meth K C5 "mate" fMt) (GX_Ro_mate : FnOk P w K mg base (L2.CX P w) 7 fMt fdMt P_Ro_mate spM) (kb_Ro_mate : KBn K fdMt P_Ro_mate 4 ["turned"] g0 (fun vs zs => vs ++ zs))
    (M_Ro_strike : Meth K C5 "strike" fSk) (GX_Ro_strike : FnOk P w K mg base (L2.CX P w) 5 fSk fdSk P_Ro_strike spK) (b_Ro_strike : Binds K fdSk P_Ro_strike [])
    (M_Ro_grow : Meth K C5 "grow" fG) (GX_Ro_grow : FnOk P w K mg base (L2.CX P w) 7 fG fdG P_Ro_grow spG) (b_Ro_grow : Binds K fdG P_Ro_grow [])
    (M_Ro_trim : Meth K C5 "trim" fT) (GX_Ro_trim : FnOk P w K mg base (L2.CX P w) 7 fT fdT P_Ro_trim spT) (b_Ro_trim : Binds K fdT P_Ro_trim [])
    (M_Ro_swell : Meth K C5 "swell" fS) (GX_Ro_swell : FnOk P w K mg base (L2.CX P w) 7 fS fdS P_Ro_swell spW) (b_Ro_swell : Binds K fdS P_Ro_swell [])
    (M_Ro_behind : Meth K C5 "behind" fB) (GX_Ro_behind : FnOk P w K mg base (L2.CX P w) 4 fB fdB P_Ro_behind spB) (b_Ro_behind : Binds K fdB P_Ro_behind []) : FnOk P w K mg base (L2.CX P w) 8 f fd P_do_upon (spUpon C5 spM spK spG spT spW spB) := by
  refine D.F.okX sc_do_upon (fun vs H Q E h => ?_) (fun cdv A outer s H vs Q E hr h => ?_)
  · obtain ⟨g, a, dx, n, st, kp, c, u, rfl, _⟩ := h
    rfl
  · obtain ⟨g, a, dx, n, st, kp, c, u, rfl, eg, ea, q⟩ := h
    have hu := hu_of hr
    refine ⟨_, (pss_one (ps_if (pt_cmpR op_eq (pv 1) pe_str (nomark _)) (pss_cons (ps_asg (pv 2) (pg_lst (by rfl) (pgs_cons (pg_name (i := 3) sc_do_upon.nd rfl (.inl rfl)) (pgs_cons (pg_name (i := 4) sc_do_upon.nd rfl (.inl rfl)) (pgs_cons (pg_name (i := 5) sc_do_upon.nd rfl (.inl rfl)) (pgs_cons (pg_name (i := 6) sc_do_upon.nd rfl (.inl rfl)) pgs_nil))))))
      (pss_one (ps_expr (pe_methK (pv 0) TRo_.cl M_Ro_mate GX_Ro_mate (hr.mono (by omega)) kb_Ro_mate (passes_call (takes_of rfl rfl rfl rfl) fun _ _ _ _ h => h) (pa_cons (pv 3) (pa_cons (pv 4) (pa_cons (pv 5) pa_nil))) (pk_cons (pv 6) pk_nil))))) (pss_one (ps_if (pt_cmpR op_eq (pv 1) pe_str (nomark _)) (pss_one (ps_expr (pe_meth (pv 0) TRo_.cl M_Ro_strike GX_Ro_strike (hr.mono (by omega)) b_Ro_strike .nil (passes_call (takes_of rfl rfl rfl rfl) fun _ _ _ _ h => h) (pa_cons (pe_ix ix_list (pv 2) pe_int (fun _ _ => rfl)) pa_nil)))) (pss_one (ps_if (pt_cmpR op_eq (pv 1) pe_str (nomark _)) (pss_one (ps_expr (pe_meth (pv 0) TRo_.cl M_Ro_grow GX_Ro_grow (hr.mono (by omega)) b_Ro_grow .nil (passes_call (takes_of rfl rfl rfl rfl) fun _ _ _ _ h => h) (pa_cons (pe_ix ix_list (pv 2) pe_int (fun _ _ => rfl)) pa_nil)))) (pss_one (ps_if (pt_cmpR op_eq (pv 1) pe_str (nomark _)) (pss_one (ps_expr (pe_meth (pv 0) TRo_.cl M_Ro_trim GX_Ro_trim (hr.mono (by omega)) b_Ro_trim .nil (passes_call (takes_of rfl rfl rfl rfl) fun _ _ _ _ h => h) (pa_cons (pe_ix ix_list (pv 2) pe_int (fun _ _ => rfl)) pa_nil)))) (pss_one (ps_if (pt_cmpR op_eq (pv 1) pe_str (nomark _)) (pss_one (ps_expr (pe_meth (pv 0) TRo_.cl M_Ro_swell GX_Ro_swell (hr.mono (by omega)) b_Ro_swell .nil (passes_call (takes_of rfl rfl rfl rfl) fun _ _ _ _ h => h) (pa_cons (pe_ix ix_list (pv 2) pe_int (fun _ _ => rfl)) pa_nil)))) (pss_one (ps_if (pt_cmpR op_eq (pv 1) pe_str (nomark _)) (pss_one (ps_expr (pe_meth (pv 0) TRo_.cl M_Ro_behind GX_Ro_behind (hr.mono (by omega)) b_Ro_behind .nil (passes_call (takes_of rfl rfl rfl rfl) fun _ _ _ _ h => h) (pa_cons (pe_ix ix_list (pv 2) pe_int (fun _ _ => rfl)) pa_nil)))) pss_nil)))))))))))), ?_⟩
    have no : ∀ {z y : Str}, z ≠ y → decide (V.str z = V.str y) = true → False := fun hz c => hz (V.str.inj (of_decide_eq_true c))
    cases u with
    | behind g2 =>
      refine ⟨.str "behind", rfl, rfl, _, rfl, ite2 (fun c => (no (by decide) c).elim) (fun _ => ⟨.str "behind", rfl, rfl, _, rfl, ite2 (fun c => (no (by decide) c).elim) (fun _ => ⟨.str "behind", rfl, rfl, _, rfl, ite2 (fun c => (no (by decide) c).elim) (fun _ => ⟨.str "behind", rfl, rfl, _, rfl, ite2 (fun c => (no (by decide) c).elim) (fun _ => ⟨.str "behind", rfl, rfl, _, rfl, ite2 (fun c => (no (by decide) c).elim) (fun _ => ⟨.str "behind", rfl, rfl, _, rfl, ite2 (fun _ => ?_) (fun c => absurd (decide_eq_true rfl) c)⟩)⟩)⟩)⟩)⟩)⟩
      exact ⟨.ref g, rfl, g, dx, _, rfl, eg, rfl, .ref a, rfl, a, _, 0, .ref g2, rfl, rfl, SqL.of ea, atI_nat (j := 0) rfl, q⟩
    | on k =>
      cases k with
      | mate x =>
        refine ⟨.str "mate", rfl, rfl, _, rfl, ite2 (fun _ => ?_) (fun c => absurd (decide_eq_true rfl) c)⟩
        refine ⟨.ref a, rfl, a, _, rfl, SqL.of ea, rfl, x.1, _, rfl, x.2.1, _, rfl, x.2.2.1, _, rfl, x.2.2.2, _, rfl, rfl, ?_⟩
        exact ⟨.ref g, rfl, g, dx, _, rfl, eg, rfl, x.1, rfl, x.2.1, rfl, x.2.2.1, rfl, x.2.2.2, rfl, rfl, rfl, q⟩
      | strike v =>
        refine ⟨.str "strike", rfl, rfl, _, rfl, ite2 (fun c => (no (by decide) c).elim) (fun _ => ⟨.str "strike", rfl, rfl, _, rfl, ite2 (fun _ => ?_) (fun c => absurd (decide_eq_true rfl) c)⟩)⟩
        exact ⟨.ref g, rfl, g, dx, _, rfl, eg, rfl, .ref a, rfl, a, _, 0, v, rfl, rfl, SqL.of ea, atI_nat (j := 0) rfl, q⟩
      | grow v =>
        refine ⟨.str "grow", rfl, rfl, _, rfl, ite2 (fun c => (no (by decide) c).elim) (fun _ => ⟨.str "grow", rfl, rfl, _, rfl, ite2 (fun c => (no (by decide) c).elim) (fun _ => ⟨.str "grow", rfl, rfl, _, rfl, ite2 (fun _ => ?_) (fun c => absurd (decide_eq_true rfl) c)⟩)⟩)⟩
        exact ⟨.ref g, rfl, g, dx, _, rfl, eg, rfl, .ref a, rfl, a, _, 0, v, rfl, rfl, SqL.of ea, atI_nat (j := 0) rfl, q⟩
      | trim v =>
        refine ⟨.str "trim", rfl, rfl, _, rfl, ite2 (fun c => (no (by decide) c).elim) (fun _ => ⟨.str "trim", rfl, rfl, _, rfl, ite2 (fun c => (no (by decide) c).elim) (fun _ => ⟨.str "trim", rfl, rfl, _, rfl, ite2 (fun c => (no (by decide) c).elim) (fun _ => ⟨.str "trim", rfl, rfl, _, rfl, ite2 (fun _ => ?_) (fun c => absurd (decide_eq_true rfl) c)⟩)⟩)⟩)⟩
        exact ⟨.ref g, rfl, g, dx, _, rfl, eg, rfl, .ref a, rfl, a, _, 0, v, rfl, rfl, SqL.of ea, atI_nat (j := 0) rfl, q⟩
      | swell v =>
        refine ⟨.str "swell", rfl, rfl, _, rfl, ite2 (fun c => (no (by decide) c).elim) (fun _ => ⟨.str "swell", rfl, rfl, _, rfl, ite2 (fun c => (no (by decide) c).elim) (fun _ => ⟨.str "swell", rfl, rfl, _, rfl, ite2 (fun c => (no (by decide) c).elim) (fun _ => ⟨.str "swell", rfl, rfl, _, rfl, ite2 (fun c => (no (by decide) c).elim) (fun _ => ⟨.str "swell", rfl, rfl, _, rfl, ite2 (fun _ => ?_) (fun c => absurd (decide_eq_true rfl) c)⟩)⟩)⟩)⟩)⟩
        exact ⟨.ref g, rfl, g, dx, _, rfl, eg, rfl, .ref a, rfl, a, _, 0, v, rfl, rfl, SqL.of ea, atI_nat (j := 0) rfl, q⟩
end

/-! ### Draft: __init__, seat, need_room -/
abbrev N_Df_init : List Str := ["self", "seats", "fresh", "most"]
abbrev P_Df_init : List Str := ["self", "seats", "fresh", "most"]
theorem sc_Df_init : FnScope N_Df_init P_Df_init (defScope s_Df_init) := ⟨rfl, rfl, rfl, by decide +kernel, rfl, by decide +kernel, by decide +kernel⟩
abbrev N_Df_seat : List Str := ["self", "name", "road"]
abbrev P_Df_seat : List Str := ["self", "name", "road"]
theorem sc_Df_seat : FnScope N_Df_seat P_Df_seat (defScope s_Df_seat) := ⟨rfl, rfl, rfl, by decide +kernel, rfl, by decide +kernel, by decide +kernel⟩
abbrev N_Df_need_room : List Str := ["self", "name"]
abbrev P_Df_need_room : List Str := ["self", "name"]
theorem sc_Df_need_room : FnScope N_Df_need_room P_Df_need_room (defScope s_Df_need_room) := ⟨rfl, rfl, rfl, by decide +kernel, rfl, by decide +kernel, by decide +kernel⟩
def dfF (sd : Addr) (fr mo : Int) : List (Str × V) := [("seats", .ref sd), ("fresh", .int fr), ("most", .int mo)]
structure DfT (K : PySem.W.Frag) (mg : Str → Option Value) (C6 : Addr) : Prop where
  gC : mg "Draft" = some (.ref C6)
  cl : Cls K C6
  nS : NoAttr K C6 "seats"
  nF : NoAttr K C6 "fresh"
  nM : NoAttr K C6 "most"
def spDfInit (C6 : Addr) : Sp := fun vs H Q _ => ∃ (g dx s0 : Addr) (fr mo : Int) (kvs : List (Key × V)), vs = [.ref g, .ref s0, .int fr, .int mo] ∧ H g = some (.ins C6 dx []) ∧ H s0 = some (.dK kvs) ∧
  ∀ (H' : Hp) (sd : Addr), H' g = some (.ins C6 dx (dfF sd fr mo)) → H' sd = some (.dK kvs) → H sd = none → Keep g H H' → Q .non H'
/-- a road seated under a name -/
def spDfSeat (C6 : Addr) : Sp := fun vs H Q _ => ∃ (g dx sd r : Addr) (x : Str) (fr mo : Int) (kvs : List (Key × V)), vs = [.ref g, .str x, .ref r] ∧ H g = some (.ins C6 dx (dfF sd fr mo)) ∧ H sd = some (.dK kvs) ∧ kvs.length ≤ 1000 ∧ True ∧
  ∀ (H' : Hp) (t : Addr), H t = none → H' t = some (.tup [.int fr, .ref r]) → H' g = some (.ins C6 dx (dfF sd (fr + 1) mo)) → H' sd = some (.dK (putK kvs (Sum.inr x) (.ref t))) → (∀ b o, b ≠ g → b ≠ sd → H b = some o → H' b = some o) → Q .non H'
def spDfRoom (C6 : Addr) : Sp := fun vs H Q _ => ∃ (g dx sd : Addr) (x : Str) (fr mo : Int) (kvs : List (Key × V)), vs = [.ref g, .str x] ∧ H g = some (.ins C6 dx (dfF sd fr mo)) ∧ H sd = some (.dK kvs) ∧ x.length ≤ 1000 ∧ goodN x = true ∧ valV kvs (Sum.inr x) = none ∧ (kvs.length : Int) < mo ∧ ∀ H', Same H H' → Q .non H'
def spDfRoomX (C6 CN CT CU : Addr) : Sp := fun vs H _ E => ∃ (g dx sd : Addr) (x : Str) (fr mo : Int) (kvs : List (Key × V)), vs = [.ref g, .str x] ∧ H g = some (.ins C6 dx (dfF sd fr mo)) ∧ H sd = some (.dK kvs) ∧ x.length ≤ 1000 ∧ mo.natAbs.log2 < 1920 ∧
  ((goodN x = false ∧ ∀ (H' : Hp) (d : Addr), Same H H' → H d = none → H' d = some (.xd (erBadNameF (.str x))) → E (.ref CN) (some d) H') ∨
  (goodN x = true ∧ (valV kvs (Sum.inr x)).isSome = true ∧ ∀ (H' : Hp) (d : Addr), Same H H' → H d = none → H' d = some (.xd (erTakenF (.str x))) → E (.ref CT) (some d) H') ∨
  (goodN x = true ∧ valV kvs (Sum.inr x) = none ∧ mo ≤ (kvs.length : Int) ∧ ∀ (H' : Hp) (d : Addr), Same H H' → H d = none → H' d = some (.xd (fuF (.int mo))) → E (.ref CU) (some d) H'))
section
variable {P : Program} {w : World} {K : PySem.W.Frag} {mg : Str → Option Value} {base : Heap} {C6 : Addr}
theorem ok_DfInit {f : Addr} {fd : FuncData} (F : Fun K "__init__" "Draft.__init__" s_Df_init f fd) (TDf_ : DfT K mg C6) (B : Bn mg) : FnOk P w K mg base CX0 1 f fd P_Df_init (spDfInit C6) := by
  refine F.ok sc_Df_init (fun vs H Q E h => ?_) (fun cdv A outer s H vs Q E hr h => ?_)
  · obtain ⟨g, dx, s0, fr, mo, kvs, rfl, _⟩ := h
    rfl
  · obtain ⟨g, dx, s0, fr, mo, kvs, rfl, hg, hs, q⟩ := h
    refine ⟨_, (pss_cons (ps_fld (pv 0) (pe_callTy call_dictD (by rfl) B.dict (by decide +kernel) (pa_cons (pv 1) pa_nil)) rfl)
      (pss_cons (ps_fld (pv 0) (pv 2) rfl)
      (pss_one (ps_fld (pv 0) (pv 3) rfl)))), ?_⟩
    refine ⟨.ref s0, rfl, s0, kvs, rfl, .inl hs, fun sd nsd => ?_⟩
    have s1 := same_upd (H := H) (o := .dK kvs) nsd
    have e1 : (upd H sd (.dK kvs)) sd = some (.dK kvs) := upd_same
    generalize upd H sd (.dK kvs) = H1 at s1 e1
    have eg := s1 _ _ hg
    have nsg : sd ≠ g := (ne_of_none hg nsd).symm
    refine ⟨.ref g, rfl, g, C6, dx, [], rfl, eg, TDf_.cl, TDf_.nS, by show 0 < 1000; decide, ?_⟩
    have k2 : Keep g H1 (upd H1 g (.ins C6 dx (putF "seats" (.ref sd) []))) := Keep.upd
    have e2 : (upd H1 g (.ins C6 dx (putF "seats" (.ref sd) []))) g = some (.ins C6 dx [("seats", .ref sd)]) := upd_same
    generalize upd H1 g (.ins C6 dx (putF "seats" (.ref sd) [])) = H2 at k2 e2
    refine ⟨.int fr, rfl, .ref g, rfl, g, C6, dx, _, rfl, e2, TDf_.cl, TDf_.nF, by show 1 < 1000; decide, ?_⟩
    have k3 : Keep g H2 (upd H2 g (.ins C6 dx (putF "fresh" (.int fr) [("seats", .ref sd)]))) := Keep.upd
    have e3 : (upd H2 g (.ins C6 dx (putF "fresh" (.int fr) [("seats", .ref sd)]))) g = some (.ins C6 dx [("seats", .ref sd), ("fresh", .int fr)]) := by
      rw [upd_same]
      unfold putF
      rw [if_neg (by decide +kernel)]
      rfl
    generalize upd H2 g (.ins C6 dx (putF "fresh" (.int fr) [("seats", .ref sd)])) = H3 at k3 e3
    refine ⟨.int mo, rfl, .ref g, rfl, g, C6, dx, _, rfl, e3, TDf_.cl, TDf_.nM, by show 2 < 1000; decide, ?_⟩
    have k4 : Keep g H3 (upd H3 g (.ins C6 dx (putF "most" (.int mo) [("seats", .ref sd), ("fresh", .int fr)]))) := Keep.upd
    have e4 : (upd H3 g (.ins C6 dx (putF "most" (.int mo) [("seats", .ref sd), ("fresh", .int fr)]))) g = some (.ins C6 dx (dfF sd fr mo)) := by
      rw [upd_same]
      unfold putF
      rw [if_neg (by decide +kernel)]
      unfold putF
      rw [if_neg (by decide +kernel)]
      rfl
    generalize upd H3 g (.ins C6 dx (putF "most" (.int mo) [("seats", .ref sd), ("fresh", .int fr)])) = H4 at k4 e4
    have k14 := (k2.trans k3).trans k4
    exact q H4 sd e4 (k14 _ _ nsg e1) nsd fun b o nb hb => k14 _ _ nb (s1 _ _ hb)
theorem ok_DfSeat {f : Addr} {fd : FuncData} (F : Fun K "seat" "Draft.seat" s_Df_seat f fd) (TDf_ : DfT K mg C6) (B : Bn mg) : FnOk P w K mg base CX0 1 f fd P_Df_seat (spDfSeat C6) := by
  refine F.ok sc_Df_seat (fun vs H Q E h => ?_) (fun cdv A outer s H vs Q E hr h => ?_)
  · obtain ⟨g, dx, sd, r, x, fr, mo, kvs, rfl, _⟩ := h
    rfl
  · obtain ⟨g, dx, sd, r, x, fr, mo, kvs, rfl, hg, hs, hl, hb, q⟩ := h
    have hu := hu_of hr
    refine ⟨_, (pss_cons (ps_dput hu (pe_fld (pv 0) rfl) (pv 1) (pe_tup (pa_cons (pe_fld (pv 0) rfl) (pa_cons (pv 2) pa_nil))) rfl)
      (pss_one (ps_fldaug (pv 0) pe_int in_add))), ?_⟩
    have ngs : g ≠ sd := ne_of hg hs (fun z => by cases z)
    refine ⟨.ref g, rfl, g, C6, dx, _, .int fr, rfl, hg, TDf_.cl, TDf_.nF, rfl, .ref r, rfl, by show 2 ≤ sizeLine; decide, fun t nt => ?_⟩
    have s1 := same_upd (H := H) (o := .tup [.int fr, .ref r]) nt
    have et : (upd H t (.tup [.int fr, .ref r])) t = some (.tup [.int fr, .ref r]) := upd_same
    generalize upd H t (.tup [.int fr, .ref r]) = H1 at s1 et
    have hg1 := s1 _ _ hg
    have hs1 := s1 _ _ hs
    refine ⟨.ref g, rfl, g, C6, dx, _, .ref sd, rfl, hg1, TDf_.cl, TDf_.nS, rfl, .str x, rfl, sd, _, rfl, DPut.k (k := Sum.inr x) hs1 (sz_lt (by omega)), ?_⟩
    have k2 : Keep sd H1 (upd H1 sd (.dK (putK kvs (Sum.inr x) (.ref t)))) := Keep.upd
    have e2 : (upd H1 sd (.dK (putK kvs (Sum.inr x) (.ref t)))) sd = some (.dK (putK kvs (Sum.inr x) (.ref t))) := upd_same
    generalize upd H1 sd (.dK (putK kvs (Sum.inr x) (.ref t))) = H2 at k2 e2
    have hg2 := k2 _ _ ngs hg1
    have et2 := k2 _ _ (ne_of et hs1 (fun z => by cases z)) et
    refine ⟨.ref g, rfl, g, C6, dx, _, .int fr, rfl, hg2, TDf_.cl, TDf_.nF, rfl, fr, 1, rfl, rfl, dx, _, hg2, by show 3 < 1000; decide, ?_⟩
    have k3 : Keep g H2 (upd H2 g (.ins C6 dx (putF "fresh" (.int (fr + 1)) (dfF sd fr mo)))) := Keep.upd
    have e3 : (upd H2 g (.ins C6 dx (putF "fresh" (.int (fr + 1)) (dfF sd fr mo)))) g = some (.ins C6 dx (dfF sd (fr + 1) mo)) := by
      rw [upd_same]
      unfold dfF putF
      rw [if_neg (by decide +kernel)]
      unfold putF
      rw [if_pos rfl]
    generalize upd H2 g (.ins C6 dx (putF "fresh" (.int (fr + 1)) (dfF sd fr mo))) = H3 at k3 e3
    exact q H3 t nt (k3 _ _ (ne_of et2 hg2 (fun z => by cases z)) et2) e3 (k3 _ _ ngs.symm e2) fun b o n1 n2 hb => k3 _ _ n1 (k2 _ _ n2 (s1 _ _ hb))
theorem ok_DfRoom {f fN : Addr} {fd fdN : FuncData} {tok tok2 : Tok} (F : Fun K "need_room" "Draft.need_room" s_Df_need_room f fd) (TDf_ : DfT K mg C6) (D_is_name : DefAt K mg "is_name" s_is_name P_is_name fN fdN) (g_LETTERS : mg "LETTERS" = some (.str "abcdefghijklmnopqrstuvwxyz" tok)) (g_LONGEST_NAME : mg "LONGEST_NAME" = some (.int 6 tok2)) (B : Bn mg) : FnOk P w K mg base CX0 2 f fd P_Df_need_room (spDfRoom C6) := by
  have G_is_name : FnOk P w K mg base CX0 1 fN fdN P_is_name spIsNameH := ok_isNameH D_is_name g_LETTERS B
  refine F.ok sc_Df_need_room (fun vs H Q E h => ?_) (fun cdv A outer s H vs Q E hr h => ?_)
  · obtain ⟨g, dx, sd, x, fr, mo, kvs, rfl, _⟩ := h
    rfl
  · obtain ⟨g, dx, sd, x, fr, mo, kvs, rfl, hg, hs, hx, h1, h2, h3, q⟩ := h
    have hu := hu_of hr
    refine ⟨_, (pss_cons (ps_if (pt_not (pt_val (pe_call G_is_name (hr.mono (by omega)) (by rfl) D_is_name.g D_is_name.F.kp D_is_name.b .nil pass0 (pa_cons (pv 1) (pa_cons (pe_glob (v := .int _) (by rfl) g_LONGEST_NAME ⟨_, rfl⟩) pa_nil))))) (pss_one ps_never) pss_nil)
      (pss_cons (ps_if (pt_cmp (pc_din hu (pv 1) (pe_fld (pv 0) rfl))) (pss_one ps_never) pss_nil)
      (pss_one (ps_if (pt_cmpR op_ge (pe_callB call_lenDk (by rfl) B.len (by decide +kernel) (pa_cons (pe_fld (pv 0) rfl) pa_nil)) (pe_fld (pv 0) rfl) (nomark _)) (pss_one ps_never) pss_nil)))), ?_⟩
    refine ⟨.str x, rfl, x, rfl, hx, fun H1 s1 => ⟨_, rfl, ?_⟩⟩
    rw [h1]
    have hg1 := s1 _ _ hg
    have hs1 := s1 _ _ hs
    have gt : DGet H1 sd (.str x) none := by
      have q := DGet.k (k := Sum.inr x) hs1
      rw [h2] at q
      exact q
    refine iteF ⟨.str x, rfl, .ref g, rfl, g, C6, dx, _, .ref sd, rfl, hg1, TDf_.cl, TDf_.nS, rfl, sd, none, rfl, gt, _, rfl, iteF ?_⟩
    refine ⟨.ref g, rfl, g, C6, dx, _, .ref sd, rfl, hg1, TDf_.cl, TDf_.nS, rfl, sd, kvs, rfl, hs1, .ref g, rfl, g, C6, dx, _, .int mo, rfl, hg1, TDf_.cl, TDf_.nM, rfl, _, _, rfl, rfl, _, rfl, ite2 (fun c => ?_) (fun _ => q H1 s1)⟩
    have c : mo ≤ (kvs.length : Int) := of_decide_eq_true c
    omega
theorem ok_DfRoomX {f fN CF CN CT CU fI gI hI : Addr} {fd fdN fdI gdI hdI : FuncData} {tok tok2 : Tok} (F : Fun K "need_room" "Draft.need_room" s_Df_need_room f fd) (TDf_ : DfT K mg C6) (D_is_name : DefAt K mg "is_name" s_is_name P_is_name fN fdN) (g_LETTERS : mg "LETTERS" = some (.str "abcdefghijklmnopqrstuvwxyz" tok)) (g_LONGEST_NAME : mg "LONGEST_NAME" = some (.int 6 tok2))
    (Tn : ErT K mg CF CN fI fdI "BadName" N_erBadName) (n1 : PySem.W.findIn K (.ref CN) "name" = some none) (GN : FnOk P w K mg base CX0 2 fI fdI N_erBadName (sp_erBadName K)) (Tt : ErT K mg CF CT gI gdI "Taken" N_erTaken) (n2 : PySem.W.findIn K (.ref CT) "name" = some none) (GT : FnOk P w K mg base CX0 2 gI gdI N_erTaken (sp_erTaken K))
    (Tu : ErT K mg CF CU hI hdI "Full" N_fuinit) (n3 : PySem.W.findIn K (.ref CU) "most" = some none) (GU : FnOk P w K mg base CX0 2 hI hdI N_fuinit (spFuInit K)) (B : Bn mg) : FnOk P w K mg base (L2.CX P w) 4 f fd P_Df_need_room (spDfRoomX C6 CN CT CU) := by
  have G_is_name : FnOk P w K mg base CX0 1 fN fdN P_is_name spIsNameH := ok_isNameH D_is_name g_LETTERS B
  refine F.okX sc_Df_need_room (fun vs H Q E h => ?_) (fun cdv A outer s H vs Q E hr h => ?_)
  · obtain ⟨g, dx, sd, x, fr, mo, kvs, rfl, _⟩ := h
    rfl
  · obtain ⟨g, dx, sd, x, fr, mo, kvs, rfl, hg, hs, hx, hmo, alt⟩ := h
    have hu := hu_of hr
    refine ⟨_, (pss_cons (ps_if (pt_not (pt_val (pe_call G_is_name (hr.mono (by omega)) (by rfl) D_is_name.g D_is_name.F.kp D_is_name.b .nil pass0 (pa_cons (pv 1) (pa_cons (pe_glob (v := .int _) (by rfl) g_LONGEST_NAME ⟨_, rfl⟩) pa_nil))))) (pss_one (ps_raise rfl (takes_of rfl rfl rfl rfl) (pmk_oex Tn.e.o Tn.iC Tn.tI GN (hr.mono (by omega)) Tn.bI .nil pass0 (by rfl) Tn.gC (pa_cons (pv 1) pa_nil)))) pss_nil)
      (pss_cons (ps_if (pt_cmp (pc_din hu (pv 1) (pe_fld (pv 0) rfl))) (pss_one (ps_raise rfl (takes_of rfl rfl rfl rfl) (pmk_oex Tt.e.o Tt.iC Tt.tI GT (hr.mono (by omega)) Tt.bI .nil pass0 (by rfl) Tt.gC (pa_cons (pv 1) pa_nil)))) pss_nil)
      (pss_one (ps_if (pt_cmpR op_ge (pe_callB call_lenDk (by rfl) B.len (by decide +kernel) (pa_cons (pe_fld (pv 0) rfl) pa_nil)) (pe_fld (pv 0) rfl) (nomark _)) (pss_one (ps_raise rfl (takes_of rfl rfl rfl rfl) (pmk_oex Tu.e.o Tu.iC Tu.tI GU (hr.mono (by omega)) Tu.bI .nil pass0 (by rfl) Tu.gC (pa_cons (pe_fld (pv 0) rfl) pa_nil)))) pss_nil)))), ?_⟩
    refine ⟨.str x, rfl, x, rfl, hx, fun H1 s1 => ⟨_, rfl, ?_⟩⟩
    have hg1 := s1 _ _ hg
    have hs1 := s1 _ _ hs
    rcases alt with ⟨h1, q⟩ | ⟨h1, h2, q⟩ | ⟨h1, h2, h3, q⟩
    · rw [h1]
      exact iteT (erBadName_raise Tn.e n1 ⟨x, rfl, Nat.le_trans hx (by decide)⟩ (fun Q q => ⟨.str x, rfl, q⟩) fun H' d s nd ed => q H' d (s1.trans s) (s1.free nd) ed)
    · rw [h1]
      obtain ⟨v, hv⟩ := Option.isSome_iff_exists.mp h2
      have gt : DGet H1 sd (.str x) (some v) := by
        have q := DGet.k (k := Sum.inr x) hs1
        rw [hv] at q
        exact q
      refine iteF ⟨.str x, rfl, .ref g, rfl, g, C6, dx, _, .ref sd, rfl, hg1, TDf_.cl, TDf_.nS, rfl, sd, _, rfl, gt, _, rfl, iteT ?_⟩
      exact erTaken_raise Tt.e n2 ⟨x, rfl, Nat.le_trans hx (by decide)⟩ (fun Q q => ⟨.str x, rfl, q⟩) fun H' d s nd ed => q H' d (s1.trans s) (s1.free nd) ed
    · rw [h1]
      have gt : DGet H1 sd (.str x) none := by
        have q := DGet.k (k := Sum.inr x) hs1
        rw [h2] at q
        exact q
      refine iteF ⟨.str x, rfl, .ref g, rfl, g, C6, dx, _, .ref sd, rfl, hg1, TDf_.cl, TDf_.nS, rfl, sd, none, rfl, gt, _, rfl, iteF ?_⟩
      refine ⟨.ref g, rfl, g, C6, dx, _, .ref sd, rfl, hg1, TDf_.cl, TDf_.nS, rfl, sd, kvs, rfl, hs1, .ref g, rfl, g, C6, dx, _, .int mo, rfl, hg1, TDf_.cl, TDf_.nM, rfl, _, _, rfl, rfl, _, rfl, ite2 (fun _ => ?_) (fun c => absurd (decide_eq_true h3) c)⟩
      exact fu_raise Tu.e n3 (.inl ⟨mo, rfl, hmo⟩) (fun Q q => ⟨.ref g, rfl, g, C6, dx, _, .int mo, rfl, hg1, TDf_.cl, TDf_.nM, rfl, q⟩) fun H' d s nd ed => q H' d (s1.trans s) (s1.free nd) ed
end

/-! ### swell of a road of no place; all that refuses in a hall; a deed upon a road of its own -/
def spSwellG (C5 : Addr) : Sp := fun vs H Q _ => ∃ (g st : Addr) (n t : Int) (S : StL) (k : V) (c : Int), vs = [.ref g, .int t] ∧ RoAt C5 H g st n S k c ∧ RoW n S ∧ 1 ≤ t ∧ (S ≠ [] → t ≤ 1000000000000000000) ∧ n * t ≤ 1000000000000000000 ∧
  ∀ (H' : Hp) (st' : Addr), RoAt C5 H' g st' (n * t) (swS t S) (if n * t = n ∧ swS t S = S then k else .non) c → Keep g H H' → H st' = none → Q .non H'
section
variable {P : Program} {w : World} {K : PySem.W.Frag} {mg : Str → Option Value} {base : Heap} {C5 : Addr}
theorem ok_SwellG {f fB fA fS : Addr} {fd fdB fdA fdS : FuncData} {tok : Tok} (F : Fun K "swell" "Road.swell" s_Ro_swell f fd) (TRo_ : RoT K mg C5) (M_Ro_become : Meth K C5 "become" fB) (G_Ro_become : FnOk P w K mg base CX0 1 fB fdB P_Ro_become (spBecome C5)) (b_Ro_become : Binds K fdB P_Ro_become [])
    (D_need_from : DefAt K mg "need_from" s_need_from P_need_from fA fdA) (D_swelled : DefAt K mg "swelled" s_swelled P_swelled fS fdS) (g_FAR : mg "FAR" = some (.int 1000000000000000000 tok)) (B : Bn mg) : FnOk P w K mg base CX0 2 f fd P_Ro_swell (spSwellG C5) := by
  have G_need_from : FnOk P w K mg base CX0 1 fA fdA P_need_from spFrom0 := ok_from0 D_need_from B
  have G_swelled : FnOk P w K mg base CX0 1 fS fdS P_swelled spSwelled := ok_swelled D_swelled
  refine F.ok sc_Ro_swell (fun vs H Q E h => ?_) (fun cdv A outer s H vs Q E hr h => ?_)
  · obtain ⟨g, st, n, t, S, k, c, rfl, _⟩ := h
    rfl
  · obtain ⟨g, st, n, t, S, k, c, rfl, fa, wf, t1, t2, nt, qq⟩ := h
    have hu := hu_of hr
    refine ⟨_, (pss_cons (ps_expr (pe_call G_need_from (hr.mono (by omega)) (by rfl) D_need_from.g D_need_from.F.kp D_need_from.b .nil pass0 (pa_cons pe_int (pa_cons (pv 1) pa_nil))))
      (pss_cons (ps_if (pt_cmpR op_gt (pe_op op_mul (pe_fld (pv 0) rfl) (pv 1)) (pe_glob (v := .int _) (by rfl) g_FAR ⟨_, rfl⟩) (nomark _)) (pss_one ps_never) pss_nil)
      (pss_one (ps_expr (pe_meth (pv 0) TRo_.cl M_Ro_become G_Ro_become (hr.mono (by omega)) b_Ro_become .nil pass0 (pa_cons (pe_op op_mul (pe_fld (pv 0) rfl) (pv 1)) (pa_cons (pe_lock (pe_dc (own := [("k", 2)]) (g := gName 2) (by rfl) sc_Ro_swell.nd (pi_keys (pe_fld (pv 0) rfl)) (blkOk_by (own := [("k", 2)]) (N := N_Ro_swell) (sc := defScope s_Ro_swell) (by decide +kernel)) (fun _ _ _ _ _ => (pg_name (i := 2) sc_Ro_swell.nd rfl (.inl rfl))) (fun _ _ _ _ _ => pts_nil) (fun _ _ _ _ _ => (pv 2)) (fun _ _ _ _ _ => (pe_call G_swelled (hr.mono (by omega)) (by rfl) D_swelled.g D_swelled.F.kp D_swelled.b .nil pass0 (pa_cons (pe_dget hu (pe_fldK (K := K) rfl (pv 0) rfl) (pv 2) (fun _ _ => rfl)) (pa_cons (pv 1) pa_nil)))))) pa_nil))))))), ?_⟩
    obtain ⟨⟨dx, ea⟩, kvs, es, sd⟩ := id fa
    have el := sd.length
    have ngs : g ≠ st := fa.ne
    have up := wf.up
    have hlen := wf.len
    have n1 := wf.n1
    have n0 := wf.n0
    have cm : CMul n t := .inl ⟨by omega, by omega⟩
    refine ⟨.int t, rfl, 1, t, rfl, t1, ?_⟩
    refine ⟨.ref g, rfl, g, C5, dx, _, .int n, rfl, ea, TRo_.cl, TRo_.nE, rfl, .int t, rfl, n, t, rfl, rfl, cm, n * t, 1000000000000000000, rfl, rfl, _, rfl, ite2 (fun h => absurd (of_decide_eq_true h) (by omega)) (fun _ => ?_)⟩
    have sl : ∀ {od : Obj} {b : Addr} {o : HO}, H b = some o → b ≠ st → (upd H st (.frz od (.dK kvs))) b = some o := fun h n => by rw [upd_ne n]; exact h
    refine ⟨.ref g, rfl, g, dx, _, rfl, ea, rfl, .ref g, rfl, g, C5, dx, _, .int n, rfl, ea, TRo_.cl, TRo_.nE, rfl, .int t, rfl, n, t, rfl, rfl, cm, st, .dK kvs, es, trivial, fun od => ?_⟩
    refine ⟨.ref g, rfl, g, C5, dx, _, .ref st, rfl, sl ea ngs, TRo_.cl, TRo_.nS, rfl, st, od, rfl, .inl ⟨kvs, upd_same, fun D nD => dc_it walk_keys (fun j H2 => ∃ ks, Same (upd H st (.frz od (.dK kvs))) H2 ∧ H2 D = some (.dK ks) ∧ Std H2 ks (swS t (S.take j)))
      ⟨[], same_upd nD, upd_same, .nil⟩ (fun j H2 _ ⟨_, sm, _⟩ => sm _ _ upd_same) ?_ ?_⟩⟩
    · rintro j y H2 H3 hj ⟨ks, sm, eD, s2⟩ ⟨rfl, k0, v2, hk, rfl⟩
      obtain ⟨z, hz, e1, t', e2, e3⟩ := LiI.paired_get sd hk
      have e1' : k0 = Sum.inl z.1 := e1
      subst e1'
      obtain ⟨tt, ht1, ht2⟩ := (sd.get z.1).2 z.2 (sget_mem up (List.mem_of_getElem? hz))
      have ntt : tt ≠ st := ne_of ht2 es (fun z => by cases z)
      have hlt : ∀ s ∈ S.take j, s.1 < z.1 := fun s hs => by
        have u2 : ((S.take (j + 1)).map (·.1)).Pairwise (· < ·) := up.sublist ((List.take_sublist _ _).map _)
        rw [List.take_add_one, hz, List.map_append, List.pairwise_append] at u2
        exact u2.2.2 _ (List.mem_map.mpr ⟨s, hs, rfl⟩) _ (List.mem_singleton.mpr rfl)
      have l2 := s2.length
      have l3 : (swS t (S.take j)).length = (S.take j).length := List.length_map _
      rw [l3, List.length_take] at l2
      refine ⟨rfl, ?_⟩
      refine ⟨.int z.1, rfl, .ref g, rfl, g, C5, dx, _, .ref st, rfl, sm _ _ (sl ea ngs), TRo_.cl, TRo_.nS, rfl, .int z.1, rfl, st, .ref tt, rfl, .inl ⟨kvs, Sum.inl z.1, .inr ⟨od, sm _ _ upd_same⟩, rfl, ht1.symm⟩, .int t, rfl, ?_⟩
      have t3 : t ≤ 1000000000000000000 := t2 (fun q => by rw [q] at hz; cases hz)
      refine ⟨tt, z.2, t, rfl, ⟨by omega, by omega⟩, sm _ _ (sl ht2 ntt), fun r nr => ?_⟩
      have sr := same_upd (H := H3) (o := t4 (swX t z.2)) nr
      have er : (upd H3 r (t4 (swX t z.2))) r = some (t4 (swX t z.2)) := upd_same
      generalize upd H3 r (t4 (swX t z.2)) = H4 at sr er
      have eD4 := sr _ _ eD
      have hno : valV ks (Sum.inl z.1) = none := (s2.get z.1).1 (sget_not fun s hs => by
        obtain ⟨s', hs', rfl⟩ := List.mem_map.mp hs
        have := hlt s' hs'
        show s'.1 ≠ z.1
        omega)
      refine ⟨ks, Sum.inl z.1, rfl, eD4, sz_lt (by omega), putK ks (Sum.inl z.1) (.ref r), fun b o hb => ?_, upd_same, ?_⟩
      · rw [upd_ne (ne_of_none hb nD)]
        exact sr _ _ (sm _ _ hb)
      · have kt : KeepT H4 (upd H4 D (.dK (putK ks (Sum.inl z.1) (.ref r)))) := fun b xs hb => by
          rw [upd_ne (ne_of hb eD4 (fun z => by cases z))]
          exact hb
        show Std _ (putK ks (Sum.inl z.1) (.ref r)) _
        generalize upd H4 D (.dK (putK ks (Sum.inl z.1) (.ref r))) = H9 at kt
        rw [putK_new _ hno]
        unfold swS
        rw [List.take_add_one, hz, List.map_append]
        exact Std.snoc (s := (z.1, swX t z.2)) ⟨rfl, r, rfl, kt _ _ er⟩ ((s2.keep fun b xs hb => sr _ _ hb).keep kt)
    · rintro H2 ⟨ks, sm, eD, s2⟩
      rw [el, List.take_length] at s2
      have nDs : D ≠ st := fun z => by
        rw [z, upd_same] at nD
        cases nD
      have nD0 : H D = none := by
        rw [upd_ne nDs] at nD
        exact nD
      have fin : Same H (upd H2 st (.dK kvs)) := fun b o hb => by
        by_cases z : b = st
        · rw [z] at hb ⊢
          rw [es] at hb
          rw [upd_same]
          exact hb
        · rw [upd_ne z]
          exact sm _ _ (sl hb z)
      have kt : KeepT H2 (upd H2 st (.dK kvs)) := fun b xs hb => by
        rw [upd_ne (ne_of hb (sm _ _ upd_same) (fun z => by cases z))]
        exact hb
      have eD2 : (upd H2 st (.dK kvs)) D = some (.dK ks) := by
        rw [upd_ne nDs]
        exact eD
      refine ⟨sm _ _ upd_same, ?_⟩
      refine ⟨g, st, D, dx, n, n * t, S, swS t S, k, c, kvs, ks, rfl, fin _ _ ea, upd_same, sd.keep fun b xs hb => fin _ _ hb, eD2, s2.keep kt, up, by rw [swS_keys]; exact up, fun H5 e5 k5 => ?_⟩
      have nDg : D ≠ g := (ne_of_none ea nD0).symm
      exact qq H5 D ⟨⟨dx, e5⟩, _, k5 _ _ nDg eD2, (s2.keep kt).keep fun b xs hb => k5 _ _ (ne_of hb (fin _ _ ea) (fun z => by cases z)) hb⟩ (fun b o nb hb => k5 _ _ nb (fin _ _ hb)) nD0
end
/-- the classes of a hall's refusals -/
structure H7 where
  CB : Addr
  CG : Addr
  CU : Addr
  CM : Addr
  CN : Addr
  CT : Addr
  CR : Addr
def ErrH (c : H7) (word : Str) (v : V) (C : Addr) (fs : Fds) : Prop := ErrIs c.CB c.CG c.CU word v C fs ∨ (word = "NoMating" ∧ C = c.CM ∧ fs = nmF v) ∨ (word = "BadName" ∧ C = c.CN ∧ fs = erBadNameF v) ∨ (word = "Taken" ∧ C = c.CT ∧ fs = erTakenF v) ∨ (word = "NoRoad" ∧ C = c.CR ∧ fs = erNoRoadF v)
/-- the same value, or tuples of the same four -/
def VR (H : Hp) (v v2 : V) : Prop := v2 = v ∨ ∃ (a t : Addr) (q : Q4), v = .ref a ∧ v2 = .ref t ∧ H a = some (.tup (q4 q)) ∧ H t = some (.tup (q4 q))
def TakesH (c : H7) (H : Hp) (E : XK) (word : Str) (v : V) : Prop := ∀ (C : Addr) (fs : Fds) (H' : Hp) (d : Addr) (v2 : V), ErrH c word v2 C fs → VR H' v v2 → Same H H' → H d = none → H' d = some (.xd fs) → E (.ref C) (some d) H'
theorem TakesH.same {c : H7} {H H1 : Hp} {E : XK} {word : Str} {v : V} (h : TakesH c H E word v) (s : Same H H1) : TakesH c H1 E word v := fun C fs H' d v2 e r s' nd ed => h C fs H' d v2 e r (s.trans s') (s.free nd) ed
theorem TakesH.e {c : H7} {H : Hp} {E : XK} {word : Str} {v : V} (h : TakesH c H E word v) : TakesE c.CB c.CG c.CU H E word v := fun C fs H' d e s nd ed => h C fs H' d v (.inl e) (.inl rfl) s nd ed
theorem TakesH.b {c : H7} {H : Hp} {E : XK} {v : V} (h : TakesH c H E "BadNumber" v) : TakesB c.CB H E v := fun H' d s nd ed => h _ _ H' d v (.inl (.inl ⟨rfl, rfl, rfl⟩)) (.inl rfl) s nd ed
theorem TakesH.mat {c : H7} {H H1 : Hp} {E : XK} {a t : Addr} {q : Q4} (h : TakesH c H E "BadMating" (.ref a)) (ha : H a = some (.tup (q4 q))) (s : Same H H1) (ht : H1 t = some (.tup (q4 q))) : TakesE c.CB c.CG c.CU H1 E "BadMating" (.ref t) := fun C fs H' d e s' nd ed =>
  h C fs H' d (.ref t) (.inl e) (.inr ⟨a, t, q, rfl, rfl, s' _ _ (s _ _ ha), s' _ _ ht⟩) (s.trans s') (s.free nd) ed
abbrev spM7 (C5 : Addr) (c : H7) : Sp := fun vs H Q E => spMate C5 vs H Q E ∨ spMateR C5 c.CG c.CU vs H Q E
abbrev spK7 (C5 : Addr) (c : H7) : Sp := fun vs H Q E => spStrike C5 vs H Q E ∨ spStrikeR C5 c.CM vs H Q E
abbrev spG7 (C5 : Addr) (c : H7) : Sp := fun vs H Q E => spGrow C5 vs H Q E ∨ spGrowX C5 c.CB vs H Q E
abbrev spT7 (C5 : Addr) (c : H7) : Sp := fun vs H Q E => spTrim C5 vs H Q E ∨ spTrimX C5 c.CB vs H Q E
abbrev spW7 (C5 : Addr) (c : H7) : Sp := fun vs H Q E => spSwellG C5 vs H Q E ∨ spSwellX C5 c.CB vs H Q E
abbrev spUpon7 (C5 : Addr) (c : H7) : Sp := spUpon C5 (spM7 C5 c) (spK7 C5 c) (spG7 C5 c) (spT7 C5 c) (spW7 C5 c) (spBehind C5 c.CB c.CG c.CU)
theorem TakesE.gg {CB CB' CG CU : Addr} {H : Hp} {E : XK} {word : Str} {v : V} (h : TakesE CB CG CU H E word v) (ne : word ≠ "BadNumber") : TakesE CB' CG CU H E word v := fun C fs H' d e s nd ed => by
  rcases e with ⟨z, _⟩ | e | e
  · exact absurd z ne
  · exact h C fs H' d (.inr (.inl e)) s nd ed
  · exact h C fs H' d (.inr (.inr e)) s nd ed
/-- a road of no place has no mating -/
theorem RoW.none {S : StL} (h : RoW 0 S) : S = [] := by
  cases S with
  | nil => rfl
  | cons s r =>
    obtain ⟨_, a2, a3, a4, a5, a6⟩ := h.ok s List.mem_cons_self
    omega
/-- one of the five deeds upon a road of its own -/
theorem upon_on {C5 : Addr} {c : H7} {H : Hp} {Q : VK} {E : XK} {g st a l dx : Addr} {k : RDeed} {n : Int} {S : StL} {kp : V} {c0 : Int} (fa : RoAt C5 H g st n S kp c0) (eg : H g = some (.ins C5 dx (roF n st kp c0))) (el : H l = some (.lst k.rest)) (wf : RoW n S) (ib : ∀ v ∈ k.rest, IB v) (ha : H a = some (.tup k.rest))
    (good : (rdP a k (n, S)).1.1 = "" → ∀ (H' : Hp) (st' : Addr) (k' : V), RoAt C5 H' g st' (rdP a k (n, S)).2.1 (rdP a k (n, S)).2.2 k' c0 → Keep g H H' → Q .non H')
    (bad : (rdP a k (n, S)).1.1 ≠ "" → TakesH c H E (rdP a k (n, S)).1.1 (rdP a k (n, S)).1.2) : spUpon7 C5 c [.ref g, .str k.word, .ref l] H Q E := by
  refine ⟨g, l, dx, n, st, kp, c0, .on k, rfl, eg, el, ?_⟩
  have n0 := wf.n0
  have n1 := wf.n1
  have l24 := wf.len
  have ne1 : ("Full" : Str) ≠ "" := by decide
  have ne2 : ("BadMating" : Str) ≠ "" := by decide
  have ne3 : ("BadNumber" : Str) ≠ "" := by decide
  have ne4 : ("NoMating" : Str) ≠ "" := by decide
  cases k with
  | mate q =>
    have ibq : IBq q := ⟨ib q.1 (by simp [RDeed.rest, q4]), ib q.2.1 (by simp [RDeed.rest, q4]), ib q.2.2.1 (by simp [RDeed.rest, q4]), ib q.2.2.2 (by simp [RDeed.rest, q4])⟩
    unfold rdP at good bad
    dsimp only at good bad
    by_cases hm : isM n q = true
    · rw [if_pos hm] at good bad
      by_cases hl : 23 < S.length
      · rw [if_pos hl] at bad
        have bad : TakesH c H E "Full" (.int 24) := bad ne1
        exact .inr ⟨g, st, n, S, kp, c0, q, rfl, fa, wf, ibq, fun H1 t s nt et => .inr ⟨hm, hl, (bad.same s).e.gg (by decide)⟩⟩
      · rw [if_neg hl] at good
        have good := good rfl
        obtain ⟨x, rfl, mk⟩ := isM_ints hm
        exact .inl ⟨g, st, n, S, kp, c0, x, rfl, fa, wf, by omega, mk, fun H' st' r k' _ => good H' st' _ r k'⟩
    · rw [if_neg hm] at bad
      have bad : TakesH c H E "BadMating" (.ref a) := bad ne2
      have hm : isM n q = false := by simpa using hm
      exact .inr ⟨g, st, n, S, kp, c0, q, rfl, fa, wf, ibq, fun H1 t s nt et => .inl ⟨hm, (bad.mat ha s et).gg (by decide)⟩⟩
  | strike v =>
    have ibv := ib v List.mem_cons_self
    rcases id ibv with ⟨i, rfl, _⟩ | ⟨b, rfl⟩
    · unfold rdP at good bad
      dsimp only at good bad
      cases hm : sget S i with
      | some x =>
        rw [if_pos (show (sget S i).isSome = true by rw [hm]; rfl)] at good
        have good := good rfl
        exact .inl ⟨g, st, n, i, S, kp, c0, x, rfl, fa, wf.up, by omega, hm, fun H' st' r k' _ => good H' st' _ r k'⟩
      | none =>
        rw [if_neg (show ¬ (sget S i).isSome = true by rw [hm]; decide)] at bad
        have bad : TakesH c H E "NoMating" (.int i) := bad ne4
        refine .inr ⟨g, st, n, S, kp, c0, .int i, rfl, fa, ibv.fv, fun i' e => ?_, fun H' d s nd ed => bad _ _ H' d _ (.inr (.inl ⟨rfl, rfl, rfl⟩)) (.inl rfl) s nd ed⟩
        cases e
        exact hm
    · have bad : TakesH c H E "NoMating" (.bl b) := bad ne4
      exact .inr ⟨g, st, n, S, kp, c0, .bl b, rfl, fa, ibv.fv, (fun i' e => by cases e), fun H' d s nd ed => bad _ _ H' d _ (.inr (.inl ⟨rfl, rfl, rfl⟩)) (.inl rfl) s nd ed⟩
  | grow v =>
    have ibv := ib v List.mem_cons_self
    unfold rdP at good bad
    dsimp only at good bad
    by_cases hm : noNum v 0 (1000000000000000000 - n) = true
    · rw [if_pos hm] at bad
      have bad : TakesH c H E "BadNumber" v := bad ne3
      refine .inr ⟨g, st, n, c0, S, kp, v, rfl, fa, ibv.fv, fun i e => ?_, bad.b⟩
      subst e
      have hm : (!decide (0 ≤ i ∧ i ≤ 1000000000000000000 - n)) = true := hm
      have hm : ¬ (0 ≤ i ∧ i ≤ 1000000000000000000 - n) := fun z => by rw [decide_eq_true z] at hm; cases hm
      omega
    · rw [if_neg hm] at good
      have good := good rfl
      rcases ibv with ⟨i, rfl, _⟩ | ⟨b, rfl⟩
      · have hm : ¬ (!decide (0 ≤ i ∧ i ≤ 1000000000000000000 - n)) = true := hm
        have hm : 0 ≤ i ∧ i ≤ 1000000000000000000 - n := by simpa using hm
        exact .inl ⟨g, st, n, i, S, kp, c0, rfl, fa, wf.up, n0, hm.1, by omega, fun H' r k' => good H' st _ r k'⟩
      · exact absurd rfl hm
  | trim v =>
    have ibv := ib v List.mem_cons_self
    unfold rdP at good bad
    dsimp only at good bad
    by_cases hm : noNum v 0 n = true
    · rw [if_pos hm] at bad
      have bad : TakesH c H E "BadNumber" v := bad ne3
      refine .inr ⟨g, st, n, c0, S, kp, v, rfl, fa, ibv.fv, fun i e => ?_, bad.b⟩
      subst e
      have hm : (!decide (0 ≤ i ∧ i ≤ n)) = true := hm
      have hm : ¬ (0 ≤ i ∧ i ≤ n) := fun z => by rw [decide_eq_true z] at hm; cases hm
      omega
    · rw [if_neg hm] at good
      have good := good rfl
      rcases ibv with ⟨i, rfl, _⟩ | ⟨b, rfl⟩
      · have hm : ¬ (!decide (0 ≤ i ∧ i ≤ n)) = true := hm
        have hm : 0 ≤ i ∧ i ≤ n := by simpa using hm
        exact .inl ⟨g, st, n, i, S, kp, c0, rfl, fa, wf, hm.1, hm.2, fun H' st' r k' _ => good H' st' _ r k'⟩
      · exact absurd rfl hm
  | swell v =>
    have ibv := ib v List.mem_cons_self
    rcases id ibv with ⟨i, rfl, _⟩ | ⟨b, rfl⟩
    · unfold rdP at good bad
      dsimp only at good bad
      by_cases hm : 1 ≤ i ∧ n * i ≤ 1000000000000000000
      · rw [if_pos (decide_eq_true hm)] at good
        have good := good rfl
        refine .inl ⟨g, st, n, i, S, kp, c0, rfl, fa, wf, hm.1, fun hS => ?_, hm.2, fun H' st' r k' _ => good H' st' _ r k'⟩
        have n1 : 1 ≤ n := by
          rcases Int.lt_or_le n 1 with z | z
          · have e : n = 0 := by omega
            subst e
            exact absurd wf.none hS
          · exact z
        have := Int.mul_le_mul_of_nonneg_right n1 (show 0 ≤ i by omega)
        omega
      · rw [if_neg (fun z => hm (of_decide_eq_true z))] at bad
        have bad : TakesH c H E "BadNumber" (.int i) := bad ne3
        refine .inr ⟨g, st, n, c0, S, kp, .int i, rfl, fa, ibv.fv, n0, n1, fun i' e => ?_, bad.b⟩
        cases e
        omega
    · have bad : TakesH c H E "BadNumber" (.bl b) := bad ne3
      exact .inr ⟨g, st, n, c0, S, kp, .bl b, rfl, fa, ibv.fv, n0, n1, (fun i' e => by cases e), bad.b⟩
/-- one road taken behind a road of its own -/
theorem upon_bh {C5 : Addr} {c : H7} {H : Hp} {Q : VK} {E : XK} {g st l g2 st2 dx : Addr} {n n2 : Int} {S S2 : StL} {kp kp2 : V} {c0 c2 : Int} (fa : RoAt C5 H g st n S kp c0) (eg : H g = some (.ins C5 dx (roF n st kp c0))) (el : H l = some (.lst [.ref g2])) (fb : RoAt C5 H g2 st2 n2 S2 kp2 c2) (wf : RoW n S) (wf2 : RoW n2 S2)
    (good : (tbP (n, S) (n2, S2)).1.1 = "" → ∀ (H' : Hp) (st' : Addr) (k' : V), RoAt C5 H' g st' (tbP (n, S) (n2, S2)).2.1 (tbP (n, S) (n2, S2)).2.2 k' c0 → Keep g H H' → Q .non H')
    (bad : (tbP (n, S) (n2, S2)).1.1 ≠ "" → TakesH c H E (tbP (n, S) (n2, S2)).1.1 (tbP (n, S) (n2, S2)).1.2) : spUpon7 C5 c [.ref g, .str "behind", .ref l] H Q E := by
  refine ⟨g, l, dx, n, st, kp, c0, .behind g2, rfl, eg, el, ?_⟩
  unfold tbP at good bad
  dsimp only at good bad
  refine ⟨g, st, g2, st2, n, n2, S, S2, kp, kp2, c0, c2, rfl, fa, fb, wf, wf2, fun h => ?_, fun h1 h2 => ?_, fun h1 h2 H' st' r k' _ => ?_⟩
  · rw [if_pos h] at bad
    exact (bad (show ("BadNumber" : Str) ≠ "" by decide)).e
  · rw [if_neg (by omega), if_pos h2] at bad
    exact (bad (show ("Full" : Str) ≠ "" by decide)).e
  · rw [if_neg (by omega), if_neg (by omega)] at good
    exact good rfl H' st' _ r k'

/-! ### the law's own hall stays right -/
theorem RoW.drop {n : Int} {S : StL} (h : RoW n S) (i : Int) : RoW n (sdrop S i) :=
  ⟨h.n0, h.n1, sdrop_keys h.up, fun s hs => h.low s (sdrop_mem hs).1, Nat.le_trans (sdrop_length S i) h.len, fun s hs => h.ok s (sdrop_mem hs).1⟩
theorem RoW.grow {n m : Int} {S : StL} (h : RoW n S) (m0 : 0 ≤ m) (hn : n + m ≤ 1000000000000000000) : RoW (n + m) S :=
  ⟨by have := h.n0; omega, hn, h.up, h.low, h.len, fun s hs => by
    obtain ⟨a1, a2, a3, a4, a5, a6⟩ := h.ok s hs
    exact ⟨a1, a2, a3, a4, by omega, by omega⟩⟩
theorem nxt_le {S : StL} {i : Int} (i0 : 0 ≤ i) (h : ∀ s ∈ S, s.1 ≤ i) : nxt S ≤ i + 1 := by
  have key : ∀ (l : List Int) (x : Int), x ≤ i → (∀ y ∈ l, y ≤ i) → l.foldl max x ≤ i := fun l => by
    induction l with
    | nil => exact fun x hx _ => hx
    | cons y r ih => exact fun x hx hy => ih _ (Int.max_le.mpr ⟨hx, hy y List.mem_cons_self⟩) fun z hz => hy z (List.mem_cons_of_mem _ hz)
  have := key (S.map (·.1)) 0 i0 fun y hy => by
    obtain ⟨s, hs, rfl⟩ := List.mem_map.mp hy
    exact h s hs
  unfold nxt
  omega
/-- matings of numbers at most b, of at most 200 places -/
def StB (b : Int) (S : StL) : Prop := ∀ s ∈ S, s.1 ≤ b ∧ s.2.2.2.1 ≤ 200
/-- a deed on a road that makes no mating of many places -/
def RdOk (r : RdM) : RDeed → Prop
  | .mate q => numV q.2.2.1 ≤ 200
  | .swell v => ∀ i : Int, v = .int i → 1 ≤ i → r.1 * i ≤ 1000000000000000000 → ∀ s ∈ r.2, s.2.2.2.1 * i ≤ 200
  | _ => True
theorem clipM_many {m n : Int} {x y : M4} (hx : Mok n x) (m0 : 0 ≤ m) (h : clipM m x = some y) : y.2.2.1 ≤ x.2.2.1 := by
  obtain ⟨o, p, q, f⟩ := x
  unfold clipM at h
  split at h
  · cases h
  · cases h
    have lo := clip_lo o p q f m
    have hi := clip_hi o p q f m
    show clipHi o p q f m - clipLo o p q f m ≤ q
    omega
theorem rdP_ok {a : Addr} {d : RDeed} {r : RdM} (wf : RoW r.1 r.2) (e : (rdP a d r).1.1 = "") (ib : ∀ v ∈ d.rest, IB v) : RoW (rdP a d r).2.1 (rdP a d r).2.2 ∧ ∀ b : Int, 0 ≤ b → StB b r.2 → RdOk r d → StB (b + 1) (rdP a d r).2.2 := by
  obtain ⟨n, S⟩ := r
  have up1 : ∀ {b : Int} {S : StL}, StB b S → StB (b + 1) S := fun sb s hs => ⟨by have := (sb s hs).1; omega, (sb s hs).2⟩
  have ne1 : ("Full" : Str) ≠ "" := by decide
  have ne2 : ("BadMating" : Str) ≠ "" := by decide
  have ne3 : ("BadNumber" : Str) ≠ "" := by decide
  have ne4 : ("NoMating" : Str) ≠ "" := by decide
  cases d with
  | mate q =>
    unfold rdP at e ⊢
    dsimp only at e ⊢
    by_cases hm : isM n q = true
    · rw [if_pos hm] at e ⊢
      by_cases hl : 23 < S.length
      · rw [if_pos hl] at e
        exact absurd e ne1
      · rw [if_neg hl]
        obtain ⟨x, rfl, mk⟩ := isM_ints hm
        have hl : ¬ 23 < S.length := hl
        refine ⟨wf.snoc (fun s hs => nxt_gt hs) (nxt_1 S) (by show S.length < 24; omega) mk, fun b b0 sb hk s hs => ?_⟩
        rcases List.mem_append.mp hs with h | h
        · exact up1 sb s h
        · rw [List.mem_singleton.mp h]
          exact ⟨nxt_le b0 fun s hs => (sb s hs).1, hk⟩
    · rw [if_neg hm] at e
      exact absurd e ne2
  | strike v =>
    rcases ib v List.mem_cons_self with ⟨i, rfl, _⟩ | ⟨b, rfl⟩
    · unfold rdP at e ⊢
      dsimp only at e ⊢
      by_cases hm : (sget S i).isSome = true
      · rw [if_pos hm]
        exact ⟨wf.drop _, fun b b0 sb hk s hs => up1 sb s (sdrop_mem hs).1⟩
      · rw [if_neg hm] at e
        exact absurd e ne4
    · exact absurd e ne4
  | grow v =>
    unfold rdP at e ⊢
    dsimp only at e ⊢
    by_cases hm : noNum v 0 (1000000000000000000 - n) = true
    · rw [if_pos hm] at e
      exact absurd e ne3
    · rw [if_neg hm]
      rcases ib v List.mem_cons_self with ⟨i, rfl, _⟩ | ⟨b, rfl⟩
      · have hm : ¬ (!decide (0 ≤ i ∧ i ≤ 1000000000000000000 - n)) = true := hm
        have hm : 0 ≤ i ∧ i ≤ 1000000000000000000 - n := by simpa using hm
        exact ⟨wf.grow hm.1 (by show n + i ≤ _; omega), fun b b0 sb hk => up1 sb⟩
      · exact absurd rfl hm
  | trim v =>
    unfold rdP at e ⊢
    dsimp only at e ⊢
    by_cases hm : noNum v 0 n = true
    · rw [if_pos hm] at e
      exact absurd e ne3
    · rw [if_neg hm]
      rcases ib v List.mem_cons_self with ⟨i, rfl, _⟩ | ⟨b, rfl⟩
      · have hm : ¬ (!decide (0 ≤ i ∧ i ≤ n)) = true := hm
        have hm : 0 ≤ i ∧ i ≤ n := by simpa using hm
        refine ⟨wf.trim hm.1 hm.2, fun b b0 sb hk s hs => ?_⟩
        obtain ⟨t, ht, e1, e2⟩ := trS_in hs
        have z := clipM_many (wf.ok t ht) hm.1 e2
        obtain ⟨y1, y2⟩ := up1 sb t ht
        exact ⟨by rw [← e1]; exact y1, Int.le_trans z y2⟩
      · exact absurd rfl hm
  | swell v =>
    rcases ib v List.mem_cons_self with ⟨i, rfl, _⟩ | ⟨b, rfl⟩
    · unfold rdP at e ⊢
      dsimp only at e ⊢
      by_cases hm : 1 ≤ i ∧ n * i ≤ 1000000000000000000
      · rw [if_pos (decide_eq_true hm)]
        refine ⟨wf.swell hm.1 hm.2, fun b b0 sb hk s hs => ?_⟩
        obtain ⟨t, ht, rfl⟩ := List.mem_map.mp hs
        refine ⟨(up1 sb t ht).1, ?_⟩
        have := hk i rfl hm.1 hm.2 t ht
        show i * t.2.2.2.1 ≤ 200
        rw [Int.mul_comm]
        exact this
      · rw [if_neg (fun z => hm (of_decide_eq_true z))] at e
        exact absurd e ne3
    · exact absurd e ne3
theorem tbP_ok {r r2 : RdM} (wf : RoW r.1 r.2) (wf2 : RoW r2.1 r2.2) (e : (tbP r r2).1.1 = "") : RoW (tbP r r2).2.1 (tbP r r2).2.2 ∧ ∀ b : Int, 0 ≤ b → StB b r.2 → StB b r2.2 → StB (b + 24) (tbP r r2).2.2 := by
  unfold tbP at e ⊢
  by_cases h1 : 1000000000000000000 < r.1 + r2.1
  · rw [if_pos h1] at e
    exact absurd e (by show ("BadNumber" : Str) ≠ ""; decide)
  · rw [if_neg h1] at e ⊢
    by_cases h2 : 24 < r.2.length + r2.2.length
    · rw [if_pos h2] at e
      exact absurd e (by show ("Full" : Str) ≠ ""; decide)
    · rw [if_neg h2]
      refine ⟨wf.behind wf2 (by omega) (by omega), fun b b0 sb sb2 s hs => ?_⟩
      have nl := nxt_le b0 fun s hs => (sb s hs).1
      rcases List.mem_append.mp hs with h | h
      · exact ⟨by have := (sb s h).1; omega, (sb s h).2⟩
      · obtain ⟨z1, z2, t, ht, e⟩ := bhS_in _ _ _ _ h
        refine ⟨by omega, ?_⟩
        rw [e]
        exact (sb2 t ht).2

/-- the law's own hall: names once, right roads, small matings -/
structure MoG (b : Int) (M : MoL) : Prop where
  nd : (M.map (·.1)).Nodup
  w : ∀ m ∈ M, RoW m.2.1 m.2.2
  sb : ∀ m ∈ M, StB b m.2.2
  nm : ∀ m ∈ M, goodN m.1 = true
def DkOk (M : MoL) : HDeed → Prop
  | .road x d => ∀ r, mget M x = some r → RdOk r d
  | _ => True
theorem mset_names {M : MoL} {x : Str} {r : RdM} : (mset M x r).map (·.1) = if (mget M x).isSome = true then M.map (·.1) else M.map (·.1) ++ [x] := by
  unfold mset
  by_cases h : (mget M x).isSome = true
  · rw [if_pos h, if_pos h, List.map_map]
    refine List.map_congr_left fun m _ => ?_
    show (if m.1 = x then (m.1, r) else m).1 = m.1
    split <;> rfl
  · rw [if_neg h, if_neg h, List.map_append]
    rfl
theorem mget_none {x : Str} : ∀ {M : MoL}, (∀ r, mget M x ≠ some r) → x ∉ M.map (·.1)
  | [], _ => by simp
  | m :: t, h => by
    unfold mget at h
    by_cases e : m.1 = x
    · rw [if_pos e] at h
      exact absurd rfl (h m.2)
    · rw [if_neg e] at h
      intro z
      rcases List.mem_cons.mp z with z | z
      · exact e z.symm
      · exact mget_none h z
theorem mset_mem {M : MoL} {x : Str} {r : RdM} {m : Str × RdM} (h : m ∈ mset M x r) : m ∈ M ∨ (m.2 = r ∧ (m.1 ∈ M.map (·.1) ∨ m.1 = x)) := by
  unfold mset at h
  split at h
  · obtain ⟨m', hm, e⟩ := List.mem_map.mp h
    by_cases z : m'.1 = x
    · rw [if_pos z] at e
      subst e
      exact .inr ⟨rfl, .inl (List.mem_map.mpr ⟨m', hm, rfl⟩)⟩
    · rw [if_neg z] at e
      subst e
      exact .inl hm
  · rcases List.mem_append.mp h with z | z
    · exact .inl z
    · rw [List.mem_singleton.mp z]
      exact .inr ⟨rfl, .inr rfl⟩
theorem mget_mem {x : Str} {r : RdM} : ∀ {M : MoL}, mget M x = some r → (x, r) ∈ M
  | m :: t, h => by
    unfold mget at h
    by_cases e : m.1 = x
    · rw [if_pos e] at h
      cases h
      subst e
      exact List.mem_cons_self
    · rw [if_neg e] at h
      exact List.mem_cons_of_mem _ (mget_mem h)
theorem MoG.put {b b' : Int} {M : MoL} {x : Str} {r : RdM} (h : MoG b M) (le : b ≤ b') (w : RoW r.1 r.2) (s : StB b' r.2) (nx : goodN x = true) : MoG b' (mset M x r) := by
  refine ⟨?_, fun m hm => ?_, fun m hm => ?_, fun m hm => ?_⟩
  · rw [mset_names]
    by_cases z : (mget M x).isSome = true
    · rw [if_pos z]
      exact h.nd
    · rw [if_neg z]
      refine List.nodup_append.mpr ⟨h.nd, by simp, fun a ha b hb e => ?_⟩
      rw [List.mem_singleton.mp hb] at e
      subst e
      exact mget_none (fun r e => z (by rw [e]; rfl)) ha
  · rcases mset_mem hm with z | ⟨z, _⟩
    · exact h.w m z
    · rw [z]
      exact w
  · rcases mset_mem hm with z | ⟨z, _⟩
    · exact fun q hq => ⟨Int.le_trans (h.sb m z q hq).1 le, (h.sb m z q hq).2⟩
    · rw [z]
      exact s
  · rcases mset_mem hm with z | ⟨_, z | z⟩
    · exact h.nm m z
    · obtain ⟨m', hm', e⟩ := List.mem_map.mp z
      rw [← e]
      exact h.nm m' hm'
    · rw [z]
      exact nx
theorem MoG.le {b b' : Int} {M : MoL} (h : MoG b M) (le : b ≤ b') : MoG b' M := ⟨h.nd, h.w, fun m hm s hs => ⟨Int.le_trans (h.sb m hm s hs).1 le, (h.sb m hm s hs).2⟩, h.nm⟩
theorem MoG.drop {b : Int} {M : MoL} (h : MoG b M) (x : Str) : MoG b (mdrop M x) :=
  ⟨h.nd.sublist ((List.filter_sublist).map _), fun m hm => h.w m (List.mem_filter.mp hm).1, fun m hm => h.sb m (List.mem_filter.mp hm).1, fun m hm => h.nm m (List.mem_filter.mp hm).1⟩
theorem roomP_ok {cap : Int} {M : MoL} {x : Str} (h : (roomP cap M x).1 = "") : goodN x = true ∧ mget M x = none ∧ (M.length : Int) < cap := by
  unfold roomP at h
  split at h
  · rename_i g
    split at h
    · exact absurd h (by show ("Taken" : Str) ≠ ""; decide)
    · rename_i n
      split at h
      · exact absurd h (by show ("Full" : Str) ≠ ""; decide)
      · exact ⟨g, by simpa using n, by omega⟩
  · exact absurd h (by show ("BadName" : Str) ≠ ""; decide)
/-! what a deed comes to, case by case -/
section
variable {cap : Int} {a : Addr} {x y : Str} {v : V} {d : RDeed} {M : MoL} {r r2 : RdM}
theorem stepP_lay : stepP cap a (.lay x v) M = if (roomP cap M x).1 = ("" : Str) then (if noNum v 0 1000000000000000000 = true then ((("BadNumber" : Str), v), M) else (roomP cap M x, mset M x (numV v, []))) else (roomP cap M x, M) := rfl
theorem stepP_copy0 (h : mget M x = none) : stepP cap a (.copy x y) M = ((("NoRoad" : Str), V.str x), M) := by
  unfold stepP
  simp only [h]
theorem stepP_copy (h : mget M x = some r) : stepP cap a (.copy x y) M = if (roomP cap M y).1 = ("" : Str) then (roomP cap M y, mset M y r) else (roomP cap M y, M) := by
  unfold stepP
  simp only [h]
theorem stepP_clear0 (h : mget M x = none) : stepP cap a (.clear x) M = ((("NoRoad" : Str), V.str x), M) := by
  unfold stepP
  simp only [h]
theorem stepP_clear (h : mget M x = some r) : stepP cap a (.clear x) M = ((("" : Str), V.non), mdrop M x) := by
  unfold stepP
  simp only [h]
theorem stepP_bh0 (h : mget M x = none) : stepP cap a (.behind x y) M = ((("NoRoad" : Str), V.str x), M) := by
  unfold stepP
  simp only [h]
theorem stepP_bh1 (h : mget M x = some r) (h2 : mget M y = none) : stepP cap a (.behind x y) M = ((("NoRoad" : Str), V.str y), M) := by
  unfold stepP
  simp only [h, h2]
theorem stepP_bh (h : mget M x = some r) (h2 : mget M y = some r2) : stepP cap a (.behind x y) M = if (tbP r r2).1.1 = ("" : Str) then ((tbP r r2).1, mset M x (tbP r r2).2) else ((tbP r r2).1, M) := by
  unfold stepP
  simp only [h, h2]
theorem stepP_rd0 (h : mget M x = none) : stepP cap a (.road x d) M = ((("NoRoad" : Str), V.str x), M) := by
  unfold stepP
  simp only [h]
theorem stepP_rd (h : mget M x = some r) : stepP cap a (.road x d) M = if (rdP a d r).1.1 = ("" : Str) then ((rdP a d r).1, mset M x (rdP a d r).2) else ((rdP a d r).1, M) := by
  unfold stepP
  simp only [h]
end
/-- a deed leaves a right hall -/
theorem stepP_ok {cap b : Int} {a : Addr} {k : HDeed} {M : MoL} (h : MoG b M) (b0 : 0 ≤ b) (hk : DkOk M k) (ibr : ∀ x d, k = .road x d → ∀ v ∈ d.rest, IB v) (ibl : ∀ x v, k = .lay x v → IB v) : MoG (b + 24) (stepP cap a k M).2 := by
  have le : b ≤ b + 24 := by omega
  cases k with
  | lay x v =>
    unfold stepP
    dsimp only
    split
    · rename_i h1
      split
      · exact h.le le
      · rename_i h2
        refine h.put le ?_ (fun s hs => by cases hs) (roomP_ok h1).1
        rcases ibl x v rfl with ⟨i, rfl, _⟩ | ⟨b, rfl⟩
        · have h2 : ¬ (!decide (0 ≤ i ∧ i ≤ 1000000000000000000)) = true := h2
          have h2 : 0 ≤ i ∧ i ≤ 1000000000000000000 := by simpa using h2
          exact ⟨h2.1, h2.2, .nil, (fun s hs => by cases hs), Nat.zero_le _, (fun s hs => by cases hs)⟩
        · exact absurd rfl h2
    · exact h.le le
  | copy x y =>
    cases ex : mget M x with
    | none =>
      rw [stepP_copy0 ex]
      exact h.le le
    | some r =>
      rw [stepP_copy ex]
      split
      · rename_i h1
        have hm := mget_mem ex
        exact h.put le (h.w _ hm) (fun s hs => ⟨Int.le_trans (h.sb _ hm s hs).1 le, (h.sb _ hm s hs).2⟩) (roomP_ok h1).1
      · exact h.le le
  | clear x =>
    cases ex : mget M x with
    | none =>
      rw [stepP_clear0 ex]
      exact h.le le
    | some r =>
      rw [stepP_clear ex]
      exact (h.drop x).le le
  | behind x y =>
    cases ex : mget M x with
    | none =>
      rw [stepP_bh0 ex]
      exact h.le le
    | some r =>
      cases ey : mget M y with
      | none =>
        rw [stepP_bh1 ex ey]
        exact h.le le
      | some r2 =>
        rw [stepP_bh ex ey]
        split
        · rename_i h1
          have hm := mget_mem ex
          have hm2 := mget_mem ey
          obtain ⟨o1, o3⟩ := tbP_ok (h.w _ hm) (h.w _ hm2) h1
          have o2 := o3 b b0 (h.sb _ hm) (h.sb _ hm2)
          exact h.put le o1 o2 (h.nm _ hm)
        · exact h.le le
  | road x d =>
    cases ex : mget M x with
    | none =>
      rw [stepP_rd0 ex]
      exact h.le le
    | some r =>
      rw [stepP_rd ex]
      split
      · rename_i h1
        have hm := mget_mem ex
        obtain ⟨o1, o3⟩ := rdP_ok (h.w _ hm) h1 (ibr x d rfl)
        have o2 := o3 b b0 (h.sb _ hm) (hk r ex)
        exact h.put le o1 (fun s hs => ⟨by have := (o2 s hs).1; omega, (o2 s hs).2⟩) (h.nm _ hm)
      · exact h.le le
theorem MoG.mok {b : Int} {M : MoL} (h : MoG b M) : MoK M := fun m hm => ⟨h.w m hm, fun s hs => (h.sb m hm s hs).2⟩
theorem stepP_len {cap : Int} {a : Addr} {k : HDeed} {M : MoL} (c : (M.length : Int) ≤ cap) : ((stepP cap a k M).2.length : Int) ≤ cap := by
  have put : ∀ (x : Str) (r : RdM), (mget M x).isSome = true → (mset M x r).length = M.length := fun x r z => by
    unfold mset
    rw [if_pos z, List.length_map]
  have add : ∀ (x : Str) (r : RdM), (M.length : Int) < cap → ((mset M x r).length : Int) ≤ cap := fun x r z => by
    unfold mset
    split
    · rw [List.length_map]
      omega
    · rw [List.length_append]
      show ((M.length + 1 : Nat) : Int) ≤ cap
      omega
  cases k with
  | lay x v =>
    unfold stepP
    dsimp only
    split
    · rename_i h1
      split
      · exact c
      · exact add _ _ (roomP_ok h1).2.2
    · exact c
  | copy x y =>
    cases ex : mget M x with
    | none =>
      rw [stepP_copy0 ex]
      exact c
    | some r =>
      rw [stepP_copy ex]
      split
      · rename_i h1
        exact add _ _ (roomP_ok h1).2.2
      · exact c
  | clear x =>
    cases ex : mget M x with
    | none =>
      rw [stepP_clear0 ex]
      exact c
    | some r =>
      rw [stepP_clear ex]
      show ((mdrop M x).length : Int) ≤ cap
      have := List.length_filter_le (fun m : Str × RdM => decide (m.1 ≠ x)) M
      unfold mdrop
      omega
  | behind x y =>
    cases ex : mget M x with
    | none =>
      rw [stepP_bh0 ex]
      exact c
    | some r =>
      cases ey : mget M y with
      | none =>
        rw [stepP_bh1 ex ey]
        exact c
      | some r2 =>
        rw [stepP_bh ex ey]
        split
        · show ((mset M x _).length : Int) ≤ cap
          rw [put x _ (by rw [ex]; rfl)]
          exact c
        · exact c
  | road x d =>
    cases ex : mget M x with
    | none =>
      rw [stepP_rd0 ex]
      exact c
    | some r =>
      rw [stepP_rd ex]
      split
      · show ((mset M x _).length : Int) ≤ cap
        rw [put x _ (by rw [ex]; rfl)]
        exact c
      · exact c

/-! ### the roads of a draft: names, numbers, roads -/
abbrev N_Df_change_road : List Str := ["self", "word", "name", "told", "road", "changed"]
abbrev P_Df_change_road : List Str := ["self", "word", "name", "told"]
theorem sc_Df_change_road : FnScope N_Df_change_road P_Df_change_road (defScope s_Df_change_road) := ⟨rfl, rfl, rfl, by decide +kernel, rfl, by decide +kernel, by decide +kernel⟩
theorem tNil_i {σ : L2.St} {H : Hp} {Q : List V → Hp → Prop} (h : Q [] H) : tNil σ H Q := h
/-- a dict of names, and what is told of each name -/
def NmR (R : V → RdM → Prop) (kv : Key × V) (m : Str × RdM) : Prop := kv.1 = Sum.inr m.1 ∧ R kv.2 m.2
theorem nm_val {R : V → RdM → Prop} (x : Str) : ∀ {kvs : List (Key × V)} {M : MoL}, Paired (NmR R) kvs M → (mget M x = none → valV kvs (Sum.inr x) = none) ∧ ∀ r, mget M x = some r → ∃ v, valV kvs (Sum.inr x) = some v ∧ R v r
  | _, _, .nil => ⟨fun _ => rfl, fun _ h => by cases h⟩
  | _, _, .cons (a := kv) (b := m) h t => by
    obtain ⟨i1, i2⟩ := nm_val x t
    by_cases c : m.1 = x
    · have e : kv.1 = Sum.inr x := h.1.trans (congrArg _ c)
      refine ⟨fun z => ?_, fun r z => ⟨kv.2, valV_pos e, ?_⟩⟩
      · unfold mget at z
        rw [if_pos c] at z
        cases z
      · unfold mget at z
        rw [if_pos c] at z
        cases z
        exact h.2
    · have e : ¬ kv.1 = Sum.inr x := fun z => c (Sum.inr.inj (h.1.symm.trans z))
      unfold mget
      rw [if_neg c, valV_neg e]
      exact ⟨i1, i2⟩
theorem NmR.map {R : V → RdM → Prop} {x : Str} {v : V} {r : RdM} (hv : R v r) : ∀ {kvs : List (Key × V)} {M : MoL}, Paired (NmR R) kvs M → Paired (NmR R) (kvs.map fun kv => if kv.1 = Sum.inr x then (kv.1, v) else kv) (M.map fun m => if m.1 = x then (m.1, r) else m)
  | _, _, .nil => .nil
  | _, _, .cons (a := kv) (b := m) h t => by
    refine .cons ?_ (NmR.map hv t)
    show NmR R (if kv.1 = Sum.inr x then (kv.1, v) else kv) (if m.1 = x then (m.1, r) else m)
    by_cases e : m.1 = x
    · have ek : kv.1 = Sum.inr x := by rw [h.1, e]
      rw [if_pos ek, if_pos e]
      exact ⟨h.1, hv⟩
    · have ek : ¬ kv.1 = Sum.inr x := by
        rw [h.1]
        exact fun z => e (Sum.inr.inj z)
      rw [if_neg ek, if_neg e]
      exact h
theorem NmR.put {R : V → RdM → Prop} {x : Str} {v : V} {r : RdM} (hv : R v r) {kvs : List (Key × V)} {M : MoL} (h : Paired (NmR R) kvs M) : Paired (NmR R) (putK kvs (Sum.inr x) v) (mset M x r) := by
  unfold putK mset
  rw [valV_any]
  cases e : mget M x with
  | none =>
    rw [(nm_val x h).1 e]
    exact Paired.more ⟨rfl, hv⟩ h
  | some r0 =>
    obtain ⟨u, hu, _⟩ := (nm_val x h).2 r0 e
    rw [hu]
    exact NmR.map hv h
theorem NmR.drop {R : V → RdM → Prop} {x : Str} : ∀ {kvs : List (Key × V)} {M : MoL}, Paired (NmR R) kvs M → Paired (NmR R) (dropK kvs (Sum.inr x)) (mdrop M x)
  | _, _, .nil => .nil
  | _, _, .cons (a := kv) (b := m) h t => by
    have ih := NmR.drop (x := x) t
    unfold dropK mdrop at ih ⊢
    by_cases e : m.1 = x
    · have ek : kv.1 = Sum.inr x := by rw [h.1, e]
      rw [List.filter_cons_of_neg (by simpa using ek), List.filter_cons_of_neg (by simpa using e)]
      exact ih
    · have ek : ¬ kv.1 = Sum.inr x := by
        rw [h.1]
        exact fun z => e (Sum.inr.inj z)
      rw [List.filter_cons_of_pos (by simpa using ek), List.filter_cons_of_pos (by simpa using e)]
      exact .cons h ih
/-- a road that sits by a name: (number, road) -/
def RpAt (C5 : Addr) (H : Hp) (v : V) (r : RdM) : Prop := ∃ (t g st : Addr) (num : Int) (k : V) (c : Int), v = .ref t ∧ H t = some (.tup [.int num, .ref g]) ∧ RoAt C5 H g st r.1 r.2 k c
/-- the seats sd hold the roads of M -/
def StAt (C5 : Addr) (H : Hp) (sd : Addr) (M : MoL) : Prop := ∃ kvs, H sd = some (.dK kvs) ∧ Paired (NmR (RpAt C5 H)) kvs M
theorem RpAt.same {C5 : Addr} {H H' : Hp} {v : V} {r : RdM} (h : RpAt C5 H v r) (s : Same H H') : RpAt C5 H' v r := by
  obtain ⟨t, g, st, num, k, c, e, et, ra⟩ := h
  exact ⟨t, g, st, num, k, c, e, s _ _ et, ra.same s⟩
theorem StAt.same {C5 : Addr} {H H' : Hp} {sd : Addr} {M : MoL} (h : StAt C5 H sd M) (s : Same H H') : StAt C5 H' sd M := by
  obtain ⟨kvs, e, p⟩ := h
  exact ⟨kvs, s _ _ e, Paired.mapP p fun a b z => ⟨z.1, z.2.same s⟩⟩
/-- the seats as names, numbers and roads -/
theorem seats_of {C5 : Addr} {H : Hp} : ∀ {kvs : List (Key × V)} {M : MoL}, Paired (NmR (RpAt C5 H)) kvs M → ∃ L : SeL, Paired (SeR H) kvs L ∧ ∀ x, (mget M x = none → sfind L x = none) ∧ ∀ r, mget M x = some r → ∃ (num : Int) (g st : Addr) (k : V) (c : Int), sfind L x = some (num, g) ∧ RoAt C5 H g st r.1 r.2 k c
  | _, _, .nil => ⟨[], .nil, fun x => ⟨fun _ => rfl, fun _ h => by cases h⟩⟩
  | _, _, .cons (a := kv) (b := m) h t => by
    obtain ⟨L, p, f⟩ := seats_of t
    obtain ⟨e, t', g, st, num, k, c, e1, et, ra⟩ := h
    refine ⟨(m.1, num, g) :: L, .cons ⟨e, t', e1, et⟩ p, fun x => ?_⟩
    unfold mget sfind
    by_cases z : m.1 = x
    · rw [if_pos z, if_pos z]
      refine ⟨fun q => (by cases q), fun r q => ?_⟩
      cases q
      exact ⟨num, g, st, k, c, rfl, ra⟩
    · rw [if_neg z, if_neg z]
      exact f x
theorem RoAt.offD {C5 C6 : Addr} {H H' : Hp} {dr dx sd g st : Addr} {fr mo n c : Int} {S : StL} {k : V} {kvs : List (Key × V)} {M : MoL} {R : V → RdM → Prop} (hg : H dr = some (.ins C6 dx (dfF sd fr mo))) (hs : H sd = some (.dK kvs)) (pm : Paired (NmR R) kvs M) (ne : M ≠ [])
    (kp : ∀ b o, b ≠ dr → b ≠ sd → H b = some o → H' b = some o) (h : RoAt C5 H g st n S k c) : RoAt C5 H' g st n S k c := by
  obtain ⟨⟨dy, e⟩, kv2, e1, e2⟩ := h
  have n1 : g ≠ dr := ne_of e hg (fun z => by cases z)
  have n2 : g ≠ sd := ne_of e hs (fun z => by cases z)
  have n3 : st ≠ dr := ne_of e1 hg (fun z => by cases z)
  have n4 : st ≠ sd := fun z => by
    rw [z, hs] at e1
    cases e1
    cases pm with
    | nil => exact ne rfl
    | cons h1 _ =>
      cases e2 with
      | cons h2 _ =>
        have q := h1.1.symm.trans h2.1
        cases q
  exact ⟨⟨dy, kp _ _ n1 n2 e⟩, kv2, kp _ _ n3 n4 e1, e2.keep fun b xs hb => kp _ _ (ne_of hb hg (fun z => by cases z)) (ne_of hb hs (fun z => by cases z)) hb⟩
theorem RpAt.offD {C5 C6 : Addr} {H H' : Hp} {dr dx sd : Addr} {fr mo : Int} {v : V} {r : RdM} {kvs : List (Key × V)} {M : MoL} {R : V → RdM → Prop} (hg : H dr = some (.ins C6 dx (dfF sd fr mo))) (hs : H sd = some (.dK kvs)) (pm : Paired (NmR R) kvs M) (ne : M ≠ [])
    (kp : ∀ b o, b ≠ dr → b ≠ sd → H b = some o → H' b = some o) (h : RpAt C5 H v r) : RpAt C5 H' v r := by
  obtain ⟨t, g, st, num, k, c, e, et, ra⟩ := h
  exact ⟨t, g, st, num, k, c, e, kp _ _ (ne_of et hg (fun z => by cases z)) (ne_of et hs (fun z => by cases z)) et, ra.offD hg hs pm ne kp⟩
/-- what stands of the seats behind a change of the draft -/
theorem NmR.offD {C5 C6 : Addr} {H H' : Hp} {dr dx sd : Addr} {fr mo : Int} {kvs : List (Key × V)} {M : MoL} (hg : H dr = some (.ins C6 dx (dfF sd fr mo))) (hs : H sd = some (.dK kvs)) (pm : Paired (NmR (RpAt C5 H)) kvs M) (kp : ∀ b o, b ≠ dr → b ≠ sd → H b = some o → H' b = some o) : Paired (NmR (RpAt C5 H')) kvs M := by
  by_cases ne : M = []
  · subst ne
    cases pm
    exact .nil
  · exact Paired.mapP pm fun a b z => ⟨z.1, z.2.offD hg hs pm ne kp⟩
/-- the names of a model, each once -/
def MoN (M : MoL) : Prop := (M.map (·.1)).Nodup
theorem mset_self {x : Str} {r : RdM} : ∀ {M : MoL}, MoN M → mget M x = some r → mset M x r = M := by
  intro M hn hr
  have key : ∀ {M : MoL}, MoN M → mget M x = some r → M.map (fun m => if m.1 = x then (m.1, r) else m) = M := by
    intro M
    induction M with
    | nil => intro _ h; cases h
    | cons m t ih =>
      intro hn h
      obtain ⟨u1, u2⟩ := List.nodup_cons.mp (show (m.1 :: t.map (·.1)).Nodup from hn)
      unfold mget at h
      rw [List.map_cons]
      by_cases e : m.1 = x
      · rw [if_pos e] at h ⊢
        cases h
        refine congrArg (m :: ·) ?_
        have all : ∀ m' ∈ t, (if m'.1 = x then (m'.1, m.2) else m') = m' := fun m' hm => if_neg fun z => u1 (List.mem_map.mpr ⟨m', hm, z.trans e.symm⟩)
        calc t.map (fun m' => if m'.1 = x then (m'.1, m.2) else m') = t.map id := List.map_congr_left all
          _ = t := List.map_id t
      · rw [if_neg e] at h ⊢
        exact congrArg (m :: ·) (ih u2 h)
  unfold mset
  rw [hr]
  exact key hn hr
theorem mget_ne {x : Str} {r : RdM} {M : MoL} (h : mget M x = some r) : M ≠ [] := fun z => by
  subst z
  cases h
/-- how a deed on a draft ends -/
def HOut (C5 C6 : Addr) (c : H7) (dr dx sd : Addr) (mo : Int) (p : (Str × V) × MoL) (H : Hp) (Q : VK) (E : XK) : Prop :=
  (p.1.1 = "" → ∀ (H' : Hp) (fr' : Int), H' dr = some (.ins C6 dx (dfF sd fr' mo)) → StAt C5 H' sd p.2 → (∀ b o, b ≠ dr → b ≠ sd → H b = some o → H' b = some o) → Q .non H') ∧ (p.1.1 ≠ "" → TakesH c H E p.1.1 p.1.2)
abbrev spV7 (c : H7) : Sp := fun vs H Q E => spVery vs H Q E ∨ spVeryX c.CR vs H Q E
/-- how a name is looked up -/
theorem very_call {C5 : Addr} {c : H7} {H : Hp} {Q : VK} {E : XK} {sd : Addr} {M : MoL} {x : Str} (hs : StAt C5 H sd M) (hx : x.length ≤ 1000) (good : ∀ r, mget M x = some r → ∀ (g st : Addr) (k : V) (c0 : Int), RoAt C5 H g st r.1 r.2 k c0 → Q (.ref g) H) (bad : mget M x = none → TakesH c H E "NoRoad" (.str x)) : spV7 c [.ref sd, .str x] H Q E := by
  obtain ⟨kvs, e, p⟩ := hs
  obtain ⟨L, pl, f⟩ := seats_of p
  cases em : mget M x with
  | none => exact .inr ⟨sd, L, x, rfl, ⟨kvs, e, pl⟩, hx, (f x).1 em, fun H' d s nd ed => bad em _ _ H' d (.str x) (.inr (.inr (.inr (.inr ⟨rfl, rfl, rfl⟩)))) (.inl rfl) s nd ed⟩
  | some r =>
    obtain ⟨num, g, st, k, c0, e1, ra⟩ := (f x).2 r em
    exact .inl ⟨sd, L, x, (num, g), rfl, ⟨kvs, e, pl⟩, e1, good r em g st k c0 ra⟩
def spDfChange (C5 C6 : Addr) (c : H7) : Sp := fun vs H Q E => ∃ (dr dx sd l a : Addr) (x : Str) (fr mo cap : Int) (M : MoL) (k : HDeed), vs = [.ref dr, .str k.word, .str x, .ref l] ∧ H dr = some (.ins C6 dx (dfF sd fr mo)) ∧ StAt C5 H sd M ∧ MoN M ∧ (∀ m ∈ M, RoW m.2.1 m.2.2) ∧ M.length ≤ 60 ∧ H l = some (.lst k.rest) ∧ H a = some (.tup k.rest) ∧ x.length ≤ 1000 ∧
  ((∃ d, k = .road x d ∧ ∀ v ∈ d.rest, IB v) ∨ ∃ y, k = .behind x y ∧ y.length ≤ 1000) ∧ HOut C5 C6 c dr dx sd mo (stepP cap a k M) H Q E
section
variable {P : Program} {w : World} {K : PySem.W.Frag} {mg : Str → Option Value} {base : Heap} {C5 C6 : Addr} {c : H7}
theorem ok_DfChange {f fV fT fU fS fE : Addr} {fd fdV fdT fdU fdS fdE : FuncData} (F : Fun K "change_road" "Draft.change_road" s_Df_change_road f fd) (TDf_ : DfT K mg C6) (TRo_ : RoT K mg C5)
    (D_very_road : DefAt K mg "very_road" s_very_road P_very_road fV fdV) (G_very_road : FnOk P w K mg base (L2.CX P w) 4 fV fdV P_very_road (spV7 c)) (M_Ro_twin : Meth K C5 "twin" fT) (G_Ro_twin : FnOk P w K mg base CX0 6 fT fdT P_Ro_twin (spTwin C5)) (b_Ro_twin : Binds K fdT P_Ro_twin [])
    (D_do_upon : DefAt K mg "do_upon" s_do_upon P_do_upon fU fdU) (G_do_upon : FnOk P w K mg base (L2.CX P w) 8 fU fdU P_do_upon (spUpon7 C5 c)) (M_Df_seat : Meth K C6 "seat" fS) (G_Df_seat : FnOk P w K mg base CX0 1 fS fdS P_Df_seat (spDfSeat C6)) (b_Df_seat : Binds K fdS P_Df_seat [])
    (TE_ : RoE K C5 fE) (G_Ro_eq : FnOk P w K mg base CX0 1 fE fdE P_Ro_eq (spRoEq C5)) (b_Ro_eq : Binds K fdE P_Ro_eq []) : FnOk P w K mg base (L2.CX P w) 9 f fd P_Df_change_road (spDfChange C5 C6 c) := by
  refine F.okX sc_Df_change_road (fun vs H Q E h => ?_) (fun cdv A outer s H vs Q E hr h => ?_)
  · obtain ⟨dr, dx, sd, l, a, x, fr, mo, cap, M, k, rfl, _⟩ := h
    rfl
  · obtain ⟨dr, dx, sd, l, a, x, fr, mo, cap, M, k, rfl, hg, hs, mn, mw, ml, el, ea, hx, hk, good, bad⟩ := h
    have hu := hu_of hr
    refine ⟨_, (pss_cons (ps_set (i := 4) sc_Df_change_road.nd rfl (.inl rfl) (pe_call G_very_road (hr.mono (by omega)) (by rfl) D_very_road.g D_very_road.F.kp D_very_road.b .nil (passes_call (takes_of rfl rfl rfl rfl) fun _ _ _ _ h => h) (pa_cons (pe_fld (pv 0) rfl) (pa_cons (pv 2) pa_nil))))
      (C8.pss_cut (ps_if (pt_cmpR op_eq (pv 1) pe_str (nomark _)) (pss_one (ps_set (i := 3) sc_Df_change_road.nd rfl (.inl rfl) (pe_lst (pa_cons (pe_call G_very_road (hr.mono (by omega)) (by rfl) D_very_road.g D_very_road.F.kp D_very_road.b .nil (passes_call (takes_of rfl rfl rfl rfl) fun _ _ _ _ h => h) (pa_cons (pe_fld (pv 0) rfl) (pa_cons (pe_ix ix_list (pv 3) pe_int (fun _ _ => rfl)) pa_nil))) pa_nil)))) pss_nil)
      (pss_cons (ps_set (i := 5) sc_Df_change_road.nd rfl (.inl rfl) (pe_meth0 (pv 4) TRo_.cl M_Ro_twin G_Ro_twin (hr.mono (by omega)) b_Ro_twin .nil pass0))
      (pss_cons (ps_expr (pe_call G_do_upon (hr.mono (by omega)) (by rfl) D_do_upon.g D_do_upon.F.kp D_do_upon.b .nil (passes_call (takes_of rfl rfl rfl rfl) fun _ _ _ _ h => h) (pa_cons (pv 5) (pa_cons (pv 1) (pa_cons (pv 3) pa_nil)))))
      (pss_one (ps_if (pt_cmpR (op_neRo TE_ G_Ro_eq (hr.mono (by omega)) b_Ro_eq) (pv 5) (pv 4) (nomark _)) (pss_one (ps_expr (pe_meth (pv 0) TDf_.cl M_Df_seat G_Df_seat (hr.mono (by omega)) b_Df_seat .nil pass0 (pa_cons (pv 2) (pa_cons (pv 5) pa_nil))))) pss_nil)))))), ?_⟩
    refine ⟨.ref dr, rfl, dr, C6, dx, _, .ref sd, rfl, hg, TDf_.cl, TDf_.nS, rfl, .str x, rfl, very_call hs hx (fun r em g st kp c0 ra => ?_) (fun em => ?_)⟩
    · have hm := mget_mem em
      have wf : RoW r.1 r.2 := mw _ hm
      have ne : M ≠ [] := mget_ne em
      -- how it goes on with what is told
      refine ⟨fun σ G => ∃ l2, σ = [some (.ref dr), some (.str k.word), some (.str x), some (.ref l2), some (.ref g), none] ∧ Same H G ∧ ((∃ d, k = .road x d ∧ G l2 = some (.lst d.rest)) ∨ ∃ (y : Str) (r2 : RdM) (g2 st2 : Addr) (kp2 : V) (c2 : Int), k = .behind x y ∧ mget M y = some r2 ∧ RoAt C5 H g2 st2 r2.1 r2.2 kp2 c2 ∧ G l2 = some (.lst [.ref g2])), ?_, ?_⟩
      · rcases hk with ⟨d, rfl, _⟩ | ⟨y, rfl, hy⟩
        · have w4 : d.word ≠ "behind" := by rcases d.word_in with h | h | h | h | h <;> rw [h] <;> decide
          exact ⟨.str d.word, rfl, rfl, _, rfl, ite2 (fun q => absurd (V.str.inj (of_decide_eq_true q)) w4) (fun _ => ⟨l, rfl, Same.refl H, .inl ⟨d, rfl, el⟩⟩)⟩
        · refine ⟨.str "behind", rfl, rfl, _, rfl, ite2 (fun _ => ?_) (fun q => absurd (decide_eq_true rfl) q)⟩
          refine ⟨.ref dr, rfl, dr, C6, dx, _, .ref sd, rfl, hg, TDf_.cl, TDf_.nS, rfl, .ref l, rfl, l, _, 0, .str y, rfl, rfl, SqL.of el, atI_nat (j := 0) rfl, very_call hs hy (fun r2 ey g2 st2 kp2 c2 rb => ?_) (fun ey => ?_)⟩
          · refine ⟨by show 1 ≤ sizeLine; decide, fun l2 nl2 => ⟨l2, rfl, same_upd nl2, .inr ⟨y, r2, g2, st2, kp2, c2, rfl, ey, rb, upd_same⟩⟩⟩
          · rw [stepP_bh1 em ey] at bad
            exact bad (show ("NoRoad" : Str) ≠ "" by decide)
      rintro σ G ⟨l2, rfl, s1, alt⟩
      obtain ⟨dx0, eg⟩ := ra.at_g
      refine ⟨.ref g, rfl, g, dx0, _, rfl, s1 _ _ eg, rfl, g, st, r.1, r.2, kp, c0, rfl, ra.same s1, wf.n0, wf.n1, wf.len, fun G2 g2 st2 rt s2 ng2 nst2 => ?_⟩
      have s12 := s1.trans s2
      obtain ⟨dx2, eg2⟩ := rt.at_g
      have hg2 := s12 _ _ hg
      -- what is left when the deed is done
      have tail : ∀ (r' : RdM), RoW r'.1 r'.2 → (∀ (H' : Hp) (fr' : Int), H' dr = some (.ins C6 dx (dfF sd fr' mo)) → StAt C5 H' sd (mset M x r') → (∀ b o, b ≠ dr → b ≠ sd → H b = some o → H' b = some o) → Q .non H') → ∀ (G3 : Hp) (st3 : Addr) (k3 : V) (w0 : Str), RoAt C5 G3 g2 st3 r'.1 r'.2 k3 c0 → Keep g2 G2 G3 →
          (tIfS (tTest (tOp (rRo C5 not) (tVar 5) (tVar 4))) (tDrop (tMeth C6 "seat" (spDfSeat C6) [] E0 (tVar 0) (tCons (tVar 2) (tCons (tVar 5) tNil)))) tNext { nx := fun _ H' => Q .non H', rt := Q }) [some (.ref dr), some (.str w0), some (.str x), some (.ref l2), some (.ref g), some (.ref g2)] G3 := fun r' w' q G3 st3 k3 w0 r3 k23 => by
        have s3 : Same H G3 := fun b o hb => k23 _ _ (ne_of_none (s1 _ _ hb) ng2) (s12 _ _ hb)
        refine ⟨.ref g2, rfl, .ref g, rfl, g2, st3, g, st, r'.1, r.1, r'.2, r.2, k3, kp, c0, c0, rfl, rfl, r3, ra.same s3, w'.up, wf.up, _, rfl, ?_⟩
        have hg3 := s3 _ _ hg
        obtain ⟨kvs, es, pm⟩ := hs.same s3
        by_cases e : r'.1 = r.1 ∧ r'.2 = r.2
        · rw [decide_eq_true e]
          have er : r' = r := Prod.ext e.1 e.2
          refine iteF (q G3 fr hg3 ?_ fun b o _ _ hb => s3 _ _ hb)
          rw [er, mset_self mn em]
          exact ⟨kvs, es, pm⟩
        · rw [decide_eq_false e]
          refine iteT ⟨.ref dr, rfl, dr, dx, _, rfl, hg3, rfl, .str x, rfl, .ref g2, rfl, dr, dx, sd, g2, x, fr, mo, kvs, rfl, hg3, es, ?_, trivial, fun G4 t nt et e4 es4 k4 => ?_⟩
          · have := pm.length
            omega
          · refine q G4 (fr + 1) e4 ⟨_, es4, NmR.put ?_ (NmR.offD hg3 es pm k4)⟩ fun b o n1 n2 hb => k4 _ _ n1 n2 (s3 _ _ hb)
            exact ⟨t, g2, st3, fr, k3, c0, rfl, et, r3.offD hg3 es pm ne k4⟩
      refine ⟨.ref g2, rfl, .str k.word, rfl, .ref l2, rfl, ?_⟩
      rcases alt with ⟨d, rfl, el2⟩ | ⟨y, r2, g3, st3, kp3, c3, rfl, ey, rb, el2⟩
      · rw [stepP_rd em] at good bad
        obtain ⟨ib⟩ : ∃ _ : ∀ v ∈ d.rest, IB v, True := by
          rcases hk with ⟨d', e, ib⟩ | ⟨y, e, _⟩
          · cases e
            exact ⟨ib, trivial⟩
          · cases e
        refine tNil_i (upon_on (n := r.1) (S := r.2) rt eg2 (s2 _ _ el2) wf ib (s12 _ _ ea) (fun h0 G3 st3 k3 r3 k23 => ?_) (fun h0 => ?_))
        · rw [if_pos h0] at good
          exact tail _ (rdP_ok wf h0 ib).1 (good h0) G3 st3 k3 d.word r3 k23
        · rw [if_neg h0] at bad
          exact (bad h0).same s12
      · rw [stepP_bh em ey] at good bad
        have wf2 := mw _ (mget_mem ey)
        refine tNil_i (upon_bh (n := r.1) (S := r.2) rt eg2 (s2 _ _ el2) (rb.same s12) wf wf2 (fun h0 G3 st3 k3 r3 k23 => ?_) (fun h0 => ?_))
        · rw [if_pos h0] at good
          exact tail _ (tbP_ok wf wf2 h0).1 (good h0) G3 st3 k3 "behind" r3 k23
        · rw [if_neg h0] at bad
          exact (bad h0).same s12
    · rcases hk with ⟨d, rfl, _⟩ | ⟨y, rfl, _⟩
      · rw [stepP_rd0 em] at bad
        exact bad (show ("NoRoad" : Str) ≠ "" by decide)
      · rw [stepP_bh0 em] at bad
        exact bad (show ("NoRoad" : Str) ≠ "" by decide)
end

/-! ### Road.__init__ refusing; Draft.do -/
abbrev N_Df_do : List Str := ["self", "deed", "word", "name", "told", "road"]
abbrev P_Df_do : List Str := ["self", "deed"]
theorem sc_Df_do : FnScope N_Df_do P_Df_do (defScope s_Df_do) := ⟨rfl, rfl, rfl, by decide +kernel, rfl, by decide +kernel, by decide +kernel⟩
def spRoInitX (C5 : Addr) (c : H7) : Sp := fun vs H _ E => ∃ (g dx : Addr) (v : V), vs = [.ref g, v] ∧ H g = some (.ins C5 dx []) ∧ FV v ∧ ¬ goodLen v ∧ TakesE c.CB c.CG c.CU H E "BadNumber" v
section
variable {P : Program} {w : World} {K : PySem.W.Frag} {mg : Str → Option Value} {base : Heap} {C5 C6 : Addr} {c : H7}
theorem ok_RoInitX {f fN : Addr} {fd fdN : FuncData} {dvs : List V} (F : FunD K "__init__" "Road.__init__" (defArgs s_Ro_init) (defBody s_Ro_init) (defScope s_Ro_init) dvs [] f fd) (D_need_length : DefAt K mg "need_length" s_need_length P_need_length fN fdN) (G_need_length : FnOk P w K mg base (L2.CX P w) 6 fN fdN P_need_length (spLenX c.CB c.CG c.CU)) :
    FnOk P w K mg base (L2.CX P w) 8 f fd P_Ro_init (spRoInitX C5 c) := by
  refine F.ok (CX := L2.CX P w) (k := 7) sc_Ro_init (fun vs H Q E h => ?_) (fun cdv A outer s H vs Q E hr h => ?_)
  · obtain ⟨g, dx, v, rfl, _⟩ := h
    rfl
  · obtain ⟨g, dx, v, rfl, hg, fv, ng, tk⟩ := h
    refine ⟨_, (pss_cons (ps_expr (pe_call G_need_length (hr.mono (by omega)) (by rfl) D_need_length.g D_need_length.F.kp D_need_length.b .nil (passes_call (takes_of rfl rfl rfl rfl) fun _ _ _ _ h => h) (pa_cons (pv 1) pa_nil)))
      (pss_cons (ps_fld (pv 0) (pv 1) rfl)
      (pss_cons (ps_fld (pv 0) pe_dnewK rfl)
      (pss_cons (ps_fld (pv 0) pe_non rfl)
      (pss_one (ps_fld (pv 0) pe_int rfl)))))), ?_⟩
    exact ⟨v, rfl, v, rfl, fv, ng, tk⟩
end
theorem HOut.same {C5 C6 : Addr} {c : H7} {dr dx sd : Addr} {mo : Int} {p : (Str × V) × MoL} {H H1 : Hp} {Q : VK} {E : XK} (h : HOut C5 C6 c dr dx sd mo p H Q E) (s : Same H H1) : HOut C5 C6 c dr dx sd mo p H1 Q E :=
  ⟨fun e H' fr' e1 e2 kp => h.1 e H' fr' e1 e2 fun b o n1 n2 hb => kp b o n1 n2 (s _ _ hb), fun e => (h.2 e).same s⟩
abbrev spR7 (C6 : Addr) (c : H7) : Sp := fun vs H Q E => spDfRoom C6 vs H Q E ∨ spDfRoomX C6 c.CN c.CT c.CU vs H Q E
/-- room for a name, or what refuses it -/
theorem room_call {C5 C6 : Addr} {c : H7} {H : Hp} {Q : VK} {E : XK} {dr dx sd : Addr} {fr cap : Int} {M : MoL} {x : Str} (hg : H dr = some (.ins C6 dx (dfF sd fr cap))) (hs : StAt C5 H sd M) (hx : x.length ≤ 1000) (hc : cap.natAbs.log2 < 1920) (good : (roomP cap M x).1 = "" → ∀ H', Same H H' → Q .non H') (bad : (roomP cap M x).1 ≠ "" → TakesH c H E (roomP cap M x).1 (roomP cap M x).2) : spR7 C6 c [.ref dr, .str x] H Q E := by
  obtain ⟨kvs, e, p⟩ := hs
  have lm := p.length
  have nv := nm_val x p
  unfold roomP at good bad
  cases hgn : goodN x with
  | false =>
    rw [hgn, if_neg (by decide)] at bad
    have bad : TakesH c H E "BadName" (.str x) := bad (show ("BadName" : Str) ≠ "" by decide)
    exact .inr ⟨dr, dx, sd, x, fr, cap, kvs, rfl, hg, e, hx, hc, .inl ⟨hgn, fun H' d s nd ed => bad _ _ H' d _ (.inr (.inr (.inl ⟨rfl, rfl, rfl⟩))) (.inl rfl) s nd ed⟩⟩
  | true =>
    rw [hgn, if_pos rfl] at bad good
    cases em : mget M x with
    | some r =>
      rw [em, if_pos (show (some r).isSome = true from rfl)] at bad
      have bad : TakesH c H E "Taken" (.str x) := bad (show ("Taken" : Str) ≠ "" by decide)
      obtain ⟨v, hv, _⟩ := nv.2 r em
      exact .inr ⟨dr, dx, sd, x, fr, cap, kvs, rfl, hg, e, hx, hc, .inr (.inl ⟨hgn, by rw [hv]; rfl, fun H' d s nd ed => bad _ _ H' d _ (.inr (.inr (.inr (.inl ⟨rfl, rfl, rfl⟩)))) (.inl rfl) s nd ed⟩)⟩
    | none =>
      rw [em, if_neg (show ¬ (none : Option RdM).isSome = true by decide)] at bad good
      by_cases hl : cap ≤ (M.length : Int)
      · rw [if_pos hl] at bad
        have bad : TakesH c H E "Full" (.int cap) := bad (show ("Full" : Str) ≠ "" by decide)
        exact .inr ⟨dr, dx, sd, x, fr, cap, kvs, rfl, hg, e, hx, hc, .inr (.inr ⟨hgn, nv.1 em, by omega, fun H' d s nd ed => bad _ _ H' d _ (.inl (.inr (.inr ⟨rfl, rfl, rfl⟩))) (.inl rfl) s nd ed⟩)⟩
      · rw [if_neg hl] at good
        exact .inl ⟨dr, dx, sd, x, fr, cap, kvs, rfl, hg, e, hx, hgn, nv.1 em, by omega, good rfl⟩
/-- a text that can be compared as data -/
def TxO (x : Str) : Prop := PyData.canLay0 (.str x) = true
/-- a deed as it may be told -/
structure DkW (k : HDeed) : Prop where
  nm : k.name.length ≤ 1000
  rd : ∀ x d, k = .road x d → ∀ v ∈ d.rest, IB v
  ly : ∀ x v, k = .lay x v → IB v
  cp : ∀ x y, k = .copy x y → y.length ≤ 1000
  bh : ∀ x y, k = .behind x y → y.length ≤ 1000
  tn : TxO k.name
  tc : ∀ x y, k = .copy x y → TxO y
  tb : ∀ x y, k = .behind x y → TxO y
theorem DkW.mkLay {x : Str} {v : V} (hx : x.length ≤ 1000) (tx : TxO x) (ib : IB v) : DkW (.lay x v) := ⟨hx, (fun _ _ e => by cases e), (fun _ _ e => by cases e; exact ib), (fun _ _ e => by cases e), (fun _ _ e => by cases e), tx, (fun _ _ e => by cases e), (fun _ _ e => by cases e)⟩
theorem DkW.mkClear {x : Str} (hx : x.length ≤ 1000) (tx : TxO x) : DkW (.clear x) := ⟨hx, (fun _ _ e => by cases e), (fun _ _ e => by cases e), (fun _ _ e => by cases e), (fun _ _ e => by cases e), tx, (fun _ _ e => by cases e), (fun _ _ e => by cases e)⟩
theorem DkW.mkCopy {x y : Str} (hx : x.length ≤ 1000) (tx : TxO x) (hy : y.length ≤ 1000) (ty : TxO y) : DkW (.copy x y) := ⟨hx, (fun _ _ e => by cases e), (fun _ _ e => by cases e), (fun _ _ e => by cases e; exact hy), (fun _ _ e => by cases e), tx, (fun _ _ e => by cases e; exact ty), (fun _ _ e => by cases e)⟩
theorem DkW.mkBehind {x y : Str} (hx : x.length ≤ 1000) (tx : TxO x) (hy : y.length ≤ 1000) (ty : TxO y) : DkW (.behind x y) := ⟨hx, (fun _ _ e => by cases e), (fun _ _ e => by cases e), (fun _ _ e => by cases e), (fun _ _ e => by cases e; exact hy), tx, (fun _ _ e => by cases e), (fun _ _ e => by cases e; exact ty)⟩
theorem DkW.mkRoad {x : Str} {d : RDeed} (hx : x.length ≤ 1000) (tx : TxO x) (ib : ∀ v ∈ d.rest, IB v) : DkW (.road x d) := ⟨hx, (fun _ _ e => by cases e; exact ib), (fun _ _ e => by cases e), (fun _ _ e => by cases e), (fun _ _ e => by cases e), tx, (fun _ _ e => by cases e), (fun _ _ e => by cases e)⟩
/-- a road that is quite new, behind a change of the draft -/
theorem RoAt.offN {C5 C6 : Addr} {H H' : Hp} {dr dx sd g st : Addr} {fr mo n c : Int} {S : StL} {k : V} {kvs : List (Key × V)} (hg : H dr = some (.ins C6 dx (dfF sd fr mo))) (hs : H sd = some (.dK kvs)) (n4 : st ≠ sd)
    (kp : ∀ b o, b ≠ dr → b ≠ sd → H b = some o → H' b = some o) (h : RoAt C5 H g st n S k c) : RoAt C5 H' g st n S k c := by
  obtain ⟨⟨dy, e⟩, kv2, e1, e2⟩ := h
  exact ⟨⟨dy, kp _ _ (ne_of e hg (fun z => by cases z)) (ne_of e hs (fun z => by cases z)) e⟩, kv2, kp _ _ (ne_of e1 hg (fun z => by cases z)) n4 e1, e2.keep fun b xs hb => kp _ _ (ne_of hb hg (fun z => by cases z)) (ne_of hb hs (fun z => by cases z)) hb⟩
def spDfDo (C5 C6 : Addr) (c : H7) : Sp := fun vs H Q E => ∃ (dr dx sd dd a : Addr) (fr cap : Int) (M : MoL) (k : HDeed), vs = [.ref dr, .ref dd] ∧ H dr = some (.ins C6 dx (dfF sd fr cap)) ∧ StAt C5 H sd M ∧ MoN M ∧ (∀ m ∈ M, RoW m.2.1 m.2.2) ∧ M.length ≤ 60 ∧ H dd = some (.tup ([.str k.word, .str k.name] ++ k.rest)) ∧ H a = some (.tup k.rest) ∧ DkW k ∧ cap.natAbs.log2 < 1920 ∧
  HOut C5 C6 c dr dx sd cap (stepP cap a k M) H Q E
abbrev spRi7 (C5 : Addr) (c : H7) : Sp := fun vs H Q E => spRoInit C5 vs H Q E ∨ spRoInitX C5 c vs H Q E
section
variable {P : Program} {w : World} {K : PySem.W.Frag} {mg : Str → Option Value} {base : Heap} {C5 C6 : Addr} {c : H7}
theorem ok_DfDo {f fV fT fS fR fC fI : Addr} {fd fdV fdT fdS fdR fdC fdI : FuncData} (F : Fun K "do" "Draft.do" s_Df_do f fd) (TDf_ : DfT K mg C6) (TRo_ : RoT K mg C5)
    (D_very_road : DefAt K mg "very_road" s_very_road P_very_road fV fdV) (G_very_road : FnOk P w K mg base (L2.CX P w) 4 fV fdV P_very_road (spV7 c)) (M_Ro_twin : Meth K C5 "twin" fT) (G_Ro_twin : FnOk P w K mg base CX0 6 fT fdT P_Ro_twin (spTwin C5)) (b_Ro_twin : Binds K fdT P_Ro_twin [])
    (M_Df_seat : Meth K C6 "seat" fS) (G_Df_seat : FnOk P w K mg base CX0 1 fS fdS P_Df_seat (spDfSeat C6)) (b_Df_seat : Binds K fdS P_Df_seat []) (M_Df_need_room : Meth K C6 "need_room" fR) (GX_Df_need_room : FnOk P w K mg base (L2.CX P w) 4 fR fdR P_Df_need_room (spR7 C6 c)) (b_Df_need_room : Binds K fdR P_Df_need_room [])
    (M_Df_change_road : Meth K C6 "change_road" fC) (GX_Df_change_road : FnOk P w K mg base (L2.CX P w) 9 fC fdC P_Df_change_road (spDfChange C5 C6 c)) (b_Df_change_road : Binds K fdC P_Df_change_road [])
    (mkRo_ : Mk K C5 fI) (GX_Ro_init : FnOk P w K mg base (L2.CX P w) 8 fI fdI P_Ro_init (spRi7 C5 c)) (b_Ro_init : Binds K fdI P_Ro_init []) (B : Bn mg) : FnOk P w K mg base (L2.CX P w) 10 f fd P_Df_do (spDfDo C5 C6 c) := by
  refine F.okX sc_Df_do (fun vs H Q E h => ?_) (fun cdv A outer s H vs Q E hr h => ?_)
  · obtain ⟨dr, dx, sd, dd, a, fr, cap, M, k, rfl, _⟩ := h
    rfl
  · obtain ⟨dr, dx, sd, dd, a, fr, cap, M, k, rfl, hg0, hs0, mn, mw, ml, edd, ea0, dk, hc, out0⟩ := h
    have hu := hu_of hr
    refine ⟨_, (pss_cons (ps_asg (pv 1) (pg_star (i := 2) (by rfl) (pgs_cons (pg_name (i := 2) sc_Df_do.nd rfl (.inl rfl)) (pgs_cons (pg_name (i := 3) sc_Df_do.nd rfl (.inl rfl)) (pgs_star (pg_name (i := 4) sc_Df_do.nd rfl (.inl rfl)))))))
      (pss_one (ps_if (pt_cmpR op_eq (pv 2) pe_str (nomark _)) (pss_cons (ps_expr (pe_meth (pv 0) TDf_.cl M_Df_need_room GX_Df_need_room (hr.mono (by omega)) b_Df_need_room .nil (passes_call (takes_of rfl rfl rfl rfl) fun _ _ _ _ h => h) (pa_cons (pv 3) pa_nil)))
      (pss_one (ps_expr (pe_meth (pv 0) TDf_.cl M_Df_seat G_Df_seat (hr.mono (by omega)) b_Df_seat .nil pass0 (pa_cons (pv 3) (pa_cons (pe_make mkRo_ GX_Ro_init (hr.mono (by omega)) (by rfl) TRo_.gC b_Ro_init .nil (passes_call (takes_of rfl rfl rfl rfl) fun _ _ _ _ h => h) (pa_cons (pe_ix ix_list (pv 4) pe_int (fun _ _ => rfl)) pa_nil)) pa_nil)))))) (pss_one (ps_if (pt_cmpR op_eq (pv 2) pe_str (nomark _)) (pss_cons (ps_expr (pe_call G_very_road (hr.mono (by omega)) (by rfl) D_very_road.g D_very_road.F.kp D_very_road.b .nil (passes_call (takes_of rfl rfl rfl rfl) fun _ _ _ _ h => h) (pa_cons (pe_fld (pv 0) rfl) (pa_cons (pv 3) pa_nil))))
      (pss_one (ps_ddel (pe_fld (pv 0) rfl) (pv 3)))) (pss_one (ps_if (pt_cmpR op_eq (pv 2) pe_str (nomark _)) (pss_cons (ps_set (i := 5) sc_Df_do.nd rfl (.inl rfl) (pe_call G_very_road (hr.mono (by omega)) (by rfl) D_very_road.g D_very_road.F.kp D_very_road.b .nil (passes_call (takes_of rfl rfl rfl rfl) fun _ _ _ _ h => h) (pa_cons (pe_fld (pv 0) rfl) (pa_cons (pv 3) pa_nil))))
      (pss_cons (ps_expr (pe_meth (pv 0) TDf_.cl M_Df_need_room GX_Df_need_room (hr.mono (by omega)) b_Df_need_room .nil (passes_call (takes_of rfl rfl rfl rfl) fun _ _ _ _ h => h) (pa_cons (pe_ix ix_list (pv 4) pe_int (fun _ _ => rfl)) pa_nil)))
      (pss_one (ps_expr (pe_meth (pv 0) TDf_.cl M_Df_seat G_Df_seat (hr.mono (by omega)) b_Df_seat .nil pass0 (pa_cons (pe_ix ix_list (pv 4) pe_int (fun _ _ => rfl)) (pa_cons (pe_meth0 (pv 5) TRo_.cl M_Ro_twin G_Ro_twin (hr.mono (by omega)) b_Ro_twin .nil pass0) pa_nil))))))) (pss_one (ps_expr (pe_meth (pv 0) TDf_.cl M_Df_change_road GX_Df_change_road (hr.mono (by omega)) b_Df_change_road .nil (passes_call (takes_of rfl rfl rfl rfl) fun _ _ _ _ h => h) (pa_cons (pv 2) (pa_cons (pv 3) (pa_cons (pv 4) pa_nil))))))))))))), ?_⟩
    refine ⟨.ref dd, rfl, dd, _, rfl, SqT.of edd, by show 2 ≤ _; simp, fun D nD => ?_⟩
    have s1 := same_upd (H := H) (o := .lst (([V.str k.word, V.str k.name] ++ k.rest).drop 2)) nD
    have eD : (upd H D (.lst (([V.str k.word, V.str k.name] ++ k.rest).drop 2))) D = some (.lst k.rest) := upd_same
    generalize upd H D (.lst (([V.str k.word, V.str k.name] ++ k.rest).drop 2)) = G at s1 eD
    have hg := s1 _ _ hg0
    have hs := hs0.same s1
    have ea := s1 _ _ ea0
    have out := out0.same s1
    have hx := dk.nm
    refine ⟨.str k.word, _, rfl, .str k.name, _, rfl, .ref D, _, rfl, rfl, ?_⟩
    have seatf : ∀ (y : Str) (r : RdM), (∀ (H' : Hp) (fr' : Int), H' dr = some (.ins C6 dx (dfF sd fr' cap)) → StAt C5 H' sd (mset M y r) → (∀ b o, b ≠ dr → b ≠ sd → G b = some o → H' b = some o) → Q .non H') → ∀ (H3 : Hp) (g2 st2 : Addr) (k0 : V) (c0 : Int), RoAt C5 H3 g2 st2 r.1 r.2 k0 c0 → st2 ≠ sd → Same G H3 → ∀ (Q' : VK), (∀ H', Q .non H' → Q' .non H') → spDfSeat C6 [.ref dr, .str y, .ref g2] H3 Q' E0 := fun y r q H3 g2 st2 k0 c0 r3 n4 s3 Q' qq => by
      obtain ⟨kvs, es, pm⟩ := hs.same s3
      have hg3 := s3 _ _ hg
      refine ⟨dr, dx, sd, g2, y, fr, cap, kvs, rfl, hg3, es, ?_, trivial, fun G4 t nt et e4 es4 k4 => qq _ (q G4 (fr + 1) e4 ⟨_, es4, NmR.put ?_ (NmR.offD hg3 es pm k4)⟩ fun b o n1 n2 hb => k4 _ _ n1 n2 (s3 _ _ hb))⟩
      · have := pm.length
        omega
      · exact ⟨t, g2, st2, fr, k0, c0, rfl, et, r3.offN hg3 es n4 k4⟩
    cases k with
    | lay x v =>
      refine ⟨.str "lay", rfl, rfl, _, rfl, ite2 (fun _ => ?_) (fun c => absurd (decide_eq_true rfl) c)⟩
      rw [stepP_lay] at out
      refine ⟨.ref dr, rfl, dr, dx, _, rfl, hg, rfl, .str x, rfl, room_call hg hs hx hc (fun h1 H1 s2 => ?_) (fun h1 => ?_)⟩
      · rw [if_pos h1] at out
        refine ⟨.ref dr, rfl, dr, dx, _, rfl, s2 _ _ hg, rfl, .str x, rfl, .ref D, rfl, D, _, 0, v, rfl, rfl, SqL.of (s2 _ _ eD), atI_nat (j := 0) rfl, fun g2 dg ng2 ndg nex => ?_⟩
        have s3 : Same H1 (upd (upd H1 dg (.own g2)) g2 (.ins C5 dg [])) := fun b o hb => by
          rw [upd_ne (ne_of_none hb ng2), upd_ne (ne_of_none hb ndg)]
          exact hb
        have e1 : (upd (upd H1 dg (.own g2)) g2 (.ins C5 dg [])) g2 = some (.ins C5 dg []) := upd_same
        generalize upd (upd H1 dg (.own g2)) g2 (.ins C5 dg []) = H2 at s3 e1
        have s13 := s2.trans s3
        have ibv := dk.ly x v rfl
        by_cases hb : noNum v 0 1000000000000000000 = true
        · rw [if_pos hb] at out
          refine .inr ⟨g2, dg, v, rfl, e1, ibv.fv, fun z => ?_, ((out.2 (show ("BadNumber" : Str) ≠ "" by decide)).same s13).e⟩
          obtain ⟨i, rfl, i0, i1⟩ := z
          have hb : (!decide (0 ≤ i ∧ i ≤ 1000000000000000000)) = true := hb
          rw [decide_eq_true (⟨i0, i1⟩ : 0 ≤ i ∧ i ≤ 1000000000000000000)] at hb
          cases hb
        · rw [if_neg hb] at out
          rcases ibv with ⟨i, rfl, _⟩ | ⟨b, rfl⟩
          · have hb : ¬ (!decide (0 ≤ i ∧ i ≤ 1000000000000000000)) = true := hb
            have hb : 0 ≤ i ∧ i ≤ 1000000000000000000 := by simpa using hb
            refine .inl ⟨g2, dg, i, rfl, e1, hb.1, hb.2, fun H3 st0 e2 est nst kp => ⟨rfl, ?_⟩⟩
            have s4 : Same G H3 := fun b o hb => kp _ _ (ne_of_none (s2 _ _ hb) ng2) (s13 _ _ hb)
            obtain ⟨kvs, es, _⟩ := hs
            exact seatf x (i, []) (out.1 h1) H3 g2 st0 .non 0 ⟨⟨dg, e2⟩, [], est, .nil⟩ (ne_of_none (s13 _ _ es) nst).symm s4 _ fun H' h => h
          · exact absurd rfl hb
      · rw [if_neg h1] at out
        exact out.2 h1
    | clear x =>
      refine ⟨.str "clear", rfl, rfl, _, rfl, ite2 (fun c => absurd c (by decide)) (fun _ => ⟨.str "clear", rfl, rfl, _, rfl, ite2 (fun _ => ?_) (fun c => absurd (decide_eq_true rfl) c)⟩)⟩
      refine ⟨.ref dr, rfl, dr, C6, dx, _, .ref sd, rfl, hg, TDf_.cl, TDf_.nS, rfl, .str x, rfl, very_call hs hx (fun r em g st kp c0 ra => ?_) (fun em => ?_)⟩
      · rw [stepP_clear em] at out
        obtain ⟨kvs, es, pm⟩ := id hs
        obtain ⟨v, hv, _⟩ := (nm_val x pm).2 r em
        refine ⟨.ref dr, rfl, dr, C6, dx, _, .ref sd, rfl, hg, TDf_.cl, TDf_.nS, rfl, .str x, rfl, sd, kvs, Sum.inr x, rfl, es, rfl, by rw [hv]; rfl, ?_⟩
        have nd : dr ≠ sd := ne_of hg es (fun z => by cases z)
        have k4 : ∀ b o, b ≠ dr → b ≠ sd → G b = some o → (upd G sd (.dK (dropK kvs (Sum.inr x)))) b = some o := fun b o _ n2 hb => by
          rw [upd_ne n2]
          exact hb
        refine out.1 rfl _ fr ?_ ⟨_, upd_same, NmR.drop (NmR.offD hg es pm k4)⟩ k4
        rw [upd_ne nd]
        exact hg
      · rw [stepP_clear0 em] at out
        exact out.2 (show ("NoRoad" : Str) ≠ "" by decide)
    | copy x y =>
      refine ⟨.str "copy", rfl, rfl, _, rfl, ite2 (fun c => absurd c (by decide)) (fun _ => ⟨.str "copy", rfl, rfl, _, rfl, ite2 (fun c => absurd c (by decide)) (fun _ => ⟨.str "copy", rfl, rfl, _, rfl, ite2 (fun _ => ?_) (fun c => absurd (decide_eq_true rfl) c)⟩)⟩)⟩
      refine ⟨.ref dr, rfl, dr, C6, dx, _, .ref sd, rfl, hg, TDf_.cl, TDf_.nS, rfl, .str x, rfl, very_call hs hx (fun r em g st kp c0 ra => ?_) (fun em => ?_)⟩
      · rw [stepP_copy em] at out
        refine ⟨.ref dr, rfl, dr, dx, _, rfl, hg, rfl, .ref D, rfl, D, _, 0, .str y, rfl, rfl, SqL.of eD, atI_nat (j := 0) rfl, room_call hg hs (dk.cp x y rfl) hc (fun h1 H1 s2 => ?_) (fun h1 => ?_)⟩
        · rw [if_pos h1] at out
          have wf := mw _ (mget_mem em)
          obtain ⟨dx0, eg⟩ := ra.at_g
          refine ⟨.ref dr, rfl, dr, dx, _, rfl, s2 _ _ hg, rfl, .ref D, rfl, D, _, 0, .str y, rfl, rfl, SqL.of (s2 _ _ eD), atI_nat (j := 0) rfl, .ref g, rfl, g, dx0, _, rfl, s2 _ _ eg, rfl, g, st, r.1, r.2, kp, c0, rfl, ra.same s2, wf.n0, wf.n1, wf.len, fun G2 g2 st2 rt s3 ng2 nst2 => ?_⟩
          obtain ⟨kvs, es, _⟩ := id hs
          exact seatf y r (out.1 h1) G2 g2 st2 kp c0 rt (ne_of_none (s2 _ _ es) nst2).symm (s2.trans s3) _ fun H' h => h
        · rw [if_neg h1] at out
          exact out.2 h1
      · rw [stepP_copy0 em] at out
        exact out.2 (show ("NoRoad" : Str) ≠ "" by decide)
    | behind x y =>
      refine ⟨.str "behind", rfl, rfl, _, rfl, ite2 (fun c => absurd c (by decide)) (fun _ => ⟨.str "behind", rfl, rfl, _, rfl, ite2 (fun c => absurd c (by decide)) (fun _ => ⟨.str "behind", rfl, rfl, _, rfl, ite2 (fun c => absurd c (by decide)) (fun _ => ?_)⟩)⟩)⟩
      exact ⟨.ref dr, rfl, dr, dx, _, rfl, hg, rfl, .str "behind", rfl, .str x, rfl, .ref D, rfl, dr, dx, sd, D, a, x, fr, cap, cap, M, .behind x y, rfl, hg, hs, mn, mw, ml, eD, ea, hx, .inr ⟨y, rfl, dk.bh x y rfl⟩, out⟩
    | road x d =>
      have w1 : d.word ≠ "lay" := by rcases d.word_in with h | h | h | h | h <;> rw [h] <;> decide
      have w2 : d.word ≠ "clear" := by rcases d.word_in with h | h | h | h | h <;> rw [h] <;> decide
      have w3 : d.word ≠ "copy" := by rcases d.word_in with h | h | h | h | h <;> rw [h] <;> decide
      have nw : ∀ {z : Str}, d.word ≠ z → decide (V.str d.word = V.str z) = true → False := fun hz c => hz (V.str.inj (of_decide_eq_true c))
      refine ⟨.str d.word, rfl, rfl, _, rfl, ite2 (fun c => (nw w1 c).elim) (fun _ => ⟨.str d.word, rfl, rfl, _, rfl, ite2 (fun c => (nw w2 c).elim) (fun _ => ⟨.str d.word, rfl, rfl, _, rfl, ite2 (fun c => (nw w3 c).elim) (fun _ => ?_)⟩)⟩)⟩
      exact ⟨.ref dr, rfl, dr, dx, _, rfl, hg, rfl, .str d.word, rfl, .str x, rfl, .ref D, rfl, dr, dx, sd, D, a, x, fr, cap, cap, M, .road x d, rfl, hg, hs, mn, mw, ml, eD, ea, hx, .inl ⟨d, rfl, dk.rd x d rfl⟩, out⟩
end

/-! ### the class Hall -/
abbrev N_Ha_init : List Str := ["self", "most"]
abbrev P_Ha_init : List Str := ["self", "most"]
theorem sc_Ha_init : FnScope N_Ha_init P_Ha_init (defScope s_Ha_init) := ⟨rfl, rfl, rfl, by decide +kernel, rfl, by decide +kernel, by decide +kernel⟩
abbrev N_Ha_draft : List Str := ["self"]
abbrev P_Ha_draft : List Str := ["self"]
theorem sc_Ha_draft : FnScope N_Ha_draft P_Ha_draft (defScope s_Ha_draft) := ⟨rfl, rfl, rfl, by decide +kernel, rfl, by decide +kernel, by decide +kernel⟩
abbrev N_Ha_do : List Str := ["self", "deed"]
abbrev P_Ha_do : List Str := ["self", "deed"]
theorem sc_Ha_do : FnScope N_Ha_do P_Ha_do (defScope s_Ha_do) := ⟨rfl, rfl, rfl, by decide +kernel, rfl, by decide +kernel, by decide +kernel⟩
abbrev N_Ha_together : List Str := ["self", "deeds", "draft", "deed"]
abbrev P_Ha_together : List Str := ["self", "deeds"]
theorem sc_Ha_together : FnScope N_Ha_together P_Ha_together (defScope s_Ha_together) := ⟨rfl, rfl, rfl, by decide +kernel, rfl, by decide +kernel, by decide +kernel⟩
abbrev N_Ha_names : List Str := ["self"]
abbrev P_Ha_names : List Str := ["self"]
theorem sc_Ha_names : FnScope N_Ha_names P_Ha_names (defScope s_Ha_names) := ⟨rfl, rfl, rfl, by decide +kernel, rfl, by decide +kernel, by decide +kernel⟩
abbrev N_Ha_very : List Str := ["self", "name"]
abbrev P_Ha_very : List Str := ["self", "name"]
theorem sc_Ha_very : FnScope N_Ha_very P_Ha_very (defScope s_Ha_very) := ⟨rfl, rfl, rfl, by decide +kernel, rfl, by decide +kernel, by decide +kernel⟩
abbrev N_Ha_road : List Str := ["self", "name"]
abbrev P_Ha_road : List Str := ["self", "name"]
theorem sc_Ha_road : FnScope N_Ha_road P_Ha_road (defScope s_Ha_road) := ⟨rfl, rfl, rfl, by decide +kernel, rfl, by decide +kernel, by decide +kernel⟩
abbrev N_Ha_len : List Str := ["self"]
abbrev P_Ha_len : List Str := ["self"]
theorem sc_Ha_len : FnScope N_Ha_len P_Ha_len (defScope s_Ha_len) := ⟨rfl, rfl, rfl, by decide +kernel, rfl, by decide +kernel, by decide +kernel⟩
def haF (mo fr : Int) (sl : Addr) (now : Nat) : List (Str × V) := [("most", .int mo), ("fresh", .int fr), ("states", .ref sl), ("now", .int (now : Int))]
structure HaT (K : PySem.W.Frag) (mg : Str → Option Value) (C7 : Addr) : Prop where
  gC : mg "Hall" = some (.ref C7)
  cl : Cls K C7
  nM : NoAttr K C7 "most"
  nF : NoAttr K C7 "fresh"
  nS : NoAttr K C7 "states"
  nW : NoAttr K C7 "now"
/-- what stands ahead of all steps, and behind each -/
def SlAt (C5 : Addr) (H : Hp) (sl : Addr) (Ms : List MoL) : Prop := ∃ sds : List Addr, H sl = some (.lst (sds.map V.ref)) ∧ Paired (fun sd M => StAt C5 H sd M) sds Ms
/-- the hall ha: its states are in the list sl -/
def HallAt (C5 C7 : Addr) (H : Hp) (ha sl : Addr) (mo fr : Int) (Ms : List MoL) (now : Nat) : Prop := (∃ dx, H ha = some (.ins C7 dx (haF mo fr sl now))) ∧ SlAt C5 H sl Ms
theorem SlAt.same {C5 : Addr} {H H' : Hp} {sl : Addr} {Ms : List MoL} (h : SlAt C5 H sl Ms) (s : Same H H') : SlAt C5 H' sl Ms := by
  obtain ⟨sds, e, p⟩ := h
  exact ⟨sds, s _ _ e, Paired.mapP p fun a b z => z.same s⟩
theorem HallAt.same {C5 C7 : Addr} {H H' : Hp} {ha sl : Addr} {mo fr : Int} {Ms : List MoL} {now : Nat} (h : HallAt C5 C7 H ha sl mo fr Ms now) (s : Same H H') : HallAt C5 C7 H' ha sl mo fr Ms now :=
  ⟨h.1.imp fun dx e => s _ _ e, h.2.same s⟩
theorem RpAt.keepO {C5 : Addr} {H H' : Hp} {v : V} {r : RdM} (h : RpAt C5 H v r) (k : KeepO H H') : RpAt C5 H' v r := by
  obtain ⟨t, g, st, num, kp, c, e, et, ⟨dx, eg⟩, kvs, es, sd⟩ := h
  exact ⟨t, g, st, num, kp, c, e, k.tup _ _ et, ⟨dx, k _ _ eg (fun _ z => by cases z) (fun _ z => by cases z)⟩, kvs, k _ _ es (fun _ z => by cases z) (fun _ z => by cases z), sd.keep k.tup⟩
theorem StAt.keepO {C5 : Addr} {H H' : Hp} {sd : Addr} {M : MoL} (h : StAt C5 H sd M) (k : KeepO H H') : StAt C5 H' sd M := by
  obtain ⟨kvs, e, p⟩ := h
  exact ⟨kvs, k _ _ e (fun _ z => by cases z) (fun _ z => by cases z), Paired.mapP p fun a b z => ⟨z.1, z.2.keepO k⟩⟩
/-- a hall stands where other lists and tables are changed -/
theorem HallAt.keepO {C5 C7 : Addr} {H H' : Hp} {ha sl : Addr} {mo fr : Int} {Ms : List MoL} {now : Nat} (h : HallAt C5 C7 H ha sl mo fr Ms now) (k : KeepO H H') (ks : ∀ xs, H sl = some (.lst xs) → H' sl = some (.lst xs)) : HallAt C5 C7 H' ha sl mo fr Ms now := by
  obtain ⟨⟨dx, e⟩, sds, es, p⟩ := h
  exact ⟨⟨dx, k _ _ e (fun _ z => by cases z) (fun _ z => by cases z)⟩, sds, ks _ es, Paired.mapP p fun a b z => z.keepO k⟩
theorem paired_at {α β : Type} {F : α → β → Prop} : ∀ {as : List α} {bs : List β}, Paired F as bs → ∀ {j : Nat} {b : β}, bs[j]? = some b → ∃ a, as[j]? = some a ∧ F a b
  | _, _, .nil, j, b, h => by simp at h
  | _, _, .cons (a := a) h r, 0, b, e => by
    cases e
    exact ⟨a, rfl, h⟩
  | _, _, .cons h r, j + 1, b, e => paired_at r e
theorem Paired.takeP {α β : Type} {F : α → β → Prop} : ∀ {as : List α} {bs : List β} (_ : Paired F as bs) (k : Nat), Paired F (as.take k) (bs.take k)
  | _, _, .nil, k => by
    rw [List.take_nil, List.take_nil]
    exact .nil
  | _, _, .cons h r, 0 => .nil
  | _, _, .cons h r, k + 1 => .cons h (Paired.takeP r k)
theorem nm_keys {R : V → RdM → Prop} : ∀ {kvs : List (Key × V)} {M : MoL}, Paired (NmR R) kvs M → kvs.map (·.1) = (M.map (·.1)).map Sum.inr
  | _, _, .nil => rfl
  | _, _, .cons h r => by rw [List.map_cons, List.map_cons, List.map_cons, h.1, nm_keys r]
def spHaInit (C5 C7 : Addr) : Sp := fun vs H Q _ => ∃ (g dx : Addr) (mo : Int), vs = [.ref g, .int mo] ∧ H g = some (.ins C7 dx []) ∧ ∀ (H' : Hp) (sl : Addr), HallAt C5 C7 H' g sl mo 0 [[]] 0 → H sl = none → Keep g H H' → Q .non H'
def spHaDraft (C5 C6 C7 : Addr) : Sp := fun vs H Q _ => ∃ (ha sl : Addr) (mo fr : Int) (Ms : List MoL) (now : Nat) (M : MoL), vs = [.ref ha] ∧ HallAt C5 C7 H ha sl mo fr Ms now ∧ Ms[now]? = some M ∧
  ∀ (H' : Hp) (dr dx sd : Addr), Same H H' → H dr = none → H sd = none → H' dr = some (.ins C6 dx (dfF sd fr mo)) → StAt C5 H' sd M → Q (.ref dr) H'
def spHaNames (C5 C7 : Addr) : Sp := fun vs H Q _ => ∃ (ha sl : Addr) (mo fr : Int) (Ms : List MoL) (now : Nat) (M : MoL), vs = [.ref ha] ∧ HallAt C5 C7 H ha sl mo fr Ms now ∧ Ms[now]? = some M ∧ M.length < 64 ∧
  ∀ (H' : Hp) (p : Addr) (ys : List Str), ys.Perm (M.map (·.1)) → PyProof.Rows.sortedS ys = true → Same H H' → H p = none → H' p = some (.lst (ys.map V.str)) → Q (.ref p) H'
def spHaLen (C5 C7 : Addr) : Sp := fun vs H Q _ => ∃ (ha sl : Addr) (mo fr : Int) (Ms : List MoL) (now : Nat) (M : MoL), vs = [.ref ha] ∧ HallAt C5 C7 H ha sl mo fr Ms now ∧ Ms[now]? = some M ∧ M.length < 64 ∧ Q (.int (M.length : Nat)) H
def spHaVery (C5 C7 : Addr) : Sp := fun vs H Q _ => ∃ (ha sl : Addr) (mo fr : Int) (Ms : List MoL) (now : Nat) (M : MoL) (x : Str) (r : RdM), vs = [.ref ha, .str x] ∧ HallAt C5 C7 H ha sl mo fr Ms now ∧ Ms[now]? = some M ∧ mget M x = some r ∧ ∀ (g st : Addr) (k : V) (c : Int), RoAt C5 H g st r.1 r.2 k c → Q (.ref g) H
def spHaRoad (C5 C7 : Addr) : Sp := fun vs H Q _ => ∃ (ha sl : Addr) (mo fr : Int) (Ms : List MoL) (now : Nat) (M : MoL) (x : Str) (r : RdM), vs = [.ref ha, .str x] ∧ HallAt C5 C7 H ha sl mo fr Ms now ∧ Ms[now]? = some M ∧ mget M x = some r ∧ RoW r.1 r.2 ∧ ∀ (H' : Hp) (g st : Addr) (k : V) (c : Int), Same H H' → H g = none → RoAt C5 H' g st r.1 r.2 k c → Q (.ref g) H'
section
variable {P : Program} {w : World} {K : PySem.W.Frag} {mg : Str → Option Value} {base : Heap} {C5 C6 C7 : Addr} {c : H7}
theorem ok_HaInit {f : Addr} {fd : FuncData} {dvs : List V} {kws : List (Str × V)} (F : FunD K "__init__" "Hall.__init__" (defArgs s_Ha_init) (defBody s_Ha_init) (defScope s_Ha_init) dvs kws f fd) (THa_ : HaT K mg C7) (B : Bn mg) : FnOk P w K mg base CX0 1 f fd P_Ha_init (spHaInit C5 C7) := by
  refine F.ok sc_Ha_init (fun vs H Q E h => ?_) (fun cdv A outer s H vs Q E hr h => ?_)
  · obtain ⟨g, dx, mo, rfl, _⟩ := h
    rfl
  · obtain ⟨g, dx, mo, rfl, hg, q⟩ := h
    suffices hh : ∃ t, PSs (cxOf CX0 P w K mg base N_Ha_init "Hall.__init__" (defScope s_Ha_init) f cdv A outer s H E).nox (defBody s_Ha_init) t ∧ t { nx := fun _ H' => Q .non H', rt := Q } (L2.start N_Ha_init [.ref g, .int mo]) H by
      obtain ⟨t, h1, h2⟩ := hh
      exact ⟨t, h1.nox, h2⟩
    refine ⟨_, (pss_cons (ps_fld (pv 0) (pv 1) rfl)
      (pss_cons (ps_fld (pv 0) pe_int rfl)
      (pss_cons (ps_fld (pv 0) (pe_lst (pa_cons pe_dnewK pa_nil)) rfl)
      (pss_one (ps_fld (pv 0) pe_int rfl))))), ?_⟩
    have l4 : ∀ n : Nat, n < 5 → n < 1000 := fun n h => by omega
    refine ⟨.int mo, rfl, .ref g, rfl, g, C7, dx, [], rfl, hg, THa_.cl, THa_.nM, l4 0 (by decide), ?_⟩
    have k1 : Keep g H (upd H g (.ins C7 dx (putF "most" (.int mo) []))) := Keep.upd
    have e1 : (upd H g (.ins C7 dx (putF "most" (.int mo) []))) g = some (.ins C7 dx [("most", .int mo)]) := upd_same
    have f1 : ∀ b, (upd H g (.ins C7 dx (putF "most" (.int mo) []))) b = none → H b = none := fun b hb => by
      by_cases c : b = g
      · rw [c, upd_same] at hb
        cases hb
      · rw [upd_ne c] at hb
        exact hb
    generalize upd H g (.ins C7 dx (putF "most" (.int mo) [])) = H1 at k1 e1 f1
    refine ⟨.ref g, rfl, g, C7, dx, _, rfl, e1, THa_.cl, THa_.nF, l4 1 (by decide), ?_⟩
    have k2 : Keep g H1 (upd H1 g (.ins C7 dx (putF "fresh" (.int 0) [("most", .int mo)]))) := Keep.upd
    have e2 : (upd H1 g (.ins C7 dx (putF "fresh" (.int 0) [("most", .int mo)]))) g = some (.ins C7 dx [("most", .int mo), ("fresh", .int 0)]) := by
      rw [upd_same]
      unfold putF
      rw [if_neg (by decide +kernel)]
      rfl
    have f2 : ∀ b, (upd H1 g (.ins C7 dx (putF "fresh" (.int 0) [("most", .int mo)]))) b = none → H b = none := fun b hb => by
      by_cases c : b = g
      · rw [c, upd_same] at hb
        cases hb
      · rw [upd_ne c] at hb
        exact f1 b hb
    generalize upd H1 g (.ins C7 dx (putF "fresh" (.int 0) [("most", .int mo)])) = H2 at k2 e2 f2
    intro st nst
    have s3 := same_upd (H := H2) (o := .dK []) nst
    have e3 : (upd H2 st (.dK [])) st = some (.dK []) := upd_same
    generalize upd H2 st (.dK []) = H3 at s3 e3
    refine ⟨by show 1 ≤ sizeLine; decide, fun sl nsl => ?_⟩
    have s4 := same_upd (H := H3) (o := .lst [.ref st]) nsl
    have e4 : (upd H3 sl (.lst [.ref st])) sl = some (.lst [.ref st]) := upd_same
    generalize upd H3 sl (.lst [.ref st]) = H4 at s4 e4
    have s34 := s3.trans s4
    refine ⟨.ref g, rfl, g, C7, dx, _, rfl, s34 _ _ e2, THa_.cl, THa_.nS, l4 2 (by decide), ?_⟩
    have k5 : Keep g H4 (upd H4 g (.ins C7 dx (putF "states" (.ref sl) [("most", .int mo), ("fresh", .int 0)]))) := Keep.upd
    have e5 : (upd H4 g (.ins C7 dx (putF "states" (.ref sl) [("most", .int mo), ("fresh", .int 0)]))) g = some (.ins C7 dx [("most", .int mo), ("fresh", .int 0), ("states", .ref sl)]) := by
      rw [upd_same]
      unfold putF
      rw [if_neg (by decide +kernel)]
      unfold putF
      rw [if_neg (by decide +kernel)]
      rfl
    generalize upd H4 g (.ins C7 dx (putF "states" (.ref sl) [("most", .int mo), ("fresh", .int 0)])) = H5 at k5 e5
    refine ⟨.ref g, rfl, g, C7, dx, _, rfl, e5, THa_.cl, THa_.nW, l4 3 (by decide), ?_⟩
    have k6 : Keep g H5 (upd H5 g (.ins C7 dx (putF "now" (.int 0) [("most", .int mo), ("fresh", .int 0), ("states", .ref sl)]))) := Keep.upd
    have e6 : (upd H5 g (.ins C7 dx (putF "now" (.int 0) [("most", .int mo), ("fresh", .int 0), ("states", .ref sl)]))) g = some (.ins C7 dx (haF mo 0 sl 0)) := by
      rw [upd_same]
      unfold putF
      rw [if_neg (by decide +kernel)]
      unfold putF
      rw [if_neg (by decide +kernel)]
      unfold putF
      rw [if_neg (by decide +kernel)]
      rfl
    generalize upd H5 g (.ins C7 dx (putF "now" (.int 0) [("most", .int mo), ("fresh", .int 0), ("states", .ref sl)])) = H6 at k6 e6
    have k56 := k5.trans k6
    have nst' : st ≠ g := (ne_of_none e2 nst).symm
    have nsl' : sl ≠ g := (ne_of_none (s3 _ _ e2) nsl).symm
    refine q H6 sl ⟨⟨dx, e6⟩, [st], k56 _ _ nsl' e4, .cons ⟨[], k56 _ _ nst' (s4 _ _ e3), .nil⟩ .nil⟩ (f2 _ (s3.free nsl)) fun b o nb hb => ?_
    exact k56 _ _ nb (s34 _ _ (k2 _ _ nb (k1 _ _ nb hb)))
theorem ok_HaDraft {f fI : Addr} {fd fdI : FuncData} (F : Fun K "draft" "Hall.draft" s_Ha_draft f fd) (THa_ : HaT K mg C7) (TDf_ : DfT K mg C6) (mkDf_ : Mk K C6 fI) (G_Df_init : FnOk P w K mg base CX0 1 fI fdI P_Df_init (spDfInit C6)) (b_Df_init : Binds K fdI P_Df_init []) (B : Bn mg) : FnOk P w K mg base CX0 3 f fd P_Ha_draft (spHaDraft C5 C6 C7) := by
  refine F.ok sc_Ha_draft (fun vs H Q E h => ?_) (fun cdv A outer s H vs Q E hr h => ?_)
  · obtain ⟨ha, sl, mo, fr, Ms, now, M, rfl, _⟩ := h
    rfl
  · obtain ⟨ha, sl, mo, fr, Ms, now, M, rfl, ⟨⟨dx, eh⟩, sds, es, p⟩, em, q⟩ := h
    refine ⟨_, (pss_one (ps_ret (pe_make mkDf_ G_Df_init (hr.mono (by omega)) (by rfl) TDf_.gC b_Df_init .nil pass0 (pa_cons (pe_ix ix_list (pe_fld (pv 0) rfl) (pe_fld (pv 0) rfl) (fun _ _ => rfl)) (pa_cons (pe_fld (pv 0) rfl) (pa_cons (pe_fld (pv 0) rfl) pa_nil)))))), ?_⟩
    obtain ⟨sd, esd, hsd⟩ := paired_at p em
    refine ⟨.ref ha, rfl, ha, C7, dx, _, .ref sl, rfl, eh, THa_.cl, THa_.nS, rfl, .ref ha, rfl, ha, C7, dx, _, .int (now : Int), rfl, eh, THa_.cl, THa_.nW, rfl, sl, _, (now : Int), .ref sd, rfl, rfl, SqL.of es, atI_nat (by rw [List.getElem?_map, esd]; rfl), .ref ha, rfl, ha, C7, dx, _, .int fr, rfl, eh, THa_.cl, THa_.nF, rfl, .ref ha, rfl, ha, C7, dx, _, .int mo, rfl, eh, THa_.cl, THa_.nM, rfl, ?_⟩
    intro dr dy ndr ndy nex
    have s1 : Same H (upd (upd H dy (.own dr)) dr (.ins C6 dy [])) := fun b o hb => by
      rw [upd_ne (ne_of_none hb ndr), upd_ne (ne_of_none hb ndy)]
      exact hb
    have e1 : (upd (upd H dy (.own dr)) dr (.ins C6 dy [])) dr = some (.ins C6 dy []) := upd_same
    generalize upd (upd H dy (.own dr)) dr (.ins C6 dy []) = H1 at s1 e1
    obtain ⟨kvs, ek, pk⟩ := id hsd
    refine ⟨dr, dy, sd, fr, mo, kvs, rfl, e1, s1 _ _ ek, fun H2 sd2 e2 es2 nsd2 k2 => ⟨rfl, ?_⟩⟩
    have s2 : Same H H2 := fun b o hb => k2 _ _ (ne_of_none hb ndr) (s1 _ _ hb)
    exact q H2 dr dy sd2 s2 ndr (s1.free nsd2) e2 ⟨kvs, es2, Paired.mapP pk fun a b z => ⟨z.1, z.2.same s2⟩⟩
theorem ok_HaNames {f : Addr} {fd : FuncData} (F : Fun K "names" "Hall.names" s_Ha_names f fd) (THa_ : HaT K mg C7) (B : Bn mg) : FnOk P w K mg base CX0 1 f fd P_Ha_names (spHaNames C5 C7) := by
  refine F.ok sc_Ha_names (fun vs H Q E h => ?_) (fun cdv A outer s H vs Q E hr h => ?_)
  · obtain ⟨ha, sl, mo, fr, Ms, now, M, rfl, _⟩ := h
    rfl
  · obtain ⟨ha, sl, mo, fr, Ms, now, M, rfl, ⟨⟨dx, eh⟩, sds, es, p⟩, em, ml, q⟩ := h
    refine ⟨_, (pss_one (ps_ret (pe_callB (call_sortedD rfl) (by rfl) B.sorted (by decide +kernel) (pa_cons (pe_ix ix_list (pe_fld (pv 0) rfl) (pe_fld (pv 0) rfl) (fun _ _ => rfl)) pa_nil)))), ?_⟩
    obtain ⟨sd, esd, hsd⟩ := paired_at p em
    refine ⟨.ref ha, rfl, ha, C7, dx, _, .ref sl, rfl, eh, THa_.cl, THa_.nS, rfl, .ref ha, rfl, ha, C7, dx, _, .int (now : Int), rfl, eh, THa_.cl, THa_.nW, rfl, sl, _, (now : Int), .ref sd, rfl, rfl, SqL.of es, atI_nat (by rw [List.getElem?_map, esd]; rfl), ?_⟩
    obtain ⟨kvs, ek, pk⟩ := hsd
    have lk := pk.length
    refine ⟨sd, kvs, M.map (·.1), rfl, .inl ek, nm_keys pk, by rw [List.length_map]; exact ml, fun ys p hp so np => q _ p ys hp so (same_upd np) np upd_same⟩
theorem ok_HaLen {f : Addr} {fd : FuncData} (F : Fun K "__len__" "Hall.__len__" s_Ha_len f fd) (THa_ : HaT K mg C7) (B : Bn mg) : FnOk P w K mg base CX0 1 f fd P_Ha_len (spHaLen C5 C7) := by
  refine F.ok sc_Ha_len (fun vs H Q E h => ?_) (fun cdv A outer s H vs Q E hr h => ?_)
  · obtain ⟨ha, sl, mo, fr, Ms, now, M, rfl, _⟩ := h
    rfl
  · obtain ⟨ha, sl, mo, fr, Ms, now, M, rfl, ⟨⟨dx, eh⟩, sds, es, p⟩, em, ml, q⟩ := h
    refine ⟨_, (pss_one (ps_ret (pe_callB call_lenDk (by rfl) B.len (by decide +kernel) (pa_cons (pe_ix ix_list (pe_fld (pv 0) rfl) (pe_fld (pv 0) rfl) (fun _ _ => rfl)) pa_nil)))), ?_⟩
    obtain ⟨sd, esd, kvs, ek, pk⟩ := paired_at p em
    rw [← pk.length] at q
    exact ⟨.ref ha, rfl, ha, C7, dx, _, .ref sl, rfl, eh, THa_.cl, THa_.nS, rfl, .ref ha, rfl, ha, C7, dx, _, .int (now : Int), rfl, eh, THa_.cl, THa_.nW, rfl, sl, _, (now : Int), .ref sd, rfl, rfl, SqL.of es, atI_nat (by rw [List.getElem?_map, esd]; rfl), sd, kvs, rfl, ek, q⟩
theorem ok_HaVery {f fV : Addr} {fd fdV : FuncData} (F : Fun K "very" "Hall.very" s_Ha_very f fd) (THa_ : HaT K mg C7) (D_very_road : DefAt K mg "very_road" s_very_road P_very_road fV fdV) (G_very_road : FnOk P w K mg base CX0 1 fV fdV P_very_road spVery) (B : Bn mg) : FnOk P w K mg base CX0 2 f fd P_Ha_very (spHaVery C5 C7) := by
  refine F.ok sc_Ha_very (fun vs H Q E h => ?_) (fun cdv A outer s H vs Q E hr h => ?_)
  · obtain ⟨ha, sl, mo, fr, Ms, now, M, x, r, rfl, _⟩ := h
    rfl
  · obtain ⟨ha, sl, mo, fr, Ms, now, M, x, r, rfl, ⟨⟨dx, eh⟩, sds, es, p⟩, em, er, q⟩ := h
    refine ⟨_, (pss_one (ps_ret (pe_call G_very_road (hr.mono (by omega)) (by rfl) D_very_road.g D_very_road.F.kp D_very_road.b .nil pass0 (pa_cons (pe_ix ix_list (pe_fld (pv 0) rfl) (pe_fld (pv 0) rfl) (fun _ _ => rfl)) (pa_cons (pv 1) pa_nil))))), ?_⟩
    obtain ⟨sd, esd, kvs, ek, pk⟩ := paired_at p em
    obtain ⟨L, pl, fl⟩ := seats_of pk
    obtain ⟨num, g, st, k, c0, e1, ra⟩ := (fl x).2 r er
    exact ⟨.ref ha, rfl, ha, C7, dx, _, .ref sl, rfl, eh, THa_.cl, THa_.nS, rfl, .ref ha, rfl, ha, C7, dx, _, .int (now : Int), rfl, eh, THa_.cl, THa_.nW, rfl, sl, _, (now : Int), .ref sd, rfl, rfl, SqL.of es, atI_nat (by rw [List.getElem?_map, esd]; rfl), .str x, rfl, sd, L, x, (num, g), rfl, ⟨kvs, ek, pl⟩, e1, q g st k c0 ra⟩
theorem ok_HaRoad {f fV fT : Addr} {fd fdV fdT : FuncData} (F : Fun K "road" "Hall.road" s_Ha_road f fd) (THa_ : HaT K mg C7) (TRo_ : RoT K mg C5) (M_Ha_very : Meth K C7 "very" fV) (G_Ha_very : FnOk P w K mg base CX0 2 fV fdV P_Ha_very (spHaVery C5 C7)) (b_Ha_very : Binds K fdV P_Ha_very []) (M_Ro_twin : Meth K C5 "twin" fT) (G_Ro_twin : FnOk P w K mg base CX0 6 fT fdT P_Ro_twin (spTwin C5)) (b_Ro_twin : Binds K fdT P_Ro_twin []) (B : Bn mg) : FnOk P w K mg base CX0 7 f fd P_Ha_road (spHaRoad C5 C7) := by
  refine F.ok sc_Ha_road (fun vs H Q E h => ?_) (fun cdv A outer s H vs Q E hr h => ?_)
  · obtain ⟨ha, sl, mo, fr, Ms, now, M, x, r, rfl, _⟩ := h
    rfl
  · obtain ⟨ha, sl, mo, fr, Ms, now, M, x, r, rfl, hh, em, er, wf, q⟩ := h
    obtain ⟨dx, eh⟩ := hh.1
    refine ⟨_, (pss_one (ps_ret (pe_meth0 (pe_meth (pv 0) THa_.cl M_Ha_very G_Ha_very (hr.mono (by omega)) b_Ha_very .nil pass0 (pa_cons (pv 1) pa_nil)) TRo_.cl M_Ro_twin G_Ro_twin (hr.mono (by omega)) b_Ro_twin .nil pass0))), ?_⟩
    refine ⟨.ref ha, rfl, ha, dx, _, rfl, eh, rfl, .str x, rfl, ha, sl, mo, fr, Ms, now, M, x, r, rfl, hh, em, er, fun g st k c0 ra => ?_⟩
    obtain ⟨dx0, eg⟩ := ra.at_g
    exact ⟨g, dx0, _, rfl, eg, rfl, g, st, r.1, r.2, k, c0, rfl, ra, wf.n0, wf.n1, wf.len, fun G2 g2 st2 rt s2 ng2 nst2 => q G2 g2 st2 k c0 s2 ng2 rt⟩
end

/-! ### a list or a tuple walked, alike (behind 35_enumt) -/
def Sq (K : PySem.W.Frag) (H : Hp) (a : Addr) (xs : List V) : Prop := SqL K H a xs ∨ SqT K H a xs
/-- what is at a stands -/
def At1 (a : Addr) (H G : Hp) : Prop := ∀ o, H a = some o → G a = some o
theorem sqL_at1 {K : PySem.W.Frag} {H G : Hp} {a : Addr} {xs : List V} (h : SqL K H a xs) (e : At1 a H G) : SqL K G a xs :=
  h.elim (fun h => .inl (h.elim (fun h => .inl (e _ h)) fun ⟨o, h⟩ => .inr ⟨o, e _ h⟩)) fun h => .inr h
theorem sqT_at1 {K : PySem.W.Frag} {H G : Hp} {a : Addr} {xs : List V} (h : SqT K H a xs) (e : At1 a H G) : SqT K G a xs :=
  h.elim (fun h => .inl (h.elim (fun h => .inl (e _ h)) fun ⟨o, h⟩ => .inr ⟨o, e _ h⟩)) fun h => .inr h
theorem Sq.at1 {K : PySem.W.Frag} {H G : Hp} {a : Addr} {xs : List V} (h : Sq K H a xs) (e : At1 a H G) : Sq K G a xs := h.elim (fun h => .inl (sqL_at1 h e)) fun h => .inr (sqT_at1 h e)
theorem Sq.same {K : PySem.W.Frag} {H G : Hp} {a : Addr} {xs : List V} (h : Sq K H a xs) (e : Same H G) : Sq K G a xs := h.at1 fun o ho => e _ _ ho
def iSeq (K : PySem.W.Frag) (tl : TE) : TI := fun σ H R => tl σ H fun v H1 => ∃ (a : Addr) (xs : List V), v = .ref a ∧ Sq K H1 a xs ∧ ∀ J : It, Walk J xs.length (fun G => At1 a H1 G) (YAt xs) → R J H1
section
open PySem.Spec PyProof.Rows
theorem pi_seq {X : Cx} {tg l : Expr} {tl : TE} (hl : PE X l tl) : PI X tg l (iSeq X.K tl) := by
  refine ⟨fun pins s σ H R I h => ?_⟩
  refine thn (hl.run pins s σ H _ I h) fun v s1 ⟨x, H1, I1, r1, q1⟩ => ?_
  obtain ⟨a, xs, e, hq, q⟩ := q1
  subst e
  cases r1
  rcases hq with hq | hq
  · have q := q (Itl X.K a) (walk_list.mono (fun G hg => sqL_at1 hq hg) fun _ _ _ _ _ _ y => y)
    obtain ⟨its, rv, p, hz⟩ := I1.list hq
    refine wpAny_pyIter_list p.isList ?_
    refine ⟨s1.heap.objs.size, [s1.heap.objs.size], _, _, H1, rfl, I1.kept (t' := s1.toks) fun b o e => Heap.get?_push_of_some _ e, turn_list a _, ⟨_, Heap.get?_push_size _ rfl, rfl, rfl⟩, fun b hb => ?_, q⟩
    have e : b = s1.heap.objs.size := by simpa using hb
    subst e
    exact I1.fpOk (Nat.le_refl _) (I1.hok.fresh (Nat.le_refl _))
  · have q := q (Itt X.K a) (walk_tup.mono (fun G hg => sqT_at1 hq hg) fun _ _ _ _ _ _ y => y)
    obtain ⟨its, rv, p, hz⟩ := I1.tuple hq
    refine wpAny_pyIter_tuple (show s1.heap.IsTuple a its.toArray from p) ?_
    refine ⟨s1.heap.objs.size, [s1.heap.objs.size], _, _, H1, rfl, I1.kept (t' := s1.toks) fun b o e => Heap.get?_push_of_some _ e, turn_tuple a _, ⟨_, Heap.get?_push_size _ rfl, rfl, rfl⟩, fun b hb => ?_, q⟩
    have e : b = s1.heap.objs.size := by simpa using hb
    subst e
    exact I1.fpOk (Nat.le_refl _) (I1.hok.fresh (Nat.le_refl _))
end
/-- what refuses nothing by its spec does so in every place -/
theorem FnOk.no {P : Program} {w : World} {K : PySem.W.Frag} {mg : Str → Option Value} {base : Heap} {k : Nat} {f : Addr} {fd : FuncData} {ps : List Str} {sp sp2 : Sp} (F : FnOk P w K mg base (L2.CX P w) k f fd ps sp) (h : ∀ vs H Q E, sp2 vs H Q E → sp vs H Q E0) : FnOk P w K mg base CX0 k f fd ps sp2 := by
  refine ⟨fun vs H Q E x => F.len _ _ _ _ (h _ _ _ _ x), fun A outer s H args us vs Q E hr he hb hv x => ?_⟩
  refine codeAny_mono (F.run A outer s H args us vs Q E0 hr he hb hv (h _ _ _ _ x)) fun r s' c => ?_
  cases r with
  | error e =>
    obtain ⟨_, _, _, _, _, _, _, _, _, _, _, _, z⟩ := (show L2.CX P w outer H s E0 e s' from c)
    exact z.elim
  | ok fl => cases fl <;> exact c

/-! ### Hall.together, Hall.do; len(hall), repr(hall) -/
/-- deeds one behind another: what refuses first, or the hall behind them -/
def runP (cap : Int) : List (Addr × HDeed) → MoL → (Str × V) × MoL
  | [], M => (("", .non), M)
  | d :: r, M => if (stepP cap d.1 d.2 M).1.1 = "" then runP cap r (stepP cap d.1 d.2 M).2 else stepP cap d.1 d.2 M
/-- the deeds stand -/
def DdAt (H : Hp) (dd : Addr) (d : Addr × HDeed) : Prop := H dd = some (.tup ([.str d.2.word, .str d.2.name] ++ d.2.rest)) ∧ H d.1 = some (.tup d.2.rest) ∧ DkW d.2
/-- the deed alone -/
def DdAt0 (H : Hp) (dd : Addr) (d : Addr × HDeed) : Prop := H dd = some (.tup ([.str d.2.word, .str d.2.name] ++ d.2.rest)) ∧ DkW d.2
theorem DdAt0.same {H H' : Hp} {dd : Addr} {d : Addr × HDeed} (h : DdAt0 H dd d) (s : Same H H') : DdAt0 H' dd d := ⟨s _ _ h.1, h.2⟩
theorem runP_snoc {cap : Int} {d : Addr × HDeed} : ∀ {l : List (Addr × HDeed)} {M : MoL}, runP cap (l ++ [d]) M = if (runP cap l M).1.1 = "" then (if (stepP cap d.1 d.2 (runP cap l M).2).1.1 = "" then ((("" : Str), V.non), (stepP cap d.1 d.2 (runP cap l M).2).2) else stepP cap d.1 d.2 (runP cap l M).2) else runP cap l M
  | [], M => rfl
  | e :: r, M => by
    show (if (stepP cap e.1 e.2 M).1.1 = "" then runP cap (r ++ [d]) (stepP cap e.1 e.2 M).2 else stepP cap e.1 e.2 M) = _
    have e2 : runP cap (e :: r) M = if (stepP cap e.1 e.2 M).1.1 = "" then runP cap r (stepP cap e.1 e.2 M).2 else stepP cap e.1 e.2 M := rfl
    rw [e2]
    by_cases h : (stepP cap e.1 e.2 M).1.1 = ""
    · rw [if_pos h, if_pos h, runP_snoc]
    · rw [if_neg h, if_neg h, if_neg h]
theorem DdAt.same {H H' : Hp} {dd : Addr} {d : Addr × HDeed} (h : DdAt H dd d) (s : Same H H') : DdAt H' dd d := ⟨s _ _ h.1, s _ _ h.2.1, h.2.2⟩
structure MoW (M : MoL) : Prop where
  nd : MoN M
  w : ∀ m ∈ M, RoW m.2.1 m.2.2
theorem MoW.put {M : MoL} {x : Str} {r : RdM} (h : MoW M) (w : RoW r.1 r.2) : MoW (mset M x r) := by
  refine ⟨?_, fun m hm => ?_⟩
  · unfold MoN
    rw [mset_names]
    by_cases z : (mget M x).isSome = true
    · rw [if_pos z]
      exact h.nd
    · rw [if_neg z]
      refine List.nodup_append.mpr ⟨h.nd, by simp, fun a ha b hb e => ?_⟩
      rw [List.mem_singleton.mp hb] at e
      subst e
      exact mget_none (fun r e => z (by rw [e]; rfl)) ha
  · rcases mset_mem hm with z | ⟨z, _⟩
    · exact h.w m z
    · rw [z]
      exact w
theorem stepP_w {cap : Int} {a : Addr} {k : HDeed} {M : MoL} (h : MoW M) (dk : DkW k) : MoW (stepP cap a k M).2 := by
  cases k with
  | lay x v =>
    rw [stepP_lay]
    split
    · split
      · exact h
      · rename_i h2
        refine h.put ?_
        rcases dk.ly x v rfl with ⟨i, rfl, _⟩ | ⟨b, rfl⟩
        · have h2 : ¬ (!decide (0 ≤ i ∧ i ≤ 1000000000000000000)) = true := h2
          have h2 : 0 ≤ i ∧ i ≤ 1000000000000000000 := by simpa using h2
          exact ⟨h2.1, h2.2, .nil, (fun s hs => by cases hs), Nat.zero_le _, (fun s hs => by cases hs)⟩
        · exact absurd rfl h2
    · exact h
  | copy x y =>
    cases ex : mget M x with
    | none =>
      rw [stepP_copy0 ex]
      exact h
    | some r =>
      rw [stepP_copy ex]
      split
      · exact h.put (h.w _ (mget_mem ex))
      · exact h
  | clear x =>
    cases ex : mget M x with
    | none =>
      rw [stepP_clear0 ex]
      exact h
    | some r =>
      rw [stepP_clear ex]
      exact ⟨h.nd.sublist ((List.filter_sublist).map _), fun m hm => h.w m (List.mem_filter.mp hm).1⟩
  | behind x y =>
    cases ex : mget M x with
    | none =>
      rw [stepP_bh0 ex]
      exact h
    | some r =>
      cases ey : mget M y with
      | none =>
        rw [stepP_bh1 ex ey]
        exact h
      | some r2 =>
        rw [stepP_bh ex ey]
        split
        · rename_i h1
          exact h.put (tbP_ok (h.w _ (mget_mem ex)) (h.w _ (mget_mem ey)) h1).1
        · exact h
  | road x d =>
    cases ex : mget M x with
    | none =>
      rw [stepP_rd0 ex]
      exact h
    | some r =>
      rw [stepP_rd ex]
      split
      · rename_i h1
        exact h.put (rdP_ok (h.w _ (mget_mem ex)) h1 (dk.rd x d rfl)).1
      · exact h
theorem ro_ne_ha {C5 C7 dx dy : Addr} {n : Int} {st sl : Addr} {k : V} {c mo fr : Int} {now : Nat} : HO.ins C5 dy (roF n st k c) ≠ HO.ins C7 dx (haF mo fr sl now) := fun z => by
  injection z with _ _ z
  have z : (["extent", "standing", "kept", "foldings"] : List Str) = (["most", "fresh", "states", "now"] : List Str) := congrArg (List.map fun p : Str × V => p.1) z
  exact absurd z (by decide)
/-- the seats stand where the hall and its list of states are changed -/
theorem StAt.offH {C5 C7 : Addr} {H H' : Hp} {ha sl dx sd : Addr} {mo fr : Int} {now : Nat} {xs : List V} {M : MoL} (h : StAt C5 H sd M) (eh : H ha = some (.ins C7 dx (haF mo fr sl now))) (es : H sl = some (.lst xs)) (kp : ∀ b o, b ≠ ha → b ≠ sl → H b = some o → H' b = some o) : StAt C5 H' sd M := by
  obtain ⟨kvs, e, p⟩ := h
  have k1 : ∀ {b : Addr} {ps : List (Key × V)}, H b = some (.dK ps) → H' b = some (.dK ps) := fun hb => kp _ _ (ne_of hb eh (fun z => by cases z)) (ne_of hb es (fun z => by cases z)) hb
  have k2 : KeepT H H' := fun b ps hb => kp _ _ (ne_of hb eh (fun z => by cases z)) (ne_of hb es (fun z => by cases z)) hb
  refine ⟨kvs, k1 e, Paired.mapP p fun a b z => ⟨z.1, ?_⟩⟩
  obtain ⟨t, g, st, num, k, c, e1, et, ⟨dy, eg⟩, kv2, e2, e3⟩ := z.2
  exact ⟨t, g, st, num, k, c, e1, k2 _ _ et, ⟨dy, kp _ _ (ne_of eg eh ro_ne_ha) (ne_of eg es (fun z => by cases z)) eg⟩, kv2, k1 e2, e3.keep k2⟩
theorem drop_at {α : Type} {d : α} : ∀ {ds : List α} {i : Nat}, ds[i]? = some d → ds.drop i = d :: ds.drop (i + 1)
  | [], i, h => by simp at h
  | a :: r, 0, h => by
    cases h
    rfl
  | a :: r, i + 1, h => drop_at (ds := r) h
theorem small_log2 {i : Int} (h0 : 0 ≤ i) (h1 : i ≤ 60) : i.natAbs.log2 < 1920 := by
  have a : i.natAbs < 2 ^ 64 := by omega
  by_cases z : i.natAbs = 0
  · rw [z]
    decide
  · exact Nat.lt_trans ((Nat.log2_lt z).mpr a) (by decide)
def spHaTogether (C5 C7 : Addr) (c : H7) : Sp := fun vs H Q E => ∃ (ha sl l : Addr) (cap fr : Int) (Ms : List MoL) (now : Nat) (M : MoL) (dds : List Addr) (ds : List (Addr × HDeed)), vs = [.ref ha, .ref l] ∧ HallAt C5 C7 H ha sl cap fr Ms now ∧ Ms[now]? = some M ∧ Ms.length ≤ 1000 ∧ MoW M ∧ (M.length : Int) ≤ cap ∧ 0 ≤ cap ∧ cap ≤ 60 ∧
  (H l = some (.lst (dds.map V.ref)) ∨ H l = some (.tup (dds.map V.ref))) ∧ Paired (fun dd d => DdAt0 H dd d) dds ds ∧ (∀ i d, ds[i]? = some d → (runP cap (ds.take i) M).1.1 = "" → H d.1 = some (.tup d.2.rest)) ∧ l ≠ sl ∧ (ds = [] → Q .non H) ∧
  ((runP cap ds M).1.1 = "" → ds ≠ [] → ∀ (H' : Hp) (fr' : Int), HallAt C5 C7 H' ha sl cap fr' (Ms.take (now + 1) ++ [(runP cap ds M).2]) (now + 1) → (∀ b o, b ≠ ha → b ≠ sl → H b = some o → H' b = some o) → Q .non H') ∧ ((runP cap ds M).1.1 ≠ "" → TakesH c H E (runP cap ds M).1.1 (runP cap ds M).1.2)
section
variable {P : Program} {w : World} {K : PySem.W.Frag} {mg : Str → Option Value} {base : Heap} {C5 C6 C7 : Addr} {c : H7}
theorem ok_HaTogether {f fD fO : Addr} {fd fdD fdO : FuncData} (F : Fun K "together" "Hall.together" s_Ha_together f fd) (THa_ : HaT K mg C7) (TDf_ : DfT K mg C6) (M_Ha_draft : Meth K C7 "draft" fD) (G_Ha_draft : FnOk P w K mg base CX0 3 fD fdD P_Ha_draft (spHaDraft C5 C6 C7)) (b_Ha_draft : Binds K fdD P_Ha_draft [])
    (M_Df_do : Meth K C6 "do" fO) (GX_Df_do : FnOk P w K mg base (L2.CX P w) 10 fO fdO P_Df_do (spDfDo C5 C6 c)) (b_Df_do : Binds K fdO P_Df_do []) (B : Bn mg) : FnOk P w K mg base (L2.CX P w) 11 f fd P_Ha_together (spHaTogether C5 C7 c) := by
  refine F.okX sc_Ha_together (fun vs H Q E h => ?_) (fun cdv A outer s H vs Q E hr h => ?_)
  · obtain ⟨ha, sl, l, cap, fr, Ms, now, M, dds, ds, rfl, _⟩ := h
    rfl
  · obtain ⟨ha, sl, l, cap, fr, Ms, now, M, dds, ds, rfl, hh, em, msl, mw, mcap, cap0, cap60, el, pd, rest, nls, q0, good, bad⟩ := h
    have hu := hu_of hr
    refine ⟨_, (pss_cons (ps_if (pt_cmpR op_eq (pe_callB call_len_seq (by rfl) B.len (by decide +kernel) (pa_cons (pv 1) pa_nil)) pe_int (nomark _)) (pss_one ps_retN) pss_nil)
      (pss_cons (ps_set (i := 2) sc_Ha_together.nd rfl (.inl rfl) (pe_meth0 (pv 0) THa_.cl M_Ha_draft G_Ha_draft (hr.mono (by omega)) b_Ha_draft .nil pass0))
      (pss_cons (ps_for (passes_of rfl) rfl (pi_seq (pv 1)) (pg_name (i := 3) sc_Ha_together.nd rfl (.inl rfl)) (pss_one (ps_expr (pe_meth (pv 2) TDf_.cl M_Df_do GX_Df_do (hr.mono (by omega)) b_Df_do .nil (passes_call (takes_of rfl rfl rfl rfl) fun _ _ _ _ h => h) (pa_cons (pv 3) pa_nil)))))
      (pss_cons (ps_delfrom (pe_fld (pv 0) rfl) (pe_op op_add (pe_fld (pv 0) rfl) pe_int))
      (pss_cons (ps_expr (pe_bm PySem.F.plainAttrs_list PySem.F.slot_list_append PySem.F.type_list_append mt_append (pe_fld (pv 0) rfl) (pa_cons (pe_fld (pv 2) rfl) pa_nil)))
      (pss_cons (ps_fldaug (pv 0) pe_int in_add)
      (pss_one (ps_fld (pv 0) (pe_fld (pv 2) rfl) rfl)))))))), ?_⟩
    have sq : ∀ {G : Hp}, Same H G → Sq K G l (dds.map V.ref) := fun s => el.elim (fun h => .inl (SqL.of (s _ _ h))) fun h => .inr (SqT.of (s _ _ h))
    have at1 : ∀ {G G' : Hp}, Same H G → Same H G' → At1 l G G' := fun s s' o ho => by
      rcases el with h | h
      · rw [s _ _ h] at ho
        rw [← ho]
        exact s' _ _ h
      · rw [s _ _ h] at ho
        rw [← ho]
        exact s' _ _ h
    have lds := pd.length
    obtain ⟨⟨dx, eh⟩, sds, es, psd⟩ := id hh
    refine ⟨.ref l, rfl, l, _, rfl, sq (Same.refl H), rfl, _, rfl, ?_⟩
    by_cases hd : ds = []
    · subst hd
      cases pd
      exact iteT (q0 rfl)
    have nd : ¬ ((dds.map V.ref).length : Int) = 0 := fun z => by
      rw [List.length_map, lds] at z
      cases ds with
      | nil => exact hd rfl
      | cons a r =>
        rw [List.length_cons] at z
        omega
    refine ite2 (fun h => absurd (V.int.inj (of_decide_eq_true h)) nd) (fun _ => ?_)
    refine ⟨.ref ha, rfl, ha, dx, _, rfl, eh, rfl, ha, sl, cap, fr, Ms, now, M, rfl, hh, em, fun H1 dr dy sd s1 ndr nsd e1 h1 => ?_⟩
    refine ⟨.ref l, rfl, l, _, rfl, sq s1, fun J walk => for_it walk (fun i σ H2 => ∃ y fr2 Mi, σ = [some (.ref ha), some (.ref l), some (.ref dr), y] ∧ H2 dr = some (.ins C6 dy (dfF sd fr2 cap)) ∧ StAt C5 H2 sd Mi ∧ MoW Mi ∧ (Mi.length : Int) ≤ cap ∧ runP cap ds M = runP cap (ds.drop i) Mi ∧ runP cap (ds.take i) M = ((("" : Str), V.non), Mi) ∧ Same H H2)
      ⟨_, fr, M, rfl, e1, h1, mw, mcap, rfl, rfl, s1⟩ (fun i σ H2 _ ⟨_, _, _, _, _, _, _, _, _, _, sm⟩ => at1 s1 sm) ?_ ?_⟩
    · rintro i x σ H2 H2' _ ⟨y, fr2, Mi, rfl, ed, hst, mwi, mci, run, tk, sm⟩ ⟨rfl, hx⟩
      obtain ⟨dd, hdd, rfl⟩ : ∃ t, dds[i]? = some t ∧ V.ref t = x := by
        rw [List.getElem?_map] at hx
        exact Option.map_eq_some_iff.mp hx
      obtain ⟨d, hdi, hda⟩ := LiI.paired_get pd hdd
      obtain ⟨z1, dk⟩ := hda.same sm
      have z2 := sm _ _ (rest i d hdi (by rw [tk]))
      have dr1 : ds.drop i = d :: ds.drop (i + 1) := drop_at hdi
      rw [dr1] at run
      refine ⟨.ref dr, rfl, dr, dy, _, rfl, ed, rfl, .ref dd, rfl, dr, dy, sd, dd, d.1, fr2, cap, Mi, d.2, rfl, ed, hst, mwi.nd, mwi.w, by omega, z1, z2, dk, small_log2 cap0 cap60, fun h0 H3 fr3 ed3 hst3 kp => ?_, fun h0 => ?_⟩
      · refine ⟨_, fr3, _, rfl, ed3, hst3, stepP_w mwi dk, stepP_len mci, ?_, ?_, fun b o hb => kp _ _ (ne_of_none hb ndr) (ne_of_none hb nsd) (sm _ _ hb)⟩
        · rw [run]
          show (if (stepP cap d.1 d.2 Mi).1.1 = "" then _ else _) = _
          rw [if_pos h0]
        · rw [List.take_add_one, hdi]
          show runP cap (ds.take i ++ [d]) M = _
          rw [runP_snoc, tk, if_pos rfl, if_pos h0]
      · have e : runP cap ds M = stepP cap d.1 d.2 Mi := by
          rw [run]
          show (if (stepP cap d.1 d.2 Mi).1.1 = "" then _ else _) = _
          rw [if_neg h0]
        rw [e] at bad
        exact (bad h0).same sm
    · rintro σ H2 ⟨y, fr2, Mi, rfl, ed, hst, mwi, mci, run, _, sm⟩
      rw [List.length_map, lds, List.drop_length] at run
      rw [run] at good
      have good := good rfl hd
      have eh2 := sm _ _ eh
      have es2 := sm _ _ es
      refine ⟨.ref ha, rfl, ha, C7, dx, _, .ref sl, rfl, eh2, THa_.cl, THa_.nS, rfl, .ref ha, rfl, ha, C7, dx, _, .int (now : Int), rfl, eh2, THa_.cl, THa_.nW, rfl, (now : Int), 1, rfl, rfl, sl, _, now + 1, rfl, rfl, es2, ?_⟩
      have kA : Keep sl H2 (upd H2 sl (.lst ((sds.map V.ref).take (now + 1)))) := Keep.upd
      have eA : (upd H2 sl (.lst ((sds.map V.ref).take (now + 1)))) sl = some (.lst ((sds.map V.ref).take (now + 1))) := upd_same
      generalize upd H2 sl (.lst ((sds.map V.ref).take (now + 1))) = HA at kA eA
      have nas : ha ≠ sl := ne_of eh es (fun z => by cases z)
      have nds : dr ≠ sl := ne_of ed es2 (fun z => by cases z)
      have ehA := kA _ _ nas eh2
      have edA := kA _ _ nds ed
      have lsd := psd.length
      refine ⟨.ref ha, rfl, ha, C7, dx, _, .ref sl, rfl, ehA, THa_.cl, THa_.nS, rfl, .inl ⟨rfl, _, SqL.of eA⟩, .ref dr, rfl, dr, C6, dy, _, .ref sd, rfl, edA, TDf_.cl, TDf_.nS, rfl, sl, _, .ref sd, rfl, rfl, eA, sz_lt (by rw [List.length_take, List.length_map]; omega), ?_⟩
      have kB : Keep sl HA (upd HA sl (.lst ((sds.map V.ref).take (now + 1) ++ [.ref sd]))) := Keep.upd
      have eB : (upd HA sl (.lst ((sds.map V.ref).take (now + 1) ++ [.ref sd]))) sl = some (.lst ((sds.take (now + 1) ++ [sd]).map V.ref)) := by
        rw [upd_same, List.map_append, List.map_take]
        rfl
      generalize upd HA sl (.lst ((sds.map V.ref).take (now + 1) ++ [.ref sd])) = HB at kB eB
      have ehB := kB _ _ nas ehA
      have edB := kB _ _ nds edA
      refine ⟨.ref ha, rfl, ha, C7, dx, _, .int (now : Int), rfl, ehB, THa_.cl, THa_.nW, rfl, (now : Int), 1, rfl, rfl, dx, _, ehB, by show 4 < 1000; decide, ?_⟩
      have kC : Keep ha HB (upd HB ha (.ins C7 dx (putF "now" (.int ((now : Int) + 1)) (haF cap fr sl now)))) := Keep.upd
      have eC : (upd HB ha (.ins C7 dx (putF "now" (.int ((now : Int) + 1)) (haF cap fr sl now)))) ha = some (.ins C7 dx (haF cap fr sl (now + 1))) := upd_same
      generalize upd HB ha (.ins C7 dx (putF "now" (.int ((now : Int) + 1)) (haF cap fr sl now))) = HC at kC eC
      have nda : dr ≠ ha := fun z => by
        rw [z, eh2] at ed
        have z := Option.some.inj ed
        injection z with _ _ z
        cases z
      have edC := kC _ _ nda edB
      refine ⟨.ref dr, rfl, dr, C6, dy, _, .int fr2, rfl, edC, TDf_.cl, TDf_.nF, rfl, .ref ha, rfl, ha, C7, dx, _, rfl, eC, THa_.cl, THa_.nF, by show 4 < 1000; decide, ?_⟩
      have kD : Keep ha HC (upd HC ha (.ins C7 dx (putF "fresh" (.int fr2) (haF cap fr sl (now + 1))))) := Keep.upd
      have eD : (upd HC ha (.ins C7 dx (putF "fresh" (.int fr2) (haF cap fr sl (now + 1))))) ha = some (.ins C7 dx (haF cap fr2 sl (now + 1))) := upd_same
      generalize upd HC ha (.ins C7 dx (putF "fresh" (.int fr2) (haF cap fr sl (now + 1)))) = HD at kD eD
      have kp : ∀ b o, b ≠ ha → b ≠ sl → H2 b = some o → HD b = some o := fun b o n1 n2 hb => kD _ _ n1 (kC _ _ n1 (kB _ _ n2 (kA _ _ n2 hb)))
      refine good HD fr2 ⟨⟨dx, eD⟩, sds.take (now + 1) ++ [sd], kD _ _ nas.symm (kC _ _ nas.symm eB), ?_⟩ fun b o n1 n2 hb => kp b o n1 n2 (sm _ _ hb)
      exact Paired.more (hst.offH eh2 es2 kp) (Paired.takeP (Paired.mapP psd fun a b z => (z.same sm).offH eh2 es2 kp) _)
def spHaDo (C5 C7 : Addr) (c : H7) : Sp := fun vs H Q E => ∃ (ha sl dd : Addr) (cap fr : Int) (Ms : List MoL) (now : Nat) (M : MoL) (d : Addr × HDeed), vs = [.ref ha, .ref dd] ∧ HallAt C5 C7 H ha sl cap fr Ms now ∧ Ms[now]? = some M ∧ Ms.length ≤ 1000 ∧ MoW M ∧ (M.length : Int) ≤ cap ∧ 0 ≤ cap ∧ cap ≤ 60 ∧ DdAt H dd d ∧
  ((stepP cap d.1 d.2 M).1.1 = "" → ∀ (H' : Hp) (fr' : Int), HallAt C5 C7 H' ha sl cap fr' (Ms.take (now + 1) ++ [(stepP cap d.1 d.2 M).2]) (now + 1) → (∀ b o, b ≠ ha → b ≠ sl → H b = some o → H' b = some o) → Q .non H') ∧ ((stepP cap d.1 d.2 M).1.1 ≠ "" → TakesH c H E (stepP cap d.1 d.2 M).1.1 (stepP cap d.1 d.2 M).1.2)
theorem ok_HaDo {f fT : Addr} {fd fdT : FuncData} (F : Fun K "do" "Hall.do" s_Ha_do f fd) (THa_ : HaT K mg C7) (M_Ha_together : Meth K C7 "together" fT) (GX_Ha_together : FnOk P w K mg base (L2.CX P w) 11 fT fdT P_Ha_together (spHaTogether C5 C7 c)) (b_Ha_together : Binds K fdT P_Ha_together []) (B : Bn mg) : FnOk P w K mg base (L2.CX P w) 12 f fd P_Ha_do (spHaDo C5 C7 c) := by
  refine F.okX sc_Ha_do (fun vs H Q E h => ?_) (fun cdv A outer s H vs Q E hr h => ?_)
  · obtain ⟨ha, sl, dd, cap, fr, Ms, now, M, d, rfl, _⟩ := h
    rfl
  · obtain ⟨ha, sl, dd, cap, fr, Ms, now, M, d, rfl, hh, em, msl, mw, mcap, cap0, cap60, hda, good, bad⟩ := h
    obtain ⟨dx, eh⟩ := hh.1
    refine ⟨_, (pss_one (ps_expr (pe_meth (pv 0) THa_.cl M_Ha_together GX_Ha_together (hr.mono (by omega)) b_Ha_together .nil (passes_call (takes_of rfl rfl rfl rfl) fun _ _ _ _ h => h) (pa_cons (pe_lst (pa_cons (pv 1) pa_nil)) pa_nil)))), ?_⟩
    refine ⟨.ref ha, rfl, ha, dx, _, rfl, eh, rfl, .ref dd, rfl, by show 1 ≤ sizeLine; decide, fun l nl => ?_⟩
    have s1 := same_upd (H := H) (o := .lst [.ref dd]) nl
    have el : (upd H l (.lst [.ref dd])) l = some (.lst [.ref dd]) := upd_same
    generalize upd H l (.lst [.ref dd]) = H1 at s1 el
    obtain ⟨sds, es, _⟩ := hh.2
    have e1 : runP cap [d] M = if (stepP cap d.1 d.2 M).1.1 = ("" : Str) then ((("" : Str), V.non), (stepP cap d.1 d.2 M).2) else stepP cap d.1 d.2 M := rfl
    refine ⟨ha, sl, l, cap, fr, Ms, now, M, [dd], [d], rfl, hh.same s1, em, msl, mw, mcap, cap0, cap60, .inl el, .cons ⟨(hda.same s1).1, hda.2.2⟩ .nil, fun i d' hi _ => (by
      cases i with
      | zero =>
        cases hi
        exact (hda.same s1).2.1
      | succ i => simp at hi), (ne_of_none es nl).symm, fun z => (by cases z), fun h0 _ H' fr' hh' kp => ?_, fun h0 => ?_⟩
    · rw [e1] at h0 hh'
      by_cases z : (stepP cap d.1 d.2 M).1.1 = ""
      · rw [if_pos z] at hh'
        exact good z H' fr' hh' fun b o n1 n2 hb => kp b o n1 n2 (s1 _ _ hb)
      · rw [if_neg z] at h0
        exact absurd h0 z
    · rw [e1] at h0 ⊢
      by_cases z : (stepP cap d.1 d.2 M).1.1 = ""
      · rw [if_pos z] at h0
        exact absurd rfl h0
      · rw [if_neg z]
        exact (bad z).same s1
end
section
variable {X : Cx} {C5 C7 f : Addr} {fd : FuncData} {n : Nat}
theorem call_lenHa (cl : Cls X.K C7) (M : Meth X.K C7 "__len__" f) (F : FnOk X.prog X.w X.K X.mg X.base CX0 n f fd P_Ha_len (spHaLen C5 C7)) (hr : Room (n + 1) X.A) (hb : Binds X.K fd P_Ha_len []) : CallR X (.builtin "len") (fun xs H Q => spHaLen C5 C7 xs H Q E0) := by
  intro pins s σ H xs us Q I r hq
  obtain ⟨ha, sl, mo, fr, Ms, now, Mo, rfl, hh, em, ml, q⟩ := hq
  cases r with
  | cons r rr =>
  cases rr
  cases r
  obtain ⟨dx, eh⟩ := hh.1
  obtain ⟨mA, J, _⟩ := ins_get I.hok eh
  obtain ⟨od, J, _⟩ := J.look
  obtain ⟨m, hF⟩ := I.fr
  have r1 := hr.in1
  have e0 : Env0 X.prog X.w X.K X.mg X.base X.A.in1 X.stack s H := by
    have e := I.env0
    exact ⟨e.frames, e.mod, e.bs, e.bsz, e.funs, e.frf, e.hok, e.bare⟩
  refine PySem.W.len_K hF I.ok.mod.kin J M.at_ M.fn (wpAny_mono (wpAny_call (codeAny_mono (F.run X.A.in1 X.stack s H ⟨[.ref ha], []⟩ [.ref ha] [.ref ha] (fun v H' => v = .int (Mo.length : Nat) ∧ H' = H) E0 r1 e0 (by
    have := hb s [.ref ha] I.kIn rfl
    simpa using this) (.cons rfl .nil) ⟨ha, sl, mo, fr, Ms, now, Mo, rfl, hh, em, ml, rfl, rfl⟩) fun r s' hq => ?_)) (fun r s' z => z) fun _ _ e => e)
  cases r with
  | error e => exact pass0 pins σ H s e s' I hq
  | ok fl =>
    cases fl with
    | ret z =>
      obtain ⟨z, H', I', rz, ez, eh⟩ := I.after hq
      subst ez
      subst eh
      obtain ⟨tk, rfl⟩ := rz
      exact ⟨⟨by omega, by omega⟩, .int _, _, I'.tok _, ⟨_, rfl⟩, q⟩
    | next => exact False.elim hq
    | brk => exact False.elim hq
    | cont => exact False.elim hq
end

/-! ### _law_hall_looks -/
abbrev N_hall_looks : List Str := ["_law_hall", "_law_model", "_law_name", "_law_road"]
abbrev P_hall_looks : List Str := ["_law_hall", "_law_model"]
theorem sc_hall_looks : FnScope N_hall_looks P_hall_looks (defScope s_hall_looks) := ⟨rfl, rfl, rfl, by decide +kernel, rfl, by decide +kernel, by decide +kernel⟩
theorem str_ext {a b : Str} (h : a.cps.toList = b.cps.toList) : a = b := by
  cases a with
  | mk x =>
    cases b with
    | mk y =>
      have h : x.toList = y.toList := h
      exact congrArg Str.mk (Array.toList_inj.mp h)
theorem ltc_trans : ∀ {a b c : List Nat}, PySem.Spec.ltCps a b = true → PySem.Spec.ltCps b c = true → PySem.Spec.ltCps a c = true := fun {a b c} h1 h2 => by
  rw [PyProof.Rows.ltCps_eq] at h1 h2 ⊢
  exact decide_eq_true (List.lt_trans (of_decide_eq_true h1) (of_decide_eq_true h2))
theorem ltc_total {a b : List Nat} (h : a ≠ b) (n : PySem.Spec.ltCps b a = false) : PySem.Spec.ltCps a b = true := by
  rw [PyProof.Rows.ltCps_eq] at n ⊢
  have n := of_decide_eq_false n
  refine decide_eq_true ?_
  by_cases z : a < b
  · exact z
  · exact absurd (List.le_antisymm n z) h
theorem ltc_irr {a : List Nat} (h : PySem.Spec.ltCps a a = true) : False := by
  rw [PyProof.Rows.ltCps_eq] at h
  exact List.lt_irrefl _ (of_decide_eq_true h)
/-- rising texts without doubles -/
def RisT (ys : List Str) : Prop := ys.Pairwise fun a b => PySem.Spec.ltCps a.cps.toList b.cps.toList = true
theorem rist_chain : ∀ {p : Str} {ys : List Str}, PyProof.Rows.risingS p ys = true → (p :: ys).Nodup → RisT (p :: ys)
  | p, [], _, _ => List.pairwise_cons.mpr ⟨fun b hb => (by cases hb), .nil⟩
  | p, x :: r, h, nd => by
    have h : (!PySem.Spec.ltCps x.cps.toList p.cps.toList && PyProof.Rows.risingS x r) = true := h
    rw [Bool.and_eq_true] at h
    have h1 : PySem.Spec.ltCps x.cps.toList p.cps.toList = false := by
      have := h.1
      rw [Bool.not_eq_true'] at this
      exact this
    obtain ⟨n1, n2⟩ := List.nodup_cons.mp nd
    have ih := rist_chain h.2 n2
    have px := ltc_total (fun e => n1 (by rw [str_ext e]; exact List.mem_cons_self)) h1
    refine List.pairwise_cons.mpr ⟨fun b hb => ?_, ih⟩
    rcases List.mem_cons.mp hb with rfl | hb
    · exact px
    · exact ltc_trans px ((List.pairwise_cons.mp ih).1 b hb)
theorem rist_of {ys : List Str} (h : PyProof.Rows.sortedS ys = true) (nd : ys.Nodup) : RisT ys := by
  cases ys with
  | nil => exact .nil
  | cons p r => exact rist_chain h nd
theorem RisT.uniq : ∀ {ns ms : List Str}, RisT ns → RisT ms → (∀ n, n ∈ ns ↔ n ∈ ms) → ns = ms
  | [], [], _, _, _ => rfl
  | [], m :: r, _, _, h => absurd ((h m).mpr List.mem_cons_self) List.not_mem_nil
  | n :: r, [], _, _, h => absurd ((h n).mp List.mem_cons_self) List.not_mem_nil
  | n :: r, m :: q, h1, h2, h => by
    obtain ⟨a1, b1⟩ := List.pairwise_cons.mp h1
    obtain ⟨a2, b2⟩ := List.pairwise_cons.mp h2
    have e : n = m := by
      by_cases e : n = m
      · exact e
      · have x1 : n ∈ q := by
          rcases List.mem_cons.mp ((h n).mp List.mem_cons_self) with x | x
          · exact absurd x e
          · exact x
        have x2 : m ∈ r := by
          rcases List.mem_cons.mp ((h m).mpr List.mem_cons_self) with x | x
          · exact absurd x.symm e
          · exact x
        exact (ltc_irr (ltc_trans (a1 m x2) (a2 n x1))).elim
    subst e
    refine congrArg (n :: ·) (RisT.uniq b1 b2 fun x => ⟨fun hx => ?_, fun hx => ?_⟩)
    · rcases List.mem_cons.mp ((h x).mp (List.mem_cons_of_mem _ hx)) with z | z
      · subst z
        exact (ltc_irr (a1 _ hx)).elim
      · exact z
    · rcases List.mem_cons.mp ((h x).mpr (List.mem_cons_of_mem _ hx)) with z | z
      · subst z
        exact (ltc_irr (a2 _ hx)).elim
      · exact z
/-- one way to sort texts of which none is there twice -/
theorem sorted_uniq {ys zs ks : List Str} (py : ys.Perm ks) (sy : PyProof.Rows.sortedS ys = true) (pz : zs.Perm ks) (sz : PyProof.Rows.sortedS zs = true) (nd : ks.Nodup) : ys = zs :=
  RisT.uniq (rist_of sy (py.nodup_iff.mpr nd)) (rist_of sz (pz.nodup_iff.mpr nd)) fun n => by rw [py.mem_iff, pz.mem_iff]
theorem Std.ents30 {H : Hp} : ∀ {kvs : List (Key × V)} {S : StL}, Std H kvs S → ∃ ks : List (Int × Addr), kvs = ks.map entK ∧ Paired (fun (e : Int × Addr) (s : Int × M4) => e.1 = s.1 ∧ H e.2 = some (t4 s.2)) ks S
  | _, _, .nil => ⟨[], rfl, .nil⟩
  | _, _, .cons (a := kv) (b := s) ⟨h1, t, h2, h3⟩ r => by
    obtain ⟨ks, e, p⟩ := Std.ents30 r
    refine ⟨(s.1, t) :: ks, ?_, .cons ⟨rfl, h3⟩ p⟩
    rw [e, List.map_cons]
    congr 1
    exact Prod.ext h1 h2
theorem ents_keys30 {H : Hp} : ∀ {ks : List (Int × Addr)} {S : StL}, Paired (fun (e : Int × Addr) (s : Int × M4) => e.1 = s.1 ∧ H e.2 = some (t4 s.2)) ks S → ks.map (·.1) = S.map (·.1)
  | _, _, .nil => rfl
  | _, _, .cons h r => by rw [List.map_cons, List.map_cons, ents_keys30 r, h.1]
theorem ls_of {H H1 H5 : Hp} (k : Same H1 H5) : ∀ {as : List Addr} {ks : List (Int × Addr)}, Paired (fun (t : Addr) (e : Int × Addr) => H1 t = some (.tup [.int e.1, .ref e.2])) as ks → Same H1 H5 → ∀ {S : StL}, Paired (fun (e : Int × Addr) (s : Int × M4) => e.1 = s.1 ∧ H e.2 = some (t4 s.2)) ks S → Same H H5 → Ls H5 as S := by
  intro as ks pa
  induction pa with
  | nil =>
    intro _ S pk _
    cases pk
    exact .nil
  | cons h r ih =>
    intro _ S pk k2
    cases pk with
    | cons h2 r2 =>
      refine .cons ⟨_, ?_, k2 _ _ h2.2⟩ (ih k r2 k2)
      rw [← h2.1]
      exact k _ _ h
def sD (s : Int × M4) : PyData := .tuple [.int s.1, t4P s.2]
theorem Ls.rp30 {H : Hp} : ∀ {us : List Addr} {S : StL}, Ls H us S → RpAll H 2 (us.map V.ref) (S.map sD)
  | _, _, .nil => .nil _
  | _, _, .cons ⟨t, e1, e2⟩ r => .cons (.tup e1 (by show 2 ≤ 100000; decide) (.cons (.int _ _) (.cons (.tup e2 (by show 4 ≤ 100000; decide) (.cons (.int _ _) (.cons (.int _ _) (.cons (.int _ _) (.cons (.int _ _) (.nil _)))))) (.nil _)))) (Ls.rp30 r)
theorem rp_strs {H : Hp} {n : Nat} : ∀ ys : List Str, RpAll H n (ys.map V.str) (ys.map PyData.str)
  | [] => .nil _
  | _ :: r => .cons (.str _ _) (rp_strs r)
theorem mget_at {x : Str} {M : MoL} (h : x ∈ M.map (·.1)) : ∃ r, mget M x = some r := by
  cases e : mget M x with
  | some r => exact ⟨r, rfl⟩
  | none => exact absurd h (mget_none fun r z => by rw [e] at z; cases z)
def spLooks (C5 C7 : Addr) : Sp := fun vs H Q _ => ∃ (ha sl md : Addr) (mo fr : Int) (Ms : List MoL) (now : Nat) (M : MoL), vs = [.ref ha, .ref md] ∧ HallAt C5 C7 H ha sl mo fr Ms now ∧ Ms[now]? = some M ∧ MdAt H md M ∧ MoW M ∧ M.length ≤ 60 ∧ ∀ H', Same H H' → Q (.bl true) H'
section
variable {P : Program} {w : World} {K : PySem.W.Frag} {mg : Str → Option Value} {base : Heap} {C5 C7 : Addr}
theorem ok_looks {f fL fN fR fW fH fM : Addr} {fd fdL fdN fdR fdW fdH fdM : FuncData} (D : DefAt K mg "_law_hall_looks" s_hall_looks P_hall_looks f fd) (THa_ : HaT K mg C7) (TRo_ : RoT K mg C5) (D_like : DefAt K mg "_law_like" s_like P_like fL fdL)
    (M_Ha_names : Meth K C7 "names" fN) (G_Ha_names : FnOk P w K mg base CX0 1 fN fdN P_Ha_names (spHaNames C5 C7)) (b_Ha_names : Binds K fdN P_Ha_names []) (M_Ha_road : Meth K C7 "road" fR) (G_Ha_road : FnOk P w K mg base CX0 7 fR fdR P_Ha_road (spHaRoad C5 C7)) (b_Ha_road : Binds K fdR P_Ha_road [])
    (M_Ha_len : Meth K C7 "__len__" fW) (G_Ha_len : FnOk P w K mg base CX0 1 fW fdW P_Ha_len (spHaLen C5 C7)) (b_Ha_len : Binds K fdW P_Ha_len []) (M_Ro_length : Meth K C5 "length" fH) (G_Ro_length : FnOk P w K mg base CX0 1 fH fdH P_Ro_length (spRoLen C5)) (b_Ro_length : Binds K fdH P_Ro_length [])
    (M_Ro_matings : Meth K C5 "matings" fM) (G_Ro_matings : FnOk P w K mg base CX0 1 fM fdM P_Ro_matings (spMatings C5)) (b_Ro_matings : Binds K fdM P_Ro_matings []) (B : Bn mg) : FnOk P w K mg base CX0 8 f fd P_hall_looks (spLooks C5 C7) := by
  have G_like : FnOk P w K mg base CX0 5 fL fdL P_like (spLike 4) := ok_like D_like B 4
  refine D.F.ok sc_hall_looks (fun vs H Q E h => ?_) (fun cdv A outer s H vs Q E hr h => ?_)
  · obtain ⟨ha, sl, md, mo, fr, Ms, now, M, rfl, _⟩ := h
    rfl
  · obtain ⟨ha, sl, md, mo, fr, Ms, now, M, rfl, hh, em, hm, mw, ml, q⟩ := h
    have hu := hu_of hr
    refine ⟨_, (pss_cons (ps_if (PW.pt (pw_or (pt_not (pt_val (pe_call G_like (hr.mono (by omega)) (by rfl) D_like.g D_like.F.kp D_like.b .nil pass0 (pa_cons (pe_meth0 (pv 0) THa_.cl M_Ha_names G_Ha_names (hr.mono (by omega)) b_Ha_names .nil pass0) (pa_cons (pe_callB (call_sortedD rfl) (by rfl) B.sorted (by decide +kernel) (pa_cons (pv 1) pa_nil)) pa_nil))))) (pw_or1 (pt_not (pt_val (pe_call G_like (hr.mono (by omega)) (by rfl) D_like.g D_like.F.kp D_like.b .nil pass0 (pa_cons (pe_callB (call_lenHa THa_.cl M_Ha_len G_Ha_len (hr.mono (by omega)) b_Ha_len) (by rfl) B.len (by decide +kernel) (pa_cons (pv 0) pa_nil)) (pa_cons (pe_callB call_lenDk (by rfl) B.len (by decide +kernel) (pa_cons (pv 1) pa_nil)) pa_nil)))))))) (pss_one (ps_ret pe_bl)) pss_nil)
      (pss_cons (ps_for PassesOwn.never rfl (pi_list (pe_callB (call_sortedD rfl) (by rfl) B.sorted (by decide +kernel) (pa_cons (pv 1) pa_nil))) (pg_name (i := 2) sc_hall_looks.nd rfl (.inl rfl)) (pss_cons (ps_set (i := 3) sc_hall_looks.nd rfl (.inl rfl) (pe_meth (pv 0) THa_.cl M_Ha_road G_Ha_road (hr.mono (by omega)) b_Ha_road .nil pass0 (pa_cons (pv 2) pa_nil)))
      (pss_one (ps_if (pt_not (pt_val (pe_call G_like (hr.mono (by omega)) (by rfl) D_like.g D_like.F.kp D_like.b .nil pass0 (pa_cons (pe_lst (pa_cons (pe_meth0 (pv 3) TRo_.cl M_Ro_length G_Ro_length (hr.mono (by omega)) b_Ro_length .nil pass0) (pa_cons (pe_meth0 (pv 3) TRo_.cl M_Ro_matings G_Ro_matings (hr.mono (by omega)) b_Ro_matings .nil pass0) pa_nil))) (pa_cons (pe_lst (pa_cons (pe_ix ix_tup (pe_dget hu (pv 1) (pv 2) (fun _ _ => rfl)) pe_int (fun _ _ => rfl)) (pa_cons (pe_callB (cr_sortedK rfl) (by rfl) B.sorted (by decide +kernel) (pa_cons (pe_bm0 PySem.F.plainAttrs_dict PySem.F.slot_dict_items PySem.F.type_dict_items mt_itemsK (pe_ix ix_tup (pe_dget hu (pv 1) (pv 2) (fun _ _ => rfl)) pe_int (fun _ _ => rfl))) pa_nil)) pa_nil))) pa_nil))))) (pss_one (ps_ret pe_bl)) pss_nil))))
      (pss_one (ps_ret pe_bl)))), ?_⟩
    obtain ⟨dx, eh⟩ := hh.1
    have nd := mw.nd
    refine ⟨.ref ha, rfl, ha, dx, _, rfl, eh, rfl, ha, sl, mo, fr, Ms, now, M, rfl, hh, em, by omega, fun H1 p1 ys py sy s1 np1 ep1 => ?_⟩
    obtain ⟨kvs, ek, pk⟩ := hm.keepO (.same s1)
    have lk := pk.length
    refine ⟨.ref md, rfl, md, kvs, M.map (·.1), rfl, .inl ek, nm_keys (R := RmAt H1) pk, by rw [List.length_map]; omega, fun zs p2 pz sz np2 => ?_⟩
    have s2 := same_upd (H := H1) (o := .lst (zs.map V.str)) np2
    have e2 : (upd H1 p2 (.lst (zs.map V.str))) p2 = some (.lst (zs.map V.str)) := upd_same
    generalize upd H1 p2 (.lst (zs.map V.str)) = H2 at s2 e2
    have eyz : ys = zs := sorted_uniq py sy pz sz nd
    subst eyz
    have lys : ys.length ≤ 60 := by
      have := py.length_eq
      rw [List.length_map] at this
      omega
    refine ⟨.ref p1, .ref p2, .list (ys.map PyData.str), rfl, .lst (s2 _ _ ep1) (by rw [List.length_map]; omega) (rp_strs ys), .lst e2 (by rw [List.length_map]; omega) (rp_strs ys), fun H3 s3 => ?_⟩
    have sH3 := s1.trans (s2.trans s3)
    obtain ⟨kv3, ek3, pk3⟩ := hm.keepO (.same sH3)
    have lk3 := pk3.length
    refine ⟨true, rfl, iteF ⟨.ref ha, rfl, ha, sl, mo, fr, Ms, now, M, rfl, hh.same sH3, em, by omega, .ref md, rfl, md, kv3, rfl, ek3, .int (M.length : Nat), .int (kv3.length : Nat), .int (M.length : Nat), rfl, .int _ _, by rw [lk3]; exact .int _ _, fun H4 s4 => ⟨true, rfl, iteF ?_⟩⟩⟩
    have sH4 := sH3.trans s4
    obtain ⟨kv4, ek4, pk4⟩ := hm.keepO (.same sH4)
    have lk4 := pk4.length
    refine ⟨.ref md, rfl, md, kv4, M.map (·.1), rfl, .inl ek4, nm_keys (R := RmAt H4) pk4, by rw [List.length_map]; omega, fun ws p3 pw sw np3 => ?_⟩
    have s5 := same_upd (H := H4) (o := .lst (ws.map V.str)) np3
    have e5 : (upd H4 p3 (.lst (ws.map V.str))) p3 = some (.lst (ws.map V.str)) := upd_same
    generalize upd H4 p3 (.lst (ws.map V.str)) = H5 at s5 e5
    have sH5 := sH4.trans s5
    refine ⟨p3, rfl, ⟨_, SqL.of e5⟩, for_list (K := K) (a := p3) (xs := ws.map V.str) (fun i σ G => ∃ y3 y4, σ = [some (.ref ha), some (.ref md), y3, y4] ∧ Same H5 G) ⟨_, _, rfl, Same.refl H5⟩ (fun i σ G _ ⟨_, _, _, sm⟩ => SqL.of (sm _ _ e5)) ?_ ?_⟩
    · rintro i x σ G hx ⟨y3, y4, rfl, sm⟩
      obtain ⟨nm, hnm, rfl⟩ : ∃ t, ws[i]? = some t ∧ V.str t = x := by
        rw [List.getElem?_map] at hx
        exact Option.map_eq_some_iff.mp hx
      obtain ⟨r, er⟩ := mget_at (pw.mem_iff.mp (List.mem_of_getElem? hnm))
      have wf : RoW r.1 r.2 := mw.w _ (mget_mem er)
      have sG := sH5.trans sm
      have l24 : r.2.length ≤ 24 := wf.len
      refine ⟨.ref ha, rfl, ha, dx, _, rfl, sG _ _ eh, rfl, .str nm, rfl, ha, sl, mo, fr, Ms, now, M, nm, r, rfl, hh.same sG, em, er, wf, fun H6 g st k c s6 ng ra => ?_⟩
      obtain ⟨dx0, eg⟩ := ra.at_g
      refine ⟨.ref g, rfl, g, dx0, _, rfl, eg, rfl, g, dx0, st, r.1, k, c, rfl, eg, .ref g, rfl, g, dx0, _, rfl, eg, rfl, g, st, r.1, r.2, k, c, rfl, ra, wf.up, by omega, fun H7 t7 us s7 n7 e7 ls => ⟨by show 2 ≤ sizeLine; decide, fun L1 nL1 => ?_⟩⟩
      have lu := ls.length
      have s8 := same_upd (H := H7) (o := .lst [.int r.1, .ref t7]) nL1
      have e8 : (upd H7 L1 (.lst [.int r.1, .ref t7])) L1 = some (.lst [.int r.1, .ref t7]) := upd_same
      generalize upd H7 L1 (.lst [.int r.1, .ref t7]) = H8 at s8 e8
      have sH8 := sG.trans (s6.trans (s7.trans s8))
      obtain ⟨kv8, ek8, pk8⟩ := hm.keepO (.same sH8)
      obtain ⟨v8, hv8, tm, hd, kvm, rfl, etm, ehd, sdm⟩ := (mget_val nm pk8).2 r er
      have gt : DGet H8 md (.str nm) (some (.ref tm)) := by
        have z := DGet.k (k := Sum.inr nm) ek8
        rw [hv8] at z
        exact z
      obtain ⟨ks, rfl, pks⟩ := Std.ents30 sdm
      have lpk : ks.length = r.2.length := Paired.length pks
      refine ⟨.ref md, rfl, .str nm, rfl, md, .ref tm, rfl, gt, tm, _, 0, .int r.1, rfl, rfl, SqT.of etm, atI_nat (j := 0) rfl, ?_⟩
      refine ⟨.ref md, rfl, .str nm, rfl, md, .ref tm, rfl, gt, tm, _, 1, .ref hd, rfl, rfl, SqT.of etm, atI_nat (j := 1) rfl, .inr (.inr (.inl ⟨rfl, .inl ⟨_, ehd⟩⟩)), hd, _, rfl, rfl, ehd, fun p np => ?_⟩
      have s9 := same_upd (H := H8) (o := L2.DX.itemsO p hd) np
      refine ⟨p, hd, ks, rfl, upd_same, s9 _ _ ehd, by omega, by rw [ents_keys30 pks]; exact wf.up, fun HA L3 as sA nL3 eL3 pa => ⟨by show 2 ≤ sizeLine; decide, fun L2' nL2 => ?_⟩⟩
      have sB := same_upd (H := HA) (o := .lst [.int r.1, .ref L3]) nL2
      have eB : (upd HA L2' (.lst [.int r.1, .ref L3])) L2' = some (.lst [.int r.1, .ref L3]) := upd_same
      generalize upd HA L2' (.lst [.int r.1, .ref L3]) = HB at sB eB
      have s8B := s9.trans (sA.trans sB)
      have lsa : Ls HB as r.2 := ls_of sB pa sB pks s8B
      have lal := lsa.length
      refine ⟨.ref L1, .ref L2', .list [.int r.1, .list (r.2.map sD)], rfl, .lst (s8B _ _ e8) (by show 2 ≤ 100000; decide) (.cons (.int _ _) (.cons (.lst (s8B _ _ (s8 _ _ e7)) (by rw [List.length_map]; omega) (Ls.rp30 (ls.keep fun b xs hb => s8B _ _ (s8 _ _ hb)))) (.nil _))),
        .lst eB (by show 2 ≤ 100000; decide) (.cons (.int _ _) (.cons (.lst (sB _ _ eL3) (by rw [List.length_map]; omega) (Ls.rp30 lsa)) (.nil _))), fun HC sC => ⟨true, rfl, iteF ⟨_, _, rfl, sm.trans (s6.trans (s7.trans (s8.trans (s8B.trans sC))))⟩⟩⟩
    · rintro σ G ⟨y3, y4, rfl, sm⟩
      exact q G (sH5.trans sm)
end

/-! ### _law_hall_name, _law_hall_deed -/
abbrev N_hall_name : List Str := ["_law_draw"]
abbrev P_hall_name : List Str := ["_law_draw"]
theorem sc_hall_name : FnScope N_hall_name P_hall_name (defScope s_hall_name) := ⟨rfl, rfl, rfl, by decide +kernel, rfl, by decide +kernel, by decide +kernel⟩
abbrev N_hall_deed : List Str := ["_law_draw", "_law_model", "_law_name", "_law_word", "_law_length", "_law_some", "_law_row", "_law_held", "_law_small", "_law_number"]
abbrev P_hall_deed : List Str := ["_law_draw", "_law_model"]
theorem sc_hall_deed : FnScope N_hall_deed P_hall_deed (defScope s_hall_deed) := ⟨rfl, rfl, rfl, by decide +kernel, rfl, by decide +kernel, by decide +kernel⟩
def spHName : Sp := fun vs H Q _ => ∃ (d l : Addr), vs = [.ref d] ∧ Draw H d l ∧ ∀ (x : Str) (H' : Hp), x.length ≤ 6 → TxO x → Draw H' d l → Keep d H H' → Q (.str x) H'
/-- a deed that is drawn -/
def spHDeed : Sp := fun vs H Q _ => ∃ (d l md : Addr) (M : MoL) (b : Int), vs = [.ref d, .ref md] ∧ Draw H d l ∧ MdAt H md M ∧ MoG b M ∧ b ≤ 1000000 ∧ M.length ≤ 60 ∧
  ∀ (H' : Hp) (dd : Addr) (k : HDeed), DkW k → DkOk M k → H' dd = some (.tup ([.str k.word, .str k.name] ++ k.rest)) → Draw H' d l → Keep d H H' → Q (.ref dd) H'
theorem goodN_tx {x : Str} (h : goodN x = true) : TxO x := by
  unfold goodN at h
  rw [Bool.and_eq_true] at h
  have h2 := h.2
  unfold allL at h2
  rw [List.all_map] at h2
  show (x.cps.all fun c => decide (c < 0x110000)) = true
  rw [← Array.all_toList]
  refine List.all_eq_true.mpr fun c hc => ?_
  have h3 := List.all_eq_true.mp h2 c hc
  have h3 : 97 ≤ c ∧ c ≤ 122 := of_decide_eq_true h3
  exact decide_eq_true (by omega)
theorem goodN_len {x : Str} (h : goodN x = true) : x.length ≤ 6 := by
  unfold goodN at h
  rw [Bool.and_eq_true] at h
  exact (of_decide_eq_true h.1).2
theorem draw_ne {H : Hp} {d l t : Addr} {xs : List V} (D : Draw H d l) (et : H t = some (.tup xs)) : t ≠ d := by
  obtain ⟨ns, i, z, s, W⟩ := D
  exact ne_of et W.at_d (fun z => by cases z)
/-- how long the road of a name is, as it is drawn by -/
def lenP (M : MoL) (x : Str) : Int := match mget M x with
  | some r => r.1
  | none => 5
theorem lst_if {σ : L2.St} {G : Hp} {Qc : VK} {b : Bool} (h : ∀ (ext : List V) (e : Addr) (G5 : Hp), (∀ y ∈ ext, ∃ z : Str, y = .str z ∧ z.length ≤ 1000 ∧ TxO z) → ext.length ≤ 3 → Same G G5 → G5 e = some (.lst ext) → Qc (.ref e) G5) :
    if b = true then L2.tLst (tCons (tC (.str "A")) (tCons (tC (.str "abcdefg")) (tCons (tC (.str "")) tNil))) σ G Qc else L2.tLst tNil σ G Qc := by
  refine ite2 (fun _ => ⟨by show 3 ≤ sizeLine; decide, fun e ne => h _ e _ (fun y hy => ?_) (by decide) (same_upd ne) upd_same⟩) (fun _ => ⟨by show 0 ≤ sizeLine; decide, fun e ne => h _ e _ (fun y hy => by cases hy) (by decide) (same_upd ne) upd_same⟩)
  simp only [List.mem_cons, List.not_mem_nil, or_false] at hy
  rcases hy with rfl | rfl | rfl
  · exact ⟨_, rfl, by decide, by unfold TxO; decide +kernel⟩
  · exact ⟨_, rfl, by decide, by unfold TxO; decide +kernel⟩
  · exact ⟨_, rfl, by decide, by unfold TxO; decide +kernel⟩
theorem two_if {σ : L2.St} {G : Hp} {Qc : VK} {b : Bool} (h : ∀ j : Int, (j = 1 ∨ (j = 2 ∧ b = true)) → Qc (.int j) G) : if b = true then tC (.int 2) σ G Qc else tC (.int 1) σ G Qc := by
  cases b with
  | true => exact iteT (h 2 (.inr ⟨rfl, rfl⟩))
  | false => exact iteF (h 1 (.inl rfl))
theorem std_keysI {H : Hp} : ∀ {kvs : List (Key × V)} {S : StL}, Std H kvs S → kvs.map (·.1) = (S.map (·.1)).map Sum.inl
  | _, _, .nil => rfl
  | _, _, .cons h r => by rw [List.map_cons, List.map_cons, List.map_cons, h.1, std_keysI r]
section
variable {P : Program} {w : World} {K : PySem.W.Frag} {mg : Str → Option Value} {base : Heap}
theorem ok_hname {f fA fP : Addr} {fd fdA fdP : FuncData} (D : DefAt K mg "_law_hall_name" s_hall_name P_hall_name f fd) (D_any : DefAt K mg "_law_any" s_any P_any fA fdA) (D_pull : DefAt K mg "_law_pull" s_pull P_pull fP fdP) (B : Bn mg) : FnOk P w K mg base CX0 3 f fd P_hall_name spHName := by
  have G_any : FnOk P w K mg base CX0 2 fA fdA P_any spAny := ok_any D_any D_pull B
  refine D.F.ok sc_hall_name (fun vs H Q E h => ?_) (fun cdv A outer s H vs Q E hr h => ?_)
  · obtain ⟨d, l, rfl, _⟩ := h
    rfl
  · obtain ⟨d, l, rfl, hD, q⟩ := h
    refine ⟨_, (pss_one (ps_ret (pe_call G_any (hr.mono (by omega)) (by rfl) D_any.g D_any.F.kp D_any.b .nil pass0 (pa_cons (pv 0) (pa_cons (pe_lst (pa_cons pe_str (pa_cons pe_str (pa_cons pe_str (pa_cons pe_str (pa_cons pe_str (pa_cons pe_str (pa_cons pe_str (pa_cons pe_str pa_nil))))))))) pa_nil))))), ?_⟩
    refine ⟨.ref d, rfl, by show 8 ≤ sizeLine; decide, fun L nL => ?_⟩
    refine ⟨d, l, L, _, rfl, hD.same (same_upd nL), upd_same, hD.ne_new nL, by decide, by decide, fun x G hx D2 k2 => ?_⟩
    obtain ⟨y, rfl, hy, ty⟩ : ∃ y : Str, x = .str y ∧ y.length ≤ 6 ∧ TxO y := by
      simp only [List.mem_cons, List.not_mem_nil, or_false] at hx
      rcases hx with rfl | rfl | rfl | rfl | rfl | rfl | rfl | rfl <;> exact ⟨_, rfl, by decide, by unfold TxO; decide +kernel⟩
    exact q y G hy ty D2 ((keepS (same_upd nL)).trans k2)
theorem ok_hdeed {f fA fP fN fO fM : Addr} {fd fdA fdP fdN fdO fdM : FuncData} (D : DefAt K mg "_law_hall_deed" s_hall_deed P_hall_deed f fd) (D_any : DefAt K mg "_law_any" s_any P_any fA fdA) (D_pull : DefAt K mg "_law_pull" s_pull P_pull fP fdP) (D_hall_name : DefAt K mg "_law_hall_name" s_hall_name P_hall_name fN fdN)
    (D_odd : DefAt K mg "_law_odd" s_odd P_odd fO fdO) (D_mating : DefAt K mg "_law_mating" s_mating P_mating fM fdM) (B : Bn mg) : FnOk P w K mg base CX0 5 f fd P_hall_deed spHDeed := by
  have G_any : FnOk P w K mg base CX0 2 fA fdA P_any spAny := ok_any D_any D_pull B
  have G_pull : FnOk P w K mg base CX0 1 fP fdP P_pull spPull := ok_pull D_pull B
  have G_hall_name : FnOk P w K mg base CX0 3 fN fdN P_hall_name spHName := ok_hname D_hall_name D_any D_pull B
  have G_odd : FnOk P w K mg base CX0 2 fO fdO P_odd spOddL := ok_oddL D_odd D_pull B
  have G_mating : FnOk P w K mg base CX0 2 fM fdM P_mating spMating := ok_mating D_mating D_pull B
  refine D.F.ok sc_hall_deed (fun vs H Q E h => ?_) (fun cdv A outer s H vs Q E hr h => ?_)
  · obtain ⟨d, l, md, M, b, rfl, _⟩ := h
    rfl
  · obtain ⟨d, l, md, M, b, rfl, hD, hm, mg', b6, ml, q⟩ := h
    have hu := hu_of hr
    refine ⟨_, (C8.pss_cut (ps_set (i := 2) sc_hall_deed.nd rfl (.inl rfl) (pe_call G_any (hr.mono (by omega)) (by rfl) D_any.g D_any.F.kp D_any.b .nil pass0 (pa_cons (pv 0) (pa_cons (pe_op op_cat (pe_callB (call_sortedD rfl) (by rfl) B.sorted (by decide +kernel) (pa_cons (pv 1) pa_nil)) (pe_lst (pa_cons (pe_call G_hall_name (hr.mono (by omega)) (by rfl) D_hall_name.g D_hall_name.F.kp D_hall_name.b .nil pass0 (pa_cons (pv 0) pa_nil)) pa_nil))) pa_nil))))
      (C8.pss_cut (ps_set (i := 3) sc_hall_deed.nd rfl (.inl rfl) (pe_call G_any (hr.mono (by omega)) (by rfl) D_any.g D_any.F.kp D_any.b .nil pass0 (pa_cons (pv 0) (pa_cons (pe_lst (pa_cons pe_str (pa_cons pe_str (pa_cons pe_str (pa_cons pe_str (pa_cons pe_str (pa_cons pe_str (pa_cons pe_str (pa_cons pe_str (pa_cons pe_str (pa_cons pe_str (pa_cons pe_str pa_nil)))))))))))) pa_nil))))
      (pss_cons (ps_if (pt_cmpR op_eq (pv 3) pe_str (nomark _)) (C8.pss_cut (ps_set (i := 4) sc_hall_deed.nd rfl (.inl rfl) (pe_call G_any (hr.mono (by omega)) (by rfl) D_any.g D_any.F.kp D_any.b .nil pass0 (pa_cons (pv 0) (pa_cons (pe_lst (pa_cons (pe_call G_pull (hr.mono (by omega)) (by rfl) D_pull.g D_pull.F.kp D_pull.b .nil pass0 (pa_cons (pv 0) (pa_cons pe_int pa_nil))) (pa_cons (pe_op op_pow pe_int pe_int) (pa_cons (pe_call G_odd (hr.mono (by omega)) (by rfl) D_odd.g D_odd.F.kp D_odd.b .nil pass0 (pa_cons (pv 0) pa_nil)) (pa_cons (pe_op op_add pe_int (pe_call G_pull (hr.mono (by omega)) (by rfl) D_pull.g D_pull.F.kp D_pull.b .nil pass0 (pa_cons (pv 0) (pa_cons pe_int pa_nil)))) pa_nil))))) pa_nil))))
      (pss_one (ps_ret (pe_tup (pa_cons pe_str (pa_cons (pe_call G_any (hr.mono (by omega)) (by rfl) D_any.g D_any.F.kp D_any.b .nil pass0 (pa_cons (pv 0) (pa_cons (pe_lst (pa_cons (pv 2) (pa_cons (pe_call G_hall_name (hr.mono (by omega)) (by rfl) D_hall_name.g D_hall_name.F.kp D_hall_name.b .nil pass0 (pa_cons (pv 0) pa_nil)) (pa_cons (pe_call G_hall_name (hr.mono (by omega)) (by rfl) D_hall_name.g D_hall_name.F.kp D_hall_name.b .nil pass0 (pa_cons (pv 0) pa_nil)) (pa_cons pe_str (pa_cons pe_str (pa_cons pe_str pa_nil))))))) pa_nil))) (pa_cons (pv 4) pa_nil))))))) pss_nil)
      (pss_cons (ps_if (pt_cmpR op_in_seq (pv 3) (pe_tup (pa_cons pe_str (pa_cons pe_str pa_nil))) (by rfl)) (pss_cons (ps_set (i := 5) sc_hall_deed.nd rfl (.inl rfl) (pe_op op_cat (pe_callB (call_sortedD rfl) (by rfl) B.sorted (by decide +kernel) (pa_cons (pv 1) pa_nil)) (pe_lst (pa_cons (pe_call G_hall_name (hr.mono (by omega)) (by rfl) D_hall_name.g D_hall_name.F.kp D_hall_name.b .nil pass0 (pa_cons (pv 0) pa_nil)) (pa_cons (pe_call G_hall_name (hr.mono (by omega)) (by rfl) D_hall_name.g D_hall_name.F.kp D_hall_name.b .nil pass0 (pa_cons (pv 0) pa_nil)) pa_nil)))))
      (pss_one (ps_ret (pe_tup (pa_cons (pv 3) (pa_cons (pv 2) (pa_cons (pe_call G_any (hr.mono (by omega)) (by rfl) D_any.g D_any.F.kp D_any.b .nil pass0 (pa_cons (pv 0) (pa_cons (pe_op op_cat (pv 5) (pe_ifExp (pt_cmpR op_eq (pv 3) pe_str (nomark _)) (pe_lst (pa_cons pe_str (pa_cons pe_str (pa_cons pe_str pa_nil)))) (pe_lst pa_nil))) pa_nil))) pa_nil))))))) pss_nil)
      (pss_cons (ps_if (pt_cmpR op_eq (pv 3) pe_str (nomark _)) (pss_one (ps_ret (pe_tup (pa_cons pe_str (pa_cons (pe_ifExp (pt_cmpR op_eq (pe_call G_pull (hr.mono (by omega)) (by rfl) D_pull.g D_pull.F.kp D_pull.b .nil pass0 (pa_cons (pv 0) (pa_cons pe_int pa_nil))) pe_int (nomark _)) (pe_call G_hall_name (hr.mono (by omega)) (by rfl) D_hall_name.g D_hall_name.F.kp D_hall_name.b .nil pass0 (pa_cons (pv 0) pa_nil)) (pv 2)) pa_nil))))) pss_nil)
      (C8.pss_cut (ps_set (i := 4) sc_hall_deed.nd rfl (.inl rfl) (pe_ifExp (pt_cmp (pc_din hu (pv 2) (pv 1))) (pe_ix ix_tup (pe_dget hu (pv 1) (pv 2) (fun _ _ => rfl)) pe_int (fun _ _ => rfl)) pe_int))
      (pss_cons (ps_if (pt_cmpR op_eq (pv 3) pe_str (nomark _)) (C8.pss_cut (ps_set (i := 6) sc_hall_deed.nd rfl (.inl rfl) (pe_call G_mating (hr.mono (by omega)) (by rfl) D_mating.g D_mating.F.kp D_mating.b .nil pass0 (pa_cons (pv 0) (pa_cons (pe_callB (call_max2 rfl) (by rfl) B.max (by decide +kernel) (pa_cons pe_int (pa_cons (pe_callB (call_min2 rfl) (by rfl) B.min (by decide +kernel) (pa_cons (pv 4) (pa_cons pe_int pa_nil))) pa_nil))) pa_nil))))
      (C8.pss_cut (ps_if (pt_cmpR op_eq (pe_call G_pull (hr.mono (by omega)) (by rfl) D_pull.g D_pull.F.kp D_pull.b .nil pass0 (pa_cons (pv 0) (pa_cons pe_int pa_nil))) pe_int (nomark _)) (pss_one (ps_set (i := 6) sc_hall_deed.nd rfl (.inl rfl) (pe_call G_any (hr.mono (by omega)) (by rfl) D_any.g D_any.F.kp D_any.b .nil pass0 (pa_cons (pv 0) (pa_cons (pe_lst (pa_cons (pe_tup (pa_cons pe_int (pa_cons (pv 4) (pa_cons pe_int (pa_cons pe_int pa_nil))))) (pa_cons (pe_tup (pa_cons (pe_un un_neg pe_int) (pa_cons pe_int (pa_cons pe_int (pa_cons pe_int pa_nil))))) (pa_cons (pe_tup (pa_cons pe_int (pa_cons pe_int (pa_cons pe_int (pa_cons pe_int pa_nil))))) (pa_cons (pe_tup (pa_cons pe_int (pa_cons pe_int (pa_cons pe_int (pa_cons pe_int pa_nil))))) (pa_cons (pe_tup (pa_cons pe_bl (pa_cons pe_int (pa_cons pe_int (pa_cons pe_int pa_nil))))) pa_nil)))))) pa_nil))))) pss_nil)
      (pss_one (ps_ret (pe_op op_catT (pe_tup (pa_cons pe_str (pa_cons (pv 2) pa_nil))) (pv 6)))))) pss_nil)
      (C8.pss_cut (ps_set (i := 7) sc_hall_deed.nd rfl (.inl rfl) (pe_ifExp (pt_cmp (pc_din hu (pv 2) (pv 1))) (pe_callB (call_sortedDI rfl) (by rfl) B.sorted (by decide +kernel) (pa_cons (pe_ix ix_tup (pe_dget hu (pv 1) (pv 2) (fun _ _ => rfl)) pe_int (fun _ _ => rfl)) pa_nil)) (pe_lst pa_nil)))
      (pss_cons (ps_if (pt_cmpR op_eq (pv 3) pe_str (nomark _)) (pss_one (ps_ret (pe_tup (pa_cons pe_str (pa_cons (pv 2) (pa_cons (pe_call G_any (hr.mono (by omega)) (by rfl) D_any.g D_any.F.kp D_any.b .nil pass0 (pa_cons (pv 0) (pa_cons (pe_op op_cat (pv 7) (pe_lst (pa_cons pe_int (pa_cons pe_int (pa_cons (pe_call G_odd (hr.mono (by omega)) (by rfl) D_odd.g D_odd.F.kp D_odd.b .nil pass0 (pa_cons (pv 0) pa_nil)) pa_nil))))) pa_nil))) pa_nil)))))) pss_nil)
      (pss_cons (ps_set (i := 8) sc_hall_deed.nd rfl (.inl rfl) (pe_lst (pa_cons pe_int (pa_cons pe_int (pa_cons pe_int (pa_cons pe_int (pa_cons (pv 4) (pa_cons (pe_callB (call_max2 rfl) (by rfl) B.max (by decide +kernel) (pa_cons pe_int (pa_cons (pe_op op_sub (pv 4) pe_int) pa_nil))) (pa_cons (pe_call G_odd (hr.mono (by omega)) (by rfl) D_odd.g D_odd.F.kp D_odd.b .nil pass0 (pa_cons (pv 0) pa_nil)) pa_nil)))))))))
      (C8.pss_cut (ps_set (i := 9) sc_hall_deed.nd rfl (.inl rfl) (pe_call G_any (hr.mono (by omega)) (by rfl) D_any.g D_any.F.kp D_any.b .nil pass0 (pa_cons (pv 0) (pa_cons (pv 8) pa_nil))))
      (C8.pss_cut (ps_if (pt_cmpR op_eq (pv 3) pe_str (nomark _)) (pss_one (ps_set (i := 9) sc_hall_deed.nd rfl (.inl rfl) (pe_call G_any (hr.mono (by omega)) (by rfl) D_any.g D_any.F.kp D_any.b .nil pass0 (pa_cons (pv 0) (pa_cons (pe_lst (pa_cons pe_int (pa_cons pe_int (pa_cons (pe_ifExp (pt_cmpR op_lt (pv 4) pe_int (nomark _)) pe_int pe_int) (pa_cons pe_int (pa_cons (pe_call G_odd (hr.mono (by omega)) (by rfl) D_odd.g D_odd.F.kp D_odd.b .nil pass0 (pa_cons (pv 0) pa_nil)) pa_nil)))))) pa_nil))))) pss_nil)
      (C8.pss_cut (ps_if (PW.pt (pw_and (pt_cmpR op_eq (pv 3) pe_str (nomark _)) (pw_and1 (pt_cmpR op_gt (pv 4) pe_int (nomark _))))) (pss_one (ps_set (i := 9) sc_hall_deed.nd rfl (.inl rfl) (pe_call G_any (hr.mono (by omega)) (by rfl) D_any.g D_any.F.kp D_any.b .nil pass0 (pa_cons (pv 0) (pa_cons (pe_lst (pa_cons (pv 4) (pa_cons pe_int (pa_cons (pe_call G_odd (hr.mono (by omega)) (by rfl) D_odd.g D_odd.F.kp D_odd.b .nil pass0 (pa_cons (pv 0) pa_nil)) pa_nil)))) pa_nil))))) pss_nil)
      (pss_one (ps_ret (pe_tup (pa_cons (pv 3) (pa_cons (pv 2) (pa_cons (pv 9) pa_nil))))))))))))))))))), ?_⟩
    have two : 2 ≤ sizeLine := by decide
    have nms : ∀ {ys : List Str}, ys.Perm (M.map (·.1)) → (∀ y ∈ ys, y.length ≤ 6 ∧ TxO y) ∧ ys.length ≤ 60 := fun {ys} p => ⟨fun y hy => by
      obtain ⟨m, hm, e⟩ := List.mem_map.mp (p.mem_iff.mp hy)
      rw [← e]
      exact ⟨goodN_len (mg'.nm m hm), goodN_tx (mg'.nm m hm)⟩, by
      have := p.length_eq
      rw [List.length_map] at this
      omega⟩
    refine ⟨fun σ G => ∃ x : Str, σ = [some (.ref d), some (.ref md), some (.str x), none, none, none, none, none, none, none] ∧ x.length ≤ 6 ∧ TxO x ∧ Draw G d l ∧ Keep d H G, ?_, ?_⟩
    · obtain ⟨kvs, ek, pk⟩ := id hm
      refine ⟨.ref d, rfl, .ref md, rfl, md, kvs, M.map (·.1), rfl, .inl ek, nm_keys (R := RmAt H) pk, by rw [List.length_map]; omega, fun ys p py sy np => ?_⟩
      have s1 := same_upd (H := H) (o := .lst (ys.map V.str)) np
      have e1 : (upd H p (.lst (ys.map V.str))) p = some (.lst (ys.map V.str)) := upd_same
      have pd := hD.ne_new np
      generalize upd H p (.lst (ys.map V.str)) = G1 at s1 e1
      refine ⟨.ref d, rfl, d, l, rfl, hD.same s1, fun x G2 hx tx D2 k2 => ⟨by show 1 ≤ sizeLine; decide, fun a na => ?_⟩⟩
      have s3 := same_upd (H := G2) (o := .lst [.str x]) na
      have e3 : (upd G2 a (.lst [.str x])) a = some (.lst [.str x]) := upd_same
      have D3 := D2.same s3
      generalize upd G2 a (.lst [.str x]) = G3 at s3 e3 D3
      obtain ⟨n1, n2⟩ := nms py
      refine ⟨p, a, _, _, rfl, rfl, s3 _ _ (k2 _ _ pd e1), e3, Nat.le_of_lt (sz_lt (by rw [List.length_map]; show ys.length + 1 < 100000; omega)), fun L nL => ?_⟩
      refine ⟨d, l, L, _, rfl, D3.same (same_upd nL), upd_same, D3.ne_new nL, by rw [List.length_append]; show 1 ≤ _ + 1; omega, by rw [List.length_append, List.length_map]; show _ + 1 ≤ 1000; omega, fun y G4 hy D4 k4 => ?_⟩
      obtain ⟨z, rfl, hz, tz⟩ : ∃ z : Str, y = .str z ∧ z.length ≤ 6 ∧ TxO z := by
        rcases List.mem_append.mp hy with h | h
        · obtain ⟨z, hz, e⟩ := List.mem_map.mp h
          exact ⟨z, e.symm, n1 z hz⟩
        · exact ⟨x, List.mem_singleton.mp h, hx, tx⟩
      exact ⟨z, rfl, hz, tz, D4, ((keepS s1).trans k2).trans ((keepS s3).trans ((keepS (same_upd nL)).trans k4))⟩
    rintro σ G ⟨x, rfl, hx, tx, hD1, k1⟩
    have hx3 : x.length ≤ 1000 := by omega
    refine ⟨fun σ G => ∃ wd : Str, σ = [some (.ref d), some (.ref md), some (.str x), some (.str wd), none, none, none, none, none, none] ∧ (wd = "lay" ∨ wd = "copy" ∨ wd = "behind" ∨ wd = "clear" ∨ wd = "mate" ∨ wd = "strike" ∨ wd = "grow" ∨ wd = "trim" ∨ wd = "swell") ∧ Draw G d l ∧ Keep d H G, ?_, ?_⟩
    · refine ⟨.ref d, rfl, by show 11 ≤ sizeLine; decide, fun L nL => ?_⟩
      refine ⟨d, l, L, _, rfl, hD1.same (same_upd nL), upd_same, hD1.ne_new nL, by decide, by decide, fun y G2 hy D2 k2 => ?_⟩
      have k2' := k1.trans ((keepS (same_upd nL)).trans k2)
      simp only [List.mem_cons, List.not_mem_nil, or_false] at hy
      rcases hy with rfl | rfl | rfl | rfl | rfl | rfl | rfl | rfl | rfl | rfl | rfl
      · exact ⟨_, rfl, .inl rfl, D2, k2'⟩
      · exact ⟨_, rfl, .inr (.inl rfl), D2, k2'⟩
      · exact ⟨_, rfl, .inr (.inr (.inr (.inr (.inl rfl)))), D2, k2'⟩
      · exact ⟨_, rfl, .inr (.inr (.inr (.inr (.inl rfl)))), D2, k2'⟩
      · exact ⟨_, rfl, .inr (.inr (.inr (.inr (.inl rfl)))), D2, k2'⟩
      · exact ⟨_, rfl, .inr (.inr (.inr (.inr (.inr (.inl rfl))))), D2, k2'⟩
      · exact ⟨_, rfl, .inr (.inr (.inr (.inr (.inr (.inr (.inl rfl)))))), D2, k2'⟩
      · exact ⟨_, rfl, .inr (.inr (.inr (.inr (.inr (.inr (.inr (.inl rfl))))))), D2, k2'⟩
      · exact ⟨_, rfl, .inr (.inr (.inr (.inr (.inr (.inr (.inr (.inr rfl))))))), D2, k2'⟩
      · exact ⟨_, rfl, .inr (.inr (.inl rfl)), D2, k2'⟩
      · exact ⟨_, rfl, .inr (.inr (.inr (.inl rfl))), D2, k2'⟩
    clear hD1 k1
    clear G
    rintro σ G ⟨wd, rfl, hwd, hD1, k1⟩
    have hmG := hm.keepO (KeepO.draw hD k1)
    -- names of the hall and two more, in a list
    have ite_no : ∀ {z : Str} {A B : Prop}, wd ≠ z → B → (if decide (V.str wd = V.str z) = true then A else B) := fun hz hB => ite2 (fun c => absurd (V.str.inj (of_decide_eq_true c)) hz) (fun _ => hB)
    refine ⟨.str wd, rfl, rfl, _, rfl, ?_⟩
    rcases hwd with rfl | hwd
    · -- lay
      refine ite2 (fun _ => ?_) (fun c => absurd (decide_eq_true rfl) c)
      refine ⟨fun σ G2 => ∃ v : V, σ = [some (.ref d), some (.ref md), some (.str x), some (.str "lay"), some v, none, none, none, none, none] ∧ IB v ∧ Draw G2 d l ∧ Keep d H G2, ?_, ?_⟩
      · refine ⟨.ref d, rfl, .ref d, rfl, d, l, 30, rfl, hD1, by decide, by decide, fun v1 G2 v0 v30 D2 k2 => ?_⟩
        refine ⟨10, 18, rfl, rfl, ⟨by decide, by decide, by decide⟩, .ref d, rfl, d, l, rfl, D2, fun v3 G3 ib3 _ D3 k3 => ?_⟩
        refine ⟨.ref d, rfl, d, l, 9, rfl, D3, by decide, by decide, fun v4 G4 w0 w9 D4 k4 => ⟨1, v4, rfl, rfl, by show 4 ≤ sizeLine; decide, fun L nL => ?_⟩⟩
        refine ⟨d, l, L, _, rfl, D4.same (same_upd nL), upd_same, D4.ne_new nL, Nat.le_of_ble_eq_true rfl, Nat.le_of_ble_eq_true rfl, fun y G5 hy D5 k5 => ?_⟩
        refine ⟨y, rfl, ?_, D5, k1.trans (k2.trans (k3.trans (k4.trans ((keepS (same_upd nL)).trans k5))))⟩
        simp only [List.mem_cons, List.not_mem_nil, or_false] at hy
        rcases hy with rfl | rfl | rfl | rfl
        · exact .int (by omega)
        · exact .int (by decide)
        · exact ib3
        · exact .int (by omega)
      rintro σ G2 ⟨v, rfl, ibv, D2, k2⟩
      refine ⟨.ref d, rfl, .str x, rfl, .ref d, rfl, d, l, rfl, D2, fun y1 G3 h1 t1 D3 k3 => ⟨.ref d, rfl, d, l, rfl, D3, fun y2 G4 h2 t2 D4 k4 => ⟨by show 6 ≤ sizeLine; decide, fun L nL => ?_⟩⟩⟩
      refine ⟨d, l, L, _, rfl, D4.same (same_upd nL), upd_same, D4.ne_new nL, Nat.le_of_ble_eq_true rfl, Nat.le_of_ble_eq_true rfl, fun y G5 hy D5 k5 => ?_⟩
      obtain ⟨z, rfl, hz, tz⟩ : ∃ z : Str, y = .str z ∧ z.length ≤ 1000 ∧ TxO z := by
        simp only [List.mem_cons, List.not_mem_nil, or_false] at hy
        rcases hy with rfl | rfl | rfl | rfl | rfl | rfl
        · exact ⟨_, rfl, by omega, tx⟩
        · exact ⟨_, rfl, by omega, t1⟩
        · exact ⟨_, rfl, by omega, t2⟩
        · exact ⟨_, rfl, by decide, by unfold TxO; decide +kernel⟩
        · exact ⟨_, rfl, by decide, by unfold TxO; decide +kernel⟩
        · exact ⟨_, rfl, by decide, by unfold TxO; decide +kernel⟩
      refine ⟨v, rfl, by show 3 ≤ sizeLine; decide, fun dd ndd => ?_⟩
      exact q _ dd (.lay z v) (.mkLay hz tz ibv) trivial upd_same (D5.same (same_upd ndd)) (k2.trans (k3.trans (k4.trans ((keepS (same_upd nL)).trans (k5.trans (keepS (same_upd ndd)))))))
    have n1 : wd ≠ "lay" := by rcases hwd with rfl | rfl | rfl | rfl | rfl | rfl | rfl | rfl <;> decide
    refine ite2 (fun c => absurd (V.str.inj (of_decide_eq_true c)) n1) (fun _ => ?_)
    refine ⟨.str wd, rfl, two, fun tt ntt => ?_⟩
    have st := same_upd (H := G) (o := .tup [.str "copy", .str "behind"]) ntt
    have et : (upd G tt (.tup [.str "copy", .str "behind"])) tt = some (.tup [.str "copy", .str "behind"]) := upd_same
    have hD2 := hD1.same st
    have k2 := k1.trans (keepS st)
    have hm2 := hmG.keepO (.same st)
    generalize upd G tt (.tup [.str "copy", .str "behind"]) = G2 at st et hD2 k2 hm2
    refine ⟨tt, _, rfl, .inr (SqT.of et), rfl, rfl, _, rfl, ?_⟩
    rcases (show (wd = "copy" ∨ wd = "behind") ∨ (wd = "clear" ∨ wd = "mate" ∨ wd = "strike" ∨ wd = "grow" ∨ wd = "trim" ∨ wd = "swell") by
      rcases hwd with h | h | h
      · exact .inl (.inl h)
      · exact .inl (.inr h)
      · exact .inr h) with hcb | hwd
    · -- copy, behind
      refine ite2 (fun _ => ?_) (fun c => absurd (show inV (V.str wd) [V.str "copy", V.str "behind"] = true from by rcases hcb with rfl | rfl <;> decide +kernel) c)
      obtain ⟨kvs, ek, pk⟩ := id hm2
      refine ⟨.ref md, rfl, md, kvs, M.map (·.1), rfl, .inl ek, nm_keys (R := RmAt G2) pk, by rw [List.length_map]; have := pk.length; omega, fun ys p py sy np => ?_⟩
      have s1 := same_upd (H := G2) (o := .lst (ys.map V.str)) np
      have e1 : (upd G2 p (.lst (ys.map V.str))) p = some (.lst (ys.map V.str)) := upd_same
      have pd := hD2.ne_new np
      generalize upd G2 p (.lst (ys.map V.str)) = G3 at s1 e1
      refine ⟨.ref d, rfl, d, l, rfl, hD2.same s1, fun y1 G4 h1 t1 D4 k4 => ⟨.ref d, rfl, d, l, rfl, D4, fun y2 G5 h2 t2 D5 k5 => ⟨two, fun a na => ?_⟩⟩⟩
      have s6 := same_upd (H := G5) (o := .lst [.str y1, .str y2]) na
      have e6 : (upd G5 a (.lst [.str y1, .str y2])) a = some (.lst [.str y1, .str y2]) := upd_same
      have D6 := D5.same s6
      generalize upd G5 a (.lst [.str y1, .str y2]) = G6 at s6 e6 D6
      obtain ⟨m1, m2⟩ := nms py
      refine ⟨p, a, _, _, rfl, rfl, s6 _ _ (k5 _ _ pd (k4 _ _ pd e1)), e6, Nat.le_of_lt (sz_lt (by rw [List.length_map]; show ys.length + 2 < 100000; omega)), fun L nL => ?_⟩
      have s7 := same_upd (H := G6) (o := .lst (ys.map V.str ++ [.str y1, .str y2])) nL
      have e7 : (upd G6 L (.lst (ys.map V.str ++ [.str y1, .str y2]))) L = some (.lst (ys.map V.str ++ [.str y1, .str y2])) := upd_same
      have D7 := D6.same s7
      generalize upd G6 L (.lst (ys.map V.str ++ [.str y1, .str y2])) = G7 at s7 e7 D7
      have k7 := k2.trans ((keepS s1).trans (k4.trans (k5.trans ((keepS s6).trans (keepS s7)))))
      have all7 : ∀ y ∈ ys.map V.str ++ [V.str y1, V.str y2], ∃ z : Str, y = .str z ∧ z.length ≤ 1000 ∧ TxO z := fun y hy => by
        rcases List.mem_append.mp hy with h | h
        · obtain ⟨z, hz, e⟩ := List.mem_map.mp h
          exact ⟨z, e.symm, Nat.le_trans (m1 z hz).1 (by decide), (m1 z hz).2⟩
        · simp only [List.mem_cons, List.not_mem_nil, or_false] at h
          rcases h with rfl | rfl
          · exact ⟨_, rfl, by omega, t1⟩
          · exact ⟨_, rfl, by omega, t2⟩
      refine ⟨.str wd, rfl, .str x, rfl, .ref d, rfl, .ref L, rfl, .str wd, rfl, rfl, _, rfl, lst_if fun ext e G8 hext lext s8 e8 => ?_⟩
      have l7 : (ys.map V.str ++ [V.str y1, V.str y2]).length = ys.length + 2 := by rw [List.length_append, List.length_map]; rfl
      refine ⟨L, e, _, _, rfl, rfl, s8 _ _ e7, e8, Nat.le_of_lt (sz_lt (by rw [l7]; omega)), fun L2 nL2 => ?_⟩
      have D8 := D7.same s8
      refine ⟨d, l, L2, _, rfl, D8.same (same_upd nL2), upd_same, D8.ne_new nL2, by rw [List.length_append, l7]; omega, by rw [List.length_append, l7]; omega, fun y G9 hy D9 k9 => ?_⟩
      obtain ⟨z, rfl, hz, tz⟩ : ∃ z : Str, y = .str z ∧ z.length ≤ 1000 ∧ TxO z := by
        rcases List.mem_append.mp hy with h | h
        · exact all7 y h
        · exact hext y h
      refine ⟨by show 3 ≤ sizeLine; decide, fun dd ndd => ?_⟩
      have kk := fun (o : HO) => k7.trans ((keepS s8).trans ((keepS (same_upd nL2)).trans (k9.trans (keepS (same_upd (o := o) ndd)))))
      rcases hcb with rfl | rfl
      · exact q _ dd (.copy x z) (.mkCopy hx3 tx hz tz) trivial upd_same (D9.same (same_upd ndd)) (kk _)
      · exact q _ dd (.behind x z) (.mkBehind hx3 tx hz tz) trivial upd_same (D9.same (same_upd ndd)) (kk _)
    have inv0 : inV (V.str wd) [V.str "copy", V.str "behind"] = false := by rcases hwd with rfl | rfl | rfl | rfl | rfl | rfl <;> decide +kernel
    refine ite2 (fun c => by rw [show inV (V.str wd) [V.str "copy", V.str "behind"] = false from inv0] at c; cases c) (fun _ => ?_)
    refine ⟨.str wd, rfl, rfl, _, rfl, ?_⟩
    rcases hwd with rfl | hwd
    · -- clear
      refine ite2 (fun _ => ?_) (fun c => absurd (decide_eq_true rfl) c)
      refine ⟨.ref d, rfl, d, l, 2, rfl, hD2, by decide, by decide, fun v G3 v0 v2 D3 k3 => ⟨rfl, _, rfl, ite2 (fun _ => ?_) (fun _ => ?_)⟩⟩
      · refine ⟨.ref d, rfl, d, l, rfl, D3, fun y G4 hy ty D4 k4 => ⟨two, fun dd ndd => ?_⟩⟩
        exact q _ dd (.clear y) (.mkClear (by omega) ty) trivial upd_same (D4.same (same_upd ndd)) (k2.trans (k3.trans (k4.trans (keepS (same_upd ndd)))))
      · refine ⟨.str x, rfl, two, fun dd ndd => ?_⟩
        exact q _ dd (.clear x) (.mkClear hx3 tx) trivial upd_same (D3.same (same_upd ndd)) (k2.trans (k3.trans (keepS (same_upd ndd))))
    have n2 : wd ≠ "clear" := by rcases hwd with rfl | rfl | rfl | rfl | rfl <;> decide
    refine ite2 (fun c => absurd (V.str.inj (of_decide_eq_true c)) n2) (fun _ => ?_)
    refine ⟨fun σ G => σ = [some (.ref d), some (.ref md), some (.str x), some (.str wd), some (.int (lenP M x)), none, none, none, none, none] ∧ Draw G d l ∧ Keep d H G, ?_, ?_⟩
    · obtain ⟨kvs, ek, pk⟩ := id hm2
      have mv := mget_val x pk
      refine ⟨.str x, rfl, .ref md, rfl, md, _, rfl, DGet.k (k := Sum.inr x) ek, _, rfl, ?_⟩
      unfold lenP
      cases em : mget M x with
      | none =>
        rw [(mv.1 em)]
        exact iteF ⟨rfl, hD2, k2⟩
      | some r =>
        obtain ⟨v, hv, t, hd, kv2, rfl, et, _⟩ := mv.2 r em
        rw [hv]
        have gt : DGet G2 md (.str x) (some (.ref t)) := by
          have z := DGet.k (k := Sum.inr x) ek
          rw [hv] at z
          exact z
        exact iteT ⟨.ref md, rfl, .str x, rfl, md, .ref t, rfl, gt, t, _, 0, .int r.1, rfl, rfl, SqT.of et, atI_nat (j := 0) rfl, rfl, hD2, k2⟩
    rintro σ3 G3 ⟨rfl, hD1, k1⟩
    clear hmG
    have hmG := hm.keepO (KeepO.draw hD k1)
    have lb : 0 ≤ lenP M x ∧ lenP M x ≤ 1000000000000000000 := by
      unfold lenP
      cases em : mget M x with
      | none => exact ⟨by show (0 : Int) ≤ 5; decide, by show (5 : Int) ≤ 1000000000000000000; decide⟩
      | some r => exact ⟨(mg'.w _ (mget_mem em)).n0, (mg'.w _ (mget_mem em)).n1⟩
    obtain ⟨l0, l1⟩ := lb
    generalize hlen : lenP M x = len at l0 l1 ⊢
    have lenIB : IB (.int len) := .int (by omega)
    refine ⟨.str wd, rfl, rfl, _, rfl, ?_⟩
    rcases hwd with rfl | hwd
    · -- mate
      refine ite2 (fun _ => ?_) (fun c => absurd (decide_eq_true rfl) c)
      refine ⟨fun σ G2 => ∃ (t : Addr) (o p m f : Int) (n : Int), σ = [some (.ref d), some (.ref md), some (.str x), some (.str "mate"), some (.int len), none, some (.ref t), none, none, none] ∧ G2 t = some (tup4 o p m f) ∧ Mat n o p m f ∧ n ≤ 20 ∧ Draw G2 d l ∧ Keep d H G2, ?_, ?_⟩
      · refine ⟨.ref d, rfl, .int len, rfl, len, 20, rfl, 1, _, rfl, d, l, _, rfl, hD1, ?_, ?_, fun G2 t o p m f D2 k2 et mt => ⟨t, o, p, m, f, _, rfl, et, mt, ?_, D2, k1.trans k2⟩⟩
        · split <;> omega
        · split <;> split at * <;> omega
        · split <;> split at * <;> omega
      rintro σ4 G4 ⟨t, o, p, m, f, n, rfl, et, mt, n20, D4, k4⟩
      refine ⟨fun σ G2 => ∃ (t : Addr) (qq : Q4), σ = [some (.ref d), some (.ref md), some (.str x), some (.str "mate"), some (.int len), none, some (.ref t), none, none, none] ∧ G2 t = some (.tup (q4 qq)) ∧ IBq qq ∧ numV qq.2.2.1 ≤ 200 ∧ Draw G2 d l ∧ Keep d H G2, ?_, ?_⟩
      · refine ⟨.ref d, rfl, d, l, 6, rfl, D4, by decide, by decide, fun v G5 v0 v6 D5 k5 => ⟨rfl, _, rfl, ite2 (fun _ => ?_) (fun _ => ?_)⟩⟩
        · have four : 4 ≤ sizeLine := by decide
          refine ⟨.ref d, rfl, .int len, rfl, four, fun t1 nt1 => ?_⟩
          have sa := same_upd (H := G5) (o := .tup [.int 0, .int len, .int 1, .int 0]) nt1
          have ea : (upd G5 t1 (.tup [.int 0, .int len, .int 1, .int 0])) t1 = some (.tup (q4 (.int 0, .int len, .int 1, .int 0))) := upd_same
          have Da := D5.same sa
          have n1' := D5.ne_new nt1
          generalize upd G5 t1 (.tup [.int 0, .int len, .int 1, .int 0]) = Ga at sa ea Da
          refine ⟨1, rfl, four, fun t2 nt2 => ?_⟩
          have sb := same_upd (H := Ga) (o := .tup [.int (-1), .int 0, .int 1, .int 1]) nt2
          have eb : (upd Ga t2 (.tup [.int (-1), .int 0, .int 1, .int 1])) t2 = some (.tup (q4 (.int (-1), .int 0, .int 1, .int 1))) := upd_same
          have Db := Da.same sb
          have n2' := Da.ne_new nt2
          generalize upd Ga t2 (.tup [.int (-1), .int 0, .int 1, .int 1]) = Gb at sb eb Db
          refine ⟨four, fun t3 nt3 => ?_⟩
          have sc := same_upd (H := Gb) (o := .tup [.int 0, .int 0, .int 0, .int 0]) nt3
          have ec : (upd Gb t3 (.tup [.int 0, .int 0, .int 0, .int 0])) t3 = some (.tup (q4 (.int 0, .int 0, .int 0, .int 0))) := upd_same
          have Dc := Db.same sc
          have n3' := Db.ne_new nt3
          generalize upd Gb t3 (.tup [.int 0, .int 0, .int 0, .int 0]) = Gc at sc ec Dc
          refine ⟨four, fun t4' nt4 => ?_⟩
          have sd := same_upd (H := Gc) (o := .tup [.int 0, .int 0, .int 1, .int 2]) nt4
          have ed : (upd Gc t4' (.tup [.int 0, .int 0, .int 1, .int 2])) t4' = some (.tup (q4 (.int 0, .int 0, .int 1, .int 2))) := upd_same
          have Dd := Dc.same sd
          have n4' := Dc.ne_new nt4
          generalize upd Gc t4' (.tup [.int 0, .int 0, .int 1, .int 2]) = Gd at sd ed Dd
          refine ⟨four, fun t5 nt5 => ?_⟩
          have se := same_upd (H := Gd) (o := .tup [.bl true, .int 0, .int 1, .int 0]) nt5
          have ee : (upd Gd t5 (.tup [.bl true, .int 0, .int 1, .int 0])) t5 = some (.tup (q4 (.bl true, .int 0, .int 1, .int 0))) := upd_same
          have De := Dd.same se
          have n5' := Dd.ne_new nt5
          generalize upd Gd t5 (.tup [.bl true, .int 0, .int 1, .int 0]) = Ge at se ee De
          refine ⟨by show 5 ≤ sizeLine; decide, fun L nL => ?_⟩
          have sf := same_upd (H := Ge) (o := .lst [.ref t1, .ref t2, .ref t3, .ref t4', .ref t5]) nL
          have ef : (upd Ge L (.lst [.ref t1, .ref t2, .ref t3, .ref t4', .ref t5])) L = some (.lst [.ref t1, .ref t2, .ref t3, .ref t4', .ref t5]) := upd_same
          have Df := De.same sf
          have nL' := De.ne_new nL
          generalize upd Ge L (.lst [.ref t1, .ref t2, .ref t3, .ref t4', .ref t5]) = Gf at sf ef Df
          have s6 := sb.trans (sc.trans (sd.trans (se.trans sf)))
          refine ⟨d, l, L, _, rfl, Df, ef, nL', Nat.le_of_ble_eq_true rfl, Nat.le_of_ble_eq_true rfl, fun y G9 hy D9 k9 => ?_⟩
          have kk := k4.trans (k5.trans ((keepS (sa.trans s6)).trans k9))
          have i0 : ∀ i : Int, i.natAbs < 100 → IB (.int i) := fun i h => .int (Nat.lt_of_lt_of_le h (by decide))
          have ibt : IB (.bl true) := .inr ⟨_, rfl⟩
          simp only [List.mem_cons, List.not_mem_nil, or_false] at hy
          rcases hy with rfl | rfl | rfl | rfl | rfl
          · exact ⟨t1, _, rfl, k9 _ _ n1' (s6 _ _ ea), ⟨i0 _ (by decide), lenIB, i0 _ (by decide), i0 _ (by decide)⟩, by show (1 : Int) ≤ 200; decide, D9, kk⟩
          · exact ⟨t2, _, rfl, k9 _ _ n2' ((sc.trans (sd.trans (se.trans sf))) _ _ eb), ⟨i0 _ (by decide), i0 _ (by decide), i0 _ (by decide), i0 _ (by decide)⟩, by show (1 : Int) ≤ 200; decide, D9, kk⟩
          · exact ⟨t3, _, rfl, k9 _ _ n3' ((sd.trans (se.trans sf)) _ _ ec), ⟨i0 _ (by decide), i0 _ (by decide), i0 _ (by decide), i0 _ (by decide)⟩, by show (0 : Int) ≤ 200; decide, D9, kk⟩
          · exact ⟨t4', _, rfl, k9 _ _ n4' ((se.trans sf) _ _ ed), ⟨i0 _ (by decide), i0 _ (by decide), i0 _ (by decide), i0 _ (by decide)⟩, by show (1 : Int) ≤ 200; decide, D9, kk⟩
          · exact ⟨t5, _, rfl, k9 _ _ n5' (sf _ _ ee), ⟨ibt, i0 _ (by decide), i0 _ (by decide), i0 _ (by decide)⟩, by show (1 : Int) ≤ 200; decide, D9, kk⟩
        · have := mt.m1
          have := mt.o0
          have := mt.o1
          have := mt.p0
          have := mt.p1
          have hf := mt.f01
          refine ⟨t, (.int o, .int p, .int m, .int f), rfl, k5 _ _ (draw_ne D4 et) et, ⟨.int (by omega), .int (by omega), .int (by omega), .int (by omega)⟩, by show m ≤ 200; omega, D5, k4.trans k5⟩
      rintro σ5 G5 ⟨t', qq, rfl, et', ibq, q200, D5, k5⟩
      refine ⟨.str x, rfl, two, fun u nu => ?_⟩
      have s6 := same_upd (H := G5) (o := .tup [.str "mate", .str x]) nu
      have e6 : (upd G5 u (.tup [.str "mate", .str x])) u = some (.tup [.str "mate", .str x]) := upd_same
      have D6 := D5.same s6
      generalize upd G5 u (.tup [.str "mate", .str x]) = G6 at s6 e6 D6
      refine ⟨.ref t', rfl, u, t', _, _, rfl, rfl, SqT.of e6, SqT.of (s6 _ _ et'), by simp, by show 6 ≤ sizeLine; decide, (fun z => by simp [q4] at z), fun _ dd ndd => ?_⟩
      have ibm : ∀ v ∈ (RDeed.mate qq).rest, IB v := fun v hv => by
        simp only [RDeed.rest, q4, List.mem_cons, List.not_mem_nil, or_false] at hv
        rcases hv with rfl | rfl | rfl | rfl
        · exact ibq.1
        · exact ibq.2.1
        · exact ibq.2.2.1
        · exact ibq.2.2.2
      exact q _ dd (.road x (.mate qq)) (.mkRoad hx3 tx ibm) (fun _ _ => q200) upd_same (D6.same (same_upd ndd)) (k5.trans ((keepS s6).trans (keepS (same_upd ndd))))
    have n3 : wd ≠ "mate" := by rcases hwd with rfl | rfl | rfl | rfl <;> decide
    refine ite2 (fun c => absurd (V.str.inj (of_decide_eq_true c)) n3) (fun _ => ?_)
    refine ⟨fun σ G => ∃ (hl : Addr) (hs : List Int), σ = [some (.ref d), some (.ref md), some (.str x), some (.str wd), some (.int len), none, none, some (.ref hl), none, none] ∧ G hl = some (.lst (hs.map V.int)) ∧ (∀ i ∈ hs, IB (.int i)) ∧ hs.length ≤ 24 ∧ hl ≠ d ∧ Draw G d l ∧ Keep d H G, ?_, ?_⟩
    · obtain ⟨kvs, ek, pk⟩ := id hmG
      have mv := mget_val x pk
      refine ⟨.str x, rfl, .ref md, rfl, md, _, rfl, DGet.k (k := Sum.inr x) ek, _, rfl, ?_⟩
      cases em : mget M x with
      | none =>
        rw [(mv.1 em)]
        exact iteF ⟨by show 0 ≤ sizeLine; decide, fun hl nhl => ⟨hl, [], rfl, upd_same, (fun i hi => by cases hi), Nat.zero_le _, hD1.ne_new nhl, hD1.same (same_upd nhl), k1.trans (keepS (same_upd nhl))⟩⟩
      | some r =>
        obtain ⟨v, hv, t, hd, kv2, rfl, et, ehd, sdm⟩ := mv.2 r em
        rw [hv]
        have gt : DGet G3 md (.str x) (some (.ref t)) := by
          have z := DGet.k (k := Sum.inr x) ek
          rw [hv] at z
          exact z
        have wf : RoW r.1 r.2 := mg'.w _ (mget_mem em)
        have sb : StB b r.2 := mg'.sb _ (mget_mem em)
        have l24 := wf.len
        have lsd := sdm.length
        refine iteT ⟨.ref md, rfl, .str x, rfl, md, .ref t, rfl, gt, t, _, 1, .ref hd, rfl, rfl, SqT.of et, atI_nat (j := 1) rfl, hd, kv2, r.2.map (·.1), rfl, .inl ehd, std_keysI sdm, by rw [List.length_map]; omega, fun ys hl py sy nhl => ?_⟩
        refine ⟨hl, ys, rfl, upd_same, fun i hi => ?_, by rw [py.length_eq, List.length_map]; exact l24, hD1.ne_new nhl, hD1.same (same_upd nhl), k1.trans (keepS (same_upd nhl))⟩
        obtain ⟨s, hs, e⟩ := List.mem_map.mp (py.mem_iff.mp hi)
        have h1 := (sb s hs).1
        have h2 := wf.low s hs
        rw [← e]
        exact .int (by omega)
    rintro σ4 G4 ⟨hl, hs, rfl, ehl, hsI, hs24, nhd, D4, k4⟩
    refine ⟨.str wd, rfl, rfl, _, rfl, ?_⟩
    rcases hwd with rfl | hwd
    · -- strike
      refine ite2 (fun _ => ?_) (fun c => absurd (decide_eq_true rfl) c)
      refine ⟨.str x, rfl, .ref d, rfl, .ref hl, rfl, .ref d, rfl, d, l, rfl, D4, fun v3 G5 ib3 _ D5 k5 => ⟨by show 3 ≤ sizeLine; decide, fun a na => ?_⟩⟩
      have s6 := same_upd (H := G5) (o := .lst [.int 0, .int 9, v3]) na
      have e6 : (upd G5 a (.lst [.int 0, .int 9, v3])) a = some (.lst [.int 0, .int 9, v3]) := upd_same
      have D6 := D5.same s6
      generalize upd G5 a (.lst [.int 0, .int 9, v3]) = G6 at s6 e6 D6
      refine ⟨hl, a, _, _, rfl, rfl, s6 _ _ (k5 _ _ nhd ehl), e6, Nat.le_of_lt (sz_lt (by rw [List.length_map]; show hs.length + 3 < 100000; omega)), fun L nL => ?_⟩
      have lL : (hs.map V.int ++ [V.int 0, V.int 9, v3]).length = hs.length + 3 := by rw [List.length_append, List.length_map]; rfl
      refine ⟨d, l, L, _, rfl, D6.same (same_upd nL), upd_same, D6.ne_new nL, by rw [lL]; omega, by rw [lL]; omega, fun y G9 hy D9 k9 => ?_⟩
      have iby : IB y := by
        rcases List.mem_append.mp hy with h | h
        · obtain ⟨i, hi, rfl⟩ := List.mem_map.mp h
          exact hsI i hi
        · simp only [List.mem_cons, List.not_mem_nil, or_false] at h
          rcases h with rfl | rfl | rfl
          · exact .int (by decide)
          · exact .int (by decide)
          · exact ib3
      have ibm : ∀ v ∈ (RDeed.strike y).rest, IB v := fun v hv => by rw [List.mem_singleton.mp hv]; exact iby
      refine ⟨by show 3 ≤ sizeLine; decide, fun dd ndd => ?_⟩
      exact q _ dd (.road x (.strike y)) (.mkRoad hx3 tx ibm) (fun _ _ => trivial) upd_same (D9.same (same_upd ndd)) (k4.trans (k5.trans ((keepS s6).trans ((keepS (same_upd nL)).trans (k9.trans (keepS (same_upd ndd)))))))
    have n4 : wd ≠ "strike" := by rcases hwd with rfl | rfl | rfl <;> decide
    refine ite2 (fun c => absurd (V.str.inj (of_decide_eq_true c)) n4) (fun _ => ?_)
    have iz : ∀ i : Int, i.natAbs < 100 → IB (.int i) := fun i h => .int (Nat.lt_of_lt_of_le h (by decide))
    refine ⟨.int len, rfl, .int len, rfl, len, 1, rfl, rfl, 0, len - 1, rfl, .ref d, rfl, d, l, rfl, D4, fun v3 G5 ib3 _ D5 k5 => ⟨by show 7 ≤ sizeLine; decide, fun sm nsm => ?_⟩⟩
    have s6 := same_upd (H := G5) (o := .lst [.int 0, .int 1, .int 2, .int 3, .int len, .int (if len - 1 > 0 then len - 1 else 0), v3]) nsm
    have e6 : (upd G5 sm (.lst [.int 0, .int 1, .int 2, .int 3, .int len, .int (if len - 1 > 0 then len - 1 else 0), v3])) sm = some (.lst [.int 0, .int 1, .int 2, .int 3, .int len, .int (if len - 1 > 0 then len - 1 else 0), v3]) := upd_same
    have D6 := D5.same s6
    have nsd := D5.ne_new nsm
    generalize upd G5 sm (.lst [.int 0, .int 1, .int 2, .int 3, .int len, .int (if len - 1 > 0 then len - 1 else 0), v3]) = G6 at s6 e6 D6
    have k6 := k4.trans (k5.trans (keepS s6))
    refine ⟨fun σ G => ∃ v : V, σ = [some (.ref d), some (.ref md), some (.str x), some (.str wd), some (.int len), none, none, some (.ref hl), some (.ref sm), some v] ∧ IB v ∧ Draw G d l ∧ Keep d H G, ?_, ?_⟩
    · refine ⟨.ref d, rfl, .ref sm, rfl, d, l, sm, _, rfl, D6, e6, nsd, Nat.le_of_ble_eq_true rfl, Nat.le_of_ble_eq_true rfl, fun y G7 hy D7 k7 => ⟨y, rfl, ?_, D7, k6.trans k7⟩⟩
      simp only [List.mem_cons, List.not_mem_nil, or_false] at hy
      rcases hy with rfl | rfl | rfl | rfl | rfl | rfl | rfl
      · exact iz _ (by decide)
      · exact iz _ (by decide)
      · exact iz _ (by decide)
      · exact iz _ (by decide)
      · exact lenIB
      · exact .int (by split <;> omega)
      · exact ib3
    rintro σ7 G7 ⟨v, rfl, ibv, D7, k7⟩
    refine ⟨fun σ G => ∃ v : V, σ = [some (.ref d), some (.ref md), some (.str x), some (.str wd), some (.int len), none, none, some (.ref hl), some (.ref sm), some v] ∧ IB v ∧ (wd = "swell" → ∀ r, mget M x = some r → RdOk r (.swell v)) ∧ Draw G d l ∧ Keep d H G, ?_, ?_⟩
    · refine ⟨.str wd, rfl, rfl, _, rfl, ?_⟩
      by_cases hsw : wd = "swell"
      · subst hsw
        refine ite2 (fun _ => ?_) (fun c => absurd (decide_eq_true rfl) c)
        refine ⟨.ref d, rfl, .int len, rfl, len, 40, rfl, rfl, _, rfl, two_if fun j hj => ?_⟩
        refine ⟨.ref d, rfl, d, l, rfl, D7, fun v4 G8 ib4 nb4 D8 k8 => ⟨by show 5 ≤ sizeLine; decide, fun L nL => ?_⟩⟩
        refine ⟨d, l, L, _, rfl, D8.same (same_upd nL), upd_same, D8.ne_new nL, Nat.le_of_ble_eq_true rfl, Nat.le_of_ble_eq_true rfl, fun y G9 hy D9 k9 => ?_⟩
        have kk := k7.trans (k8.trans ((keepS (same_upd nL)).trans k9))
        have one : ∀ r, mget M x = some r → RdOk r (.swell (.int 1)) := fun r er i e _ _ s hs => by
          cases e
          have := (mg'.sb _ (mget_mem er) s hs).2
          omega
        have hjj : IB (.int j) ∧ ∀ r, mget M x = some r → RdOk r (.swell (.int j)) := by
          rcases hj with rfl | ⟨rfl, hj⟩
          · exact ⟨iz _ (by decide), one⟩
          · refine ⟨iz _ (by decide), fun r er i e _ _ s hs => ?_⟩
            cases e
            have hj : len < 40 := of_decide_eq_true hj
            have : lenP M x = r.1 := by unfold lenP; rw [er]
            obtain ⟨_, a2, a3, a4, a5, a6⟩ := (mg'.w _ (mget_mem er)).ok s hs
            have a5 : s.2.1 + s.2.2.2.1 ≤ r.1 := a5
            omega
        simp only [List.mem_cons, List.not_mem_nil, or_false] at hy
        rcases hy with rfl | rfl | rfl | rfl | rfl
        · exact ⟨_, rfl, iz _ (by decide), fun _ => one, D9, kk⟩
        · exact ⟨_, rfl, iz _ (by decide), fun _ => one, D9, kk⟩
        · exact ⟨_, rfl, hjj.1, fun _ => hjj.2, D9, kk⟩
        · refine ⟨_, rfl, iz _ (by decide), fun _ r er i e i1 _ s hs => ?_, D9, kk⟩
          cases e
          omega
        · refine ⟨_, rfl, ib4, fun _ r er i e i1 i2 s hs => ?_, D9, kk⟩
          subst e
          have wf : RoW r.1 r.2 := mg'.w _ (mget_mem er)
          have n0 := wf.n0
          have big : 1000000000000000000 < i := by
            rcases Int.lt_or_le 1000000000000000000 i with z | z
            · exact z
            · exact absurd ⟨i, rfl, by omega, z⟩ nb4
          have z0 : r.1 = 0 := by
            rcases Int.lt_or_le 0 r.1 with z | z
            · have := Int.mul_le_mul_of_nonneg_right (show 1 ≤ r.1 by omega) (show 0 ≤ i by omega)
              omega
            · omega
          rw [z0] at wf
          rw [wf.none] at hs
          cases hs
      · exact ite2 (fun c => absurd (V.str.inj (of_decide_eq_true c)) hsw) (fun _ => ⟨v, rfl, ibv, fun h => absurd h hsw, D7, k7⟩)
    rintro σ8 G8 ⟨v, rfl, ibv, hsw, D8, k8⟩
    refine ⟨fun σ G => ∃ v : V, σ = [some (.ref d), some (.ref md), some (.str x), some (.str wd), some (.int len), none, none, some (.ref hl), some (.ref sm), some v] ∧ IB v ∧ (wd = "swell" → ∀ r, mget M x = some r → RdOk r (.swell v)) ∧ Draw G d l ∧ Keep d H G, ?_, ?_⟩
    · refine ⟨.str wd, rfl, rfl, _, rfl, ?_⟩
      by_cases htr : wd = "trim"
      · subst htr
        refine ite2 (fun _ => ?_) (fun c => absurd (decide_eq_true rfl) c)
        refine ⟨.int len, rfl, len, 60, rfl, rfl, _, rfl, ite2 (fun _ => ?_) (fun _ => ⟨v, rfl, ibv, hsw, D8, k8⟩)⟩
        refine ⟨.ref d, rfl, .int len, rfl, .ref d, rfl, d, l, rfl, D8, fun v4 G9 ib4 nb4 D9 k9 => ⟨by show 3 ≤ sizeLine; decide, fun L nL => ?_⟩⟩
        refine ⟨d, l, L, _, rfl, D9.same (same_upd nL), upd_same, D9.ne_new nL, Nat.le_of_ble_eq_true rfl, Nat.le_of_ble_eq_true rfl, fun y GA hy DA kA => ?_⟩
        refine ⟨y, rfl, ?_, fun z => absurd z (by decide), DA, k8.trans (k9.trans ((keepS (same_upd nL)).trans kA))⟩
        simp only [List.mem_cons, List.not_mem_nil, or_false] at hy
        rcases hy with rfl | rfl | rfl
        · exact lenIB
        · exact iz _ (by decide)
        · exact ib4
      · exact ite2 (fun c => absurd (V.str.inj (of_decide_eq_true c)) htr) (fun _ => iteF ⟨v, rfl, ibv, hsw, D8, k8⟩)
    rintro σ9 G9 ⟨v, rfl, ibv, hsw, D9, k9⟩
    refine ⟨.str wd, rfl, .str x, rfl, v, rfl, by show 3 ≤ sizeLine; decide, fun dd ndd => ?_⟩
    have kk := fun (o : HO) => k9.trans (keepS (same_upd (o := o) ndd))
    rcases hwd with rfl | rfl | rfl
    · have ibm : ∀ u ∈ (RDeed.grow v).rest, IB u := fun u hu => by rw [List.mem_singleton.mp hu]; exact ibv
      exact q _ dd (.road x (.grow v)) (.mkRoad hx3 tx ibm) (fun _ _ => trivial) upd_same (D9.same (same_upd ndd)) (kk _)
    · have ibm : ∀ u ∈ (RDeed.trim v).rest, IB u := fun u hu => by rw [List.mem_singleton.mp hu]; exact ibv
      exact q _ dd (.road x (.trim v)) (.mkRoad hx3 tx ibm) (fun _ _ => trivial) upd_same (D9.same (same_upd ndd)) (kk _)
    · have ibm : ∀ u ∈ (RDeed.swell v).rest, IB u := fun u hu => by rw [List.mem_singleton.mp hu]; exact ibv
      exact q _ dd (.road x (.swell v)) (.mkRoad hx3 tx ibm) (fun r er => hsw rfl r er) upd_same (D9.same (same_upd ndd)) (kk _)
end

/-! ### all seven refusals in one why -/
def I49 (c : H7) : Addr → Fds → Str → (V → Hp → Prop) → Prop := fun C fs word Fld => ∃ x, ErrH c word x C fs ∧ Fld = fun v _ => v = x
theorem whyI49 {P : Program} {w : World} {K : PySem.W.Frag} {mg : Str → Option Value} {base : Heap} {c : H7} {f CF CI fB fG fU fM fN fT fR a1 a2 a3 b0 b1 b2 b3 b4 b5 b6 c0 c1 c2 c3 c4 c5 c6 c7 c8 c9 c10 c11 c12 c13 c14 c15 c16 d0 d1 d3 e1 e2 e3 e4 e5 e6 g1 g2 g3 g4 g5 g6 h1 h2 h3 h4 h5 h6 : Addr} {fd fdB fdG fdU fdM fdN fdT fdR : FuncData} {NB NG NU NM NN NT NR : List Str}
    (D : DefAt K mg "_law_fields" s_fields P_fields f fd) (B : Bn mg) (Tb : ErT K mg CF c.CB fB fdB "BadNumber" NB) (Ob : OthBnE K mg c.CB a1 a2 a3) (m1 : PySem.W.findIn K (.ref c.CB) "number" = some none)
    (Tg : ErT K mg CF c.CG fG fdG "BadMating" NG) (Og : OthBgE K mg c.CG b0 b1 b2 b3 b4 b5 b6) (m2 : PySem.W.findIn K (.ref c.CG) "mating" = some none)
    (Tu : ErT K mg CF c.CU fU fdU "Full" NU) (Ou : OthFuE K mg c.CU c0 c1 c2 c3 c4 c5 c6 c7 c8 c9 c10 c11 c12 c13 c14 c15 c16) (m3 : PySem.W.findIn K (.ref c.CU) "most" = some none)
    (Tm : LrT K mg CF CI c.CM fM fdM "NoMating" NM) (Om : OthNm K mg c.CM d0 d1 d3) (m4 : PySem.W.findIn K (.ref c.CM) "number" = some none)
    (Tn : ErT K mg CF c.CN fN fdN "BadName" NN) (On : OtherBadName K mg c.CN e1 e2 e3 e4 e5 e6) (m5 : PySem.W.findIn K (.ref c.CN) "name" = some none)
    (Tt : ErT K mg CF c.CT fT fdT "Taken" NT) (Ot : OtherTaken K mg c.CT g1 g2 g3 g4 g5 g6) (m6 : PySem.W.findIn K (.ref c.CT) "name" = some none)
    (Tr : LrT K mg CF CI c.CR fR fdR "NoRoad" NR) (Or : OtherNoRoad K mg c.CR h1 h2 h3 h4 h5 h6) (m7 : PySem.W.findIn K (.ref c.CR) "name" = some none) :
    ∀ C fs word Fld, I49 c C fs word Fld → WhyI P w K mg base CF CI f fd C fs word Fld := by
  rintro C fs word Fld ⟨x, (⟨rfl, rfl, rfl⟩ | ⟨rfl, rfl, rfl⟩ | ⟨rfl, rfl, rfl⟩) | ⟨rfl, rfl, rfl⟩ | ⟨rfl, rfl, rfl⟩ | ⟨rfl, rfl, rfl⟩ | ⟨rfl, rfl, rfl⟩, rfl⟩
  · exact ⟨⟨true, Tb.m, fun z => by cases z⟩, Tb.x, Tb.e.w, bn_wordE x, fun v H H' _ h => h, fun p dd hH => ok_fieldsBnE x D B Tb Ob m1 hH⟩
  · exact ⟨⟨true, Tg.m, fun z => by cases z⟩, Tg.x, Tg.e.w, bg_wordE x, fun v H H' _ h => h, fun p dd hH => ok_fieldsBgE x D B Tg Og m2 hH⟩
  · exact ⟨⟨true, Tu.m, fun z => by cases z⟩, Tu.x, Tu.e.w, fu_wordE x, fun v H H' _ h => h, fun p dd hH => ok_fieldsFuE x D B Tu Ou m3 hH⟩
  · exact ⟨⟨false, Tm.m0, fun _ => Tm.m⟩, Tm.x, Tm.e.w, nm_word x, fun v H H' _ h => h, fun p dd hH => ok_fieldsNm x D B Tm Om m4 hH⟩
  · exact ⟨⟨true, Tn.m, fun z => by cases z⟩, Tn.x, Tn.e.w, erBadName_word x, fun v H H' _ h => h, fun p dd hH => ok_fieldserBadName x D B Tn On m5 hH⟩
  · exact ⟨⟨true, Tt.m, fun z => by cases z⟩, Tt.x, Tt.e.w, erTaken_word x, fun v H H' _ h => h, fun p dd hH => ok_fieldserTaken x D B Tt Ot m6 hH⟩
  · exact ⟨⟨false, Tr.m0, fun _ => Tr.m⟩, Tr.x, Tr.e.w, erNoRoad_word x, fun v H H' _ h => h, fun p dd hH => ok_fieldserNoRoad x D B Tr Or m7 hH⟩
/-! ### what is due, as data -/
def DuV (H : Hp) (v : V) : Prop := v = .non ∨ (∃ i, v = .int i) ∨ (∃ b, v = .bl b) ∨ (∃ x, v = .str x) ∨ ∃ (a : Addr) (q : Q4), v = .ref a ∧ H a = some (.tup (q4 q)) ∧ IBq q
theorem IB.duv {H : Hp} {v : V} (h : IB v) : DuV H v := by
  rcases h with ⟨i, e, _⟩ | ⟨b, e⟩
  · exact .inr (.inl ⟨i, e⟩)
  · exact .inr (.inr (.inl ⟨b, e⟩))
theorem IB.rp {H : Hp} {n : Nat} {v : V} (h : IB v) : ∃ D, Rp H n v D := by
  rcases h with ⟨i, rfl, _⟩ | ⟨b, rfl⟩
  · exact ⟨_, .int _ _⟩
  · exact ⟨_, .bl _ _⟩
theorem DuV.data {H : Hp} {v : V} (h : DuV H v) : ∃ D, Rp H 3 v D ∧ ∀ H' v2, Same H H' → VR H' v v2 → Rp H' 3 v2 D := by
  have triv : ∀ (D : PyData), (∀ G, Rp G 3 v D) → (∀ a, v ≠ .ref a) → ∃ D, Rp H 3 v D ∧ ∀ H' v2, Same H H' → VR H' v v2 → Rp H' 3 v2 D := fun D hD hn => ⟨D, hD H, fun H' v2 _ hv => by
    rcases hv with rfl | ⟨a, t, q, e, _⟩
    · exact hD H'
    · exact absurd e (hn a)⟩
  rcases h with rfl | ⟨i, rfl⟩ | ⟨b, rfl⟩ | ⟨x, rfl⟩ | ⟨a, q, rfl, ea, ib⟩
  · exact triv .none (fun _ => .non _) (fun a z => by cases z)
  · exact triv (.int i) (fun _ => .int _ _) (fun a z => by cases z)
  · exact triv (.bool b) (fun _ => .bl _ _) (fun a z => by cases z)
  · exact triv (.str x) (fun _ => .str _ _) (fun a z => by cases z)
  · obtain ⟨i1, i2, i3, i4⟩ := ib
    have data : ∀ {v : V}, IB v → ∃ D, ∀ G, Rp G 2 v D := fun h => by
      rcases h with ⟨i, rfl, _⟩ | ⟨b, rfl⟩
      · exact ⟨_, fun _ => .int _ _⟩
      · exact ⟨_, fun _ => .bl _ _⟩
    obtain ⟨D1, r1⟩ := data i1
    obtain ⟨D2, r2⟩ := data i2
    obtain ⟨D3, r3⟩ := data i3
    obtain ⟨D4, r4⟩ := data i4
    have all : ∀ (G : Hp) (t : Addr), G t = some (.tup (q4 q)) → Rp G 3 (.ref t) (.tuple [D1, D2, D3, D4]) := fun G t e => .tup e (by show 4 ≤ 100000; decide) (.cons (r1 G) (.cons (r2 G) (.cons (r3 G) (.cons (r4 G) (.nil _)))))
    refine ⟨_, all H a ea, fun H' v2 s hv => ?_⟩
    rcases hv with rfl | ⟨a', t, q', e1, rfl, e2, e3⟩
    · exact all H' a (s _ _ ea)
    · cases e1
      rw [s _ _ ea] at e2
      have e2 := Option.some.inj e2
      injection e2 with e2
      refine all H' t ?_
      rw [e3, e2]
theorem DuV.same {H H' : Hp} {v : V} (h : DuV H v) (s : Same H H') : DuV H' v := by
  rcases h with h | h | h | h | ⟨a, q, e, ea, ib⟩
  · exact .inl h
  · exact .inr (.inl h)
  · exact .inr (.inr (.inl h))
  · exact .inr (.inr (.inr (.inl h)))
  · exact .inr (.inr (.inr (.inr ⟨a, q, e, s _ _ ea, ib⟩)))
theorem roomP_v {H : Hp} {cap : Int} {M : MoL} {x : Str} : DuV H (roomP cap M x).2 := by
  unfold roomP
  split
  · split
    · exact .inr (.inr (.inr (.inl ⟨_, rfl⟩)))
    · split
      · exact .inr (.inl ⟨_, rfl⟩)
      · exact .inl rfl
  · exact .inr (.inr (.inr (.inl ⟨_, rfl⟩)))
theorem rdP_v {H : Hp} {a : Addr} {d : RDeed} {r : RdM} (ha : H a = some (.tup d.rest)) (ib : ∀ v ∈ d.rest, IB v) : DuV H (rdP a d r).1.2 := by
  cases d with
  | mate q =>
    have ibq : IBq q := ⟨ib q.1 (by simp [RDeed.rest, q4]), ib q.2.1 (by simp [RDeed.rest, q4]), ib q.2.2.1 (by simp [RDeed.rest, q4]), ib q.2.2.2 (by simp [RDeed.rest, q4])⟩
    unfold rdP
    dsimp only
    split
    · split
      · exact .inr (.inl ⟨_, rfl⟩)
      · exact .inl rfl
    · exact .inr (.inr (.inr (.inr ⟨a, q, rfl, ha, ibq⟩)))
  | strike v =>
    have ibv := ib v List.mem_cons_self
    rcases id ibv with ⟨i, rfl, _⟩ | ⟨b, rfl⟩
    · unfold rdP
      dsimp only
      split
      · exact .inl rfl
      · exact ibv.duv
    · exact ibv.duv
  | grow v =>
    have ibv := ib v List.mem_cons_self
    unfold rdP
    dsimp only
    split
    · exact ibv.duv
    · exact .inl rfl
  | trim v =>
    have ibv := ib v List.mem_cons_self
    unfold rdP
    dsimp only
    split
    · exact ibv.duv
    · exact .inl rfl
  | swell v =>
    have ibv := ib v List.mem_cons_self
    rcases id ibv with ⟨i, rfl, _⟩ | ⟨b, rfl⟩
    · unfold rdP
      dsimp only
      split
      · exact .inl rfl
      · exact ibv.duv
    · exact ibv.duv
theorem tbP_v {H : Hp} {r r2 : RdM} : DuV H (tbP r r2).1.2 := by
  unfold tbP
  split
  · exact .inr (.inl ⟨_, rfl⟩)
  · split
    · exact .inr (.inl ⟨_, rfl⟩)
    · exact .inl rfl
theorem stepP_v {H : Hp} {cap : Int} {a : Addr} {k : HDeed} {M : MoL} (ha : H a = some (.tup k.rest)) (dk : DkW k) : DuV H (stepP cap a k M).1.2 := by
  have nr : ∀ x : Str, DuV H (V.str x) := fun x => .inr (.inr (.inr (.inl ⟨_, rfl⟩)))
  cases k with
  | lay x v =>
    rw [stepP_lay]
    split
    · split
      · exact (dk.ly x v rfl).duv
      · exact roomP_v
    · exact roomP_v
  | copy x y =>
    cases ex : mget M x with
    | none =>
      rw [stepP_copy0 ex]
      exact nr _
    | some r =>
      rw [stepP_copy ex]
      split
      · exact roomP_v
      · exact roomP_v
  | clear x =>
    cases ex : mget M x with
    | none =>
      rw [stepP_clear0 ex]
      exact nr _
    | some r =>
      rw [stepP_clear ex]
      exact .inl rfl
  | behind x y =>
    cases ex : mget M x with
    | none =>
      rw [stepP_bh0 ex]
      exact nr _
    | some r =>
      cases ey : mget M y with
      | none =>
        rw [stepP_bh1 ex ey]
        exact nr _
      | some r2 =>
        rw [stepP_bh ex ey]
        split
        · exact tbP_v
        · exact tbP_v
  | road x d =>
    cases ex : mget M x with
    | none =>
      rw [stepP_rd0 ex]
      exact nr _
    | some r =>
      rw [stepP_rd ex]
      split
      · exact rdP_v ha (dk.rd x d rfl)
      · exact rdP_v ha (dk.rd x d rfl)
/-- a deed's rest, as the law's own steps take it -/
theorem DkW.restI {k : HDeed} (dk : DkW k) : ∀ x ∈ k.rest, IB x ∨ ∃ y : Str, x = .str y ∧ y.length ≤ 1000 := fun x hx => by
  cases k with
  | lay y v =>
    rw [List.mem_singleton.mp hx]
    exact .inl (dk.ly y v rfl)
  | copy y z =>
    rw [List.mem_singleton.mp hx]
    exact .inr ⟨z, rfl, dk.cp y z rfl⟩
  | clear y => cases hx
  | behind y z =>
    rw [List.mem_singleton.mp hx]
    exact .inr ⟨z, rfl, dk.bh y z rfl⟩
  | road y d => exact .inl (dk.rd y d rfl x hx)
/-- a step that is done has no value -/
theorem roomP_0 {cap : Int} {M : MoL} {x : Str} (h : (roomP cap M x).1 = "") : (roomP cap M x).2 = .non := by
  unfold roomP at h ⊢
  split at h
  · rename_i g
    rw [if_pos g]
    split at h
    · exact absurd h (by show ("Taken" : Str) ≠ ""; decide)
    · rename_i n
      rw [if_neg n]
      split at h
      · exact absurd h (by show ("Full" : Str) ≠ ""; decide)
      · rename_i m
        rw [if_neg m]
  · exact absurd h (by show ("BadName" : Str) ≠ ""; decide)
theorem tbP_0 {r r2 : RdM} (h : (tbP r r2).1.1 = "") : (tbP r r2).1.2 = .non := by
  unfold tbP at h ⊢
  split at h
  · exact absurd h (by show ("BadNumber" : Str) ≠ ""; decide)
  · rename_i n
    rw [if_neg n]
    split at h
    · exact absurd h (by show ("Full" : Str) ≠ ""; decide)
    · rename_i m
      rw [if_neg m]
theorem rdP_0 {a : Addr} {d : RDeed} {r : RdM} (ib : ∀ v ∈ d.rest, IB v) (h : (rdP a d r).1.1 = "") : (rdP a d r).1.2 = .non := by
  have ne1 : ("Full" : Str) ≠ "" := by decide
  have ne2 : ("BadMating" : Str) ≠ "" := by decide
  have ne3 : ("BadNumber" : Str) ≠ "" := by decide
  have ne4 : ("NoMating" : Str) ≠ "" := by decide
  cases d with
  | mate q =>
    unfold rdP at h ⊢
    dsimp only at h ⊢
    split at h
    · rename_i g
      rw [if_pos g]
      split at h
      · exact absurd h ne1
      · rename_i m
        rw [if_neg m]
    · exact absurd h ne2
  | strike v =>
    rcases ib v List.mem_cons_self with ⟨i, rfl, _⟩ | ⟨b, rfl⟩
    · unfold rdP at h ⊢
      dsimp only at h ⊢
      split at h
      · rename_i g
        rw [if_pos g]
      · exact absurd h ne4
    · exact absurd h ne4
  | grow v =>
    unfold rdP at h ⊢
    dsimp only at h ⊢
    split at h
    · exact absurd h ne3
    · rename_i g
      rw [if_neg g]
  | trim v =>
    unfold rdP at h ⊢
    dsimp only at h ⊢
    split at h
    · exact absurd h ne3
    · rename_i g
      rw [if_neg g]
  | swell v =>
    rcases ib v List.mem_cons_self with ⟨i, rfl, _⟩ | ⟨b, rfl⟩
    · unfold rdP at h ⊢
      dsimp only at h ⊢
      split at h
      · rename_i g
        rw [if_pos g]
      · exact absurd h ne3
    · exact absurd h ne3
theorem stepP_ok0 {cap : Int} {a : Addr} {k : HDeed} {M : MoL} (dk : DkW k) (h : (stepP cap a k M).1.1 = "") : (stepP cap a k M).1.2 = .non := by
  have nr : ("NoRoad" : Str) ≠ "" := by decide
  cases k with
  | lay x v =>
    rw [stepP_lay] at h ⊢
    split at h
    · rename_i h1
      rw [if_pos h1]
      split at h
      · exact absurd h (by show ("BadNumber" : Str) ≠ ""; decide)
      · rename_i h2
        rw [if_neg h2]
        exact roomP_0 h1
    · rename_i h1
      exact absurd h h1
  | copy x y =>
    cases ex : mget M x with
    | none =>
      rw [stepP_copy0 ex] at h
      exact absurd h nr
    | some r =>
      rw [stepP_copy ex] at h ⊢
      split at h
      · rename_i h1
        rw [if_pos h1]
        exact roomP_0 h1
      · rename_i h1
        exact absurd h h1
  | clear x =>
    cases ex : mget M x with
    | none =>
      rw [stepP_clear0 ex] at h
      exact absurd h nr
    | some r => rw [stepP_clear ex]
  | behind x y =>
    cases ex : mget M x with
    | none =>
      rw [stepP_bh0 ex] at h
      exact absurd h nr
    | some r =>
      cases ey : mget M y with
      | none =>
        rw [stepP_bh1 ex ey] at h
        exact absurd h nr
      | some r2 =>
        rw [stepP_bh ex ey] at h ⊢
        split at h
        · rename_i h1
          rw [if_pos h1]
          exact tbP_0 h1
        · rename_i h1
          exact absurd h h1
  | road x d =>
    cases ex : mget M x with
    | none =>
      rw [stepP_rd0 ex] at h
      exact absurd h nr
    | some r =>
      rw [stepP_rd ex] at h ⊢
      split at h
      · rename_i h1
        rw [if_pos h1]
        exact rdP_0 (dk.rd x d rfl) h1
      · rename_i h1
        exact absurd h h1
/-- one that is refused leaves the hall -/
theorem stepP_bad {cap : Int} {a : Addr} {k : HDeed} {M : MoL} (h : (stepP cap a k M).1.1 ≠ "") : (stepP cap a k M).2 = M := by
  cases k with
  | lay x v =>
    rw [stepP_lay] at h ⊢
    split
    · rename_i h1
      rw [if_pos h1] at h
      split
      · rfl
      · rename_i h2
        rw [if_neg h2] at h
        exact absurd h1 h
    · rfl
  | copy x y =>
    cases ex : mget M x with
    | none => rw [stepP_copy0 ex]
    | some r =>
      rw [stepP_copy ex] at h ⊢
      split
      · rename_i h1
        rw [if_pos h1] at h
        exact absurd h1 h
      · rfl
  | clear x =>
    cases ex : mget M x with
    | none => rw [stepP_clear0 ex]
    | some r =>
      rw [stepP_clear ex] at h
      exact absurd rfl h
  | behind x y =>
    cases ex : mget M x with
    | none => rw [stepP_bh0 ex]
    | some r =>
      cases ey : mget M y with
      | none => rw [stepP_bh1 ex ey]
      | some r2 =>
        rw [stepP_bh ex ey] at h ⊢
        split
        · rename_i h1
          rw [if_pos h1] at h
          exact absurd h1 h
        · rfl
  | road x d =>
    cases ex : mget M x with
    | none => rw [stepP_rd0 ex]
    | some r =>
      rw [stepP_rd ex] at h ⊢
      split
      · rename_i h1
        rw [if_pos h1] at h
        exact absurd h1 h
      · rfl

/-! ### Hall.steps -/
abbrev N_Ha_steps : List Str := ["self"]
abbrev P_Ha_steps : List Str := ["self"]
theorem sc_Ha_steps : FnScope N_Ha_steps P_Ha_steps (defScope s_Ha_steps) := ⟨rfl, rfl, rfl, by decide +kernel, rfl, by decide +kernel, by decide +kernel⟩
def spHaSteps (C5 C7 : Addr) : Sp := fun vs H Q _ => ∃ (ha sl : Addr) (mo fr : Int) (Ms : List MoL) (now : Nat), vs = [.ref ha] ∧ HallAt C5 C7 H ha sl mo fr Ms now ∧ Ms.length ≤ 1000 ∧ ∀ (t : Addr), H t = none → Q (.ref t) (upd H t (.tup [.int (now : Int), .int ((Ms.length : Int) - 1 - (now : Int))]))
section
variable {P : Program} {w : World} {K : PySem.W.Frag} {mg : Str → Option Value} {base : Heap} {C5 C7 : Addr}
theorem ok_HaSteps {f : Addr} {fd : FuncData} (F : Fun K "steps" "Hall.steps" s_Ha_steps f fd) (THa_ : HaT K mg C7) (B : Bn mg) : FnOk P w K mg base CX0 1 f fd P_Ha_steps (spHaSteps C5 C7) := by
  refine F.ok sc_Ha_steps (fun vs H Q E h => ?_) (fun cdv A outer s H vs Q E hr h => ?_)
  · obtain ⟨ha, sl, mo, fr, Ms, now, rfl, _⟩ := h
    rfl
  · obtain ⟨ha, sl, mo, fr, Ms, now, rfl, ⟨⟨dx, eh⟩, hs⟩, ml, q⟩ := h
    refine ⟨_, (pss_one (ps_ret (pe_tup (pa_cons (pe_fld (pv 0) rfl) (pa_cons (pe_op op_sub (pe_op op_sub (pe_callB call_len_seq (by rfl) B.len (by decide +kernel) (pa_cons (pe_fld (pv 0) rfl) pa_nil)) pe_int) (pe_fld (pv 0) rfl)) pa_nil))))), ?_⟩
    obtain ⟨sds, es, p⟩ := id hs
    have lp : (sds.map V.ref).length = Ms.length := by rw [List.length_map]; exact p.length
    rw [← lp] at q
    exact ⟨.ref ha, rfl, ha, C7, dx, _, .int (now : Int), rfl, eh, THa_.cl, THa_.nW, rfl, .ref ha, rfl, ha, C7, dx, _, .ref sl, rfl, eh, THa_.cl, THa_.nS, rfl, sl, _, rfl, .inl (SqL.of es), _, 1, rfl, rfl, .ref ha, rfl, ha, C7, dx, _, .int (now : Int), rfl, eh, THa_.cl, THa_.nW, rfl, _, (now : Int), rfl, rfl, by show 2 ≤ sizeLine; decide, fun t nt => q t nt⟩
end

/-! ### page: the text of a hall; _law_page: the law's own (behind hl14_looks) -/
abbrev N_page : List Str := ["hall", "rows", "name", "road", "number", "one", "other", "many", "turned"]
abbrev P_page : List Str := ["hall"]
theorem sc_page : FnScope N_page P_page (defScope s_page) := ⟨rfl, rfl, rfl, by decide +kernel, rfl, by decide +kernel, by decide +kernel⟩
abbrev N_law_page : List Str := ["_law_model", "_law_lines", "_law_name", "_law_number", "_law_one", "_law_other", "_law_many", "_law_flips", "_law_words"]
abbrev P_law_page : List Str := ["_law_model"]
theorem sc_law_page : FnScope N_law_page P_law_page (defScope s_law_page) := ⟨rfl, rfl, rfl, by decide +kernel, rfl, by decide +kernel, by decide +kernel⟩
theorem turnsB_ok {K : PySem.W.Frag} {a : Addr} (h : turnsB K a = true) : ∀ H : Hp, SqT K H a [.str "straight", .str "turned"] := fun H => by
  unfold turnsB at h
  cases e : K.lookup a with
  | none =>
    rw [e] at h
    cases h
  | some o =>
    rw [e] at h
    have h : ((match o.cls with | .type n => n == "tuple" | _ => false) && (match o.data with | .seq its _ => (match its.toList with | [.str x _, .str y _] => x == "straight" && y == "turned" | _ => false) | _ => false)) = true := h
    rw [Bool.and_eq_true] at h
    obtain ⟨h1, h2⟩ := h
    have hc : o.cls = .type "tuple" := by
      split at h1
      · rename_i n ec
        rw [ec, eq_of_beq h1]
      · cases h1
    split at h2
    · rename_i its n ed
      split at h2
      · rename_i x tx y ty el
        rw [Bool.and_eq_true] at h2
        rw [eq_of_beq h2.1, eq_of_beq h2.2] at el
        have sz : its.size = 2 := by
          rw [← Array.length_toList, el]
          rfl
        exact .inr ⟨o, its, n, e, hc, ed, by rw [sz]; decide, by rw [el]; exact .cons ⟨_, rfl⟩ (.cons ⟨_, rfl⟩ .nil)⟩
      · cases h2
    · cases h2
def turnTx (i : Int) : Str := if i = 1 then "turned" else "straight"
/-- a mating's row -/
def lineP (s : Int × M4) : Str := ((((((((((Str.empty ++ "mate ") ++ toString s.1) ++ " ") ++ toString s.2.1) ++ " ") ++ toString s.2.2.1) ++ " ") ++ toString s.2.2.2.1) ++ " ") ++ turnTx s.2.2.2.2)
/-- a road's row -/
def roadP (x : Str) (n : Int) : Str := (((Str.empty ++ "road ") ++ x) ++ " ") ++ toString n
def rowsOf (x : Str) (r : RdM) : List Str := roadP x r.1 :: r.2.map lineP
def rowsAt (M : MoL) (x : Str) : List Str := match mget M x with
  | some r => rowsOf x r
  | none => []
def pageRows (M : MoL) (ys : List Str) : List Str := (ys.map (rowsAt M)).flatten
theorem pageRows_snoc (M : MoL) (ys : List Str) (x : Str) : pageRows M (ys ++ [x]) = pageRows M ys ++ rowsAt M x := by
  unfold pageRows
  rw [List.map_append, List.flatten_append, List.map_singleton, List.flatten_singleton]
theorem rowsAt_of {M : MoL} {x : Str} {r : RdM} (h : mget M x = some r) : rowsAt M x = roadP x r.1 :: r.2.map lineP := by
  unfold rowsAt
  rw [h]
  rfl
/-- a law's hall whose text is short -/
structure PgW (M : MoL) : Prop where
  mw : MoW M
  nx : ∀ m ∈ M, m.1.length ≤ 1000
  ns : ∀ m ∈ M, ∀ s ∈ m.2.2, s.1 ≤ 1000000000000000000
  ml : M.length ≤ 60
theorem len_int {i : Int} (h0 : 0 ≤ i) (h1 : i ≤ 1000000000000000000) : (Str.ofString (toString i)).length ≤ 20 := PyProof.Rows.toString_length_le h0 (by decide) (by omega)
theorem log_int {i : Int} (h0 : 0 ≤ i) (h1 : i ≤ 1000000000000000000) : i.natAbs.log2 < 1920 := by
  have a : i.natAbs < 2 ^ 64 := by omega
  by_cases z : i.natAbs = 0
  · rw [z]
    decide
  · exact Nat.lt_trans ((Nat.log2_lt z).mpr a) (by decide)
/-- the numbers of a row -/
structure LnW (s : Int × M4) : Prop where
  a0 : 0 ≤ s.1
  a1 : s.1 ≤ 1000000000000000000
  b0 : 0 ≤ s.2.1
  b1 : s.2.1 ≤ 1000000000000000000
  c0 : 0 ≤ s.2.2.1
  c1 : s.2.2.1 ≤ 1000000000000000000
  d0 : 0 ≤ s.2.2.2.1
  d1 : s.2.2.2.1 ≤ 1000000000000000000
  tn : s.2.2.2.2 = 0 ∨ s.2.2.2.2 = 1
theorem PgW.ln {M : MoL} (h : PgW M) {x : Str} {r : RdM} (e : mget M x = some r) {s : Int × M4} (hs : s ∈ r.2) : LnW s := by
  have hm := mget_mem e
  have wf := h.mw.w _ hm
  have lo := wf.low s hs
  have up := h.ns _ hm s hs
  obtain ⟨t, o1, o2, o3, o4, o5⟩ := wf.ok s hs
  have n1 := wf.n1
  exact ⟨by omega, up, o2, by omega, o3, by omega, by omega, by omega, t⟩
theorem turn_len (i : Int) : (turnTx i).length ≤ 8 := by
  unfold turnTx
  split
  · show (Str.ofString "turned").length ≤ 8
    decide
  · show (Str.ofString "straight").length ≤ 8
    decide
theorem c_empty : Str.empty.length = 0 := by decide
theorem c_mate : (Str.ofString "mate ").length = 5 := by decide
theorem c_road : (Str.ofString "road ").length = 5 := by decide
theorem c_sp : (Str.ofString " ").length = 1 := by decide
theorem lineP_len {s : Int × M4} (h : LnW s) : (lineP s).length ≤ 100 := by
  have l1 := len_int h.a0 h.a1
  have l2 := len_int h.b0 h.b1
  have l3 := len_int h.c0 h.c1
  have l4 := len_int h.d0 h.d1
  have l5 := turn_len s.2.2.2.2
  unfold lineP
  simp only [Str.length_append, c_empty, c_mate, c_sp]
  omega
theorem roadP_len {x : Str} {n : Int} (hx : x.length ≤ 1000) (h0 : 0 ≤ n) (h1 : n ≤ 1000000000000000000) : (roadP x n).length ≤ 1100 := by
  have l1 := len_int h0 h1
  unfold roadP
  simp only [Str.length_append, c_empty, c_road, c_sp]
  omega
theorem rows_len {M : MoL} (h : PgW M) : ∀ ys : List Str, (pageRows M ys).length ≤ 25 * ys.length
  | [] => Nat.le_refl _
  | y :: r => by
    have ih := rows_len h r
    show (rowsAt M y ++ pageRows M r).length ≤ _
    rw [List.length_append, List.length_cons]
    have : (rowsAt M y).length ≤ 25 := by
      cases e : mget M y with
      | none =>
        unfold rowsAt
        rw [e]
        exact Nat.zero_le _
      | some q =>
        rw [rowsAt_of e, List.length_cons, List.length_map]
        have := (h.mw.w _ (mget_mem e)).len
        show q.2.length + 1 ≤ 25
        have : q.2.length ≤ 24 := this
        omega
    omega
theorem rows_b {M : MoL} (h : PgW M) (ys : List Str) : ∀ t ∈ pageRows M ys, t.length ≤ 1100 := fun t ht => by
  obtain ⟨l, hl, ht⟩ := List.mem_flatten.mp ht
  obtain ⟨y, hy, rfl⟩ := List.mem_map.mp hl
  cases e : mget M y with
  | none =>
    unfold rowsAt at ht
    rw [e] at ht
    cases ht
  | some q =>
    rw [rowsAt_of e] at ht
    have hm := mget_mem e
    have wf := h.mw.w _ hm
    rcases List.mem_cons.mp ht with rfl | ht
    · exact roadP_len (h.nx _ hm) wf.n0 wf.n1
    · obtain ⟨s, hs, rfl⟩ := List.mem_map.mp ht
      exact Nat.le_trans (lineP_len (h.ln e hs)) (by decide)
theorem sum_le_b {b : Nat} {ys : List Str} (h : ∀ y ∈ ys, y.length ≤ b) : (ys.map (·.length)).sum ≤ b * ys.length := by
  induction ys with
  | nil => simp
  | cons a r ih =>
    have h1 := h a List.mem_cons_self
    have h2 := ih fun y hy => h y (List.mem_cons_of_mem _ hy)
    rw [List.map_cons, List.sum_cons, List.length_cons, Nat.mul_succ]
    omega
theorem page_fits {M : MoL} (h : PgW M) {ys : List Str} (py : ys.Perm (M.map (·.1))) : ((pageRows M ys).map (·.length)).sum + (pageRows M ys).length * (Str.ofString "\n").length ≤ 16777216 := by
  have l1 := rows_len h ys
  have l2 := sum_le_b (rows_b h ys)
  have l3 := py.length_eq
  rw [List.length_map] at l3
  have ml := h.ml
  have c : (Str.ofString "\n").length = 1 := by decide
  rw [c]
  omega
/-- the law's words of a mating, joined -/
theorem lineP_law (s : Int × M4) : Str.ofString "mate " ++ Txt.join " " [Str.ofString (toString s.1), Str.ofString (toString s.2.1), Str.ofString (toString s.2.2.1), Str.ofString (toString s.2.2.2.1), turnTx s.2.2.2.2] = lineP s := by
  rw [TL.join_eq]
  unfold lineP
  simp only [Str.join, Str.empty_append, Str.append_assoc]
theorem roadP_law (x : Str) (n : Int) : ((Str.ofString "road " ++ x) ++ Str.ofString " ") ++ Str.ofString (toString n) = roadP x n := by
  unfold roadP
  rw [Str.empty_append]
theorem RoAt.keepO {C5 : Addr} {H H' : Hp} {g st : Addr} {n : Int} {S : StL} {k : V} {c : Int} (h : RoAt C5 H g st n S k c) (ko : KeepO H H') : RoAt C5 H' g st n S k c := by
  obtain ⟨⟨dx, e⟩, kvs, e1, e2⟩ := h
  exact ⟨⟨dx, ko _ _ e (fun _ z => by cases z) (fun _ z => by cases z)⟩, kvs, ko _ _ e1 (fun _ z => by cases z) (fun _ z => by cases z), e2.keep ko.tup⟩
theorem Ls.at54 {H : Hp} {us : List Addr} {S : StL} (h : Ls H us S) {j : Nat} {u : Addr} (e : us[j]? = some u) : ∃ s, S[j]? = some s ∧ LsR H u s := by
  have lt := (List.getElem?_eq_some_iff.mp e).1
  have l := h.length
  have lt2 : j < S.length := by omega
  have e2 : S[j]? = some S[j] := List.getElem?_eq_getElem lt2
  obtain ⟨u', e3, h3⟩ := paired_at h e2
  rw [e] at e3
  cases e3
  exact ⟨_, e2, h3⟩
def spPage (C5 C7 : Addr) : Sp := fun vs H Q _ => ∃ (ha sl : Addr) (mo fr : Int) (Ms : List MoL) (now : Nat) (M : MoL), vs = [.ref ha] ∧ HallAt C5 C7 H ha sl mo fr Ms now ∧ Ms[now]? = some M ∧ PgW M ∧
  ∀ (H' : Hp) (ys : List Str), ys.Perm (M.map (·.1)) → PyProof.Rows.sortedS ys = true → Same H H' → Q (.str (Txt.join "\n" (pageRows M ys))) H'
def spLawPage : Sp := fun vs H Q _ => ∃ (md : Addr) (M : MoL), vs = [.ref md] ∧ MdAt H md M ∧ PgW M ∧
  ∀ (H' : Hp) (ys : List Str), ys.Perm (M.map (·.1)) → PyProof.Rows.sortedS ys = true → Same H H' → Q (.str (Txt.join "\n" (pageRows M ys))) H'
section
variable {P : Program} {w : World} {K : PySem.W.Frag} {mg : Str → Option Value} {base : Heap} {C5 C7 : Addr}
theorem ok_page {f fN fR fH fM C_TURNS : Addr} {fd fdN fdR fdH fdM : FuncData} (D : DefAt K mg "page" s_page P_page f fd) (THa_ : HaT K mg C7) (TRo_ : RoT K mg C5)
    (M_Ha_names : Meth K C7 "names" fN) (G_Ha_names : FnOk P w K mg base CX0 1 fN fdN P_Ha_names (spHaNames C5 C7)) (b_Ha_names : Binds K fdN P_Ha_names []) (M_Ha_road : Meth K C7 "road" fR) (G_Ha_road : FnOk P w K mg base CX0 7 fR fdR P_Ha_road (spHaRoad C5 C7)) (b_Ha_road : Binds K fdR P_Ha_road [])
    (M_Ro_length : Meth K C5 "length" fH) (G_Ro_length : FnOk P w K mg base CX0 1 fH fdH P_Ro_length (spRoLen C5)) (b_Ro_length : Binds K fdH P_Ro_length [])
    (M_Ro_matings : Meth K C5 "matings" fM) (G_Ro_matings : FnOk P w K mg base CX0 1 fM fdM P_Ro_matings (spMatings C5)) (b_Ro_matings : Binds K fdM P_Ro_matings []) (g_TURNS : mg "TURNS" = some (.ref C_TURNS)) (TU : ∀ H : Hp, SqT K H C_TURNS [.str "straight", .str "turned"]) (B : Bn mg) : FnOk P w K mg base CX0 8 f fd P_page (spPage C5 C7) := by
  refine D.F.ok sc_page (fun vs H Q E h => ?_) (fun cdv A outer s H vs Q E hr h => ?_)
  · obtain ⟨ha, sl, mo, fr, Ms, now, M, rfl, _⟩ := h
    rfl
  · obtain ⟨ha, sl, mo, fr, Ms, now, M, rfl, hh, em, pw, q⟩ := h
    refine ⟨_, (pss_cons (ps_set (i := 1) sc_page.nd rfl (.inl rfl) (pe_lst pa_nil))
      (pss_cons (ps_for PassesOwn.never rfl (pi_list (pe_meth0 (pv 0) THa_.cl M_Ha_names G_Ha_names (hr.mono (by omega)) b_Ha_names .nil pass0)) (pg_name (i := 2) sc_page.nd rfl (.inl rfl)) (pss_cons (ps_set (i := 3) sc_page.nd rfl (.inl rfl) (pe_meth (pv 0) THa_.cl M_Ha_road G_Ha_road (hr.mono (by omega)) b_Ha_road .nil pass0 (pa_cons (pv 2) pa_nil)))
      (pss_cons (ps_expr (pe_bm PySem.F.plainAttrs_list PySem.F.slot_list_append PySem.F.type_list_append mt_append (pv 1) (pa_cons (pe_joined (.cons pe_str (.cons (pe_fmt (pv 2)) (.cons pe_str (.cons (pe_fmt (pe_meth0 (pv 3) TRo_.cl M_Ro_length G_Ro_length (hr.mono (by omega)) b_Ro_length .nil pass0)) .nil))))) pa_nil)))
      (pss_one (ps_for PassesOwn.never rfl (pi_list (pe_meth0 (pv 3) TRo_.cl M_Ro_matings G_Ro_matings (hr.mono (by omega)) b_Ro_matings .nil pass0)) (pg_tup (by rfl) (pgs_cons (pg_name (i := 4) sc_page.nd rfl (.inl rfl)) (pgs_cons (pg_tup (by rfl) (pgs_cons (pg_name (i := 5) sc_page.nd rfl (.inl rfl)) (pgs_cons (pg_name (i := 6) sc_page.nd rfl (.inl rfl)) (pgs_cons (pg_name (i := 7) sc_page.nd rfl (.inl rfl)) (pgs_cons (pg_name (i := 8) sc_page.nd rfl (.inl rfl)) pgs_nil))))) pgs_nil))) (pss_one (ps_expr (pe_bm PySem.F.plainAttrs_list PySem.F.slot_list_append PySem.F.type_list_append mt_append (pv 1) (pa_cons (pe_joined (.cons pe_str (.cons (pe_fmt (pv 4)) (.cons pe_str (.cons (pe_fmt (pv 5)) (.cons pe_str (.cons (pe_fmt (pv 6)) (.cons pe_str (.cons (pe_fmt (pv 7)) (.cons pe_str (.cons (pe_fmt (pe_ix ix_tup (pe_glob (v := .ref C_TURNS) (by rfl) g_TURNS rfl) (pv 8) (fun _ _ => rfl))) .nil))))))))))) pa_nil)))))))))
      (pss_one (ps_ret (pe_join pe_str (pv 1)))))), ?_⟩
    obtain ⟨dx, eh⟩ := hh.1
    obtain ⟨sds, esl, _⟩ := id hh.2
    have big : 1000000 ≤ sizeLine := by decide
    have ml := pw.ml
    refine ⟨Nat.zero_le _, fun L nL => ?_⟩
    have nsl : sl ≠ L := ne_of_none esl nL
    have nha : ha ≠ L := ne_of_none eh nL
    have s1 := same_upd (H := H) (o := .lst []) nL
    have eL : (upd H L (.lst [])) L = some (.lst []) := upd_same
    generalize upd H L (.lst []) = H1 at s1 eL
    refine ⟨.ref ha, rfl, ha, dx, _, rfl, s1 _ _ eh, rfl, ha, sl, mo, fr, Ms, now, M, rfl, hh.same s1, em, by omega, fun H2 p ys py sy s2 np ep => ?_⟩
    have nLp : p ≠ L := fun e => by
      rw [e, eL] at np
      cases np
    have eL2 := s2 _ _ eL
    have s12 := s1.trans s2
    have hh2 := hh.same s12
    have lys : ys.length ≤ 60 := by
      have := py.length_eq
      rw [List.length_map] at this
      omega
    refine ⟨p, rfl, ⟨_, SqL.of ep⟩, for_list (K := K) (a := p) (xs := ys.map V.str) (fun i σ G => ∃ y2 y3 y4 y5 y6 y7 y8, σ = [some (.ref ha), some (.ref L), y2, y3, y4, y5, y6, y7, y8] ∧ Keep L H2 G ∧ G L = some (.lst ((pageRows M (ys.take i)).map V.str))) ⟨_, _, _, _, _, _, _, rfl, fun b o _ h => h, eL2⟩ (fun i σ G _ ⟨_, _, _, _, _, _, _, _, k, _⟩ => SqL.of (k _ _ nLp ep)) ?_ ?_⟩
    · rintro i x σ G hx ⟨y2, y3, y4, y5, y6, y7, y8, rfl, k, eG⟩
      obtain ⟨nm, hnm, rfl⟩ : ∃ t, ys[i]? = some t ∧ V.str t = x := by
        rw [List.getElem?_map] at hx
        exact Option.map_eq_some_iff.mp hx
      have lti := (List.getElem?_eq_some_iff.mp hnm).1
      obtain ⟨r, er⟩ := mget_at (py.mem_iff.mp (List.mem_of_getElem? hnm))
      have hm := mget_mem er
      have wf : RoW r.1 r.2 := pw.mw.w _ hm
      have l24 : r.2.length ≤ 24 := wf.len
      have nml : nm.length ≤ 1000 := pw.nx _ hm
      have hhG := hh2.keepO (.lst eL2 k) (fun xs hx => k _ _ nsl hx)
      have lnum := len_int wf.n0 wf.n1
      have lr := rows_len pw (ys.take i)
      rw [List.length_take] at lr
      refine ⟨.ref ha, rfl, ha, dx, _, rfl, k _ _ nha (s12 _ _ eh), rfl, .str nm, rfl, ha, sl, mo, fr, Ms, now, M, nm, r, rfl, hhG, em, er, wf, fun H6 g st kk c s6 ng ra => ?_⟩
      obtain ⟨dx0, eg⟩ := ra.at_g
      have eL6 := s6 _ _ eG
      refine ⟨.ref L, rfl, .inl ⟨rfl, _, SqL.of eL6⟩, _, rfl, by simp only [Str.length_append, c_empty, c_road]; omega, .str nm, rfl, .inl ⟨nm, rfl, by omega, _, rfl, by simp only [Str.length_append, c_empty, c_road]; omega, _, rfl, by simp only [Str.length_append, c_empty, c_road, c_sp]; omega, .ref g, rfl, g, dx0, _, rfl, eg, rfl, g, dx0, st, r.1, kk, c, rfl, eg, .inr ⟨r.1, rfl, log_int wf.n0 wf.n1, _, rfl, by simp only [Str.length_append, c_empty, c_road, c_sp]; omega, L, _, _, rfl, rfl, eL6, by rw [List.length_map]; omega, ?_⟩⟩⟩
      rw [show (Str.empty ++ Str.ofString "road " ++ nm ++ Str.ofString " " ++ Str.ofString (toString r.1)) = roadP nm r.1 from rfl]
      have k7 : Keep L H6 (upd H6 L (.lst ((pageRows M (ys.take i)).map V.str ++ [.str (roadP nm r.1)]))) := Keep.upd
      have e7 : (upd H6 L (.lst ((pageRows M (ys.take i)).map V.str ++ [.str (roadP nm r.1)]))) L = some (.lst ((pageRows M (ys.take i)).map V.str ++ [.str (roadP nm r.1)])) := upd_same
      generalize upd H6 L (.lst ((pageRows M (ys.take i)).map V.str ++ [.str (roadP nm r.1)])) = H7 at k7 e7
      have ra7 := ra.keepO (.lst eL6 k7)
      obtain ⟨dx7, eg7⟩ := ra7.at_g
      refine ⟨.ref g, rfl, g, dx7, _, rfl, eg7, rfl, g, st, r.1, r.2, kk, c, rfl, ra7, wf.up, by omega, fun H8 t8 us s8 n8 e8 ls => ?_⟩
      have eL8 := s8 _ _ e7
      have nLt : t8 ≠ L := fun e => by
        rw [e, e7] at n8
        cases n8
      have lus := ls.length
      have k28 : Keep L H2 H8 := fun b o nb hb => s8 _ _ (k7 _ _ nb (s6 _ _ (k _ _ nb hb)))
      refine ⟨t8, rfl, ⟨_, SqL.of e8⟩, for_list (K := K) (a := t8) (xs := us.map V.ref) (fun j σ G2 => ∃ y4 y5 y6 y7 y8, σ = [some (.ref ha), some (.ref L), some (.str nm), some (.ref g), y4, y5, y6, y7, y8] ∧ Keep L H8 G2 ∧ G2 L = some (.lst ((pageRows M (ys.take i)).map V.str ++ [.str (roadP nm r.1)] ++ ((r.2.take j).map lineP).map V.str))) ⟨_, _, _, _, _, rfl, fun b o _ h => h, by
          rw [List.take_zero, List.map_nil, List.map_nil, List.append_nil]
          exact eL8⟩ (fun j σ G2 _ ⟨_, _, _, _, _, _, k8, _⟩ => SqL.of (k8 _ _ nLt e8)) ?_ ?_⟩
      · rintro j x σ G2 hx ⟨y4, y5, y6, y7, y8, rfl, k8, eG2⟩
        obtain ⟨u, hu, rfl⟩ : ∃ t, us[j]? = some t ∧ V.ref t = x := by
          rw [List.getElem?_map] at hx
          exact Option.map_eq_some_iff.mp hx
        obtain ⟨sm, hsm, t, eu, et⟩ := ls.at54 hu
        have ltj := (List.getElem?_eq_some_iff.mp hsm).1
        have ln : LnW sm := pw.ln er (List.mem_of_getElem? hsm)
        have keepT : ∀ b xs, H8 b = some (.tup xs) → G2 b = some (.tup xs) := fun b xs hb => k8 _ _ (ne_of hb eL8 (fun z => by cases z)) hb
        have l1 := len_int ln.a0 ln.a1
        have l2 := len_int ln.b0 ln.b1
        have l3 := len_int ln.c0 ln.c1
        have l4 := len_int ln.d0 ln.d1
        have l5 := turn_len sm.2.2.2.2
        have tn : atI [V.str "straight", .str "turned"] sm.2.2.2.2 = some (.str (turnTx sm.2.2.2.2)) := by
          rcases ln.tn with z | z <;> rw [z] <;> rfl
        refine ⟨u, _, rfl, SqT.of (keepT _ _ eu), rfl, .int sm.1, _, rfl, .ref t, _, rfl, t, _, rfl, SqT.of (keepT _ _ et), rfl, .int sm.2.1, _, rfl, .int sm.2.2.1, _, rfl, .int sm.2.2.2.1, _, rfl, .int sm.2.2.2.2, _, rfl, rfl, rfl, ?_⟩
        refine ⟨.ref L, rfl, .inl ⟨rfl, _, SqL.of eG2⟩, _, rfl, by simp only [Str.length_append, c_empty, c_mate]; omega, .int sm.1, rfl, .inr ⟨sm.1, rfl, log_int ln.a0 ln.a1, _, rfl, by simp only [Str.length_append, c_empty, c_mate]; omega, _, rfl, by simp only [Str.length_append, c_empty, c_mate, c_sp]; omega, .int sm.2.1, rfl, .inr ⟨sm.2.1, rfl, log_int ln.b0 ln.b1, _, rfl, by simp only [Str.length_append, c_empty, c_mate, c_sp]; omega, _, rfl, by simp only [Str.length_append, c_empty, c_mate, c_sp]; omega, .int sm.2.2.1, rfl, .inr ⟨sm.2.2.1, rfl, log_int ln.c0 ln.c1, _, rfl, by simp only [Str.length_append, c_empty, c_mate, c_sp]; omega, _, rfl, by simp only [Str.length_append, c_empty, c_mate, c_sp]; omega, .int sm.2.2.2.1, rfl, .inr ⟨sm.2.2.2.1, rfl, log_int ln.d0 ln.d1, _, rfl, by simp only [Str.length_append, c_empty, c_mate, c_sp]; omega, _, rfl, by simp only [Str.length_append, c_empty, c_mate, c_sp]; omega, ?_⟩⟩⟩⟩⟩
        refine ⟨.int sm.2.2.2.2, rfl, C_TURNS, _, sm.2.2.2.2, .str (turnTx sm.2.2.2.2), rfl, rfl, TU _, tn, .inl ⟨_, rfl, by omega, _, rfl, by simp only [Str.length_append, c_empty, c_mate, c_sp]; omega, L, _, _, rfl, rfl, eG2, by simp only [List.length_append, List.length_map, List.length_take, List.length_cons, List.length_nil]; omega, ?_⟩⟩
        refine ⟨_, _, _, _, _, rfl, fun b o nb hb => Keep.upd _ _ nb (k8 _ _ nb hb), ?_⟩
        rw [upd_same, List.take_succ, hsm, Option.toList_some, List.map_append, List.map_append, List.append_assoc, List.append_assoc, List.append_assoc]
        rfl
      · rintro σ G2 ⟨y4, y5, y6, y7, y8, rfl, k8, eG2⟩
        refine ⟨_, _, _, _, _, _, _, rfl, fun b o nb hb => k8 _ _ nb (k28 _ _ nb hb), ?_⟩
        rw [eG2, List.take_succ, hnm, Option.toList_some, pageRows_snoc, rowsAt_of er, List.map_append, List.append_assoc]
        have : r.2.take us.length = r.2 := by rw [lus, List.take_length]
        rw [List.length_map, this]
        rfl
    · rintro σ G ⟨y2, y3, y4, y5, y6, y7, y8, rfl, k, eG⟩
      rw [List.length_map, List.take_length] at eG
      refine ⟨⟨_, rfl⟩, .ref L, rfl, "\n", L, pageRows M ys, rfl, rfl, .inl (SqL.of eG), page_fits pw py, q G ys py sy fun b o hb => k _ _ (ne_of_none hb nL) (s12 _ _ hb)⟩
theorem ok_law_page {f : Addr} {fd : FuncData} (D : DefAt K mg "_law_page" s_law_page P_law_page f fd) (B : Bn mg) : FnOk P w K mg base CX0 1 f fd P_law_page spLawPage := by
  refine D.F.ok sc_law_page (fun vs H Q E h => ?_) (fun cdv A outer s H vs Q E hr h => ?_)
  · obtain ⟨md, M, rfl, _⟩ := h
    rfl
  · obtain ⟨md, M, rfl, hm, pw, q⟩ := h
    have hu := hu_of hr
    refine ⟨_, (pss_cons (ps_set (i := 1) sc_law_page.nd rfl (.inl rfl) (pe_lst pa_nil))
      (pss_cons (ps_for PassesOwn.never rfl (pi_list (pe_callB (call_sortedD rfl) (by rfl) B.sorted (by decide +kernel) (pa_cons (pv 0) pa_nil))) (pg_name (i := 2) sc_law_page.nd rfl (.inl rfl)) (pss_cons (ps_expr (pe_bm PySem.F.plainAttrs_list PySem.F.slot_list_append PySem.F.type_list_append mt_append (pv 1) (pa_cons (pe_op op_add_str (pe_op op_add_str (pe_op op_add_str pe_str (pv 2)) pe_str) (pe_callTy call_str_int (by rfl) B.str (by decide +kernel) (pa_cons (pe_ix ix_tup (pe_dget hu (pv 0) (pv 2) (fun _ _ => rfl)) pe_int (fun _ _ => rfl)) pa_nil))) pa_nil)))
      (pss_one (ps_for PassesOwn.never rfl (pi_list (pe_callB (call_sortedDI rfl) (by rfl) B.sorted (by decide +kernel) (pa_cons (pe_ix ix_tup (pe_dget hu (pv 0) (pv 2) (fun _ _ => rfl)) pe_int (fun _ _ => rfl)) pa_nil))) (pg_name (i := 3) sc_law_page.nd rfl (.inl rfl)) (pss_cons (ps_asg (pe_dget hu (pe_ix ix_tup (pe_dget hu (pv 0) (pv 2) (fun _ _ => rfl)) pe_int (fun _ _ => rfl)) (pv 3) (fun _ _ => rfl)) (pg_tup (by rfl) (pgs_cons (pg_name (i := 4) sc_law_page.nd rfl (.inl rfl)) (pgs_cons (pg_name (i := 5) sc_law_page.nd rfl (.inl rfl)) (pgs_cons (pg_name (i := 6) sc_law_page.nd rfl (.inl rfl)) (pgs_cons (pg_name (i := 7) sc_law_page.nd rfl (.inl rfl)) pgs_nil))))))
      (C8.pss_cut (ps_set (i := 8) sc_law_page.nd rfl (.inl rfl) (pe_lst (pa_cons (pe_callTy call_str_int (by rfl) B.str (by decide +kernel) (pa_cons (pv 3) pa_nil)) (pa_cons (pe_callTy call_str_int (by rfl) B.str (by decide +kernel) (pa_cons (pv 4) pa_nil)) (pa_cons (pe_callTy call_str_int (by rfl) B.str (by decide +kernel) (pa_cons (pv 5) pa_nil)) (pa_cons (pe_callTy call_str_int (by rfl) B.str (by decide +kernel) (pa_cons (pv 6) pa_nil)) (pa_cons (pe_ifExp (pt_cmpR op_eq (pv 7) pe_int (nomark _)) pe_str pe_str) pa_nil)))))))
      (pss_one (ps_expr (pe_bm PySem.F.plainAttrs_list PySem.F.slot_list_append PySem.F.type_list_append mt_append (pv 1) (pa_cons (pe_op op_add_str pe_str (pe_join pe_str (pv 8))) pa_nil))))))))))
      (pss_one (ps_ret (pe_join pe_str (pv 1)))))), ?_⟩
    have big : 1000000 ≤ sizeLine := by decide
    have ml := pw.ml
    refine ⟨Nat.zero_le _, fun L nL => ?_⟩
    have s1 := same_upd (H := H) (o := .lst []) nL
    have eL : (upd H L (.lst [])) L = some (.lst []) := upd_same
    generalize upd H L (.lst []) = H1 at s1 eL
    obtain ⟨kvs, ek, pk⟩ := hm.keepO (.same s1)
    have lk := pk.length
    refine ⟨.ref md, rfl, md, kvs, M.map (·.1), rfl, .inl ek, nm_keys (R := RmAt H1) pk, by rw [List.length_map]; omega, fun ys p py sy np => ?_⟩
    have s2 := same_upd (H := H1) (o := .lst (ys.map V.str)) np
    have ep : (upd H1 p (.lst (ys.map V.str))) p = some (.lst (ys.map V.str)) := upd_same
    generalize upd H1 p (.lst (ys.map V.str)) = H2 at s2 ep
    have nLp : p ≠ L := fun e => by
      rw [e, eL] at np
      cases np
    have eL2 := s2 _ _ eL
    have s12 := s1.trans s2
    have hm2 := hm.keepO (.same s12)
    have lys : ys.length ≤ 60 := by
      have := py.length_eq
      rw [List.length_map] at this
      omega
    refine ⟨p, rfl, ⟨_, SqL.of ep⟩, for_list (K := K) (a := p) (xs := ys.map V.str) (fun i σ G => ∃ y2 y3 y4 y5 y6 y7 y8, σ = [some (.ref md), some (.ref L), y2, y3, y4, y5, y6, y7, y8] ∧ Keep L H2 G ∧ G L = some (.lst ((pageRows M (ys.take i)).map V.str))) ⟨_, _, _, _, _, _, _, rfl, fun b o _ h => h, eL2⟩ (fun i σ G _ ⟨_, _, _, _, _, _, _, _, k, _⟩ => SqL.of (k _ _ nLp ep)) ?_ ?_⟩
    · rintro i x σ G hx ⟨y2, y3, y4, y5, y6, y7, y8, rfl, k, eG⟩
      obtain ⟨nm, hnm, rfl⟩ : ∃ t, ys[i]? = some t ∧ V.str t = x := by
        rw [List.getElem?_map] at hx
        exact Option.map_eq_some_iff.mp hx
      have lti := (List.getElem?_eq_some_iff.mp hnm).1
      obtain ⟨r, er⟩ := mget_at (py.mem_iff.mp (List.mem_of_getElem? hnm))
      have hmm := mget_mem er
      have wf : RoW r.1 r.2 := pw.mw.w _ hmm
      have l24 : r.2.length ≤ 24 := wf.len
      have nml : nm.length ≤ 1000 := pw.nx _ hmm
      have lnum := len_int wf.n0 wf.n1
      have lr := rows_len pw (ys.take i)
      rw [List.length_take] at lr
      obtain ⟨kv3, ek3, pk3⟩ := hm2.keepO (.lst eL2 k)
      obtain ⟨v3, hv3, tm, hd, kvm, rfl, etm, ehd, sdm⟩ := (mget_val nm pk3).2 r er
      have gt : DGet G md (.str nm) (some (.ref tm)) := by
        have z := DGet.k (k := Sum.inr nm) ek3
        rw [hv3] at z
        exact z
      have hjr := roadP_law nm r.1
      have lrp := roadP_len nml wf.n0 wf.n1
      refine ⟨.ref L, rfl, .inl ⟨rfl, _, SqL.of eG⟩, .str nm, rfl, _, _, rfl, rfl, by rw [c_road]; omega, _, _, rfl, rfl, by simp only [Str.length_append, c_road, c_sp]; omega, ?_⟩
      refine ⟨.ref md, rfl, .str nm, rfl, md, .ref tm, rfl, gt, tm, _, 0, .int r.1, rfl, rfl, SqT.of etm, atI_nat (j := 0) rfl, r.1, rfl, log_int wf.n0 wf.n1, _, _, rfl, rfl, by simp only [Str.length_append, c_road, c_sp]; omega, L, _, _, rfl, rfl, eG, by rw [List.length_map]; omega, ?_⟩
      rw [hjr]
      have k7 : Keep L G (upd G L (.lst ((pageRows M (ys.take i)).map V.str ++ [.str (roadP nm r.1)]))) := Keep.upd
      have e7 : (upd G L (.lst ((pageRows M (ys.take i)).map V.str ++ [.str (roadP nm r.1)]))) L = some (.lst ((pageRows M (ys.take i)).map V.str ++ [.str (roadP nm r.1)])) := upd_same
      generalize upd G L (.lst ((pageRows M (ys.take i)).map V.str ++ [.str (roadP nm r.1)])) = H7 at k7 e7
      have ko7 : KeepO H2 H7 := (KeepO.lst eL2 k).trans (.lst eG k7)
      obtain ⟨kv7, ek7, pk7⟩ := hm2.keepO ko7
      obtain ⟨v7, hv7, tm7, hd7, kvm7, rfl, etm7, ehd7, sdm7⟩ := (mget_val nm pk7).2 r er
      have gt7 : DGet H7 md (.str nm) (some (.ref tm7)) := by
        have z := DGet.k (k := Sum.inr nm) ek7
        rw [hv7] at z
        exact z
      refine ⟨.ref md, rfl, .str nm, rfl, md, .ref tm7, rfl, gt7, tm7, _, 1, .ref hd7, rfl, rfl, SqT.of etm7, atI_nat (j := 1) rfl, ?_⟩
      refine ⟨hd7, kvm7, r.2.map (·.1), rfl, .inl ehd7, sdm7.keys, by rw [List.length_map]; omega, fun us p8 pu su np8 => ?_⟩
      have eu := perm_sorted pu su wf.up
      subst eu
      have s8 := same_upd (H := H7) (o := .lst ((r.2.map (·.1)).map V.int)) np8
      have e8 : (upd H7 p8 (.lst ((r.2.map (·.1)).map V.int))) p8 = some (.lst ((r.2.map (·.1)).map V.int)) := upd_same
      generalize upd H7 p8 (.lst ((r.2.map (·.1)).map V.int)) = H8 at s8 e8
      have eL8 := s8 _ _ e7
      have nLt : p8 ≠ L := fun e => by
        rw [e, e7] at np8
        cases np8
      have k28 : Keep L H2 H8 := fun b o nb hb => s8 _ _ (k7 _ _ nb (k _ _ nb hb))
      refine ⟨p8, rfl, ⟨_, SqL.of e8⟩, for_list (K := K) (a := p8) (xs := (r.2.map (·.1)).map V.int) (fun j σ G2 => ∃ y3 y4 y5 y6 y7 y8, σ = [some (.ref md), some (.ref L), some (.str nm), y3, y4, y5, y6, y7, y8] ∧ Keep L H8 G2 ∧ G2 L = some (.lst ((pageRows M (ys.take i)).map V.str ++ [.str (roadP nm r.1)] ++ ((r.2.take j).map lineP).map V.str))) ⟨_, _, _, _, _, _, rfl, fun b o _ h => h, by
          rw [List.take_zero, List.map_nil, List.map_nil, List.append_nil]
          exact eL8⟩ (fun j σ G2 _ ⟨_, _, _, _, _, _, _, k8, _⟩ => SqL.of (k8 _ _ nLt e8)) ?_ ?_⟩
      · rintro j x σ G2 hx ⟨y3, y4, y5, y6, y7, y8, rfl, k8, eG2⟩
        rw [List.map_map, List.getElem?_map] at hx
        obtain ⟨sm, hsm, rfl⟩ := Option.map_eq_some_iff.mp hx
        have ltj := (List.getElem?_eq_some_iff.mp hsm).1
        have hsi : sm ∈ r.2 := List.mem_of_getElem? hsm
        have ln : LnW sm := pw.ln er hsi
        have ko8 : KeepO H2 G2 := (KeepO.lst eL2 k28).trans (.lst eL8 k8)
        obtain ⟨kv9, ek9, pk9⟩ := hm2.keepO ko8
        obtain ⟨v9, hv9, tm9, hd9, kvm9, rfl, etm9, ehd9, sdm9⟩ := (mget_val nm pk9).2 r er
        have gt9 : DGet G2 md (.str nm) (some (.ref tm9)) := by
          have z := DGet.k (k := Sum.inr nm) ek9
          rw [hv9] at z
          exact z
        obtain ⟨t, gt, _, et⟩ := sdm9.dget ehd9 (sget_mem wf.up hsi)
        have l1 := len_int ln.a0 ln.a1
        have l2 := len_int ln.b0 ln.b1
        have l3 := len_int ln.c0 ln.c1
        have l4 := len_int ln.d0 ln.d1
        have l5 := turn_len sm.2.2.2.2
        have hjl := lineP_law sm
        have lll := lineP_len ln
        refine ⟨.ref md, rfl, .str nm, rfl, md, .ref tm9, rfl, gt9, tm9, _, 1, .ref hd9, rfl, rfl, SqT.of etm9, atI_nat (j := 1) rfl, ?_⟩
        refine ⟨.int sm.1, rfl, hd9, .ref t, rfl, gt, t, _, rfl, SqT.of et, rfl, .int sm.2.1, _, rfl, .int sm.2.2.1, _, rfl, .int sm.2.2.2.1, _, rfl, .int sm.2.2.2.2, _, rfl, rfl, ?_⟩
        refine ⟨fun σ G3 => ∃ W : Addr, σ = [some (.ref md), some (.ref L), some (.str nm), some (.int sm.1), some (.int sm.2.1), some (.int sm.2.2.1), some (.int sm.2.2.2.1), some (.int sm.2.2.2.2), some (.ref W)] ∧ Same G2 G3 ∧ G3 W = some (.lst ([Str.ofString (toString sm.1), Str.ofString (toString sm.2.1), Str.ofString (toString sm.2.2.1), Str.ofString (toString sm.2.2.2.1), turnTx sm.2.2.2.2].map V.str)), ?_, ?_⟩
        · refine ⟨.int sm.1, rfl, sm.1, rfl, log_int ln.a0 ln.a1, .int sm.2.1, rfl, sm.2.1, rfl, log_int ln.b0 ln.b1, .int sm.2.2.1, rfl, sm.2.2.1, rfl, log_int ln.c0 ln.c1, .int sm.2.2.2.1, rfl, sm.2.2.2.1, rfl, log_int ln.d0 ln.d1, .int sm.2.2.2.2, rfl, rfl, _, rfl, ite2 (fun c => ?_) (fun c => ?_)⟩
          · have c : sm.2.2.2.2 = 1 := V.int.inj (of_decide_eq_true c)
            refine ⟨by show 5 ≤ sizeLine; decide, fun W nW => ⟨W, rfl, same_upd nW, ?_⟩⟩
            rw [upd_same]
            unfold turnTx
            rw [if_pos c]
            rfl
          · have c : ¬ sm.2.2.2.2 = 1 := fun z => c (decide_eq_true (congrArg V.int z))
            refine ⟨by show 5 ≤ sizeLine; decide, fun W nW => ⟨W, rfl, same_upd nW, ?_⟩⟩
            rw [upd_same]
            unfold turnTx
            rw [if_neg c]
            rfl
        rintro σ G3 ⟨W, rfl, s3, eW⟩
        have eG3 := s3 _ _ eG2
        have c5 : (Str.ofString "mate ").length + (Txt.join " " [Str.ofString (toString sm.1), Str.ofString (toString sm.2.1), Str.ofString (toString sm.2.2.1), Str.ofString (toString sm.2.2.2.1), turnTx sm.2.2.2.2]).length ≤ 100 := by
          rw [← Str.length_append, hjl]
          exact lll
        refine ⟨.ref L, rfl, .inl ⟨rfl, _, SqL.of eG3⟩, ⟨_, rfl⟩, .ref W, rfl, " ", W, _, rfl, rfl, .inl (SqL.of eW), by
          simp only [List.map_cons, List.map_nil, List.sum_cons, List.sum_nil, List.length_cons, List.length_nil, c_sp]
          omega, _, _, rfl, rfl, by omega, L, _, _, rfl, rfl, eG3, by simp only [List.length_append, List.length_map, List.length_take, List.length_cons, List.length_nil]; omega, ?_⟩
        rw [hjl]
        refine ⟨_, _, _, _, _, _, rfl, fun b o nb hb => Keep.upd _ _ nb (s3 _ _ (k8 _ _ nb hb)), ?_⟩
        rw [upd_same, List.take_succ, hsm, Option.toList_some, List.map_append, List.map_append, List.append_assoc, List.append_assoc, List.append_assoc]
        rfl
      · rintro σ G2 ⟨y3, y4, y5, y6, y7, y8, rfl, k8, eG2⟩
        refine ⟨_, _, _, _, _, _, _, rfl, fun b o nb hb => k8 _ _ nb (k28 _ _ nb hb), ?_⟩
        rw [eG2, List.take_succ, hnm, Option.toList_some, pageRows_snoc, rowsAt_of er, List.map_append, List.append_assoc]
        rw [List.length_map, List.length_map, List.take_length]
        rfl
    · rintro σ G ⟨y2, y3, y4, y5, y6, y7, y8, rfl, k, eG⟩
      rw [List.length_map, List.take_length] at eG
      refine ⟨⟨_, rfl⟩, .ref L, rfl, "\n", L, pageRows M ys, rfl, rfl, .inl (SqL.of eG), page_fits pw py, q G ys py sy fun b o hb => k _ _ (ne_of_none hb nL) (s12 _ _ hb)⟩
end

/-! ### law -/
-- LAMHEAD: (T := lamT Pl) (TT := TWhyM (I49 c7)) (k := 14) (by rfl) D_why.g D_why.F.kp lkW hcW D_why.b sc_why rfl (.inl rfl) (why_givesM (k := 3) (hr.mono (by omega)) gF gI D_fields hI) TB rfl List.mem_cons_self huT (hr.mono (by omega)) (show LamX.LamS (defScope s_law) _ from LamX.lamS_by (by decide +kernel)) rfl (fun _ _ _ _ _ => rfl)
abbrev N_law : List Str := ["_law_script", "_law_draw", "_law_model", "_law_many", "_law_turn", "_law_due", "_law_deed", "_law_hall"]
abbrev P_law : List Str := ["_law_script"]
theorem sc_law : FnScope N_law P_law (defScope s_law) := ⟨rfl, rfl, rfl, by decide +kernel, rfl, by decide +kernel, by decide +kernel⟩
theorem draw_apart2 {H : Hp} {d l sl : Addr} {sds : List Addr} (D : Draw H d l) (e : H sl = some (.lst (sds.map V.ref))) : sl ≠ d := fun z => by
  obtain ⟨ns, i, y, s, W⟩ := D
  have h := W.at_d
  rw [← z, e] at h
  have h := Option.some.inj h
  injection h with h
  cases sds with
  | nil => cases h
  | cons a r =>
    cases r with
    | nil => cases h
    | cons b q => cases h
/-- what stands at a turn -/
structure W49 (C5 C7 : Addr) (T : List (Addr × Str)) (H : Hp) (d l ha sl md : Addr) (cap fr : Int) (Ms : List MoL) (now : Nat) (M : MoL) : Prop where
  dr : Draw H d l
  tb : LamX.Tabs T H
  hh : HallAt C5 C7 H ha sl cap fr Ms now
  md : MdAt H md M
  em : Ms[now]? = some M
theorem W49.same {C5 C7 : Addr} {T : List (Addr × Str)} {H H' : Hp} {d l ha sl md : Addr} {cap fr : Int} {Ms : List MoL} {now : Nat} {M : MoL} (w : W49 C5 C7 T H d l ha sl md cap fr Ms now M) (s : Same H H') : W49 C5 C7 T H' d l ha sl md cap fr Ms now M :=
  ⟨w.dr.same s, w.tb.ext s, w.hh.same s, w.md.keepO (.same s), w.em⟩
theorem W49.draw {C5 C7 : Addr} {T : List (Addr × Str)} {H H' : Hp} {d l ha sl md : Addr} {cap fr : Int} {Ms : List MoL} {now : Nat} {M : MoL} (w : W49 C5 C7 T H d l ha sl md cap fr Ms now M) (D : Draw H' d l) (k : Keep d H H') : W49 C5 C7 T H' d l ha sl md cap fr Ms now M := by
  have ko : KeepO H H' := KeepO.draw w.dr k
  obtain ⟨sds, es, _⟩ := w.hh.2
  have ns := draw_apart2 w.dr es
  exact ⟨D, tabs_keep w.tb w.dr k, w.hh.keepO ko (fun xs hx => k _ _ ns hx), w.md.keepO ko, w.em⟩
theorem W49.extN {C5 C7 : Addr} {T : List (Addr × Str)} {H H' : Hp} {d l ha sl md : Addr} {cap fr : Int} {Ms : List MoL} {now : Nat} {M : MoL} (w : W49 C5 C7 T H d l ha sl md cap fr Ms now M) (s : LamX.ExtN H H') (t : LamX.Tabs T H') : W49 C5 C7 T H' d l ha sl md cap fr Ms now M :=
  ⟨draw_extN w.dr s, t, w.hh.keepO (.extN s) (fun xs hx => s _ _ hx (fun _ z => by cases z)), w.md.keepO (.extN s), w.em⟩
theorem tabs_hall {C7 : Addr} {T : List (Addr × Str)} {H H' : Hp} {ha sl dx : Addr} {fs : List (Str × V)} {xs : List V} (t : LamX.Tabs T H) (eh : H ha = some (.ins C7 dx fs)) (es : H sl = some (.lst xs)) (k : ∀ b o, b ≠ ha → b ≠ sl → H b = some o → H' b = some o) : LamX.Tabs T H' := fun p hp => by
  obtain ⟨ps, h1, h2, h3⟩ := t p hp
  refine ⟨ps, k _ _ (ne_of h1 eh (fun e => by cases e)) (ne_of h1 es (fun e => by cases e)) h1, h2, fun pos cv hc => ?_⟩
  obtain ⟨c, e1, e2⟩ := h3 pos cv hc
  exact ⟨c, e1, k _ _ (ne_of e2 eh (fun e => by unfold LamX.CodeO at e; cases e)) (ne_of e2 es (fun e => by unfold LamX.CodeO at e; cases e)) e2⟩
theorem draw_hall {C7 : Addr} {H H' : Hp} {d l ha sl dx : Addr} {fs : List (Str × V)} {xs : List V} (D : Draw H d l) (eh : H ha = some (.ins C7 dx fs)) (es : H sl = some (.lst xs)) (n1 : d ≠ sl) (n2 : l ≠ sl) (k : ∀ b o, b ≠ ha → b ≠ sl → H b = some o → H' b = some o) : Draw H' d l := by
  obtain ⟨ns, i, z, sd, W⟩ := D
  exact ⟨ns, i, z, sd, { W with at_d := k _ _ (ne_of W.at_d eh (fun z => by cases z)) n1 W.at_d, at_l := k _ _ (ne_of W.at_l eh (fun z => by cases z)) n2 W.at_l }⟩
theorem MdAt.offH {C7 : Addr} {H H' : Hp} {md ha sl dx : Addr} {fs : List (Str × V)} {xs : List V} {M : MoL} (h : MdAt H md M) (eh : H ha = some (.ins C7 dx fs)) (es : H sl = some (.lst xs)) (kp : ∀ b o, b ≠ ha → b ≠ sl → H b = some o → H' b = some o) : MdAt H' md M := by
  obtain ⟨kvs, e, p⟩ := h
  have k1 : ∀ {b : Addr} {ps : List (Key × V)}, H b = some (.dK ps) → H' b = some (.dK ps) := fun hb => kp _ _ (ne_of hb eh (fun z => by cases z)) (ne_of hb es (fun z => by cases z)) hb
  have k2 : KeepT H H' := fun b ps hb => kp _ _ (ne_of hb eh (fun z => by cases z)) (ne_of hb es (fun z => by cases z)) hb
  refine ⟨kvs, k1 e, Paired.mapP p fun a b z => ⟨z.1, ?_⟩⟩
  obtain ⟨t, hd, kv2, e1, et, e2, e3⟩ := z.2
  exact ⟨t, hd, kv2, e1, k2 _ _ et, k1 e2, e3.keep k2⟩
abbrev SL54 (a d md : Addr) (many : Int) (y4 y5 y6 : Option V) (ha : Addr) : List (Option V) := [some (.ref a), some (.ref d), some (.ref md), some (.int many), y4, y5, y6, some (.ref ha)]
section
open PySem.Spec PyProof.Rows
variable {P : Program} {w : World} {K : PySem.W.Frag} {mg : Str → Option Value} {base : Heap}
theorem ok_law {f fO fP fL fW fF fDe fSt fLo fHi fHd fHr fPg fLp CF CI C5 C7 c Pl : Addr} {c7 : H7} {fdO fdP fdL fdW fdF fdDe fdSt fdLo fdHi fdHd fdHr fdPg fdLp : FuncData} {dsH : List Value} {kV doc pm ct oc : Value} {an od : Option Addr} {osl : Array (Option Value)}
    (lk : K.lookup f = some ⟨oc, od, .func (PySem.W.fnOf "law" "law" (defArgs s_law) (defBody s_law) (defScope s_law) .none kV doc pm an (.ref c) ct), osl⟩) (hcd : PySem.W.codeIn K (.ref c) "law" = true) (TB : LamX.TabB base mg c Pl)
    (D_open : DefAt K mg "_law_open" s_open P_open fO fdO) (D_pull : DefAt K mg "_law_pull" s_pull P_pull fP fdP) (D_like : DefAt K mg "_law_like" s_like P_like fL fdL) (D_why : DefAt K mg "_law_why" s_why P_why fW fdW) (D_fields : DefAt K mg "_law_fields" s_fields P_fields fF fdF)
    (gF : mg "FarError" = some (.ref CF)) (gI : mg "Missing" = some (.ref CI)) (hI : ∀ C fs word Fld, I49 c7 C fs word Fld → WhyI P w K mg base CF CI fF fdF C fs word Fld)
    (D_hall_deed : DefAt K mg "_law_hall_deed" s_hall_deed P_hall_deed fDe fdDe) (G_hall_deed : FnOk P w K mg base CX0 5 fDe fdDe P_hall_deed spHDeed) (D_step : DefAt K mg "_law_step" s_step P_step fSt fdSt) (G_step : FnOk P w K mg base CX0 4 fSt fdSt P_step spStepH)
    (D_hall_looks : DefAt K mg "_law_hall_looks" s_hall_looks P_hall_looks fLo fdLo) (G_hall_looks : FnOk P w K mg base CX0 8 fLo fdLo P_hall_looks (spLooks C5 C7))
    (THa_ : HaT K mg C7) (mkHa_ : Mk K C7 fHi) (G_Ha_init : FnOk P w K mg base CX0 1 fHi fdHi P_Ha_init (spHaInit C5 C7)) (b_Ha_init : Binds K fdHi P_Ha_init dsH) (dv_Ha : Vals [.int 6] dsH)
    (M_Ha_do : Meth K C7 "do" fHd) (GX_Ha_do : FnOk P w K mg base (L2.CX P w) 12 fHd fdHd P_Ha_do (spHaDo C5 C7 c7)) (b_Ha_do : Binds K fdHd P_Ha_do []) (M_Ha_steps : Meth K C7 "steps" fHr) (G_Ha_steps : FnOk P w K mg base CX0 1 fHr fdHr P_Ha_steps (spHaSteps C5 C7)) (b_Ha_steps : Binds K fdHr P_Ha_steps [])
    (D_page : DefAt K mg "page" s_page P_page fPg fdPg) (G_page : FnOk P w K mg base CX0 8 fPg fdPg P_page (spPage C5 C7)) (D_law_page : DefAt K mg "_law_page" s_law_page P_law_page fLp fdLp) (G_law_page : FnOk P w K mg base CX0 1 fLp fdLp P_law_page spLawPage) (B : Bn mg) :
    FnOk P w K mg base CX0 20 f (PySem.W.fnOf "law" "law" (defArgs s_law) (defBody s_law) (defScope s_law) .none kV doc pm an (.ref c) ct) P_law (spLawT K Pl) := by
  have G_open : FnOk P w K mg base CX0 1 fO fdO P_open (spOpen K) := ok_open D_open B
  have G_pull : FnOk P w K mg base CX0 1 fP fdP P_pull spPull := ok_pull D_pull B
  have G_like : FnOk P w K mg base CX0 5 fL fdL P_like (spLike 4) := ok_like D_like B 4
  obtain ⟨ocW, odW, kVW, docW, pmW, anW, cdvW, ctW, oslW, rfl, lkW, hcW⟩ := D_why.F.ex
  refine fn_of lk hcd sc_law (fun vs H Q E h => ?_) (fun A outer s H vs Q E hr h => ?_)
  · obtain ⟨a, ns, rfl, _⟩ := h
    rfl
  · obtain ⟨a, ns, rfl, hS, hlen, hPl, q⟩ := h
    suffices hh : ∃ t, PSs (cxOf CX0 P w K mg base N_law "law" (defScope s_law) f (.ref c) A outer s H E).nox (defBody s_law) t ∧ t { nx := fun _ H' => Q .non H', rt := Q } (L2.start N_law [.ref a]) H by
      obtain ⟨t, h1, h2⟩ := hh
      exact ⟨t, h1.nox, h2⟩
    have hu := hu_of hr
    have huT : ∀ p ∈ lamT Pl, p.1 = Pl → p.2 = lamQ := fun p hp e => by
      rw [List.mem_singleton.mp hp]
    refine ⟨_, (pss_cons (ps_set (i := 1) sc_law.nd rfl (.inl rfl) (pe_call G_open (hr.mono (by omega)) (by rfl) D_open.g D_open.F.kp D_open.b .nil pass0 (pa_cons (pv 0) pa_nil)))
      (C8.pss_cut (ps_asg (pe_tup (pa_cons (pe_make0 mkHa_ G_Ha_init (hr.mono (by omega)) (by rfl) THa_.gC b_Ha_init dv_Ha pass0) (pa_cons pe_dnewK (pa_cons pe_int pa_nil)))) (pg_tup (by rfl) (pgs_cons (pg_name (i := 7) sc_law.nd rfl (.inr rfl)) (pgs_cons (pg_name (i := 2) sc_law.nd rfl (.inl rfl)) (pgs_cons (pg_name (i := 3) sc_law.nd rfl (.inl rfl)) pgs_nil)))))
      (C8.pss_cut (ps_if (pt_cmpR op_ne (pe_call G_page (hr.mono (by omega)) (by rfl) D_page.g D_page.F.kp D_page.b .nil pass0 (pa_cons (pv 7) pa_nil)) pe_str (nomark _)) (pss_one (ps_ret pe_bl)) pss_nil)
      (pss_cons (ps_for PassesOwn.never rfl (pi_range1 (by rfl) B.range (pa_cons (pe_call G_pull (hr.mono (by omega)) (by rfl) D_pull.g D_pull.F.kp D_pull.b .nil pass0 (pa_cons (pv 1) (pa_cons pe_int pa_nil))) pa_nil)) (pg_name (i := 4) sc_law.nd rfl (.inl rfl)) (C8.pss_cut (ps_set (i := 6) sc_law.nd rfl (.inr rfl) (pe_call G_hall_deed (hr.mono (by omega)) (by rfl) D_hall_deed.g D_hall_deed.F.kp D_hall_deed.b .nil pass0 (pa_cons (pv 1) (pa_cons (pv 2) pa_nil))))
      (C8.pss_cut (ps_asg (pe_call G_step (hr.mono (by omega)) (by rfl) D_step.g D_step.F.kp D_step.b .nil pass0 (pa_cons (pv 2) (pa_cons (pv 6) (pa_cons pe_int pa_nil)))) (pg_tup (by rfl) (pgs_cons (pg_name (i := 5) sc_law.nd rfl (.inl rfl)) (pgs_cons (pg_name (i := 2) sc_law.nd rfl (.inl rfl)) pgs_nil))))
      (C8.pss_cut (ps_if (pt_not (pt_val (pe_call G_like (hr.mono (by omega)) (by rfl) D_like.g D_like.F.kp D_like.b .nil pass0 (pa_cons (LamX.pe_lamcall (T := lamT Pl) (TT := TWhyM (I49 c7)) (k := 14) (by rfl) D_why.g D_why.F.kp lkW hcW D_why.b sc_why rfl (.inl rfl) (why_givesM (k := 3) (hr.mono (by omega)) gF gI D_fields hI) TB rfl List.mem_cons_self huT (hr.mono (by omega)) (show LamX.LamS (defScope s_law) _ from LamX.lamS_by (by decide +kernel)) rfl (fun _ _ _ _ _ => rfl) (fun A1 outer1 s1 H1 E1 f1 c1 hr1 => (pe_meth (pv 7) THa_.cl M_Ha_do GX_Ha_do (hr1.mono (by omega)) b_Ha_do .nil (passes_call (takes_of rfl rfl rfl rfl) fun _ _ _ _ h => h) (pa_cons (pv 6) pa_nil)))) (pa_cons (pv 5) pa_nil))))) (pss_one (ps_ret pe_bl)) pss_nil)
      (pss_one (ps_set (i := 3) sc_law.nd rfl (.inl rfl) (pe_op op_add (pv 3) (pe_callTy call_int1 (by rfl) B.int (by decide +kernel) (pa_cons (pe_cmpR op_eq (pe_ix ix_tup (pv 5) pe_int (fun _ _ => rfl)) pe_str (nomark _)) pa_nil)))))))))
      (pss_cons (ps_if (pt_not (pt_val (pe_call G_like (hr.mono (by omega)) (by rfl) D_like.g D_like.F.kp D_like.b .nil pass0 (pa_cons (pe_call G_page (hr.mono (by omega)) (by rfl) D_page.g D_page.F.kp D_page.b .nil pass0 (pa_cons (pv 7) pa_nil)) (pa_cons (pe_call G_law_page (hr.mono (by omega)) (by rfl) D_law_page.g D_law_page.F.kp D_law_page.b .nil pass0 (pa_cons (pv 2) pa_nil)) pa_nil))))) (pss_one (ps_ret pe_bl)) pss_nil)
      (pss_one (ps_ret (pe_and (pe_call G_hall_looks (hr.mono (by omega)) (by rfl) D_hall_looks.g D_hall_looks.F.kp D_hall_looks.b .nil pass0 (pa_cons (pv 7) (pa_cons (pv 2) pa_nil))) (pe_one (pe_call G_like (hr.mono (by omega)) (by rfl) D_like.g D_like.F.kp D_like.b .nil pass0 (pa_cons (pe_meth0 (pv 7) THa_.cl M_Ha_steps G_Ha_steps (hr.mono (by omega)) b_Ha_steps .nil pass0) (pa_cons (pe_tup (pa_cons (pv 3) (pa_cons pe_int pa_nil))) pa_nil)))))))))))), ?_⟩
    have two : 2 ≤ sizeLine := by decide
    refine ⟨.ref a, rfl, a, ns, rfl, hS, hlen, fun H1 d l sm nd nl hD => ?_⟩
    have T1 : LamX.Tabs (lamT Pl) H1 := fun p hp => by
      rw [List.mem_singleton.mp hp]
      exact LamX.TabS.nil (sm _ _ hPl)
    refine ⟨fun σ G => ∃ ha sl md : Addr, σ = SL54 a d md 0 none none none ha ∧ W49 C5 C7 (lamT Pl) G d l ha sl md 6 0 [[]] 0 [] ∧ sl ≠ l, ?_, ?_⟩
    · intro ha dx nha ndx ne
      have s2 : Same H1 (upd (upd H1 dx (.own ha)) ha (.ins C7 dx [])) := fun b o hb => by
        rw [upd_ne (ne_of_none hb nha), upd_ne (ne_of_none hb ndx)]
        exact hb
      have e2 : (upd (upd H1 dx (.own ha)) ha (.ins C7 dx [])) ha = some (.ins C7 dx []) := upd_same
      generalize upd (upd H1 dx (.own ha)) ha (.ins C7 dx []) = H2 at s2 e2
      refine ⟨ha, dx, 6, rfl, e2, fun H3 sl hh nsl kp => ⟨rfl, ?_⟩⟩
      have s3 : Same H1 H3 := fun b o hb => kp _ _ (ne_of_none hb nha) (s2 _ _ hb)
      have nsl' : sl ≠ l := by
        obtain ⟨ns', i', z', s', W⟩ := hD
        exact (ne_of_none (s2 _ _ W.at_l) nsl).symm
      intro md nmd
      have s4 := same_upd (H := H3) (o := .dK []) nmd
      have e4 : (upd H3 md (.dK [])) md = some (.dK []) := upd_same
      generalize upd H3 md (.dK []) = H4 at s4 e4
      refine ⟨by show 3 ≤ sizeLine; decide, fun t0 nt0 => ?_⟩
      have s6 := same_upd (H := H4) (o := .tup [.ref ha, .ref md, .int 0]) nt0
      have e6 : (upd H4 t0 (.tup [.ref ha, .ref md, .int 0])) t0 = some (.tup [.ref ha, .ref md, .int 0]) := upd_same
      generalize upd H4 t0 (.tup [.ref ha, .ref md, .int 0]) = H6 at s6 e6
      have s36 := s4.trans s6
      exact ⟨t0, _, rfl, SqT.of e6, rfl, .ref ha, _, rfl, .ref md, _, rfl, .int 0, _, rfl, rfl, ha, sl, md, rfl, ⟨hD.same (s3.trans s36), T1.ext (s3.trans s36), hh.same s36, ⟨[], s6 _ _ e4, .nil⟩, rfl⟩, nsl'⟩
    clear hD T1 sm nd nl
    rintro σ G ⟨ha, sl, md, rfl, W, nsl⟩
    refine ⟨fun σ G => σ = SL54 a d md 0 none none none ha ∧ W49 C5 C7 (lamT Pl) G d l ha sl md 6 0 [[]] 0 [], ?_, ?_⟩
    · refine ⟨.ref ha, rfl, ha, sl, 6, 0, [[]], 0, [], rfl, W.hh, rfl, ⟨⟨.nil, (fun m hm => by cases hm)⟩, (fun m hm => by cases hm), (fun m hm => by cases hm), by decide⟩, fun H2 ys py sy s2 => ?_⟩
      have e : ys = [] := List.perm_nil.mp py
      subst e
      rw [show Txt.join "\n" (pageRows [] []) = "" by rw [TL.join_eq]; rfl]
      exact ⟨rfl, _, rfl, iteF ⟨rfl, W.same s2⟩⟩
    clear W
    rintro σ G ⟨rfl, W0⟩
    refine ⟨.ref d, rfl, d, l, 26, rfl, W0.dr, by decide, by decide, fun v G2 v0 v26 D2 k2 => ?_⟩
    have W := W0.draw D2 k2
    clear W0 k2 D2
    refine ⟨v, rfl, by omega, by omega, for_range (lo := 0) (n := v.toNat) (fun i σ G => ∃ (md : Addr) (fr : Int) (Ms : List MoL) (now : Nat) (M : MoL) (y4 y5 y6 : Option V), σ = SL54 a d md (now : Int) y4 y5 y6 ha ∧ W49 C5 C7 (lamT Pl) G d l ha sl md 6 fr Ms now M ∧ now + 1 = Ms.length ∧ Ms.length ≤ i + 1 ∧ MoG (24 * (i : Int)) M ∧ (M.length : Int) ≤ 6)
      ⟨md, 0, [[]], 0, [], none, none, none, rfl, W, rfl, Nat.le_refl _, ⟨.nil, (fun m hm => by cases hm), (fun m hm => by cases hm), (fun m hm => by cases hm)⟩, by decide⟩ ?_ ?_⟩
    · clear W
      clear md
      rintro i σ G hi ⟨md, fr, Ms, now, M, y4, y5, y6, rfl, W, hnow, hMs, mg', ml⟩
      have hi : i < 26 := by omega
      have ml6 : M.length ≤ 60 := by omega
      refine ⟨fun σ G2 => ∃ (dd : Addr) (k : HDeed), σ = SL54 a d md (now : Int) (some (.int (0 + (i : Int)))) y5 (some (.ref dd)) ha ∧ W49 C5 C7 (lamT Pl) G2 d l ha sl md 6 fr Ms now M ∧ DkW k ∧ DkOk M k ∧ G2 dd = some (.tup ([.str k.word, .str k.name] ++ k.rest)), ?_, ?_⟩
      · exact ⟨.ref d, rfl, .ref md, rfl, d, l, md, M, 24 * (i : Int), rfl, W.dr, W.md, mg', by omega, ml6, fun G2 dd k dk dko edd D2 k2 => ⟨dd, k, rfl, W.draw D2 k2, dk, dko, edd⟩⟩
      clear W
      rintro σ G2 ⟨dd, k, rfl, W, dk, dko, edd⟩
      refine ⟨fun σ G3 => ∃ (u md' ad : Addr), σ = SL54 a d md' (now : Int) (some (.int (0 + (i : Int)))) (some (.ref u)) (some (.ref dd)) ha ∧ W49 C5 C7 (lamT Pl) G3 d l ha sl md 6 fr Ms now M ∧ G3 dd = some (.tup ([.str k.word, .str k.name] ++ k.rest)) ∧ G3 ad = some (.tup k.rest) ∧ G3 u = some (.tup [.str (stepP 6 ad k M).1.1, (stepP 6 ad k M).1.2]) ∧ MdAt G3 md' (stepP 6 ad k M).2, ?_, ?_⟩
      · exact ⟨.ref md, rfl, .ref dd, rfl, md, dd, M, k, 6, rfl, W.md, edd, dk.restI, dk.rd, dk.ly, dk.nm, mg'.mok, ml6, fun G3 t u md' ad s3 ead et eu hm' => ⟨t, _, rfl, SqT.of et, rfl, .ref u, _, rfl, .ref md', _, rfl, rfl, u, md', ad, rfl, W.same s3, s3 _ _ edd, ead, eu, hm'⟩⟩
      clear W edd
      rintro σ G3 ⟨u, md', ad, rfl, W, edd, ead, eu, hm'⟩
      have duv := stepP_v (cap := 6) (M := M) ead dk
      have mgn : MoG (24 * (i : Int) + 24) (stepP 6 ad k M).2 := stepP_ok mg' (by omega) dko dk.rd dk.ly
      have mln : ((stepP 6 ad k M).2.length : Int) ≤ 6 := stepP_len ml
      have z0 := stepP_ok0 (cap := 6) (a := ad) (M := M) dk
      have zb := stepP_bad (cap := 6) (a := ad) (k := k) (M := M)
      obtain ⟨sds, esl, _⟩ := id W.hh.2
      have nds : sl ≠ d := draw_apart2 W.dr esl
      generalize hp : stepP 6 ad k M = p at *
      refine ⟨fun σ G5 => ∃ (fr' : Int) (Ms' : List MoL) (now' : Nat), σ = SL54 a d md' (now : Int) (some (.int (0 + (i : Int)))) (some (.ref u)) (some (.ref dd)) ha ∧ W49 C5 C7 (lamT Pl) G5 d l ha sl md' 6 fr' Ms' now' p.2 ∧ now' + 1 = Ms'.length ∧ Ms'.length ≤ i + 2 ∧ now' = now + (if p.1.1 = "" then 1 else 0) ∧ G5 u = some (.tup [.str p.1.1, p.1.2]), ?_, ?_⟩
      · refine ⟨W.tb, fun HE eN TE t0 nt0 Z hZ => ?_⟩
        have s0 := same_upd (H := HE) (o := .tup [.str "", .non]) nt0
        have e0 : (upd HE t0 (.tup [.str "", .non])) t0 = some (.tup [.str "", .non]) := upd_same
        have T0 := TE.ext s0
        generalize upd HE t0 (.tup [.str "", .non]) = G6 at s0 e0 T0
        have x6 : LamX.ExtN G3 G6 := fun b o hb ht => s0 _ _ (eN b o hb ht)
        have W6 := W.extN x6 T0
        have eu6 : G6 u = some (.tup [.str p.1.1, p.1.2]) := x6 _ _ eu (fun _ z => by cases z)
        have edd6 : G6 dd = some (.tup ([.str k.word, .str k.name] ++ k.rest)) := x6 _ _ edd (fun _ z => by cases z)
        have ead6 : G6 ad = some (.tup k.rest) := x6 _ _ ead (fun _ z => by cases z)
        have hm6 : MdAt G6 md' p.2 := hm'.keepO (.extN x6)
        have duv6 : DuV G6 p.1.2 := by
          rcases duv with h | h | h | h | ⟨a', q', e, ea', ib⟩
          · exact .inl h
          · exact .inr (.inl h)
          · exact .inr (.inr (.inl h))
          · exact .inr (.inr (.inr (.inl h)))
          · exact .inr (.inr (.inr (.inr ⟨a', q', e, x6 _ _ ea' (fun _ z => by cases z), ib⟩)))
        obtain ⟨dx, eh6⟩ := W6.hh.1
        obtain ⟨sd6, es6, _⟩ := id W6.hh.2
        have dueD : ∀ (G : Hp) (t9 : Addr) (w9 : Str) (x9 : V) (D9 : PyData), G t9 = some (.tup [.str w9, x9]) → Rp G 3 x9 D9 → Rp G 4 (.ref t9) (.tuple [.str w9, D9]) := fun G t9 w9 x9 D9 e r => .tup e (by show 2 ≤ 100000; decide) (.cons (.str _ _) (.cons r (.nil _)))
        have msl : Ms.length ≤ 1000 := by omega
        refine ⟨.ref ha, rfl, ha, dx, _, rfl, eh6, rfl, .ref dd, rfl, ha, sl, dd, 6, fr, Ms, now, M, (ad, k), rfl, W6.hh, W.em, msl, ⟨mg'.nd, mg'.w⟩, ml, by omega, by omega, ⟨edd6, ead6, dk⟩, ?_, ?_⟩
        · -- done
          intro h0 H' fr' hh' kp
          rw [hp] at h0 hh'
          refine hZ _ _ ?_
          have tup' : ∀ b xs, G6 b = some (.tup xs) → H' b = some (.tup xs) := fun b xs hb => kp _ _ (ne_of hb eh6 (fun z => by cases z)) (ne_of hb es6 (fun z => by cases z)) hb
          have T9 : LamX.Tabs (lamT Pl) H' := tabs_hall T0 eh6 es6 kp
          have D9 : Draw H' d l := draw_hall W6.dr eh6 es6 nds.symm nsl.symm kp
          have hm9 : MdAt H' md' p.2 := hm6.offH eh6 es6 kp
          have em9 : (Ms.take (now + 1) ++ [p.2])[now + 1]? = some p.2 := by
            rw [hnow, List.take_length, List.getElem?_append_right (Nat.le_refl _), Nat.sub_self]
            rfl
          rw [z0 h0, h0] at eu6
          refine ⟨.ref u, rfl, .ref t0, .ref u, .tuple [.str "", .none], rfl, dueD _ _ _ _ _ (tup' _ _ e0) (.non _), dueD _ _ _ _ _ (tup' _ _ eu6) (.non _), fun HB sB => ⟨true, rfl, iteF ?_⟩⟩
          refine ⟨fr', _, now + 1, rfl, ⟨D9.same sB, T9.ext sB, hh'.same sB, hm9.keepO (.same sB), em9⟩, ?_, ?_, ?_, ?_⟩
          · rw [List.length_append, List.length_take]
            show now + 1 + 1 = _ + 1
            omega
          · rw [List.length_append, List.length_take]
            show _ + 1 ≤ i + 2
            omega
          · rw [if_pos h0]
          · rw [h0, z0 h0]
            exact sB _ _ (tup' _ _ eu6)
        · -- refused
          intro h0
          rw [hp] at h0 ⊢
          obtain ⟨D, r1, r2⟩ := duv6.data
          have eM := zb h0
          intro Ce fs H' d' v2 er vr s' nd' ed
          refine ⟨Ce, d', fs, p.1.1, _, rfl, rfl, ed, ⟨v2, er, rfl⟩, fun HG t9 u9 sG hu9 e9 => ?_⟩
          rw [hu9] at e9
          have s69 := s'.trans sG
          have r3 := r2 H' v2 s' vr
          refine ⟨.ref u, rfl, .ref t9, .ref u, .tuple [.str p.1.1, D], rfl, dueD _ _ _ _ _ e9 (Rp.same sG r3), dueD _ _ _ _ _ (s69 _ _ eu6) (Rp.same s69 r1), fun HB sB => ⟨true, rfl, iteF ?_⟩⟩
          have s6B := s69.trans sB
          refine ⟨fr, Ms, now, rfl, ⟨W6.dr.same s6B, T0.ext s6B, W6.hh.same s6B, hm6.keepO (.same s6B), by rw [eM]; exact W.em⟩, hnow, by omega, ?_, s6B _ _ eu6⟩
          rw [if_neg h0]
          rfl
      rintro σ G5 ⟨fr', Ms', now', rfl, W5, hnow', hMs', en, eu5⟩
      refine ⟨.int (now : Int), rfl, .ref u, rfl, u, _, 0, .str p.1.1, rfl, rfl, SqT.of eu5, atI_nat (j := 0) rfl, rfl, .inr ⟨_, rfl, ?_⟩⟩
      have fin : ∀ z : Int, (now : Int) + z = (now' : Int) → ∃ (md : Addr) (fr : Int) (Ms : List MoL) (nw : Nat) (M : MoL) (y4 y5 y6 : Option V), SL54 a d md' ((now : Int) + z) (some (.int (0 + (i : Int)))) (some (.ref u)) (some (.ref dd)) ha = SL54 a d md (nw : Int) y4 y5 y6 ha ∧ W49 C5 C7 (lamT Pl) G5 d l ha sl md 6 fr Ms nw M ∧ nw + 1 = Ms.length ∧ Ms.length ≤ i + 1 + 1 ∧ MoG (24 * ((i + 1 : Nat) : Int)) M ∧ (M.length : Int) ≤ 6 := fun z hz =>
        ⟨md', fr', Ms', now', p.2, _, _, _, by rw [hz], W5, hnow', hMs', by
          rw [show (24 * ((i + 1 : Nat) : Int)) = 24 * (i : Int) + 24 by omega]
          exact mgn, mln⟩
      by_cases h0 : p.1.1 = ""
      · rw [if_pos h0] at en
        rw [h0]
        exact ⟨(now : Int), 1, rfl, rfl, fin 1 (by omega)⟩
      · rw [if_neg h0] at en
        rw [decide_eq_false (show ¬ V.str p.1.1 = V.str "" from fun z => h0 (V.str.inj z))]
        exact ⟨(now : Int), 0, rfl, rfl, fin 0 (by omega)⟩
    · rintro σ G ⟨md, fr, Ms, now, M, y4, y5, y6, rfl, W, hnow, hMs, mg', ml⟩
      have hv : v.toNat ≤ 26 := by omega
      have pgw : PgW M := ⟨⟨mg'.nd, mg'.w⟩, fun m hm => Nat.le_trans (goodN_len (mg'.nm m hm)) (by decide), fun m hm s hs => by
        have := (mg'.sb m hm s hs).1
        omega, by omega⟩
      refine ⟨.ref ha, rfl, ha, sl, 6, fr, Ms, now, M, rfl, W.hh, W.em, pgw, fun H1 ys py sy s1 => ?_⟩
      refine ⟨.ref md, rfl, md, M, rfl, W.md.keepO (.same s1), pgw, fun H2 zs pz sz s2 => ?_⟩
      have e : ys = zs := sorted_uniq py sy pz sz mg'.nd
      subst e
      refine ⟨.str (Txt.join "\n" (pageRows M ys)), .str (Txt.join "\n" (pageRows M ys)), .str (Txt.join "\n" (pageRows M ys)), rfl, .str _ _, .str _ _, fun H3 s3 => ⟨true, rfl, iteF ?_⟩⟩
      have s13 := s1.trans (s2.trans s3)
      refine ⟨.ref ha, rfl, .ref md, rfl, ha, sl, md, 6, fr, Ms, now, M, rfl, W.hh.same s13, W.em, W.md.keepO (.same s13), pgw.mw, by omega, fun H4 s4 => ?_⟩
      have s14 := s13.trans s4
      have hh4 := W.hh.same s14
      obtain ⟨dx4, eh4⟩ := hh4.1
      refine ⟨true, rfl, iteT ⟨.ref ha, rfl, ha, dx4, _, rfl, eh4, rfl, ha, sl, 6, fr, Ms, now, rfl, hh4, by omega, fun t nt => ?_⟩⟩
      rw [show (Ms.length : Int) - 1 - (now : Int) = 0 by omega]
      have s5 := same_upd (H := H4) (o := .tup [.int (now : Int), .int 0]) nt
      have e5 : (upd H4 t (.tup [.int (now : Int), .int 0])) t = some (.tup [.int (now : Int), .int 0]) := upd_same
      generalize upd H4 t (.tup [.int (now : Int), .int 0]) = H5 at s5 e5
      refine ⟨.int (now : Int), rfl, two, fun t2 nt2 => ?_⟩
      have s6 := same_upd (H := H5) (o := .tup [.int (now : Int), .int 0]) nt2
      exact ⟨.ref t, .ref t2, .tuple [.int (now : Int), .int 0], rfl, .tup (s6 _ _ e5) (by show 2 ≤ 100000; decide) (.cons (.int _ _) (.cons (.int _ _) (.nil _))), .tup upd_same (by show 2 ≤ 100000; decide) (.cons (.int _ _) (.cons (.int _ _) (.nil _))), fun H7 s7 => q H7⟩
end

/-! ### how the class Road binds -/
theorem ro_init_binds {K : PySem.W.Frag} {f : Addr} {fd : FuncData} (F : FunD K "__init__" "Road.__init__" (defArgs s_Ro_init) (defBody s_Ro_init) (defScope s_Ro_init) [.int 0] [] f fd) : Binds K fd P_Ro_init [] := by
  obtain ⟨ds, v, b⟩ := F.binds1 (ps := P_Ro_init) 2 1 (by simp) rfl fun T kV doc pm an cdv ct us its hu hi => match us, hu, its, hi with | [_, _], _, [_], _ => ⟨_, rfl, rfl⟩
  cases v
  exact b
theorem mate_kbinds {K : PySem.W.Frag} {f : Addr} {fd : FuncData} (F : FunD K "mate" "Road.mate" (defArgs s_Ro_mate) (defBody s_Ro_mate) (defScope s_Ro_mate) [] [("turned", .int 0)] f fd) : KBn K fd P_Ro_mate 4 ["turned"] (fun us ws => us ++ ws) (fun vs zs => vs ++ zs) := by
  obtain ⟨mv, b⟩ := F.kbinds0 (ps := P_Ro_mate) 4 ["turned"] [] (fun vs _ zs => vs ++ zs) (by simp) (fun q hq => (by cases hq)) (fun r1 _ r3 => r1.append r3) fun D doc pm an cdv ct us mv ws hu hm hw => match us, hu, mv, hm, ws, hw with | [_, _, _, _], _, [], _, [_], _ => rfl
  exact b

/-! ### how the class Hall binds -/
theorem ha_init_binds {K : PySem.W.Frag} {f : Addr} {fd : FuncData} (F : FunD K "__init__" "Hall.__init__" (defArgs s_Ha_init) (defBody s_Ha_init) (defScope s_Ha_init) [] [("most", .int 6)] f fd) : ∃ ds, Vals [.int 6] ds ∧ Binds K fd P_Ha_init ds :=
  F.binds0 (ps := P_Ha_init) 1 (by simp) rfl fun D doc pm an cdv ct us ks hu hk => match us, hu, ks, hk with | [_], _, [_], _ => ⟨_, _, _, _, _, _, rfl, rfl, rfl⟩
/-! ### the head by a run: what the top leaves, told by names -/
theorem len1 {α : Type} {M : List α → Prop} (h : ∀ a, M [a]) : ∀ us : List α, us.length = 1 → M us
  | [a], _ => h a
theorem len2 {α : Type} {M : List α → Prop} (h : ∀ a b, M [a, b]) : ∀ us : List α, us.length = 2 → M us
  | [a, b], _ => h a b
theorem len3 {α : Type} {M : List α → Prop} (h : ∀ a b c, M [a, b, c]) : ∀ us : List α, us.length = 3 → M us
  | [a, b, c], _ => h a b c
theorem len4 {α : Type} {M : List α → Prop} (h : ∀ a b c d, M [a, b, c, d]) : ∀ us : List α, us.length = 4 → M us
  | [a, b, c, d], _ => h a b c d
section
variable {K : PySem.W.Frag} {fas : List He.Fa} {fns : List He.DefD}
theorem raw_of {x q : Str} {ar : Arguments} {bd : List Stmt} {sc : Scope} {f : Addr} {fd : FuncData} (F : FunD K x q ar bd sc [] [] f fd) :
    ∃ oc od osl kV doc pm an cd ct, K.lookup f = some ⟨oc, od, .func (PySem.W.fnOf x q ar bd sc .none kV doc pm an cd ct), osl⟩ ∧ PySem.W.codeIn K cd q = true ∧ PySem.W.keepIn K (.ref f) = true := by
  obtain ⟨⟨oc, od, dV, kV, doc, pm, an, cd, ct, osl, rfl, hlk, hco, hdf, _⟩, hkp⟩ := F
  rcases hdf with ⟨_, hz⟩ | ⟨hne, _⟩
  · subst hz
    exact ⟨oc, od, osl, kV, doc, pm, an, cd, ct, hlk, hco, hkp⟩
  · exact absurd rfl hne
theorem say_def (c : He.SaysD fas fns K) (i : Nat) {x : Str} {st : Stmt} (e : fns[i]? = some (dD x st)) :
    ∃ oc od osl kV doc pm an cd ct, K.lookup (He.ga K x) = some ⟨oc, od, .func (PySem.W.fnOf x x (defArgs st) (defBody st) (defScope st) .none kV doc pm an cd ct), osl⟩ ∧ PySem.W.codeIn K cd x = true ∧ PySem.W.keepIn K (.ref (He.ga K x)) = true := by
  obtain ⟨fd, F⟩ := c.def_ i e
  exact raw_of F
theorem say_meth (c : He.SaysD fas fns K) (i : Nat) {C m q : Str} {st : Stmt} (e : fns[i]? = some (dM C m q st)) :
    ∃ oc od osl kV doc pm an cd ct, K.lookup (He.ma K (He.ga K C) m) = some ⟨oc, od, .func (PySem.W.fnOf m q (defArgs st) (defBody st) (defScope st) .none kV doc pm an cd ct), osl⟩ ∧ PySem.W.codeIn K cd q = true ∧ PySem.W.keepIn K (.ref (He.ma K (He.ga K C) m)) = true := by
  obtain ⟨fd, F⟩ := c.def_ i e
  exact raw_of F
theorem say_far (c : He.SaysD fas fns K) (i : Nat) {C m q : Str} {st : Stmt} (e : fns[i]? = some (dMs C m q st)) :
    ∃ fd, FunD K m q (defArgs st) (defBody st) (defScope st) [.str ""] [] (He.ma K (He.ga K C) m) fd := by
  obtain ⟨fd, F⟩ := c.def_ i e
  exact ⟨fd, F⟩
theorem say_law (c : He.SaysD fas fns K) (i : Nat) {x : Str} {st : Stmt} (e : fns[i]? = some (dD x st)) :
    ∃ oc od osl kV doc pm an ct, K.lookup (He.ga K x) = some ⟨oc, od, .func (PySem.W.fnOf x x (defArgs st) (defBody st) (defScope st) .none kV doc pm an (.ref (He.cT K (x, none)).1) ct), osl⟩ ∧ PySem.W.codeIn K (.ref (He.cT K (x, none)).1) x = true ∧ PySem.W.keepIn K (.ref (He.ga K x)) = true := by
  obtain ⟨oc, od, osl, kV, doc, pm, an, cd, ct, h1, h2, h3⟩ := say_def c i e
  obtain ⟨z, rfl⟩ := He.codeIn_ref h2
  have hz : He.codeOf K (x, none) = z := He.codeOf_eq (p := (x, none)) h1 rfl
  have hz2 : (He.cT K (x, none)).1 = z := hz
  rw [hz2]
  exact ⟨oc, od, osl, kV, doc, pm, an, ct, h1, h2, h3⟩
theorem say_int (c : He.SaysD fas fns K) (j : Nat) {x : Str} {i : Int} (e : fas[j]? = some (.int x i)) : ∃ t, PySem.W.nsIn K mainGlobals x = some (some (.int i t)) := by
  have q : (match PySem.W.nsIn K mainGlobals x with | some (some (.int u _)) => decide (u = i) | _ => false) = true := c.fact j e
  split at q
  · rename_i k t hk
    have hki := of_decide_eq_true q
    subst hki
    exact ⟨t, hk⟩
  · cases q
theorem say_str (c : He.SaysD fas fns K) (j : Nat) {x z : Str} (e : fas[j]? = some (.str x z)) : ∃ t, PySem.W.nsIn K mainGlobals x = some (some (.str z t)) := by
  have q : (match PySem.W.nsIn K mainGlobals x with | some (some (.str u _)) => decide (u = z) | _ => false) = true := c.fact j e
  split at q
  · rename_i k t hk
    have hki := of_decide_eq_true q
    subst hki
    exact ⟨t, hk⟩
  · cases q
theorem all_at {l : List Bool} (h : l.all (fun b => b) = true) (i : Nat) {b : Bool} (e : l[i]? = some b) : b = true := List.all_eq_true.mp h b (List.mem_of_getElem? e)
theorem errB_ok {C : Addr} (h : errB K C = true) : ErrT K C := by
  obtain ⟨h0, h⟩ := He.ba h
  obtain ⟨h1, h⟩ := He.ba h
  obtain ⟨h2, h⟩ := He.ba h
  obtain ⟨h3, h⟩ := He.ba h
  obtain ⟨h4, h5⟩ := He.ba h
  refine ⟨⟨?_, He.eqO_ok h1, of_decide_eq_true h2, of_decide_eq_true h3, h4⟩, He.eqO_ok h5⟩
  split at h0
  · rename_i t dd cd sl hC
    obtain ⟨g1, g⟩ := He.ba h0
    obtain ⟨g2, g⟩ := He.ba g
    obtain ⟨g3, g⟩ := He.ba g
    have e1 : t = "type" := of_decide_eq_true g1
    subst e1
    split at g
    · rename_i D bm y0 y1 y2 y3 n y5 hm hs
      obtain ⟨e2, g⟩ := He.ba g
      obtain ⟨e3, e4⟩ := He.ba g
      have e2' := of_decide_eq_true e2
      have e3' := of_decide_eq_true e3
      subst e2' e3'
      obtain ⟨nm, bs, mro, ns, qn, hd, sn, sub, ab, col, del⟩ := cd
      obtain ⟨sll⟩ := sl
      have e5 : mro = .ref D :: bm := hm
      have e6 : hd = true := g2
      have e7 : del = false := by
        cases del with
        | false => rfl
        | true => cases g3
      have e8 : sll = [y0, y1, y2, y3, some (.builtin "ValueError.__new__"), y5] := hs
      subst e5 e6 e7 e8
      exact ⟨nm, qn, ns, bs, bm, sn, sub, ab, col, dd, y0, y1, y2, y3, y5, hC, e4⟩
    · cases g
  · cases h0
theorem excB_ok {C : Addr} (h : excB K C = true) : ExcC K C := by
  obtain ⟨h0, h⟩ := He.ba h
  obtain ⟨h1, h⟩ := He.ba h
  obtain ⟨h2, h⟩ := He.ba h
  obtain ⟨h3, h4⟩ := He.ba h
  have x := xfB_ok h0
  exact ⟨x.ga, x.gg, x.exC, x.hdC, He.eqO_ok h1, He.eqO_ok h2, of_decide_eq_true h3, of_decide_eq_true h4⟩
theorem cfnB_ok {C f : Addr} {m : Str} (h : cfnB K C m f = true) : ClsFn K C m f := by
  obtain ⟨h0, h⟩ := He.ba h
  obtain ⟨h1, h⟩ := He.ba h
  obtain ⟨h2, h3⟩ := He.ba h
  refine ⟨He.eqO_ok h0, h1, ?_, h3⟩
  split at h2
  · rename_i g hg
    have e := of_decide_eq_true h2
    subst e
    exact hg
  · cases h2
theorem bltB_ok {T m b : String} (h : bltB K T m b = true) : PySem.W.findCls K (.type T) (.type "type") m = some (.val (.builtin b)) := by
  unfold bltB at h
  split at h
  · rename_i g hg
    have e := of_decide_eq_true h
    subst e
    exact hg
  · cases h
theorem far_binds {f : Addr} {fd : FuncData} (F : FunD K "__init__" "FarError.__init__" (defArgs s_farinit) (defBody s_farinit) (defScope s_farinit) [.str ""] [] f fd) : Binds K fd N_farinit [] := by
  obtain ⟨ds, v, b⟩ := F.binds1 (ps := N_farinit) 2 1 (by simp) rfl fun T kV doc pm an cdv ct us its hu hi => match us, hu, its, hi with | [_, _], _, [_], _ => ⟨_, rfl, rfl⟩
  cases v
  exact b
end
/-! ### the hook: what the names reach, and the statics -/
structure SaysY (fas : List He.Fa) (fns : List He.DefD) (ex : PySem.W.Frag → List Bool) (h : Heap) (K : PySem.W.Frag) : Prop where
  d : He.SaysD fas fns K
  more : (ex K).all (fun b => b) = true
  hd : PySem.W.codeHdIn K (He.cT K lawAt).1 (He.cT K lawAt).2 = true
  out : K.lookup (He.cT K lawAt).2 = none
  mt : h.get? (He.cT K lawAt).2 = some (PySem.W.tabObj #[])
abbrev AlY : Type := He.AlD × Bool
def obsY (fas : List He.Fa) (fns : List He.DefD) (ex : PySem.W.Frag → List Bool) (g : Addr → Option Obj) : AlY := (He.obsD fas fns (seenY g), (ex (seenY g)).all (fun b => b) && tabY g (seenY g))
theorem saysY_of {fas : List He.Fa} {fns : List He.DefD} {ex : PySem.W.Frag → List Bool} {h : Heap} (e : obsY fas fns ex h.get? = (He.valD fns, true)) : SaysY fas fns ex h (seenY h.get?) := by
  have e1 : He.obsD fas fns (seenY h.get?) = He.valD fns := congrArg (fun z : AlY => z.1) e
  have e2 : ((ex (seenY h.get?)).all (fun b => b) && tabY h.get? (seenY h.get?)) = true := congrArg (fun z : AlY => z.2) e
  obtain ⟨m1, m2⟩ := He.ba e2
  obtain ⟨m3, m4⟩ := He.ba m2
  have m5 : ∃ u, h.get? (He.cT (seenY h.get?) lawAt).2 = some u ∧ He.emptyTab u = true := by
    cases q : h.get? (He.cT (seenY h.get?) lawAt).2 with
    | none =>
      rw [q] at m4
      cases m4
    | some u =>
      rw [q] at m4
      exact ⟨u, rfl, m4⟩
  obtain ⟨u, hu, hv⟩ := m5
  exact ⟨e1, m1, m3, He.frT_none hu hv, hu.trans (congrArg some (He.emptyTab_eq hv))⟩
def hookY (fas : List He.Fa) (fns : List He.DefD) (ex : PySem.W.Frag → List Bool) : PySem.W.Hook where
  α := AlY
  obs := fun s => obsY fas fns ex s.heap.get?
  val := fun _ => (He.valD fns, true)
  says := fun _ h => ∃ K : PySem.W.Frag, K.In h ∧ SaysY fas fns ex h K
  of := fun _ _ e => ⟨_, He.frT_in, saysY_of e⟩
  keeps := fun _ _ _ ⟨K, a, b⟩ k => ⟨K, PySem.W.Frag.In.keeps a k, b.d, b.more, b.hd, b.out, k _ _ b.mt⟩
theorem obsY_eq {fas : List He.Fa} {fns : List He.DefD} {ex : PySem.W.Frag → List Bool} (s : PySem.W.SharedT) : obsY fas fns ex (HandSHeadRun.getT s) = (hookY fas fns ex).obs s.abs := by
  have e : HandSHeadRun.getT s = s.abs.heap.get? := funext (HandSHeadRun.getT_eq s)
  rw [e]
  rfl
/-! ### the run by parts: each looks at one thing -/
section
open HandSHeadRun PyProof.Rows PySem.Calls PySem.W
theorem run_parts {r : PySem.W.OpenRow} {q : Program} {M : Nat} {loose : List Str} {fas : List He.Fa} {fns : List He.DefD} {ex : PySem.W.Frag → List Bool} (e1 : SeenEq r q M loose) (e2 : PartEq r.prog M (fun s => okY fas fns ex (getT s) (seenY (getT s))) fun _ => true)
    (e4 : PartEq r.prog M (fun s => fns.map fun d => He.fnW (seenY (getT s)) d.at_) fun _ => fns.map He.DefD.val) (w : World) : RunEq r q (hookY fas fns ex) (fun s => obsY fas fns ex (getT s)) M loose w := fun os => by
  obtain ⟨s, hs, h1⟩ := Option.map_eq_some_iff.mp (e1 w os)
  have at_s : ∀ {β : Type} {f : PySem.W.SharedT → β} {v : World → β}, PartEq r.prog M f v → f s = v w := fun h => by
    have z := h w os
    rw [hs] at z
    exact Option.some.inj z
  obtain ⟨a1, a2⟩ := Prod.mk.inj h1
  obtain ⟨b1, b2⟩ := He.ba (show (((fas.all fun f => f.ok (seenY (getT s))) && fns.all fun d => d.ok (seenY (getT s))) && ((ex (seenY (getT s))).all (fun b => b) && tabY (getT s) (seenY (getT s)))) = true from at_s e2)
  rw [hs]
  exact congrArg some (Prod.ext a1 (Prod.ext a2 (Prod.ext (Prod.ext b1 (at_s e4)) b2)))
end
/-! ### own errors over LookupError, looked at -/
section
variable {K : PySem.W.Frag}
theorem isRefV_ok {v : Value} (h : isRefV v = true) : ∃ c, v = .ref c := by
  cases v with
  | ref c => exact ⟨c, rfl⟩
  | _ => cases h
theorem refs_off : ∀ l : List Value, ∃ cs : List Addr, l = cs.map Value.ref ++ l.dropWhile isRefV
  | [] => ⟨[], rfl⟩
  | v :: r => by
    cases h : isRefV v with
    | false => exact ⟨[], by rw [List.dropWhile_cons, if_neg (by rw [h]; decide)]; rfl⟩
    | true =>
      obtain ⟨c, rfl⟩ := isRefV_ok h
      obtain ⟨cs, e⟩ := refs_off r
      refine ⟨c :: cs, ?_⟩
      rw [List.dropWhile_cons, if_pos h]
      exact congrArg (Value.ref c :: ·) e
theorem overB_ok {l : List Value} (h : overB l = true) : LkE.Over l := by
  obtain ⟨cs, e⟩ := refs_off l
  rw [show l.dropWhile isRefV = lkTail from beq_iff_eq.mp h] at e
  exact ⟨cs, e⟩
theorem lexB_ok {C : Addr} (h : lexB K C = true) : LerT K C := by
  obtain ⟨h0, h⟩ := He.ba h
  obtain ⟨h1, h⟩ := He.ba h
  obtain ⟨h2, h⟩ := He.ba h
  obtain ⟨h3, h⟩ := He.ba h
  obtain ⟨h4, h5⟩ := He.ba h
  refine ⟨⟨?_, He.eqO_ok h1, of_decide_eq_true h2, of_decide_eq_true h3, h4⟩, He.eqO_ok h5⟩
  split at h0
  · rename_i t dd cd sl hC
    obtain ⟨g1, g⟩ := He.ba h0
    obtain ⟨g2, g⟩ := He.ba g
    obtain ⟨g3, g⟩ := He.ba g
    have e1 : t = "type" := of_decide_eq_true g1
    subst e1
    split at g
    · rename_i D bm y0 y1 y2 y3 n y5 hm hs
      obtain ⟨e2, g⟩ := He.ba g
      obtain ⟨e3, e4⟩ := He.ba g
      have e2' := of_decide_eq_true e2
      have e3' := of_decide_eq_true e3
      subst e2' e3'
      obtain ⟨nm, bs, mro, ns, qn, hd, sn, sub, ab, col, del⟩ := cd
      obtain ⟨sll⟩ := sl
      have e5 : mro = .ref D :: bm := hm
      have e6 : hd = true := g2
      have e7 : del = false := by
        cases del with
        | false => rfl
        | true => cases g3
      have e8 : sll = [y0, y1, y2, y3, some (.builtin "LookupError.__new__"), y5] := hs
      subst e5 e6 e7 e8
      exact ⟨nm, qn, ns, bs, bm, sn, sub, ab, col, dd, y0, y1, y2, y3, y5, hC, overB_ok e4⟩
    · cases g
  · cases h0
theorem mis_binds {f : Addr} {fd : FuncData} (F : FunD K "__init__" "Missing.__init__" (defArgs s_misinit) (defBody s_misinit) (defScope s_misinit) [.str ""] [] f fd) : Binds K fd N_misinit [] := by
  obtain ⟨ds, v, b⟩ := F.binds1 (ps := N_misinit) 2 1 (by simp) rfl fun T kV doc pm an cdv ct us its hu hi => match us, hu, its, hi with | [_, _], _, [_], _ => ⟨_, rfl, rfl⟩
  cases v
  exact b
end
theorem all_mk {l : PySem.W.OpenLaw} {w : World} {K : PySem.W.Frag} {h : Heap} {mg : Str → Option Value} {fa : Addr}
    {f0 : Addr} {od0 an0 : Option Addr} {sl0 : Array (Option Value)} {oc0 kV0 dc0 pm0 ct0 cd0 : Value}
    {f1 : Addr} {od1 an1 : Option Addr} {sl1 : Array (Option Value)} {oc1 kV1 dc1 pm1 ct1 cd1 : Value}
    {f2 : Addr} {od2 an2 : Option Addr} {sl2 : Array (Option Value)} {oc2 kV2 dc2 pm2 ct2 cd2 : Value}
    {f3 : Addr} {od3 an3 : Option Addr} {sl3 : Array (Option Value)} {oc3 kV3 dc3 pm3 ct3 cd3 : Value}
    {f4 : Addr} {od4 an4 : Option Addr} {sl4 : Array (Option Value)} {oc4 kV4 dc4 pm4 ct4 cd4 : Value}
    {f5 : Addr} {od5 an5 : Option Addr} {sl5 : Array (Option Value)} {oc5 kV5 dc5 pm5 ct5 cd5 : Value}
    {f6 : Addr} {od6 an6 : Option Addr} {sl6 : Array (Option Value)} {oc6 kV6 dc6 pm6 ct6 cd6 : Value}
    {f7 : Addr} {od7 an7 : Option Addr} {sl7 : Array (Option Value)} {oc7 kV7 dc7 pm7 ct7 cd7 : Value}
    {f8 : Addr} {od8 an8 : Option Addr} {sl8 : Array (Option Value)} {oc8 kV8 dc8 pm8 ct8 cd8 : Value}
    {f9 : Addr} {od9 an9 : Option Addr} {sl9 : Array (Option Value)} {oc9 kV9 dc9 pm9 ct9 cd9 : Value}
    {f10 : Addr} {od10 an10 : Option Addr} {sl10 : Array (Option Value)} {oc10 kV10 dc10 pm10 ct10 cd10 : Value}
    {f11 : Addr} {od11 an11 : Option Addr} {sl11 : Array (Option Value)} {oc11 kV11 dc11 pm11 ct11 cd11 : Value}
    {f12 : Addr} {od12 an12 : Option Addr} {sl12 : Array (Option Value)} {oc12 kV12 dc12 pm12 ct12 cd12 : Value}
    {f13 : Addr} {od13 an13 : Option Addr} {sl13 : Array (Option Value)} {oc13 kV13 dc13 pm13 ct13 cd13 : Value}
    {f14 : Addr} {od14 an14 : Option Addr} {sl14 : Array (Option Value)} {oc14 kV14 dc14 pm14 ct14 cd14 : Value}
    {f15 : Addr} {od15 an15 : Option Addr} {sl15 : Array (Option Value)} {oc15 kV15 dc15 pm15 ct15 cd15 : Value}
    {f16 : Addr} {od16 an16 : Option Addr} {sl16 : Array (Option Value)} {oc16 kV16 dc16 pm16 ct16 cd16 : Value}
    {f17 : Addr} {od17 an17 : Option Addr} {sl17 : Array (Option Value)} {oc17 kV17 dc17 pm17 ct17 cd17 : Value}
    {f18 : Addr} {od18 an18 : Option Addr} {sl18 : Array (Option Value)} {oc18 kV18 dc18 pm18 ct18 cd18 : Value}
    {f19 : Addr} {od19 an19 : Option Addr} {sl19 : Array (Option Value)} {oc19 kV19 dc19 pm19 ct19 cd19 : Value}
    {f20 : Addr} {od20 an20 : Option Addr} {sl20 : Array (Option Value)} {oc20 kV20 dc20 pm20 ct20 cd20 : Value}
    {f21 : Addr} {od21 an21 : Option Addr} {sl21 : Array (Option Value)} {oc21 kV21 dc21 pm21 ct21 cd21 : Value}
    {f22 : Addr} {od22 an22 : Option Addr} {sl22 : Array (Option Value)} {oc22 kV22 dc22 pm22 ct22 cd22 : Value}
    {f23 : Addr} {od23 an23 : Option Addr} {sl23 : Array (Option Value)} {oc23 kV23 dc23 pm23 ct23 cd23 : Value}
    {f24 : Addr} {od24 an24 : Option Addr} {sl24 : Array (Option Value)} {oc24 kV24 dc24 pm24 ct24 cd24 : Value}
    {f25 : Addr} {od25 an25 : Option Addr} {sl25 : Array (Option Value)} {oc25 kV25 dc25 pm25 ct25 cd25 : Value}
    {f26 : Addr} {od26 an26 : Option Addr} {sl26 : Array (Option Value)} {oc26 kV26 dc26 pm26 ct26 cd26 : Value}
    {f27 : Addr} {od27 an27 : Option Addr} {sl27 : Array (Option Value)} {oc27 kV27 dc27 pm27 ct27 cd27 : Value}
    {f28 : Addr} {od28 an28 : Option Addr} {sl28 : Array (Option Value)} {oc28 kV28 dc28 pm28 ct28 cd28 : Value}
    {f29 : Addr} {od29 an29 : Option Addr} {sl29 : Array (Option Value)} {oc29 kV29 dc29 pm29 ct29 cd29 : Value}
    {f30 : Addr} {od30 an30 : Option Addr} {sl30 : Array (Option Value)} {oc30 kV30 dc30 pm30 ct30 cd30 : Value}
    {f31 : Addr} {od31 an31 : Option Addr} {sl31 : Array (Option Value)} {oc31 kV31 dc31 pm31 ct31 cd31 : Value}
    {f32 : Addr} {od32 an32 : Option Addr} {sl32 : Array (Option Value)} {oc32 kV32 dc32 pm32 ct32 cd32 : Value}
    {f33 : Addr} {od33 an33 : Option Addr} {sl33 : Array (Option Value)} {oc33 kV33 dc33 pm33 ct33 cd33 : Value}
    {f34 : Addr} {od34 an34 : Option Addr} {sl34 : Array (Option Value)} {oc34 kV34 dc34 pm34 ct34 cd34 : Value}
    {f35 c Pt : Addr} {od35 an35 : Option Addr} {sl35 : Array (Option Value)} {oc35 kV35 dc35 pm35 ct35 : Value}
    {C_FarError f_FarError : Addr} {fdF : FuncData}
    {C_BadNumber f_BadNumber : Addr} {od_BadNumber an_BadNumber : Option Addr} {sl_BadNumber : Array (Option Value)} {oc_BadNumber kV_BadNumber dc_BadNumber pm_BadNumber cd_BadNumber ct_BadNumber : Value}
    {C_BadMating f_BadMating : Addr} {od_BadMating an_BadMating : Option Addr} {sl_BadMating : Array (Option Value)} {oc_BadMating kV_BadMating dc_BadMating pm_BadMating cd_BadMating ct_BadMating : Value}
    {C_Full f_Full : Addr} {od_Full an_Full : Option Addr} {sl_Full : Array (Option Value)} {oc_Full kV_Full dc_Full pm_Full cd_Full ct_Full : Value}
    {C_BadName f_BadName : Addr} {od_BadName an_BadName : Option Addr} {sl_BadName : Array (Option Value)} {oc_BadName kV_BadName dc_BadName pm_BadName cd_BadName ct_BadName : Value}
    {C_Taken f_Taken : Addr} {od_Taken an_Taken : Option Addr} {sl_Taken : Array (Option Value)} {oc_Taken kV_Taken dc_Taken pm_Taken cd_Taken ct_Taken : Value}
    {C_Missing f_Missing : Addr} {fdMi : FuncData}
    {C_NoMating f_NoMating : Addr} {od_NoMating an_NoMating : Option Addr} {sl_NoMating : Array (Option Value)} {oc_NoMating kV_NoMating dc_NoMating pm_NoMating cd_NoMating ct_NoMating : Value}
    {C_NoRoad f_NoRoad : Addr} {od_NoRoad an_NoRoad : Option Addr} {sl_NoRoad : Array (Option Value)} {oc_NoRoad kV_NoRoad dc_NoRoad pm_NoRoad cd_NoRoad ct_NoRoad : Value}
    {C_NoFamily C_TooMuch C_BadPlace C_BadStretch C_BadMove C_BadMoves C_BadText C_BadBoard C_BadCounts C_BadSide C_NoSide C_TURNS : Addr}
    {C_Road : Addr}
    {fm_Ro_become : Addr} {odm_Ro_become anm_Ro_become : Option Addr} {slm_Ro_become : Array (Option Value)} {ocm_Ro_become kVm_Ro_become dcm_Ro_become pmm_Ro_become ctm_Ro_become cdm_Ro_become : Value}
    {fm_Ro_next_number : Addr} {odm_Ro_next_number anm_Ro_next_number : Option Addr} {slm_Ro_next_number : Array (Option Value)} {ocm_Ro_next_number kVm_Ro_next_number dcm_Ro_next_number pmm_Ro_next_number ctm_Ro_next_number cdm_Ro_next_number : Value}
    {fm_Ro_matings : Addr} {odm_Ro_matings anm_Ro_matings : Option Addr} {slm_Ro_matings : Array (Option Value)} {ocm_Ro_matings kVm_Ro_matings dcm_Ro_matings pmm_Ro_matings ctm_Ro_matings cdm_Ro_matings : Value}
    {fm_Ro_length : Addr} {odm_Ro_length anm_Ro_length : Option Addr} {slm_Ro_length : Array (Option Value)} {ocm_Ro_length kVm_Ro_length dcm_Ro_length pmm_Ro_length ctm_Ro_length cdm_Ro_length : Value}
    {fm_Ro_mate_as : Addr} {odm_Ro_mate_as anm_Ro_mate_as : Option Addr} {slm_Ro_mate_as : Array (Option Value)} {ocm_Ro_mate_as kVm_Ro_mate_as dcm_Ro_mate_as pmm_Ro_mate_as ctm_Ro_mate_as cdm_Ro_mate_as : Value}
    {fm_Ro_strike : Addr} {odm_Ro_strike anm_Ro_strike : Option Addr} {slm_Ro_strike : Array (Option Value)} {ocm_Ro_strike kVm_Ro_strike dcm_Ro_strike pmm_Ro_strike ctm_Ro_strike cdm_Ro_strike : Value}
    {fm_Ro_grow : Addr} {odm_Ro_grow anm_Ro_grow : Option Addr} {slm_Ro_grow : Array (Option Value)} {ocm_Ro_grow kVm_Ro_grow dcm_Ro_grow pmm_Ro_grow ctm_Ro_grow cdm_Ro_grow : Value}
    {fm_Ro_trim : Addr} {odm_Ro_trim anm_Ro_trim : Option Addr} {slm_Ro_trim : Array (Option Value)} {ocm_Ro_trim kVm_Ro_trim dcm_Ro_trim pmm_Ro_trim ctm_Ro_trim cdm_Ro_trim : Value}
    {fm_Ro_swell : Addr} {odm_Ro_swell anm_Ro_swell : Option Addr} {slm_Ro_swell : Array (Option Value)} {ocm_Ro_swell kVm_Ro_swell dcm_Ro_swell pmm_Ro_swell ctm_Ro_swell cdm_Ro_swell : Value}
    {fm_Ro_behind : Addr} {odm_Ro_behind anm_Ro_behind : Option Addr} {slm_Ro_behind : Array (Option Value)} {ocm_Ro_behind kVm_Ro_behind dcm_Ro_behind pmm_Ro_behind ctm_Ro_behind cdm_Ro_behind : Value}
    {fm_Ro_twin : Addr} {odm_Ro_twin anm_Ro_twin : Option Addr} {slm_Ro_twin : Array (Option Value)} {ocm_Ro_twin kVm_Ro_twin dcm_Ro_twin pmm_Ro_twin ctm_Ro_twin cdm_Ro_twin : Value}
    {fm_Ro___eq__ : Addr} {odm_Ro___eq__ anm_Ro___eq__ : Option Addr} {slm_Ro___eq__ : Array (Option Value)} {ocm_Ro___eq__ kVm_Ro___eq__ dcm_Ro___eq__ pmm_Ro___eq__ ctm_Ro___eq__ cdm_Ro___eq__ : Value}
    {fm_Ro___init__ : Addr} {fdm_Ro___init__ : FuncData}
    {fm_Ro_mate : Addr} {fdm_Ro_mate : FuncData}
    {C_Draft : Addr}
    {fm_Df___init__ : Addr} {odm_Df___init__ anm_Df___init__ : Option Addr} {slm_Df___init__ : Array (Option Value)} {ocm_Df___init__ kVm_Df___init__ dcm_Df___init__ pmm_Df___init__ ctm_Df___init__ cdm_Df___init__ : Value}
    {fm_Df_seat : Addr} {odm_Df_seat anm_Df_seat : Option Addr} {slm_Df_seat : Array (Option Value)} {ocm_Df_seat kVm_Df_seat dcm_Df_seat pmm_Df_seat ctm_Df_seat cdm_Df_seat : Value}
    {fm_Df_need_room : Addr} {odm_Df_need_room anm_Df_need_room : Option Addr} {slm_Df_need_room : Array (Option Value)} {ocm_Df_need_room kVm_Df_need_room dcm_Df_need_room pmm_Df_need_room ctm_Df_need_room cdm_Df_need_room : Value}
    {fm_Df_do : Addr} {odm_Df_do anm_Df_do : Option Addr} {slm_Df_do : Array (Option Value)} {ocm_Df_do kVm_Df_do dcm_Df_do pmm_Df_do ctm_Df_do cdm_Df_do : Value}
    {fm_Df_change_road : Addr} {odm_Df_change_road anm_Df_change_road : Option Addr} {slm_Df_change_road : Array (Option Value)} {ocm_Df_change_road kVm_Df_change_road dcm_Df_change_road pmm_Df_change_road ctm_Df_change_road cdm_Df_change_road : Value}
    {C_Hall : Addr}
    {fm_Ha_draft : Addr} {odm_Ha_draft anm_Ha_draft : Option Addr} {slm_Ha_draft : Array (Option Value)} {ocm_Ha_draft kVm_Ha_draft dcm_Ha_draft pmm_Ha_draft ctm_Ha_draft cdm_Ha_draft : Value}
    {fm_Ha_together : Addr} {odm_Ha_together anm_Ha_together : Option Addr} {slm_Ha_together : Array (Option Value)} {ocm_Ha_together kVm_Ha_together dcm_Ha_together pmm_Ha_together ctm_Ha_together cdm_Ha_together : Value}
    {fm_Ha_names : Addr} {odm_Ha_names anm_Ha_names : Option Addr} {slm_Ha_names : Array (Option Value)} {ocm_Ha_names kVm_Ha_names dcm_Ha_names pmm_Ha_names ctm_Ha_names cdm_Ha_names : Value}
    {fm_Ha_very : Addr} {odm_Ha_very anm_Ha_very : Option Addr} {slm_Ha_very : Array (Option Value)} {ocm_Ha_very kVm_Ha_very dcm_Ha_very pmm_Ha_very ctm_Ha_very cdm_Ha_very : Value}
    {fm_Ha_road : Addr} {odm_Ha_road anm_Ha_road : Option Addr} {slm_Ha_road : Array (Option Value)} {ocm_Ha_road kVm_Ha_road dcm_Ha_road pmm_Ha_road ctm_Ha_road cdm_Ha_road : Value}
    {fm_Ha___len__ : Addr} {odm_Ha___len__ anm_Ha___len__ : Option Addr} {slm_Ha___len__ : Array (Option Value)} {ocm_Ha___len__ kVm_Ha___len__ dcm_Ha___len__ pmm_Ha___len__ ctm_Ha___len__ cdm_Ha___len__ : Value}
    {fm_Ha_do : Addr} {odm_Ha_do anm_Ha_do : Option Addr} {slm_Ha_do : Array (Option Value)} {ocm_Ha_do kVm_Ha_do dcm_Ha_do pmm_Ha_do ctm_Ha_do cdm_Ha_do : Value}
    {fm_Ha_steps : Addr} {odm_Ha_steps anm_Ha_steps : Option Addr} {slm_Ha_steps : Array (Option Value)} {ocm_Ha_steps kVm_Ha_steps dcm_Ha_steps pmm_Ha_steps ctm_Ha_steps cdm_Ha_steps : Value}
    {fm_Ha___init__ : Addr} {fdm_Ha___init__ : FuncData}
    {tk_FAR : Tok}
    {tk_MOST : Tok}
    {tk_LONGEST_NAME : Tok}
    {tk_ROADS : Tok}
    {tk_LETTERS : Tok}
    (X : K.In h) (G : h.Ns mainGlobals mg) (hfa : mg "law" = some (.ref fa)) (hT : h.get? Pt = some (PySem.W.tabObj #[]))
    (a0 : PySem.W.nsIn K mainGlobals "_law_open" = some (some (.ref f0))) (l0 : K.lookup f0 = some ⟨oc0, od0, .func (PySem.W.fnOf "_law_open" "_law_open" (defArgs s_open) (defBody s_open) (defScope s_open) .none kV0 dc0 pm0 an0 cd0 ct0), sl0⟩) (c0 : PySem.W.codeIn K cd0 "_law_open" = true) (k0 : PySem.W.keepIn K (.ref f0) = true)
    (a1 : PySem.W.nsIn K mainGlobals "_law_pull" = some (some (.ref f1))) (l1 : K.lookup f1 = some ⟨oc1, od1, .func (PySem.W.fnOf "_law_pull" "_law_pull" (defArgs s_pull) (defBody s_pull) (defScope s_pull) .none kV1 dc1 pm1 an1 cd1 ct1), sl1⟩) (c1 : PySem.W.codeIn K cd1 "_law_pull" = true) (k1 : PySem.W.keepIn K (.ref f1) = true)
    (a2 : PySem.W.nsIn K mainGlobals "_law_any" = some (some (.ref f2))) (l2 : K.lookup f2 = some ⟨oc2, od2, .func (PySem.W.fnOf "_law_any" "_law_any" (defArgs s_any) (defBody s_any) (defScope s_any) .none kV2 dc2 pm2 an2 cd2 ct2), sl2⟩) (c2 : PySem.W.codeIn K cd2 "_law_any" = true) (k2 : PySem.W.keepIn K (.ref f2) = true)
    (a3 : PySem.W.nsIn K mainGlobals "_law_like" = some (some (.ref f3))) (l3 : K.lookup f3 = some ⟨oc3, od3, .func (PySem.W.fnOf "_law_like" "_law_like" (defArgs s_like) (defBody s_like) (defScope s_like) .none kV3 dc3 pm3 an3 cd3 ct3), sl3⟩) (c3 : PySem.W.codeIn K cd3 "_law_like" = true) (k3 : PySem.W.keepIn K (.ref f3) = true)
    (a4 : PySem.W.nsIn K mainGlobals "_law_fields" = some (some (.ref f4))) (l4 : K.lookup f4 = some ⟨oc4, od4, .func (PySem.W.fnOf "_law_fields" "_law_fields" (defArgs s_fields) (defBody s_fields) (defScope s_fields) .none kV4 dc4 pm4 an4 cd4 ct4), sl4⟩) (c4 : PySem.W.codeIn K cd4 "_law_fields" = true) (k4 : PySem.W.keepIn K (.ref f4) = true)
    (a5 : PySem.W.nsIn K mainGlobals "_law_why" = some (some (.ref f5))) (l5 : K.lookup f5 = some ⟨oc5, od5, .func (PySem.W.fnOf "_law_why" "_law_why" (defArgs s_why) (defBody s_why) (defScope s_why) .none kV5 dc5 pm5 an5 cd5 ct5), sl5⟩) (c5 : PySem.W.codeIn K cd5 "_law_why" = true) (k5 : PySem.W.keepIn K (.ref f5) = true)
    (a6 : PySem.W.nsIn K mainGlobals "_law_mating" = some (some (.ref f6))) (l6 : K.lookup f6 = some ⟨oc6, od6, .func (PySem.W.fnOf "_law_mating" "_law_mating" (defArgs s_mating) (defBody s_mating) (defScope s_mating) .none kV6 dc6 pm6 an6 cd6 ct6), sl6⟩) (c6 : PySem.W.codeIn K cd6 "_law_mating" = true) (k6 : PySem.W.keepIn K (.ref f6) = true)
    (a7 : PySem.W.nsIn K mainGlobals "_law_ends" = some (some (.ref f7))) (l7 : K.lookup f7 = some ⟨oc7, od7, .func (PySem.W.fnOf "_law_ends" "_law_ends" (defArgs s_ends) (defBody s_ends) (defScope s_ends) .none kV7 dc7 pm7 an7 cd7 ct7), sl7⟩) (c7 : PySem.W.codeIn K cd7 "_law_ends" = true) (k7 : PySem.W.keepIn K (.ref f7) = true)
    (a8 : PySem.W.nsIn K mainGlobals "_law_odd" = some (some (.ref f8))) (l8 : K.lookup f8 = some ⟨oc8, od8, .func (PySem.W.fnOf "_law_odd" "_law_odd" (defArgs s_odd) (defBody s_odd) (defScope s_odd) .none kV8 dc8 pm8 an8 cd8 ct8), sl8⟩) (c8 : PySem.W.codeIn K cd8 "_law_odd" = true) (k8 : PySem.W.keepIn K (.ref f8) = true)
    (a9 : PySem.W.nsIn K mainGlobals "_law_scaled" = some (some (.ref f9))) (l9 : K.lookup f9 = some ⟨oc9, od9, .func (PySem.W.fnOf "_law_scaled" "_law_scaled" (defArgs s_scaled) (defBody s_scaled) (defScope s_scaled) .none kV9 dc9 pm9 an9 cd9 ct9), sl9⟩) (c9 : PySem.W.codeIn K cd9 "_law_scaled" = true) (k9 : PySem.W.keepIn K (.ref f9) = true)
    (a10 : PySem.W.nsIn K mainGlobals "_law_hall_name" = some (some (.ref f10))) (l10 : K.lookup f10 = some ⟨oc10, od10, .func (PySem.W.fnOf "_law_hall_name" "_law_hall_name" (defArgs s_hall_name) (defBody s_hall_name) (defScope s_hall_name) .none kV10 dc10 pm10 an10 cd10 ct10), sl10⟩) (c10 : PySem.W.codeIn K cd10 "_law_hall_name" = true) (k10 : PySem.W.keepIn K (.ref f10) = true)
    (a11 : PySem.W.nsIn K mainGlobals "_law_good_name" = some (some (.ref f11))) (l11 : K.lookup f11 = some ⟨oc11, od11, .func (PySem.W.fnOf "_law_good_name" "_law_good_name" (defArgs s_good_name) (defBody s_good_name) (defScope s_good_name) .none kV11 dc11 pm11 an11 cd11 ct11), sl11⟩) (c11 : PySem.W.codeIn K cd11 "_law_good_name" = true) (k11 : PySem.W.keepIn K (.ref f11) = true)
    (a12 : PySem.W.nsIn K mainGlobals "_law_room" = some (some (.ref f12))) (l12 : K.lookup f12 = some ⟨oc12, od12, .func (PySem.W.fnOf "_law_room" "_law_room" (defArgs s_room) (defBody s_room) (defScope s_room) .none kV12 dc12 pm12 an12 cd12 ct12), sl12⟩) (c12 : PySem.W.codeIn K cd12 "_law_room" = true) (k12 : PySem.W.keepIn K (.ref f12) = true)
    (a13 : PySem.W.nsIn K mainGlobals "_law_clip" = some (some (.ref f13))) (l13 : K.lookup f13 = some ⟨oc13, od13, .func (PySem.W.fnOf "_law_clip" "_law_clip" (defArgs s_clip) (defBody s_clip) (defScope s_clip) .none kV13 dc13 pm13 an13 cd13 ct13), sl13⟩) (c13 : PySem.W.codeIn K cd13 "_law_clip" = true) (k13 : PySem.W.keepIn K (.ref f13) = true)
    (a14 : PySem.W.nsIn K mainGlobals "_law_no_number" = some (some (.ref f14))) (l14 : K.lookup f14 = some ⟨oc14, od14, .func (PySem.W.fnOf "_law_no_number" "_law_no_number" (defArgs s_no_number) (defBody s_no_number) (defScope s_no_number) .none kV14 dc14 pm14 an14 cd14 ct14), sl14⟩) (c14 : PySem.W.codeIn K cd14 "_law_no_number" = true) (k14 : PySem.W.keepIn K (.ref f14) = true)
    (a15 : PySem.W.nsIn K mainGlobals "_law_road_deed" = some (some (.ref f15))) (l15 : K.lookup f15 = some ⟨oc15, od15, .func (PySem.W.fnOf "_law_road_deed" "_law_road_deed" (defArgs s_road_deed) (defBody s_road_deed) (defScope s_road_deed) .none kV15 dc15 pm15 an15 cd15 ct15), sl15⟩) (c15 : PySem.W.codeIn K cd15 "_law_road_deed" = true) (k15 : PySem.W.keepIn K (.ref f15) = true)
    (a16 : PySem.W.nsIn K mainGlobals "_law_taken_behind" = some (some (.ref f16))) (l16 : K.lookup f16 = some ⟨oc16, od16, .func (PySem.W.fnOf "_law_taken_behind" "_law_taken_behind" (defArgs s_taken_behind) (defBody s_taken_behind) (defScope s_taken_behind) .none kV16 dc16 pm16 an16 cd16 ct16), sl16⟩) (c16 : PySem.W.codeIn K cd16 "_law_taken_behind" = true) (k16 : PySem.W.keepIn K (.ref f16) = true)
    (a17 : PySem.W.nsIn K mainGlobals "_law_step" = some (some (.ref f17))) (l17 : K.lookup f17 = some ⟨oc17, od17, .func (PySem.W.fnOf "_law_step" "_law_step" (defArgs s_step) (defBody s_step) (defScope s_step) .none kV17 dc17 pm17 an17 cd17 ct17), sl17⟩) (c17 : PySem.W.codeIn K cd17 "_law_step" = true) (k17 : PySem.W.keepIn K (.ref f17) = true)
    (a18 : PySem.W.nsIn K mainGlobals "_law_hall_deed" = some (some (.ref f18))) (l18 : K.lookup f18 = some ⟨oc18, od18, .func (PySem.W.fnOf "_law_hall_deed" "_law_hall_deed" (defArgs s_hall_deed) (defBody s_hall_deed) (defScope s_hall_deed) .none kV18 dc18 pm18 an18 cd18 ct18), sl18⟩) (c18 : PySem.W.codeIn K cd18 "_law_hall_deed" = true) (k18 : PySem.W.keepIn K (.ref f18) = true)
    (a19 : PySem.W.nsIn K mainGlobals "_law_hall_looks" = some (some (.ref f19))) (l19 : K.lookup f19 = some ⟨oc19, od19, .func (PySem.W.fnOf "_law_hall_looks" "_law_hall_looks" (defArgs s_hall_looks) (defBody s_hall_looks) (defScope s_hall_looks) .none kV19 dc19 pm19 an19 cd19 ct19), sl19⟩) (c19 : PySem.W.codeIn K cd19 "_law_hall_looks" = true) (k19 : PySem.W.keepIn K (.ref f19) = true)
    (a20 : PySem.W.nsIn K mainGlobals "need_from" = some (some (.ref f20))) (l20 : K.lookup f20 = some ⟨oc20, od20, .func (PySem.W.fnOf "need_from" "need_from" (defArgs s_need_from) (defBody s_need_from) (defScope s_need_from) .none kV20 dc20 pm20 an20 cd20 ct20), sl20⟩) (c20 : PySem.W.codeIn K cd20 "need_from" = true) (k20 : PySem.W.keepIn K (.ref f20) = true)
    (a21 : PySem.W.nsIn K mainGlobals "need_within" = some (some (.ref f21))) (l21 : K.lookup f21 = some ⟨oc21, od21, .func (PySem.W.fnOf "need_within" "need_within" (defArgs s_need_within) (defBody s_need_within) (defScope s_need_within) .none kV21 dc21 pm21 an21 cd21 ct21), sl21⟩) (c21 : PySem.W.codeIn K cd21 "need_within" = true) (k21 : PySem.W.keepIn K (.ref f21) = true)
    (a22 : PySem.W.nsIn K mainGlobals "need_length" = some (some (.ref f22))) (l22 : K.lookup f22 = some ⟨oc22, od22, .func (PySem.W.fnOf "need_length" "need_length" (defArgs s_need_length) (defBody s_need_length) (defScope s_need_length) .none kV22 dc22 pm22 an22 cd22 ct22), sl22⟩) (c22 : PySem.W.codeIn K cd22 "need_length" = true) (k22 : PySem.W.keepIn K (.ref f22) = true)
    (a23 : PySem.W.nsIn K mainGlobals "need_mating" = some (some (.ref f23))) (l23 : K.lookup f23 = some ⟨oc23, od23, .func (PySem.W.fnOf "need_mating" "need_mating" (defArgs s_need_mating) (defBody s_need_mating) (defScope s_need_mating) .none kV23 dc23 pm23 an23 cd23 ct23), sl23⟩) (c23 : PySem.W.codeIn K cd23 "need_mating" = true) (k23 : PySem.W.keepIn K (.ref f23) = true)
    (a24 : PySem.W.nsIn K mainGlobals "is_mating" = some (some (.ref f24))) (l24 : K.lookup f24 = some ⟨oc24, od24, .func (PySem.W.fnOf "is_mating" "is_mating" (defArgs s_is_mating) (defBody s_is_mating) (defScope s_is_mating) .none kV24 dc24 pm24 an24 cd24 ct24), sl24⟩) (c24 : PySem.W.codeIn K cd24 "is_mating" = true) (k24 : PySem.W.keepIn K (.ref f24) = true)
    (a25 : PySem.W.nsIn K mainGlobals "clipped" = some (some (.ref f25))) (l25 : K.lookup f25 = some ⟨oc25, od25, .func (PySem.W.fnOf "clipped" "clipped" (defArgs s_clipped) (defBody s_clipped) (defScope s_clipped) .none kV25 dc25 pm25 an25 cd25 ct25), sl25⟩) (c25 : PySem.W.codeIn K cd25 "clipped" = true) (k25 : PySem.W.keepIn K (.ref f25) = true)
    (a26 : PySem.W.nsIn K mainGlobals "part" = some (some (.ref f26))) (l26 : K.lookup f26 = some ⟨oc26, od26, .func (PySem.W.fnOf "part" "part" (defArgs s_part) (defBody s_part) (defScope s_part) .none kV26 dc26 pm26 an26 cd26 ct26), sl26⟩) (c26 : PySem.W.codeIn K cd26 "part" = true) (k26 : PySem.W.keepIn K (.ref f26) = true)
    (a27 : PySem.W.nsIn K mainGlobals "holds" = some (some (.ref f27))) (l27 : K.lookup f27 = some ⟨oc27, od27, .func (PySem.W.fnOf "holds" "holds" (defArgs s_holds) (defBody s_holds) (defScope s_holds) .none kV27 dc27 pm27 an27 cd27 ct27), sl27⟩) (c27 : PySem.W.codeIn K cd27 "holds" = true) (k27 : PySem.W.keepIn K (.ref f27) = true)
    (a28 : PySem.W.nsIn K mainGlobals "swelled" = some (some (.ref f28))) (l28 : K.lookup f28 = some ⟨oc28, od28, .func (PySem.W.fnOf "swelled" "swelled" (defArgs s_swelled) (defBody s_swelled) (defScope s_swelled) .none kV28 dc28 pm28 an28 cd28 ct28), sl28⟩) (c28 : PySem.W.codeIn K cd28 "swelled" = true) (k28 : PySem.W.keepIn K (.ref f28) = true)
    (a29 : PySem.W.nsIn K mainGlobals "moved" = some (some (.ref f29))) (l29 : K.lookup f29 = some ⟨oc29, od29, .func (PySem.W.fnOf "moved" "moved" (defArgs s_moved) (defBody s_moved) (defScope s_moved) .none kV29 dc29 pm29 an29 cd29 ct29), sl29⟩) (c29 : PySem.W.codeIn K cd29 "moved" = true) (k29 : PySem.W.keepIn K (.ref f29) = true)
    (a30 : PySem.W.nsIn K mainGlobals "is_name" = some (some (.ref f30))) (l30 : K.lookup f30 = some ⟨oc30, od30, .func (PySem.W.fnOf "is_name" "is_name" (defArgs s_is_name) (defBody s_is_name) (defScope s_is_name) .none kV30 dc30 pm30 an30 cd30 ct30), sl30⟩) (c30 : PySem.W.codeIn K cd30 "is_name" = true) (k30 : PySem.W.keepIn K (.ref f30) = true)
    (a31 : PySem.W.nsIn K mainGlobals "very_road" = some (some (.ref f31))) (l31 : K.lookup f31 = some ⟨oc31, od31, .func (PySem.W.fnOf "very_road" "very_road" (defArgs s_very_road) (defBody s_very_road) (defScope s_very_road) .none kV31 dc31 pm31 an31 cd31 ct31), sl31⟩) (c31 : PySem.W.codeIn K cd31 "very_road" = true) (k31 : PySem.W.keepIn K (.ref f31) = true)
    (a32 : PySem.W.nsIn K mainGlobals "do_upon" = some (some (.ref f32))) (l32 : K.lookup f32 = some ⟨oc32, od32, .func (PySem.W.fnOf "do_upon" "do_upon" (defArgs s_do_upon) (defBody s_do_upon) (defScope s_do_upon) .none kV32 dc32 pm32 an32 cd32 ct32), sl32⟩) (c32 : PySem.W.codeIn K cd32 "do_upon" = true) (k32 : PySem.W.keepIn K (.ref f32) = true)
    (a33 : PySem.W.nsIn K mainGlobals "page" = some (some (.ref f33))) (l33 : K.lookup f33 = some ⟨oc33, od33, .func (PySem.W.fnOf "page" "page" (defArgs s_page) (defBody s_page) (defScope s_page) .none kV33 dc33 pm33 an33 cd33 ct33), sl33⟩) (c33 : PySem.W.codeIn K cd33 "page" = true) (k33 : PySem.W.keepIn K (.ref f33) = true)
    (a34 : PySem.W.nsIn K mainGlobals "_law_page" = some (some (.ref f34))) (l34 : K.lookup f34 = some ⟨oc34, od34, .func (PySem.W.fnOf "_law_page" "_law_page" (defArgs s_law_page) (defBody s_law_page) (defScope s_law_page) .none kV34 dc34 pm34 an34 cd34 ct34), sl34⟩) (c34 : PySem.W.codeIn K cd34 "_law_page" = true) (k34 : PySem.W.keepIn K (.ref f34) = true)
    (a35 : PySem.W.nsIn K mainGlobals "law" = some (some (.ref f35))) (l35 : K.lookup f35 = some ⟨oc35, od35, .func (PySem.W.fnOf "law" "law" (defArgs s_law) (defBody s_law) (defScope s_law) .none kV35 dc35 pm35 an35 (.ref c) ct35), sl35⟩) (c35 : PySem.W.codeIn K (.ref c) "law" = true) (k35 : PySem.W.keepIn K (.ref f35) = true)
    (z0 : PySem.W.nsIn K mainGlobals "len" = some none) (z1 : PySem.W.nsIn K mainGlobals "list" = some none) (z2 : PySem.W.nsIn K mainGlobals "tuple" = some none) (z3 : PySem.W.nsIn K mainGlobals "bool" = some none)
    (z4 : PySem.W.nsIn K mainGlobals "int" = some none) (z5 : PySem.W.nsIn K mainGlobals "str" = some none) (z6 : PySem.W.nsIn K mainGlobals "isinstance" = some none) (z7 : PySem.W.nsIn K mainGlobals "all" = some none)
    (z8 : PySem.W.nsIn K mainGlobals "any" = some none) (z9 : PySem.W.nsIn K mainGlobals "range" = some none) (z10 : PySem.W.nsIn K mainGlobals "max" = some none) (z11 : PySem.W.nsIn K mainGlobals "min" = some none)
    (z12 : PySem.W.nsIn K mainGlobals "dict" = some none) (z13 : PySem.W.nsIn K mainGlobals "sorted" = some none) (zV : PySem.W.nsIn K mainGlobals "ValueError" = some none) (hP : PySem.W.codeHdIn K c Pt = true)
    (nP : K.lookup Pt = none) (gF : PySem.W.nsIn K mainGlobals "FarError" = some (some (.ref C_FarError))) (TF : ClsFn K C_FarError "__init__" f_FarError) (FF : FunD K "__init__" "FarError.__init__" (defArgs s_farinit) (defBody s_farinit) (defScope s_farinit) [.str ""] [] f_FarError fdF)
    (fF8 : PySem.W.findCls K (.type "ValueError") (.type "type") "__init__" = some (.val (.builtin "ValueError.__init__"))) (g_BadNumber : PySem.W.nsIn K mainGlobals "BadNumber" = some (some (.ref C_BadNumber))) (E_BadNumber : ErrT K C_BadNumber) (XF_BadNumber : XfC K C_BadNumber)
    (EC_BadNumber : ExcC K C_BadNumber) (M_BadNumber : PySem.W.exmOne K (.ref C_BadNumber) (.ref C_FarError) = some true) (n_BadNumber_number : PySem.W.findIn K (.ref C_BadNumber) "number" = some none) (i_BadNumber : PySem.W.findIn K (.ref C_BadNumber) "__init__" = some (some (.ref f_BadNumber)))
    (t_BadNumber : PySem.W.typeIn K (.ref f_BadNumber) = some (.type "function")) (l_BadNumber : K.lookup f_BadNumber = some ⟨oc_BadNumber, od_BadNumber, .func (PySem.W.fnOf "__init__" "BadNumber.__init__" (defArgs s_bninit) (defBody s_bninit) (defScope s_bninit) .none kV_BadNumber dc_BadNumber pm_BadNumber an_BadNumber cd_BadNumber ct_BadNumber), sl_BadNumber⟩) (c_BadNumber : PySem.W.codeIn K cd_BadNumber "BadNumber.__init__" = true) (k_BadNumber : PySem.W.keepIn K (.ref f_BadNumber) = true)
    (g_BadMating : PySem.W.nsIn K mainGlobals "BadMating" = some (some (.ref C_BadMating))) (E_BadMating : ErrT K C_BadMating) (XF_BadMating : XfC K C_BadMating) (EC_BadMating : ExcC K C_BadMating)
    (M_BadMating : PySem.W.exmOne K (.ref C_BadMating) (.ref C_FarError) = some true) (n_BadMating_mating : PySem.W.findIn K (.ref C_BadMating) "mating" = some none) (i_BadMating : PySem.W.findIn K (.ref C_BadMating) "__init__" = some (some (.ref f_BadMating))) (t_BadMating : PySem.W.typeIn K (.ref f_BadMating) = some (.type "function"))
    (l_BadMating : K.lookup f_BadMating = some ⟨oc_BadMating, od_BadMating, .func (PySem.W.fnOf "__init__" "BadMating.__init__" (defArgs s_bginit) (defBody s_bginit) (defScope s_bginit) .none kV_BadMating dc_BadMating pm_BadMating an_BadMating cd_BadMating ct_BadMating), sl_BadMating⟩) (c_BadMating : PySem.W.codeIn K cd_BadMating "BadMating.__init__" = true) (k_BadMating : PySem.W.keepIn K (.ref f_BadMating) = true) (g_Full : PySem.W.nsIn K mainGlobals "Full" = some (some (.ref C_Full)))
    (E_Full : ErrT K C_Full) (XF_Full : XfC K C_Full) (EC_Full : ExcC K C_Full) (M_Full : PySem.W.exmOne K (.ref C_Full) (.ref C_FarError) = some true)
    (n_Full_most : PySem.W.findIn K (.ref C_Full) "most" = some none) (i_Full : PySem.W.findIn K (.ref C_Full) "__init__" = some (some (.ref f_Full))) (t_Full : PySem.W.typeIn K (.ref f_Full) = some (.type "function")) (l_Full : K.lookup f_Full = some ⟨oc_Full, od_Full, .func (PySem.W.fnOf "__init__" "Full.__init__" (defArgs s_fuinit) (defBody s_fuinit) (defScope s_fuinit) .none kV_Full dc_Full pm_Full an_Full cd_Full ct_Full), sl_Full⟩)
    (c_Full : PySem.W.codeIn K cd_Full "Full.__init__" = true) (k_Full : PySem.W.keepIn K (.ref f_Full) = true) (g_BadName : PySem.W.nsIn K mainGlobals "BadName" = some (some (.ref C_BadName))) (E_BadName : ErrT K C_BadName)
    (XF_BadName : XfC K C_BadName) (EC_BadName : ExcC K C_BadName) (M_BadName : PySem.W.exmOne K (.ref C_BadName) (.ref C_FarError) = some true) (n_BadName_name : PySem.W.findIn K (.ref C_BadName) "name" = some none)
    (i_BadName : PySem.W.findIn K (.ref C_BadName) "__init__" = some (some (.ref f_BadName))) (t_BadName : PySem.W.typeIn K (.ref f_BadName) = some (.type "function")) (l_BadName : K.lookup f_BadName = some ⟨oc_BadName, od_BadName, .func (PySem.W.fnOf "__init__" "BadName.__init__" (defArgs s_erBadName) (defBody s_erBadName) (defScope s_erBadName) .none kV_BadName dc_BadName pm_BadName an_BadName cd_BadName ct_BadName), sl_BadName⟩) (c_BadName : PySem.W.codeIn K cd_BadName "BadName.__init__" = true)
    (k_BadName : PySem.W.keepIn K (.ref f_BadName) = true) (g_Taken : PySem.W.nsIn K mainGlobals "Taken" = some (some (.ref C_Taken))) (E_Taken : ErrT K C_Taken) (XF_Taken : XfC K C_Taken)
    (EC_Taken : ExcC K C_Taken) (M_Taken : PySem.W.exmOne K (.ref C_Taken) (.ref C_FarError) = some true) (n_Taken_name : PySem.W.findIn K (.ref C_Taken) "name" = some none) (i_Taken : PySem.W.findIn K (.ref C_Taken) "__init__" = some (some (.ref f_Taken)))
    (t_Taken : PySem.W.typeIn K (.ref f_Taken) = some (.type "function")) (l_Taken : K.lookup f_Taken = some ⟨oc_Taken, od_Taken, .func (PySem.W.fnOf "__init__" "Taken.__init__" (defArgs s_erTaken) (defBody s_erTaken) (defScope s_erTaken) .none kV_Taken dc_Taken pm_Taken an_Taken cd_Taken ct_Taken), sl_Taken⟩) (c_Taken : PySem.W.codeIn K cd_Taken "Taken.__init__" = true) (k_Taken : PySem.W.keepIn K (.ref f_Taken) = true)
    (gM : PySem.W.nsIn K mainGlobals "Missing" = some (some (.ref C_Missing))) (TMi : ClsFn K C_Missing "__init__" f_Missing) (FMi : FunD K "__init__" "Missing.__init__" (defArgs s_misinit) (defBody s_misinit) (defScope s_misinit) [.str ""] [] f_Missing fdMi) (fM8 : PySem.W.findCls K (.type "LookupError") (.type "type") "__init__" = some (.val (.builtin "LookupError.__init__")))
    (zL : PySem.W.nsIn K mainGlobals "LookupError" = some none) (g_NoMating : PySem.W.nsIn K mainGlobals "NoMating" = some (some (.ref C_NoMating))) (E_NoMating : LerT K C_NoMating) (XF_NoMating : XfC K C_NoMating)
    (EC_NoMating : ExcC K C_NoMating) (M0_NoMating : PySem.W.exmOne K (.ref C_NoMating) (.ref C_FarError) = some false) (M_NoMating : PySem.W.exmOne K (.ref C_NoMating) (.ref C_Missing) = some true) (n_NoMating_number : PySem.W.findIn K (.ref C_NoMating) "number" = some none)
    (i_NoMating : PySem.W.findIn K (.ref C_NoMating) "__init__" = some (some (.ref f_NoMating))) (t_NoMating : PySem.W.typeIn K (.ref f_NoMating) = some (.type "function")) (l_NoMating : K.lookup f_NoMating = some ⟨oc_NoMating, od_NoMating, .func (PySem.W.fnOf "__init__" "NoMating.__init__" (defArgs s_nminit) (defBody s_nminit) (defScope s_nminit) .none kV_NoMating dc_NoMating pm_NoMating an_NoMating cd_NoMating ct_NoMating), sl_NoMating⟩) (c_NoMating : PySem.W.codeIn K cd_NoMating "NoMating.__init__" = true)
    (k_NoMating : PySem.W.keepIn K (.ref f_NoMating) = true) (g_NoRoad : PySem.W.nsIn K mainGlobals "NoRoad" = some (some (.ref C_NoRoad))) (E_NoRoad : LerT K C_NoRoad) (XF_NoRoad : XfC K C_NoRoad)
    (EC_NoRoad : ExcC K C_NoRoad) (M0_NoRoad : PySem.W.exmOne K (.ref C_NoRoad) (.ref C_FarError) = some false) (M_NoRoad : PySem.W.exmOne K (.ref C_NoRoad) (.ref C_Missing) = some true) (n_NoRoad_name : PySem.W.findIn K (.ref C_NoRoad) "name" = some none)
    (i_NoRoad : PySem.W.findIn K (.ref C_NoRoad) "__init__" = some (some (.ref f_NoRoad))) (t_NoRoad : PySem.W.typeIn K (.ref f_NoRoad) = some (.type "function")) (l_NoRoad : K.lookup f_NoRoad = some ⟨oc_NoRoad, od_NoRoad, .func (PySem.W.fnOf "__init__" "NoRoad.__init__" (defArgs s_erNoRoad) (defBody s_erNoRoad) (defScope s_erNoRoad) .none kV_NoRoad dc_NoRoad pm_NoRoad an_NoRoad cd_NoRoad ct_NoRoad), sl_NoRoad⟩) (c_NoRoad : PySem.W.codeIn K cd_NoRoad "NoRoad.__init__" = true)
    (k_NoRoad : PySem.W.keepIn K (.ref f_NoRoad) = true) (g_NoFamily : PySem.W.nsIn K mainGlobals "NoFamily" = some (some (.ref C_NoFamily))) (g_TooMuch : PySem.W.nsIn K mainGlobals "TooMuch" = some (some (.ref C_TooMuch))) (g_BadPlace : PySem.W.nsIn K mainGlobals "BadPlace" = some (some (.ref C_BadPlace)))
    (g_BadStretch : PySem.W.nsIn K mainGlobals "BadStretch" = some (some (.ref C_BadStretch))) (g_BadMove : PySem.W.nsIn K mainGlobals "BadMove" = some (some (.ref C_BadMove))) (g_BadMoves : PySem.W.nsIn K mainGlobals "BadMoves" = some (some (.ref C_BadMoves))) (g_BadText : PySem.W.nsIn K mainGlobals "BadText" = some (some (.ref C_BadText)))
    (g_BadBoard : PySem.W.nsIn K mainGlobals "BadBoard" = some (some (.ref C_BadBoard))) (g_BadCounts : PySem.W.nsIn K mainGlobals "BadCounts" = some (some (.ref C_BadCounts))) (g_BadSide : PySem.W.nsIn K mainGlobals "BadSide" = some (some (.ref C_BadSide))) (g_NoSide : PySem.W.nsIn K mainGlobals "NoSide" = some (some (.ref C_NoSide)))
    (g_TURNS : PySem.W.nsIn K mainGlobals "TURNS" = some (some (.ref C_TURNS))) (zf_enumerate : PySem.W.nsIn K mainGlobals "enumerate" = some none) (g_Road : PySem.W.nsIn K mainGlobals "Road" = some (some (.ref C_Road))) (cl_Road : Cls K C_Road)
    (mk_Road : PySem.W.makesIn K C_Road = true) (kc_Road : PySem.W.keepIn K (.ref C_Road) = true) (na_Ro_extent : PySem.W.findIn K (.ref C_Road) "extent" = some none) (na_Ro_standing : PySem.W.findIn K (.ref C_Road) "standing" = some none)
    (na_Ro_kept : PySem.W.findIn K (.ref C_Road) "kept" = some none) (na_Ro_foldings : PySem.W.findIn K (.ref C_Road) "foldings" = some none) (ma_Ro_become : PySem.W.findIn K (.ref C_Road) "become" = some (some (.ref fm_Ro_become))) (mi_Ro_become : PySem.W.isFn K (.ref fm_Ro_become) = true)
    (ml_Ro_become : K.lookup fm_Ro_become = some ⟨ocm_Ro_become, odm_Ro_become, .func (PySem.W.fnOf "become" "Road.become" (defArgs s_Ro_become) (defBody s_Ro_become) (defScope s_Ro_become) .none kVm_Ro_become dcm_Ro_become pmm_Ro_become anm_Ro_become cdm_Ro_become ctm_Ro_become), slm_Ro_become⟩) (mc_Ro_become : PySem.W.codeIn K cdm_Ro_become "Road.become" = true) (mp_Ro_become : PySem.W.keepIn K (.ref fm_Ro_become) = true) (ma_Ro_next_number : PySem.W.findIn K (.ref C_Road) "next_number" = some (some (.ref fm_Ro_next_number)))
    (mi_Ro_next_number : PySem.W.isFn K (.ref fm_Ro_next_number) = true) (ml_Ro_next_number : K.lookup fm_Ro_next_number = some ⟨ocm_Ro_next_number, odm_Ro_next_number, .func (PySem.W.fnOf "next_number" "Road.next_number" (defArgs s_Ro_next_number) (defBody s_Ro_next_number) (defScope s_Ro_next_number) .none kVm_Ro_next_number dcm_Ro_next_number pmm_Ro_next_number anm_Ro_next_number cdm_Ro_next_number ctm_Ro_next_number), slm_Ro_next_number⟩) (mc_Ro_next_number : PySem.W.codeIn K cdm_Ro_next_number "Road.next_number" = true) (mp_Ro_next_number : PySem.W.keepIn K (.ref fm_Ro_next_number) = true)
    (ma_Ro_matings : PySem.W.findIn K (.ref C_Road) "matings" = some (some (.ref fm_Ro_matings))) (mi_Ro_matings : PySem.W.isFn K (.ref fm_Ro_matings) = true) (ml_Ro_matings : K.lookup fm_Ro_matings = some ⟨ocm_Ro_matings, odm_Ro_matings, .func (PySem.W.fnOf "matings" "Road.matings" (defArgs s_Ro_matings) (defBody s_Ro_matings) (defScope s_Ro_matings) .none kVm_Ro_matings dcm_Ro_matings pmm_Ro_matings anm_Ro_matings cdm_Ro_matings ctm_Ro_matings), slm_Ro_matings⟩) (mc_Ro_matings : PySem.W.codeIn K cdm_Ro_matings "Road.matings" = true)
    (mp_Ro_matings : PySem.W.keepIn K (.ref fm_Ro_matings) = true) (ma_Ro_length : PySem.W.findIn K (.ref C_Road) "length" = some (some (.ref fm_Ro_length))) (mi_Ro_length : PySem.W.isFn K (.ref fm_Ro_length) = true) (ml_Ro_length : K.lookup fm_Ro_length = some ⟨ocm_Ro_length, odm_Ro_length, .func (PySem.W.fnOf "length" "Road.length" (defArgs s_Ro_length) (defBody s_Ro_length) (defScope s_Ro_length) .none kVm_Ro_length dcm_Ro_length pmm_Ro_length anm_Ro_length cdm_Ro_length ctm_Ro_length), slm_Ro_length⟩)
    (mc_Ro_length : PySem.W.codeIn K cdm_Ro_length "Road.length" = true) (mp_Ro_length : PySem.W.keepIn K (.ref fm_Ro_length) = true) (ma_Ro_mate_as : PySem.W.findIn K (.ref C_Road) "mate_as" = some (some (.ref fm_Ro_mate_as))) (mi_Ro_mate_as : PySem.W.isFn K (.ref fm_Ro_mate_as) = true)
    (ml_Ro_mate_as : K.lookup fm_Ro_mate_as = some ⟨ocm_Ro_mate_as, odm_Ro_mate_as, .func (PySem.W.fnOf "mate_as" "Road.mate_as" (defArgs s_Ro_mate_as) (defBody s_Ro_mate_as) (defScope s_Ro_mate_as) .none kVm_Ro_mate_as dcm_Ro_mate_as pmm_Ro_mate_as anm_Ro_mate_as cdm_Ro_mate_as ctm_Ro_mate_as), slm_Ro_mate_as⟩) (mc_Ro_mate_as : PySem.W.codeIn K cdm_Ro_mate_as "Road.mate_as" = true) (mp_Ro_mate_as : PySem.W.keepIn K (.ref fm_Ro_mate_as) = true) (ma_Ro_strike : PySem.W.findIn K (.ref C_Road) "strike" = some (some (.ref fm_Ro_strike)))
    (mi_Ro_strike : PySem.W.isFn K (.ref fm_Ro_strike) = true) (ml_Ro_strike : K.lookup fm_Ro_strike = some ⟨ocm_Ro_strike, odm_Ro_strike, .func (PySem.W.fnOf "strike" "Road.strike" (defArgs s_Ro_strike) (defBody s_Ro_strike) (defScope s_Ro_strike) .none kVm_Ro_strike dcm_Ro_strike pmm_Ro_strike anm_Ro_strike cdm_Ro_strike ctm_Ro_strike), slm_Ro_strike⟩) (mc_Ro_strike : PySem.W.codeIn K cdm_Ro_strike "Road.strike" = true) (mp_Ro_strike : PySem.W.keepIn K (.ref fm_Ro_strike) = true)
    (ma_Ro_grow : PySem.W.findIn K (.ref C_Road) "grow" = some (some (.ref fm_Ro_grow))) (mi_Ro_grow : PySem.W.isFn K (.ref fm_Ro_grow) = true) (ml_Ro_grow : K.lookup fm_Ro_grow = some ⟨ocm_Ro_grow, odm_Ro_grow, .func (PySem.W.fnOf "grow" "Road.grow" (defArgs s_Ro_grow) (defBody s_Ro_grow) (defScope s_Ro_grow) .none kVm_Ro_grow dcm_Ro_grow pmm_Ro_grow anm_Ro_grow cdm_Ro_grow ctm_Ro_grow), slm_Ro_grow⟩) (mc_Ro_grow : PySem.W.codeIn K cdm_Ro_grow "Road.grow" = true)
    (mp_Ro_grow : PySem.W.keepIn K (.ref fm_Ro_grow) = true) (ma_Ro_trim : PySem.W.findIn K (.ref C_Road) "trim" = some (some (.ref fm_Ro_trim))) (mi_Ro_trim : PySem.W.isFn K (.ref fm_Ro_trim) = true) (ml_Ro_trim : K.lookup fm_Ro_trim = some ⟨ocm_Ro_trim, odm_Ro_trim, .func (PySem.W.fnOf "trim" "Road.trim" (defArgs s_Ro_trim) (defBody s_Ro_trim) (defScope s_Ro_trim) .none kVm_Ro_trim dcm_Ro_trim pmm_Ro_trim anm_Ro_trim cdm_Ro_trim ctm_Ro_trim), slm_Ro_trim⟩)
    (mc_Ro_trim : PySem.W.codeIn K cdm_Ro_trim "Road.trim" = true) (mp_Ro_trim : PySem.W.keepIn K (.ref fm_Ro_trim) = true) (ma_Ro_swell : PySem.W.findIn K (.ref C_Road) "swell" = some (some (.ref fm_Ro_swell))) (mi_Ro_swell : PySem.W.isFn K (.ref fm_Ro_swell) = true)
    (ml_Ro_swell : K.lookup fm_Ro_swell = some ⟨ocm_Ro_swell, odm_Ro_swell, .func (PySem.W.fnOf "swell" "Road.swell" (defArgs s_Ro_swell) (defBody s_Ro_swell) (defScope s_Ro_swell) .none kVm_Ro_swell dcm_Ro_swell pmm_Ro_swell anm_Ro_swell cdm_Ro_swell ctm_Ro_swell), slm_Ro_swell⟩) (mc_Ro_swell : PySem.W.codeIn K cdm_Ro_swell "Road.swell" = true) (mp_Ro_swell : PySem.W.keepIn K (.ref fm_Ro_swell) = true) (ma_Ro_behind : PySem.W.findIn K (.ref C_Road) "behind" = some (some (.ref fm_Ro_behind)))
    (mi_Ro_behind : PySem.W.isFn K (.ref fm_Ro_behind) = true) (ml_Ro_behind : K.lookup fm_Ro_behind = some ⟨ocm_Ro_behind, odm_Ro_behind, .func (PySem.W.fnOf "behind" "Road.behind" (defArgs s_Ro_behind) (defBody s_Ro_behind) (defScope s_Ro_behind) .none kVm_Ro_behind dcm_Ro_behind pmm_Ro_behind anm_Ro_behind cdm_Ro_behind ctm_Ro_behind), slm_Ro_behind⟩) (mc_Ro_behind : PySem.W.codeIn K cdm_Ro_behind "Road.behind" = true) (mp_Ro_behind : PySem.W.keepIn K (.ref fm_Ro_behind) = true)
    (ma_Ro_twin : PySem.W.findIn K (.ref C_Road) "twin" = some (some (.ref fm_Ro_twin))) (mi_Ro_twin : PySem.W.isFn K (.ref fm_Ro_twin) = true) (ml_Ro_twin : K.lookup fm_Ro_twin = some ⟨ocm_Ro_twin, odm_Ro_twin, .func (PySem.W.fnOf "twin" "Road.twin" (defArgs s_Ro_twin) (defBody s_Ro_twin) (defScope s_Ro_twin) .none kVm_Ro_twin dcm_Ro_twin pmm_Ro_twin anm_Ro_twin cdm_Ro_twin ctm_Ro_twin), slm_Ro_twin⟩) (mc_Ro_twin : PySem.W.codeIn K cdm_Ro_twin "Road.twin" = true)
    (mp_Ro_twin : PySem.W.keepIn K (.ref fm_Ro_twin) = true) (ma_Ro___eq__ : PySem.W.findIn K (.ref C_Road) "__eq__" = some (some (.ref fm_Ro___eq__))) (mi_Ro___eq__ : PySem.W.isFn K (.ref fm_Ro___eq__) = true) (ml_Ro___eq__ : K.lookup fm_Ro___eq__ = some ⟨ocm_Ro___eq__, odm_Ro___eq__, .func (PySem.W.fnOf "__eq__" "Road.__eq__" (defArgs s_Ro_eq) (defBody s_Ro_eq) (defScope s_Ro_eq) .none kVm_Ro___eq__ dcm_Ro___eq__ pmm_Ro___eq__ anm_Ro___eq__ cdm_Ro___eq__ ctm_Ro___eq__), slm_Ro___eq__⟩)
    (mc_Ro___eq__ : PySem.W.codeIn K cdm_Ro___eq__ "Road.__eq__" = true) (mp_Ro___eq__ : PySem.W.keepIn K (.ref fm_Ro___eq__) = true) (ma_Ro___init__ : PySem.W.findIn K (.ref C_Road) "__init__" = some (some (.ref fm_Ro___init__))) (mi_Ro___init__ : PySem.W.isFn K (.ref fm_Ro___init__) = true)
    (FD_Ro___init__ : FunD K "__init__" "Road.__init__" (defArgs s_Ro_init) (defBody s_Ro_init) (defScope s_Ro_init) [.int 0] [] fm_Ro___init__ fdm_Ro___init__) (ma_Ro_mate : PySem.W.findIn K (.ref C_Road) "mate" = some (some (.ref fm_Ro_mate))) (mi_Ro_mate : PySem.W.isFn K (.ref fm_Ro_mate) = true) (FD_Ro_mate : FunD K "mate" "Road.mate" (defArgs s_Ro_mate) (defBody s_Ro_mate) (defScope s_Ro_mate) [] [("turned", .int 0)] fm_Ro_mate fdm_Ro_mate)
    (g_Draft : PySem.W.nsIn K mainGlobals "Draft" = some (some (.ref C_Draft))) (cl_Draft : Cls K C_Draft) (mk_Draft : PySem.W.makesIn K C_Draft = true) (kc_Draft : PySem.W.keepIn K (.ref C_Draft) = true)
    (na_Df_seats : PySem.W.findIn K (.ref C_Draft) "seats" = some none) (na_Df_fresh : PySem.W.findIn K (.ref C_Draft) "fresh" = some none) (na_Df_most : PySem.W.findIn K (.ref C_Draft) "most" = some none) (ma_Df___init__ : PySem.W.findIn K (.ref C_Draft) "__init__" = some (some (.ref fm_Df___init__)))
    (mi_Df___init__ : PySem.W.isFn K (.ref fm_Df___init__) = true) (ml_Df___init__ : K.lookup fm_Df___init__ = some ⟨ocm_Df___init__, odm_Df___init__, .func (PySem.W.fnOf "__init__" "Draft.__init__" (defArgs s_Df_init) (defBody s_Df_init) (defScope s_Df_init) .none kVm_Df___init__ dcm_Df___init__ pmm_Df___init__ anm_Df___init__ cdm_Df___init__ ctm_Df___init__), slm_Df___init__⟩) (mc_Df___init__ : PySem.W.codeIn K cdm_Df___init__ "Draft.__init__" = true) (mp_Df___init__ : PySem.W.keepIn K (.ref fm_Df___init__) = true)
    (ma_Df_seat : PySem.W.findIn K (.ref C_Draft) "seat" = some (some (.ref fm_Df_seat))) (mi_Df_seat : PySem.W.isFn K (.ref fm_Df_seat) = true) (ml_Df_seat : K.lookup fm_Df_seat = some ⟨ocm_Df_seat, odm_Df_seat, .func (PySem.W.fnOf "seat" "Draft.seat" (defArgs s_Df_seat) (defBody s_Df_seat) (defScope s_Df_seat) .none kVm_Df_seat dcm_Df_seat pmm_Df_seat anm_Df_seat cdm_Df_seat ctm_Df_seat), slm_Df_seat⟩) (mc_Df_seat : PySem.W.codeIn K cdm_Df_seat "Draft.seat" = true)
    (mp_Df_seat : PySem.W.keepIn K (.ref fm_Df_seat) = true) (ma_Df_need_room : PySem.W.findIn K (.ref C_Draft) "need_room" = some (some (.ref fm_Df_need_room))) (mi_Df_need_room : PySem.W.isFn K (.ref fm_Df_need_room) = true) (ml_Df_need_room : K.lookup fm_Df_need_room = some ⟨ocm_Df_need_room, odm_Df_need_room, .func (PySem.W.fnOf "need_room" "Draft.need_room" (defArgs s_Df_need_room) (defBody s_Df_need_room) (defScope s_Df_need_room) .none kVm_Df_need_room dcm_Df_need_room pmm_Df_need_room anm_Df_need_room cdm_Df_need_room ctm_Df_need_room), slm_Df_need_room⟩)
    (mc_Df_need_room : PySem.W.codeIn K cdm_Df_need_room "Draft.need_room" = true) (mp_Df_need_room : PySem.W.keepIn K (.ref fm_Df_need_room) = true) (ma_Df_do : PySem.W.findIn K (.ref C_Draft) "do" = some (some (.ref fm_Df_do))) (mi_Df_do : PySem.W.isFn K (.ref fm_Df_do) = true)
    (ml_Df_do : K.lookup fm_Df_do = some ⟨ocm_Df_do, odm_Df_do, .func (PySem.W.fnOf "do" "Draft.do" (defArgs s_Df_do) (defBody s_Df_do) (defScope s_Df_do) .none kVm_Df_do dcm_Df_do pmm_Df_do anm_Df_do cdm_Df_do ctm_Df_do), slm_Df_do⟩) (mc_Df_do : PySem.W.codeIn K cdm_Df_do "Draft.do" = true) (mp_Df_do : PySem.W.keepIn K (.ref fm_Df_do) = true) (ma_Df_change_road : PySem.W.findIn K (.ref C_Draft) "change_road" = some (some (.ref fm_Df_change_road)))
    (mi_Df_change_road : PySem.W.isFn K (.ref fm_Df_change_road) = true) (ml_Df_change_road : K.lookup fm_Df_change_road = some ⟨ocm_Df_change_road, odm_Df_change_road, .func (PySem.W.fnOf "change_road" "Draft.change_road" (defArgs s_Df_change_road) (defBody s_Df_change_road) (defScope s_Df_change_road) .none kVm_Df_change_road dcm_Df_change_road pmm_Df_change_road anm_Df_change_road cdm_Df_change_road ctm_Df_change_road), slm_Df_change_road⟩) (mc_Df_change_road : PySem.W.codeIn K cdm_Df_change_road "Draft.change_road" = true) (mp_Df_change_road : PySem.W.keepIn K (.ref fm_Df_change_road) = true)
    (g_Hall : PySem.W.nsIn K mainGlobals "Hall" = some (some (.ref C_Hall))) (cl_Hall : Cls K C_Hall) (mk_Hall : PySem.W.makesIn K C_Hall = true) (kc_Hall : PySem.W.keepIn K (.ref C_Hall) = true)
    (na_Ha_most : PySem.W.findIn K (.ref C_Hall) "most" = some none) (na_Ha_fresh : PySem.W.findIn K (.ref C_Hall) "fresh" = some none) (na_Ha_states : PySem.W.findIn K (.ref C_Hall) "states" = some none) (na_Ha_now : PySem.W.findIn K (.ref C_Hall) "now" = some none)
    (ma_Ha_draft : PySem.W.findIn K (.ref C_Hall) "draft" = some (some (.ref fm_Ha_draft))) (mi_Ha_draft : PySem.W.isFn K (.ref fm_Ha_draft) = true) (ml_Ha_draft : K.lookup fm_Ha_draft = some ⟨ocm_Ha_draft, odm_Ha_draft, .func (PySem.W.fnOf "draft" "Hall.draft" (defArgs s_Ha_draft) (defBody s_Ha_draft) (defScope s_Ha_draft) .none kVm_Ha_draft dcm_Ha_draft pmm_Ha_draft anm_Ha_draft cdm_Ha_draft ctm_Ha_draft), slm_Ha_draft⟩) (mc_Ha_draft : PySem.W.codeIn K cdm_Ha_draft "Hall.draft" = true)
    (mp_Ha_draft : PySem.W.keepIn K (.ref fm_Ha_draft) = true) (ma_Ha_together : PySem.W.findIn K (.ref C_Hall) "together" = some (some (.ref fm_Ha_together))) (mi_Ha_together : PySem.W.isFn K (.ref fm_Ha_together) = true) (ml_Ha_together : K.lookup fm_Ha_together = some ⟨ocm_Ha_together, odm_Ha_together, .func (PySem.W.fnOf "together" "Hall.together" (defArgs s_Ha_together) (defBody s_Ha_together) (defScope s_Ha_together) .none kVm_Ha_together dcm_Ha_together pmm_Ha_together anm_Ha_together cdm_Ha_together ctm_Ha_together), slm_Ha_together⟩)
    (mc_Ha_together : PySem.W.codeIn K cdm_Ha_together "Hall.together" = true) (mp_Ha_together : PySem.W.keepIn K (.ref fm_Ha_together) = true) (ma_Ha_names : PySem.W.findIn K (.ref C_Hall) "names" = some (some (.ref fm_Ha_names))) (mi_Ha_names : PySem.W.isFn K (.ref fm_Ha_names) = true)
    (ml_Ha_names : K.lookup fm_Ha_names = some ⟨ocm_Ha_names, odm_Ha_names, .func (PySem.W.fnOf "names" "Hall.names" (defArgs s_Ha_names) (defBody s_Ha_names) (defScope s_Ha_names) .none kVm_Ha_names dcm_Ha_names pmm_Ha_names anm_Ha_names cdm_Ha_names ctm_Ha_names), slm_Ha_names⟩) (mc_Ha_names : PySem.W.codeIn K cdm_Ha_names "Hall.names" = true) (mp_Ha_names : PySem.W.keepIn K (.ref fm_Ha_names) = true) (ma_Ha_very : PySem.W.findIn K (.ref C_Hall) "very" = some (some (.ref fm_Ha_very)))
    (mi_Ha_very : PySem.W.isFn K (.ref fm_Ha_very) = true) (ml_Ha_very : K.lookup fm_Ha_very = some ⟨ocm_Ha_very, odm_Ha_very, .func (PySem.W.fnOf "very" "Hall.very" (defArgs s_Ha_very) (defBody s_Ha_very) (defScope s_Ha_very) .none kVm_Ha_very dcm_Ha_very pmm_Ha_very anm_Ha_very cdm_Ha_very ctm_Ha_very), slm_Ha_very⟩) (mc_Ha_very : PySem.W.codeIn K cdm_Ha_very "Hall.very" = true) (mp_Ha_very : PySem.W.keepIn K (.ref fm_Ha_very) = true)
    (ma_Ha_road : PySem.W.findIn K (.ref C_Hall) "road" = some (some (.ref fm_Ha_road))) (mi_Ha_road : PySem.W.isFn K (.ref fm_Ha_road) = true) (ml_Ha_road : K.lookup fm_Ha_road = some ⟨ocm_Ha_road, odm_Ha_road, .func (PySem.W.fnOf "road" "Hall.road" (defArgs s_Ha_road) (defBody s_Ha_road) (defScope s_Ha_road) .none kVm_Ha_road dcm_Ha_road pmm_Ha_road anm_Ha_road cdm_Ha_road ctm_Ha_road), slm_Ha_road⟩) (mc_Ha_road : PySem.W.codeIn K cdm_Ha_road "Hall.road" = true)
    (mp_Ha_road : PySem.W.keepIn K (.ref fm_Ha_road) = true) (ma_Ha___len__ : PySem.W.findIn K (.ref C_Hall) "__len__" = some (some (.ref fm_Ha___len__))) (mi_Ha___len__ : PySem.W.isFn K (.ref fm_Ha___len__) = true) (ml_Ha___len__ : K.lookup fm_Ha___len__ = some ⟨ocm_Ha___len__, odm_Ha___len__, .func (PySem.W.fnOf "__len__" "Hall.__len__" (defArgs s_Ha_len) (defBody s_Ha_len) (defScope s_Ha_len) .none kVm_Ha___len__ dcm_Ha___len__ pmm_Ha___len__ anm_Ha___len__ cdm_Ha___len__ ctm_Ha___len__), slm_Ha___len__⟩)
    (mc_Ha___len__ : PySem.W.codeIn K cdm_Ha___len__ "Hall.__len__" = true) (mp_Ha___len__ : PySem.W.keepIn K (.ref fm_Ha___len__) = true) (ma_Ha_do : PySem.W.findIn K (.ref C_Hall) "do" = some (some (.ref fm_Ha_do))) (mi_Ha_do : PySem.W.isFn K (.ref fm_Ha_do) = true)
    (ml_Ha_do : K.lookup fm_Ha_do = some ⟨ocm_Ha_do, odm_Ha_do, .func (PySem.W.fnOf "do" "Hall.do" (defArgs s_Ha_do) (defBody s_Ha_do) (defScope s_Ha_do) .none kVm_Ha_do dcm_Ha_do pmm_Ha_do anm_Ha_do cdm_Ha_do ctm_Ha_do), slm_Ha_do⟩) (mc_Ha_do : PySem.W.codeIn K cdm_Ha_do "Hall.do" = true) (mp_Ha_do : PySem.W.keepIn K (.ref fm_Ha_do) = true) (ma_Ha_steps : PySem.W.findIn K (.ref C_Hall) "steps" = some (some (.ref fm_Ha_steps)))
    (mi_Ha_steps : PySem.W.isFn K (.ref fm_Ha_steps) = true) (ml_Ha_steps : K.lookup fm_Ha_steps = some ⟨ocm_Ha_steps, odm_Ha_steps, .func (PySem.W.fnOf "steps" "Hall.steps" (defArgs s_Ha_steps) (defBody s_Ha_steps) (defScope s_Ha_steps) .none kVm_Ha_steps dcm_Ha_steps pmm_Ha_steps anm_Ha_steps cdm_Ha_steps ctm_Ha_steps), slm_Ha_steps⟩) (mc_Ha_steps : PySem.W.codeIn K cdm_Ha_steps "Hall.steps" = true) (mp_Ha_steps : PySem.W.keepIn K (.ref fm_Ha_steps) = true)
    (ma_Ha___init__ : PySem.W.findIn K (.ref C_Hall) "__init__" = some (some (.ref fm_Ha___init__))) (mi_Ha___init__ : PySem.W.isFn K (.ref fm_Ha___init__) = true) (FD_Ha___init__ : FunD K "__init__" "Hall.__init__" (defArgs s_Ha_init) (defBody s_Ha_init) (defScope s_Ha_init) [] [("most", .int 6)] fm_Ha___init__ fdm_Ha___init__) (self_BadMating : PySem.W.subIn K (.ref C_BadMating) (.ref C_BadMating) = some true)
    (ns_BadMating_BadNumber : PySem.W.subIn K (.ref C_BadMating) (.ref C_BadNumber) = some false) (nc_BadNumber : PySem.W.isClsIn K C_BadNumber = true) (nt_BadNumber : PySem.W.typeIn K (.ref C_BadNumber) = some (.type "type")) (ns_BadMating_NoMating : PySem.W.subIn K (.ref C_BadMating) (.ref C_NoMating) = some false)
    (nc_NoMating : PySem.W.isClsIn K C_NoMating = true) (nt_NoMating : PySem.W.typeIn K (.ref C_NoMating) = some (.type "type")) (ns_BadMating_NoFamily : PySem.W.subIn K (.ref C_BadMating) (.ref C_NoFamily) = some false) (nc_NoFamily : PySem.W.isClsIn K C_NoFamily = true)
    (nt_NoFamily : PySem.W.typeIn K (.ref C_NoFamily) = some (.type "type")) (ns_BadMating_TooMuch : PySem.W.subIn K (.ref C_BadMating) (.ref C_TooMuch) = some false) (nc_TooMuch : PySem.W.isClsIn K C_TooMuch = true) (nt_TooMuch : PySem.W.typeIn K (.ref C_TooMuch) = some (.type "type"))
    (ns_BadMating_BadName : PySem.W.subIn K (.ref C_BadMating) (.ref C_BadName) = some false) (nc_BadName : PySem.W.isClsIn K C_BadName = true) (nt_BadName : PySem.W.typeIn K (.ref C_BadName) = some (.type "type")) (ns_BadMating_Taken : PySem.W.subIn K (.ref C_BadMating) (.ref C_Taken) = some false)
    (nc_Taken : PySem.W.isClsIn K C_Taken = true) (nt_Taken : PySem.W.typeIn K (.ref C_Taken) = some (.type "type")) (ns_BadMating_NoRoad : PySem.W.subIn K (.ref C_BadMating) (.ref C_NoRoad) = some false) (nc_NoRoad : PySem.W.isClsIn K C_NoRoad = true)
    (nt_NoRoad : PySem.W.typeIn K (.ref C_NoRoad) = some (.type "type")) (self_Full : PySem.W.subIn K (.ref C_Full) (.ref C_Full) = some true) (ns_Full_BadNumber : PySem.W.subIn K (.ref C_Full) (.ref C_BadNumber) = some false) (ns_Full_NoMating : PySem.W.subIn K (.ref C_Full) (.ref C_NoMating) = some false)
    (ns_Full_NoFamily : PySem.W.subIn K (.ref C_Full) (.ref C_NoFamily) = some false) (ns_Full_TooMuch : PySem.W.subIn K (.ref C_Full) (.ref C_TooMuch) = some false) (ns_Full_BadName : PySem.W.subIn K (.ref C_Full) (.ref C_BadName) = some false) (ns_Full_Taken : PySem.W.subIn K (.ref C_Full) (.ref C_Taken) = some false)
    (ns_Full_NoRoad : PySem.W.subIn K (.ref C_Full) (.ref C_NoRoad) = some false) (ns_Full_BadMating : PySem.W.subIn K (.ref C_Full) (.ref C_BadMating) = some false) (nc_BadMating : PySem.W.isClsIn K C_BadMating = true) (nt_BadMating : PySem.W.typeIn K (.ref C_BadMating) = some (.type "type"))
    (ns_Full_BadPlace : PySem.W.subIn K (.ref C_Full) (.ref C_BadPlace) = some false) (nc_BadPlace : PySem.W.isClsIn K C_BadPlace = true) (nt_BadPlace : PySem.W.typeIn K (.ref C_BadPlace) = some (.type "type")) (ns_Full_BadStretch : PySem.W.subIn K (.ref C_Full) (.ref C_BadStretch) = some false)
    (nc_BadStretch : PySem.W.isClsIn K C_BadStretch = true) (nt_BadStretch : PySem.W.typeIn K (.ref C_BadStretch) = some (.type "type")) (ns_Full_BadMove : PySem.W.subIn K (.ref C_Full) (.ref C_BadMove) = some false) (nc_BadMove : PySem.W.isClsIn K C_BadMove = true)
    (nt_BadMove : PySem.W.typeIn K (.ref C_BadMove) = some (.type "type")) (ns_Full_BadMoves : PySem.W.subIn K (.ref C_Full) (.ref C_BadMoves) = some false) (nc_BadMoves : PySem.W.isClsIn K C_BadMoves = true) (nt_BadMoves : PySem.W.typeIn K (.ref C_BadMoves) = some (.type "type"))
    (ns_Full_BadText : PySem.W.subIn K (.ref C_Full) (.ref C_BadText) = some false) (nc_BadText : PySem.W.isClsIn K C_BadText = true) (nt_BadText : PySem.W.typeIn K (.ref C_BadText) = some (.type "type")) (ns_Full_BadBoard : PySem.W.subIn K (.ref C_Full) (.ref C_BadBoard) = some false)
    (nc_BadBoard : PySem.W.isClsIn K C_BadBoard = true) (nt_BadBoard : PySem.W.typeIn K (.ref C_BadBoard) = some (.type "type")) (ns_Full_BadCounts : PySem.W.subIn K (.ref C_Full) (.ref C_BadCounts) = some false) (nc_BadCounts : PySem.W.isClsIn K C_BadCounts = true)
    (nt_BadCounts : PySem.W.typeIn K (.ref C_BadCounts) = some (.type "type")) (ns_Full_BadSide : PySem.W.subIn K (.ref C_Full) (.ref C_BadSide) = some false) (nc_BadSide : PySem.W.isClsIn K C_BadSide = true) (nt_BadSide : PySem.W.typeIn K (.ref C_BadSide) = some (.type "type"))
    (ns_Full_NoSide : PySem.W.subIn K (.ref C_Full) (.ref C_NoSide) = some false) (nc_NoSide : PySem.W.isClsIn K C_NoSide = true) (nt_NoSide : PySem.W.typeIn K (.ref C_NoSide) = some (.type "type")) (self_NoMating : PySem.W.subIn K (.ref C_NoMating) (.ref C_NoMating) = some true)
    (ns_NoMating_BadNumber : PySem.W.subIn K (.ref C_NoMating) (.ref C_BadNumber) = some false) (self_BadName : PySem.W.subIn K (.ref C_BadName) (.ref C_BadName) = some true) (ns_BadName_BadNumber : PySem.W.subIn K (.ref C_BadName) (.ref C_BadNumber) = some false) (ns_BadName_NoMating : PySem.W.subIn K (.ref C_BadName) (.ref C_NoMating) = some false)
    (ns_BadName_NoFamily : PySem.W.subIn K (.ref C_BadName) (.ref C_NoFamily) = some false) (ns_BadName_TooMuch : PySem.W.subIn K (.ref C_BadName) (.ref C_TooMuch) = some false) (self_Taken : PySem.W.subIn K (.ref C_Taken) (.ref C_Taken) = some true) (ns_Taken_BadNumber : PySem.W.subIn K (.ref C_Taken) (.ref C_BadNumber) = some false)
    (ns_Taken_NoMating : PySem.W.subIn K (.ref C_Taken) (.ref C_NoMating) = some false) (ns_Taken_NoFamily : PySem.W.subIn K (.ref C_Taken) (.ref C_NoFamily) = some false) (ns_Taken_TooMuch : PySem.W.subIn K (.ref C_Taken) (.ref C_TooMuch) = some false) (ns_Taken_BadName : PySem.W.subIn K (.ref C_Taken) (.ref C_BadName) = some false)
    (self_NoRoad : PySem.W.subIn K (.ref C_NoRoad) (.ref C_NoRoad) = some true) (ns_NoRoad_BadNumber : PySem.W.subIn K (.ref C_NoRoad) (.ref C_BadNumber) = some false) (ns_NoRoad_NoMating : PySem.W.subIn K (.ref C_NoRoad) (.ref C_NoMating) = some false) (ns_NoRoad_NoFamily : PySem.W.subIn K (.ref C_NoRoad) (.ref C_NoFamily) = some false)
    (ns_NoRoad_TooMuch : PySem.W.subIn K (.ref C_NoRoad) (.ref C_TooMuch) = some false) (ns_NoRoad_BadName : PySem.W.subIn K (.ref C_NoRoad) (.ref C_BadName) = some false) (ns_NoRoad_Taken : PySem.W.subIn K (.ref C_NoRoad) (.ref C_Taken) = some false) (TU : ∀ H : Hp, SqT K H C_TURNS [.str "straight", .str "turned"])
    (ne_Road : PySem.W.findIn K (.ref C_Road) "__ne__" = some (some (.builtin "object.__ne__"))) (hc_Road : PySem.W.findIn K (.ref C_Road) "__class__" = some (some (.builtin "object.__class__"))) (hn_get : PySem.W.specialIn K (.builtin "object.__class__") "__get__" = some (some (.builtin "getset_descriptor.__get__"))) (ht_cls : PySem.W.takesIn K (.builtin "object.__class__") = some true)
    (hm_Road : PySem.W.mroIn K C_Road (.type "object") = some true) (g_FAR : PySem.W.nsIn K mainGlobals "FAR" = some (some (.int 1000000000000000000 tk_FAR))) (g_MOST : PySem.W.nsIn K mainGlobals "MOST" = some (some (.int 24 tk_MOST))) (g_LONGEST_NAME : PySem.W.nsIn K mainGlobals "LONGEST_NAME" = some (some (.int 6 tk_LONGEST_NAME)))
    (g_ROADS : PySem.W.nsIn K mainGlobals "ROADS" = some (some (.int 6 tk_ROADS))) (g_LETTERS : PySem.W.nsIn K mainGlobals "LETTERS" = some (some (.str "abcdefghijklmnopqrstuvwxyz" tk_LETTERS))) :
    LamX.LawAtS l w K CX0 20 63 "_law_script" mg fa h := by
  have e := hfa.symm.trans (PySem.W.mg_of X G a35)
  cases e
  have B : Bn mg := ⟨PySem.W.mg_none_of X G z0, PySem.W.mg_none_of X G z1, PySem.W.mg_none_of X G z2, PySem.W.mg_none_of X G z3, PySem.W.mg_none_of X G z4, PySem.W.mg_none_of X G z5, PySem.W.mg_none_of X G z6, PySem.W.mg_none_of X G z7, PySem.W.mg_none_of X G z8, PySem.W.mg_none_of X G z9, PySem.W.mg_none_of X G z10, PySem.W.mg_none_of X G z11, PySem.W.mg_none_of X G z12, PySem.W.mg_none_of X G z13⟩
  have F0 := fun_mk (st := s_open) l0 c0 k0
  have D_open : DefAt K mg "_law_open" s_open P_open _ _ := ⟨F0, F0.binds (ps := P_open) fun _ _ _ _ _ _ => by exact len1 (fun _ => rfl), PySem.W.mg_of X G a0⟩
  have F1 := fun_mk (st := s_pull) l1 c1 k1
  have D_pull : DefAt K mg "_law_pull" s_pull P_pull _ _ := ⟨F1, F1.binds (ps := P_pull) fun _ _ _ _ _ _ => by exact len2 (fun _ _ => rfl), PySem.W.mg_of X G a1⟩
  have F2 := fun_mk (st := s_any) l2 c2 k2
  have D_any : DefAt K mg "_law_any" s_any P_any _ _ := ⟨F2, F2.binds (ps := P_any) fun _ _ _ _ _ _ => by exact len2 (fun _ _ => rfl), PySem.W.mg_of X G a2⟩
  have F3 := fun_mk (st := s_like) l3 c3 k3
  have D_like : DefAt K mg "_law_like" s_like P_like _ _ := ⟨F3, F3.binds (ps := P_like) fun _ _ _ _ _ _ => by exact len2 (fun _ _ => rfl), PySem.W.mg_of X G a3⟩
  have F4 := fun_mk (st := s_fields) l4 c4 k4
  have D_fields : DefAt K mg "_law_fields" s_fields P_fields _ _ := ⟨F4, F4.binds (ps := P_fields) fun _ _ _ _ _ _ => by exact len1 (fun _ => rfl), PySem.W.mg_of X G a4⟩
  have F5 := fun_mk (st := s_why) l5 c5 k5
  have D_why : DefAt K mg "_law_why" s_why P_why _ _ := ⟨F5, F5.binds (ps := P_why) fun _ _ _ _ _ _ => by exact len1 (fun _ => rfl), PySem.W.mg_of X G a5⟩
  have F6 := fun_mk (st := s_mating) l6 c6 k6
  have D_mating : DefAt K mg "_law_mating" s_mating P_mating _ _ := ⟨F6, F6.binds (ps := P_mating) fun _ _ _ _ _ _ => by exact len2 (fun _ _ => rfl), PySem.W.mg_of X G a6⟩
  have F7 := fun_mk (st := s_ends) l7 c7 k7
  have D_ends : DefAt K mg "_law_ends" s_ends P_ends _ _ := ⟨F7, F7.binds (ps := P_ends) fun _ _ _ _ _ _ => by exact len1 (fun _ => rfl), PySem.W.mg_of X G a7⟩
  have F8 := fun_mk (st := s_odd) l8 c8 k8
  have D_odd : DefAt K mg "_law_odd" s_odd P_odd _ _ := ⟨F8, F8.binds (ps := P_odd) fun _ _ _ _ _ _ => by exact len1 (fun _ => rfl), PySem.W.mg_of X G a8⟩
  have F9 := fun_mk (st := s_scaled) l9 c9 k9
  have D_scaled : DefAt K mg "_law_scaled" s_scaled P_scaled _ _ := ⟨F9, F9.binds (ps := P_scaled) fun _ _ _ _ _ _ => by exact len2 (fun _ _ => rfl), PySem.W.mg_of X G a9⟩
  have F10 := fun_mk (st := s_hall_name) l10 c10 k10
  have D_hall_name : DefAt K mg "_law_hall_name" s_hall_name P_hall_name _ _ := ⟨F10, F10.binds (ps := P_hall_name) fun _ _ _ _ _ _ => by exact len1 (fun _ => rfl), PySem.W.mg_of X G a10⟩
  have F11 := fun_mk (st := s_good_name) l11 c11 k11
  have D_good_name : DefAt K mg "_law_good_name" s_good_name P_good_name _ _ := ⟨F11, F11.binds (ps := P_good_name) fun _ _ _ _ _ _ => by exact len1 (fun _ => rfl), PySem.W.mg_of X G a11⟩
  have F12 := fun_mk (st := s_room) l12 c12 k12
  have D_room : DefAt K mg "_law_room" s_room P_room _ _ := ⟨F12, F12.binds (ps := P_room) fun _ _ _ _ _ _ => by exact len3 (fun _ _ _ => rfl), PySem.W.mg_of X G a12⟩
  have F13 := fun_mk (st := s_clip) l13 c13 k13
  have D_clip : DefAt K mg "_law_clip" s_clip P_clip _ _ := ⟨F13, F13.binds (ps := P_clip) fun _ _ _ _ _ _ => by exact len2 (fun _ _ => rfl), PySem.W.mg_of X G a13⟩
  have F14 := fun_mk (st := s_no_number) l14 c14 k14
  have D_no_number : DefAt K mg "_law_no_number" s_no_number P_no_number _ _ := ⟨F14, F14.binds (ps := P_no_number) fun _ _ _ _ _ _ => by exact len3 (fun _ _ _ => rfl), PySem.W.mg_of X G a14⟩
  have F15 := fun_mk (st := s_road_deed) l15 c15 k15
  have D_road_deed : DefAt K mg "_law_road_deed" s_road_deed P_road_deed _ _ := ⟨F15, F15.binds (ps := P_road_deed) fun _ _ _ _ _ _ => by exact len4 (fun _ _ _ _ => rfl), PySem.W.mg_of X G a15⟩
  have F16 := fun_mk (st := s_taken_behind) l16 c16 k16
  have D_taken_behind : DefAt K mg "_law_taken_behind" s_taken_behind P_taken_behind _ _ := ⟨F16, F16.binds (ps := P_taken_behind) fun _ _ _ _ _ _ => by exact len2 (fun _ _ => rfl), PySem.W.mg_of X G a16⟩
  have F17 := fun_mk (st := s_step) l17 c17 k17
  have D_step : DefAt K mg "_law_step" s_step P_step _ _ := ⟨F17, F17.binds (ps := P_step) fun _ _ _ _ _ _ => by exact len3 (fun _ _ _ => rfl), PySem.W.mg_of X G a17⟩
  have F18 := fun_mk (st := s_hall_deed) l18 c18 k18
  have D_hall_deed : DefAt K mg "_law_hall_deed" s_hall_deed P_hall_deed _ _ := ⟨F18, F18.binds (ps := P_hall_deed) fun _ _ _ _ _ _ => by exact len2 (fun _ _ => rfl), PySem.W.mg_of X G a18⟩
  have F19 := fun_mk (st := s_hall_looks) l19 c19 k19
  have D_hall_looks : DefAt K mg "_law_hall_looks" s_hall_looks P_hall_looks _ _ := ⟨F19, F19.binds (ps := P_hall_looks) fun _ _ _ _ _ _ => by exact len2 (fun _ _ => rfl), PySem.W.mg_of X G a19⟩
  have F20 := fun_mk (st := s_need_from) l20 c20 k20
  have D_need_from : DefAt K mg "need_from" s_need_from P_need_from _ _ := ⟨F20, F20.binds (ps := P_need_from) fun _ _ _ _ _ _ => by exact len2 (fun _ _ => rfl), PySem.W.mg_of X G a20⟩
  have F21 := fun_mk (st := s_need_within) l21 c21 k21
  have D_need_within : DefAt K mg "need_within" s_need_within P_need_within _ _ := ⟨F21, F21.binds (ps := P_need_within) fun _ _ _ _ _ _ => by exact len3 (fun _ _ _ => rfl), PySem.W.mg_of X G a21⟩
  have F22 := fun_mk (st := s_need_length) l22 c22 k22
  have D_need_length : DefAt K mg "need_length" s_need_length P_need_length _ _ := ⟨F22, F22.binds (ps := P_need_length) fun _ _ _ _ _ _ => by exact len1 (fun _ => rfl), PySem.W.mg_of X G a22⟩
  have F23 := fun_mk (st := s_need_mating) l23 c23 k23
  have D_need_mating : DefAt K mg "need_mating" s_need_mating P_need_mating _ _ := ⟨F23, F23.binds (ps := P_need_mating) fun _ _ _ _ _ _ => by exact len2 (fun _ _ => rfl), PySem.W.mg_of X G a23⟩
  have F24 := fun_mk (st := s_is_mating) l24 c24 k24
  have D_is_mating : DefAt K mg "is_mating" s_is_mating P_is_mating _ _ := ⟨F24, F24.binds (ps := P_is_mating) fun _ _ _ _ _ _ => by exact len2 (fun _ _ => rfl), PySem.W.mg_of X G a24⟩
  have F25 := fun_mk (st := s_clipped) l25 c25 k25
  have D_clipped : DefAt K mg "clipped" s_clipped P_clipped _ _ := ⟨F25, F25.binds (ps := P_clipped) fun _ _ _ _ _ _ => by exact len2 (fun _ _ => rfl), PySem.W.mg_of X G a25⟩
  have F26 := fun_mk (st := s_part) l26 c26 k26
  have D_part : DefAt K mg "part" s_part P_part _ _ := ⟨F26, F26.binds (ps := P_part) fun _ _ _ _ _ _ => by exact len3 (fun _ _ _ => rfl), PySem.W.mg_of X G a26⟩
  have F27 := fun_mk (st := s_holds) l27 c27 k27
  have D_holds : DefAt K mg "holds" s_holds P_holds _ _ := ⟨F27, F27.binds (ps := P_holds) fun _ _ _ _ _ _ => by exact len3 (fun _ _ _ => rfl), PySem.W.mg_of X G a27⟩
  have F28 := fun_mk (st := s_swelled) l28 c28 k28
  have D_swelled : DefAt K mg "swelled" s_swelled P_swelled _ _ := ⟨F28, F28.binds (ps := P_swelled) fun _ _ _ _ _ _ => by exact len2 (fun _ _ => rfl), PySem.W.mg_of X G a28⟩
  have F29 := fun_mk (st := s_moved) l29 c29 k29
  have D_moved : DefAt K mg "moved" s_moved P_moved _ _ := ⟨F29, F29.binds (ps := P_moved) fun _ _ _ _ _ _ => by exact len2 (fun _ _ => rfl), PySem.W.mg_of X G a29⟩
  have F30 := fun_mk (st := s_is_name) l30 c30 k30
  have D_is_name : DefAt K mg "is_name" s_is_name P_is_name _ _ := ⟨F30, F30.binds (ps := P_is_name) fun _ _ _ _ _ _ => by exact len2 (fun _ _ => rfl), PySem.W.mg_of X G a30⟩
  have F31 := fun_mk (st := s_very_road) l31 c31 k31
  have D_very_road : DefAt K mg "very_road" s_very_road P_very_road _ _ := ⟨F31, F31.binds (ps := P_very_road) fun _ _ _ _ _ _ => by exact len2 (fun _ _ => rfl), PySem.W.mg_of X G a31⟩
  have F32 := fun_mk (st := s_do_upon) l32 c32 k32
  have D_do_upon : DefAt K mg "do_upon" s_do_upon P_do_upon _ _ := ⟨F32, F32.binds (ps := P_do_upon) fun _ _ _ _ _ _ => by exact len3 (fun _ _ _ => rfl), PySem.W.mg_of X G a32⟩
  have F33 := fun_mk (st := s_page) l33 c33 k33
  have D_page : DefAt K mg "page" s_page P_page _ _ := ⟨F33, F33.binds (ps := P_page) fun _ _ _ _ _ _ => by exact len1 (fun _ => rfl), PySem.W.mg_of X G a33⟩
  have F34 := fun_mk (st := s_law_page) l34 c34 k34
  have D_law_page : DefAt K mg "_law_page" s_law_page P_law_page _ _ := ⟨F34, F34.binds (ps := P_law_page) fun _ _ _ _ _ _ => by exact len1 (fun _ => rfl), PySem.W.mg_of X G a34⟩
  have GF : ∀ base : Heap, FnOk l.prog w K mg base CX0 1 f_FarError _ N_farinit (spFarInit K) := fun base => ok_farinit FF (PySem.W.mg_none_of X G zV) fF8
  have GM : ∀ base : Heap, FnOk l.prog w K mg base CX0 1 f_Missing _ N_misinit (spMisInit K) := fun base => ok_misinit FMi (PySem.W.mg_none_of X G zL) fM8
  have FI_BadNumber := fun_mk (x := "__init__") (qual := "BadNumber.__init__") (st := s_bninit) l_BadNumber c_BadNumber k_BadNumber
  have bI_BadNumber := FI_BadNumber.binds (ps := N_bninit) fun _ _ _ _ _ _ => by exact len2 (fun _ _ => rfl)
  have FI_BadMating := fun_mk (x := "__init__") (qual := "BadMating.__init__") (st := s_bginit) l_BadMating c_BadMating k_BadMating
  have bI_BadMating := FI_BadMating.binds (ps := N_bginit) fun _ _ _ _ _ _ => by exact len2 (fun _ _ => rfl)
  have FI_Full := fun_mk (x := "__init__") (qual := "Full.__init__") (st := s_fuinit) l_Full c_Full k_Full
  have bI_Full := FI_Full.binds (ps := N_fuinit) fun _ _ _ _ _ _ => by exact len2 (fun _ _ => rfl)
  have FI_BadName := fun_mk (x := "__init__") (qual := "BadName.__init__") (st := s_erBadName) l_BadName c_BadName k_BadName
  have bI_BadName := FI_BadName.binds (ps := N_erBadName) fun _ _ _ _ _ _ => by exact len2 (fun _ _ => rfl)
  have FI_Taken := fun_mk (x := "__init__") (qual := "Taken.__init__") (st := s_erTaken) l_Taken c_Taken k_Taken
  have bI_Taken := FI_Taken.binds (ps := N_erTaken) fun _ _ _ _ _ _ => by exact len2 (fun _ _ => rfl)
  have FI_NoMating := fun_mk (x := "__init__") (qual := "NoMating.__init__") (st := s_nminit) l_NoMating c_NoMating k_NoMating
  have bI_NoMating := FI_NoMating.binds (ps := N_nminit) fun _ _ _ _ _ _ => by exact len2 (fun _ _ => rfl)
  have FI_NoRoad := fun_mk (x := "__init__") (qual := "NoRoad.__init__") (st := s_erNoRoad) l_NoRoad c_NoRoad k_NoRoad
  have bI_NoRoad := FI_NoRoad.binds (ps := N_erNoRoad) fun _ _ _ _ _ _ => by exact len2 (fun _ _ => rfl)
  have F_Ro_become := fun_mk (x := "become") (qual := "Road.become") (st := s_Ro_become) ml_Ro_become mc_Ro_become mp_Ro_become
  have b_Ro_become := F_Ro_become.binds (ps := P_Ro_become) fun _ _ _ _ _ _ => by exact len3 (fun _ _ _ => rfl)
  have M_Ro_become : Meth K C_Road "become" fm_Ro_become := ⟨ma_Ro_become, mi_Ro_become, mp_Ro_become⟩
  have F_Ro_next_number := fun_mk (x := "next_number") (qual := "Road.next_number") (st := s_Ro_next_number) ml_Ro_next_number mc_Ro_next_number mp_Ro_next_number
  have b_Ro_next_number := F_Ro_next_number.binds (ps := P_Ro_next_number) fun _ _ _ _ _ _ => by exact len1 (fun _ => rfl)
  have M_Ro_next_number : Meth K C_Road "next_number" fm_Ro_next_number := ⟨ma_Ro_next_number, mi_Ro_next_number, mp_Ro_next_number⟩
  have F_Ro_matings := fun_mk (x := "matings") (qual := "Road.matings") (st := s_Ro_matings) ml_Ro_matings mc_Ro_matings mp_Ro_matings
  have b_Ro_matings := F_Ro_matings.binds (ps := P_Ro_matings) fun _ _ _ _ _ _ => by exact len1 (fun _ => rfl)
  have M_Ro_matings : Meth K C_Road "matings" fm_Ro_matings := ⟨ma_Ro_matings, mi_Ro_matings, mp_Ro_matings⟩
  have F_Ro_length := fun_mk (x := "length") (qual := "Road.length") (st := s_Ro_length) ml_Ro_length mc_Ro_length mp_Ro_length
  have b_Ro_length := F_Ro_length.binds (ps := P_Ro_length) fun _ _ _ _ _ _ => by exact len1 (fun _ => rfl)
  have M_Ro_length : Meth K C_Road "length" fm_Ro_length := ⟨ma_Ro_length, mi_Ro_length, mp_Ro_length⟩
  have F_Ro_mate_as := fun_mk (x := "mate_as") (qual := "Road.mate_as") (st := s_Ro_mate_as) ml_Ro_mate_as mc_Ro_mate_as mp_Ro_mate_as
  have b_Ro_mate_as := F_Ro_mate_as.binds (ps := P_Ro_mate_as) fun _ _ _ _ _ _ => by exact len3 (fun _ _ _ => rfl)
  have M_Ro_mate_as : Meth K C_Road "mate_as" fm_Ro_mate_as := ⟨ma_Ro_mate_as, mi_Ro_mate_as, mp_Ro_mate_as⟩
  have F_Ro_strike := fun_mk (x := "strike") (qual := "Road.strike") (st := s_Ro_strike) ml_Ro_strike mc_Ro_strike mp_Ro_strike
  have b_Ro_strike := F_Ro_strike.binds (ps := P_Ro_strike) fun _ _ _ _ _ _ => by exact len2 (fun _ _ => rfl)
  have M_Ro_strike : Meth K C_Road "strike" fm_Ro_strike := ⟨ma_Ro_strike, mi_Ro_strike, mp_Ro_strike⟩
  have F_Ro_grow := fun_mk (x := "grow") (qual := "Road.grow") (st := s_Ro_grow) ml_Ro_grow mc_Ro_grow mp_Ro_grow
  have b_Ro_grow := F_Ro_grow.binds (ps := P_Ro_grow) fun _ _ _ _ _ _ => by exact len2 (fun _ _ => rfl)
  have M_Ro_grow : Meth K C_Road "grow" fm_Ro_grow := ⟨ma_Ro_grow, mi_Ro_grow, mp_Ro_grow⟩
  have F_Ro_trim := fun_mk (x := "trim") (qual := "Road.trim") (st := s_Ro_trim) ml_Ro_trim mc_Ro_trim mp_Ro_trim
  have b_Ro_trim := F_Ro_trim.binds (ps := P_Ro_trim) fun _ _ _ _ _ _ => by exact len2 (fun _ _ => rfl)
  have M_Ro_trim : Meth K C_Road "trim" fm_Ro_trim := ⟨ma_Ro_trim, mi_Ro_trim, mp_Ro_trim⟩
  have F_Ro_swell := fun_mk (x := "swell") (qual := "Road.swell") (st := s_Ro_swell) ml_Ro_swell mc_Ro_swell mp_Ro_swell
  have b_Ro_swell := F_Ro_swell.binds (ps := P_Ro_swell) fun _ _ _ _ _ _ => by exact len2 (fun _ _ => rfl)
  have M_Ro_swell : Meth K C_Road "swell" fm_Ro_swell := ⟨ma_Ro_swell, mi_Ro_swell, mp_Ro_swell⟩
  have F_Ro_behind := fun_mk (x := "behind") (qual := "Road.behind") (st := s_Ro_behind) ml_Ro_behind mc_Ro_behind mp_Ro_behind
  have b_Ro_behind := F_Ro_behind.binds (ps := P_Ro_behind) fun _ _ _ _ _ _ => by exact len2 (fun _ _ => rfl)
  have M_Ro_behind : Meth K C_Road "behind" fm_Ro_behind := ⟨ma_Ro_behind, mi_Ro_behind, mp_Ro_behind⟩
  have F_Ro_twin := fun_mk (x := "twin") (qual := "Road.twin") (st := s_Ro_twin) ml_Ro_twin mc_Ro_twin mp_Ro_twin
  have b_Ro_twin := F_Ro_twin.binds (ps := P_Ro_twin) fun _ _ _ _ _ _ => by exact len1 (fun _ => rfl)
  have M_Ro_twin : Meth K C_Road "twin" fm_Ro_twin := ⟨ma_Ro_twin, mi_Ro_twin, mp_Ro_twin⟩
  have F_Ro_eq := fun_mk (x := "__eq__") (qual := "Road.__eq__") (st := s_Ro_eq) ml_Ro___eq__ mc_Ro___eq__ mp_Ro___eq__
  have b_Ro_eq := F_Ro_eq.binds (ps := P_Ro_eq) fun _ _ _ _ _ _ => by exact len2 (fun _ _ => rfl)
  have M_Ro_eq : Meth K C_Road "__eq__" fm_Ro___eq__ := ⟨ma_Ro___eq__, mi_Ro___eq__, mp_Ro___eq__⟩
  have mkRo_ : Mk K C_Road fm_Ro___init__ := ⟨mk_Road, ma_Ro___init__, mi_Ro___init__, kc_Road⟩
  have F_Df_init := fun_mk (x := "__init__") (qual := "Draft.__init__") (st := s_Df_init) ml_Df___init__ mc_Df___init__ mp_Df___init__
  have b_Df_init := F_Df_init.binds (ps := P_Df_init) fun _ _ _ _ _ _ => by exact len4 (fun _ _ _ _ => rfl)
  have mkDf_ : Mk K C_Draft fm_Df___init__ := ⟨mk_Draft, ma_Df___init__, mi_Df___init__, kc_Draft⟩
  have F_Df_seat := fun_mk (x := "seat") (qual := "Draft.seat") (st := s_Df_seat) ml_Df_seat mc_Df_seat mp_Df_seat
  have b_Df_seat := F_Df_seat.binds (ps := P_Df_seat) fun _ _ _ _ _ _ => by exact len3 (fun _ _ _ => rfl)
  have M_Df_seat : Meth K C_Draft "seat" fm_Df_seat := ⟨ma_Df_seat, mi_Df_seat, mp_Df_seat⟩
  have F_Df_need_room := fun_mk (x := "need_room") (qual := "Draft.need_room") (st := s_Df_need_room) ml_Df_need_room mc_Df_need_room mp_Df_need_room
  have b_Df_need_room := F_Df_need_room.binds (ps := P_Df_need_room) fun _ _ _ _ _ _ => by exact len2 (fun _ _ => rfl)
  have M_Df_need_room : Meth K C_Draft "need_room" fm_Df_need_room := ⟨ma_Df_need_room, mi_Df_need_room, mp_Df_need_room⟩
  have F_Df_do := fun_mk (x := "do") (qual := "Draft.do") (st := s_Df_do) ml_Df_do mc_Df_do mp_Df_do
  have b_Df_do := F_Df_do.binds (ps := P_Df_do) fun _ _ _ _ _ _ => by exact len2 (fun _ _ => rfl)
  have M_Df_do : Meth K C_Draft "do" fm_Df_do := ⟨ma_Df_do, mi_Df_do, mp_Df_do⟩
  have F_Df_change_road := fun_mk (x := "change_road") (qual := "Draft.change_road") (st := s_Df_change_road) ml_Df_change_road mc_Df_change_road mp_Df_change_road
  have b_Df_change_road := F_Df_change_road.binds (ps := P_Df_change_road) fun _ _ _ _ _ _ => by exact len4 (fun _ _ _ _ => rfl)
  have M_Df_change_road : Meth K C_Draft "change_road" fm_Df_change_road := ⟨ma_Df_change_road, mi_Df_change_road, mp_Df_change_road⟩
  have F_Ha_draft := fun_mk (x := "draft") (qual := "Hall.draft") (st := s_Ha_draft) ml_Ha_draft mc_Ha_draft mp_Ha_draft
  have b_Ha_draft := F_Ha_draft.binds (ps := P_Ha_draft) fun _ _ _ _ _ _ => by exact len1 (fun _ => rfl)
  have M_Ha_draft : Meth K C_Hall "draft" fm_Ha_draft := ⟨ma_Ha_draft, mi_Ha_draft, mp_Ha_draft⟩
  have F_Ha_together := fun_mk (x := "together") (qual := "Hall.together") (st := s_Ha_together) ml_Ha_together mc_Ha_together mp_Ha_together
  have b_Ha_together := F_Ha_together.binds (ps := P_Ha_together) fun _ _ _ _ _ _ => by exact len2 (fun _ _ => rfl)
  have M_Ha_together : Meth K C_Hall "together" fm_Ha_together := ⟨ma_Ha_together, mi_Ha_together, mp_Ha_together⟩
  have F_Ha_names := fun_mk (x := "names") (qual := "Hall.names") (st := s_Ha_names) ml_Ha_names mc_Ha_names mp_Ha_names
  have b_Ha_names := F_Ha_names.binds (ps := P_Ha_names) fun _ _ _ _ _ _ => by exact len1 (fun _ => rfl)
  have M_Ha_names : Meth K C_Hall "names" fm_Ha_names := ⟨ma_Ha_names, mi_Ha_names, mp_Ha_names⟩
  have F_Ha_very := fun_mk (x := "very") (qual := "Hall.very") (st := s_Ha_very) ml_Ha_very mc_Ha_very mp_Ha_very
  have b_Ha_very := F_Ha_very.binds (ps := P_Ha_very) fun _ _ _ _ _ _ => by exact len2 (fun _ _ => rfl)
  have M_Ha_very : Meth K C_Hall "very" fm_Ha_very := ⟨ma_Ha_very, mi_Ha_very, mp_Ha_very⟩
  have F_Ha_road := fun_mk (x := "road") (qual := "Hall.road") (st := s_Ha_road) ml_Ha_road mc_Ha_road mp_Ha_road
  have b_Ha_road := F_Ha_road.binds (ps := P_Ha_road) fun _ _ _ _ _ _ => by exact len2 (fun _ _ => rfl)
  have M_Ha_road : Meth K C_Hall "road" fm_Ha_road := ⟨ma_Ha_road, mi_Ha_road, mp_Ha_road⟩
  have F_Ha_len := fun_mk (x := "__len__") (qual := "Hall.__len__") (st := s_Ha_len) ml_Ha___len__ mc_Ha___len__ mp_Ha___len__
  have b_Ha_len := F_Ha_len.binds (ps := P_Ha_len) fun _ _ _ _ _ _ => by exact len1 (fun _ => rfl)
  have M_Ha_len : Meth K C_Hall "__len__" fm_Ha___len__ := ⟨ma_Ha___len__, mi_Ha___len__, mp_Ha___len__⟩
  have F_Ha_do := fun_mk (x := "do") (qual := "Hall.do") (st := s_Ha_do) ml_Ha_do mc_Ha_do mp_Ha_do
  have b_Ha_do := F_Ha_do.binds (ps := P_Ha_do) fun _ _ _ _ _ _ => by exact len2 (fun _ _ => rfl)
  have M_Ha_do : Meth K C_Hall "do" fm_Ha_do := ⟨ma_Ha_do, mi_Ha_do, mp_Ha_do⟩
  have F_Ha_steps := fun_mk (x := "steps") (qual := "Hall.steps") (st := s_Ha_steps) ml_Ha_steps mc_Ha_steps mp_Ha_steps
  have b_Ha_steps := F_Ha_steps.binds (ps := P_Ha_steps) fun _ _ _ _ _ _ => by exact len1 (fun _ => rfl)
  have M_Ha_steps : Meth K C_Hall "steps" fm_Ha_steps := ⟨ma_Ha_steps, mi_Ha_steps, mp_Ha_steps⟩
  have mkHa_ : Mk K C_Hall fm_Ha___init__ := ⟨mk_Hall, ma_Ha___init__, mi_Ha___init__, kc_Hall⟩
  have TE_ : RoE K C_Road fm_Ro___eq__ := ⟨ma_Ro___eq__, mi_Ro___eq__, ne_Road, hc_Road, hn_get, ht_cls, hm_Road⟩
  have Tb : ErT K mg C_FarError C_BadNumber f_BadNumber _ "BadNumber" N_bninit := ⟨PySem.W.mg_of X G gF, PySem.W.mg_of X G g_BadNumber, E_BadNumber, XF_BadNumber, EC_BadNumber, i_BadNumber, t_BadNumber, bI_BadNumber, M_BadNumber⟩
  have Tg : ErT K mg C_FarError C_BadMating f_BadMating _ "BadMating" N_bginit := ⟨PySem.W.mg_of X G gF, PySem.W.mg_of X G g_BadMating, E_BadMating, XF_BadMating, EC_BadMating, i_BadMating, t_BadMating, bI_BadMating, M_BadMating⟩
  have Tu : ErT K mg C_FarError C_Full f_Full _ "Full" N_fuinit := ⟨PySem.W.mg_of X G gF, PySem.W.mg_of X G g_Full, E_Full, XF_Full, EC_Full, i_Full, t_Full, bI_Full, M_Full⟩
  have Tn : ErT K mg C_FarError C_BadName f_BadName _ "BadName" N_erBadName := ⟨PySem.W.mg_of X G gF, PySem.W.mg_of X G g_BadName, E_BadName, XF_BadName, EC_BadName, i_BadName, t_BadName, bI_BadName, M_BadName⟩
  have Tt : ErT K mg C_FarError C_Taken f_Taken _ "Taken" N_erTaken := ⟨PySem.W.mg_of X G gF, PySem.W.mg_of X G g_Taken, E_Taken, XF_Taken, EC_Taken, i_Taken, t_Taken, bI_Taken, M_Taken⟩
  have Tm : LrT K mg C_FarError C_Missing C_NoMating f_NoMating _ "NoMating" N_nminit := ⟨PySem.W.mg_of X G gF, PySem.W.mg_of X G gM, PySem.W.mg_of X G g_NoMating, E_NoMating, XF_NoMating, EC_NoMating, i_NoMating, t_NoMating, bI_NoMating, M0_NoMating, M_NoMating⟩
  have Tr : LrT K mg C_FarError C_Missing C_NoRoad f_NoRoad _ "NoRoad" N_erNoRoad := ⟨PySem.W.mg_of X G gF, PySem.W.mg_of X G gM, PySem.W.mg_of X G g_NoRoad, E_NoRoad, XF_NoRoad, EC_NoRoad, i_NoRoad, t_NoRoad, bI_NoRoad, M0_NoRoad, M_NoRoad⟩
  have Ob : OthBnE K mg C_BadNumber C_NoMating C_NoFamily C_TooMuch := ⟨PySem.W.mg_of X G g_NoMating, PySem.W.mg_of X G g_NoFamily, PySem.W.mg_of X G g_TooMuch⟩
  have Og : OthBgE K mg C_BadMating C_BadNumber C_NoMating C_NoFamily C_TooMuch C_BadName C_Taken C_NoRoad := ⟨PySem.W.mg_of X G g_BadNumber, PySem.W.mg_of X G g_NoMating, PySem.W.mg_of X G g_NoFamily, PySem.W.mg_of X G g_TooMuch, PySem.W.mg_of X G g_BadName, PySem.W.mg_of X G g_Taken, PySem.W.mg_of X G g_NoRoad, List.forall_mem_cons.mpr ⟨kit_no self_BadMating ns_BadMating_BadNumber nc_BadNumber nt_BadNumber, List.forall_mem_cons.mpr ⟨kit_no self_BadMating ns_BadMating_NoMating nc_NoMating nt_NoMating, List.forall_mem_cons.mpr ⟨kit_no self_BadMating ns_BadMating_NoFamily nc_NoFamily nt_NoFamily, List.forall_mem_cons.mpr ⟨kit_no self_BadMating ns_BadMating_TooMuch nc_TooMuch nt_TooMuch, List.forall_mem_cons.mpr ⟨kit_no self_BadMating ns_BadMating_BadName nc_BadName nt_BadName, List.forall_mem_cons.mpr ⟨kit_no self_BadMating ns_BadMating_Taken nc_Taken nt_Taken, List.forall_mem_cons.mpr ⟨kit_no self_BadMating ns_BadMating_NoRoad nc_NoRoad nt_NoRoad, fun _ h => (by cases h)⟩⟩⟩⟩⟩⟩⟩⟩
  have Ou : OthFuE K mg C_Full C_BadNumber C_NoMating C_NoFamily C_TooMuch C_BadName C_Taken C_NoRoad C_BadMating C_BadPlace C_BadStretch C_BadMove C_BadMoves C_BadText C_BadBoard C_BadCounts C_BadSide C_NoSide := ⟨PySem.W.mg_of X G g_BadNumber, PySem.W.mg_of X G g_NoMating, PySem.W.mg_of X G g_NoFamily, PySem.W.mg_of X G g_TooMuch, PySem.W.mg_of X G g_BadName, PySem.W.mg_of X G g_Taken, PySem.W.mg_of X G g_NoRoad, PySem.W.mg_of X G g_BadMating, PySem.W.mg_of X G g_BadPlace, PySem.W.mg_of X G g_BadStretch, PySem.W.mg_of X G g_BadMove, PySem.W.mg_of X G g_BadMoves, PySem.W.mg_of X G g_BadText, PySem.W.mg_of X G g_BadBoard, PySem.W.mg_of X G g_BadCounts, PySem.W.mg_of X G g_BadSide, PySem.W.mg_of X G g_NoSide, List.forall_mem_cons.mpr ⟨kit_no self_Full ns_Full_BadNumber nc_BadNumber nt_BadNumber, List.forall_mem_cons.mpr ⟨kit_no self_Full ns_Full_NoMating nc_NoMating nt_NoMating, List.forall_mem_cons.mpr ⟨kit_no self_Full ns_Full_NoFamily nc_NoFamily nt_NoFamily, List.forall_mem_cons.mpr ⟨kit_no self_Full ns_Full_TooMuch nc_TooMuch nt_TooMuch, List.forall_mem_cons.mpr ⟨kit_no self_Full ns_Full_BadName nc_BadName nt_BadName, List.forall_mem_cons.mpr ⟨kit_no self_Full ns_Full_Taken nc_Taken nt_Taken, List.forall_mem_cons.mpr ⟨kit_no self_Full ns_Full_NoRoad nc_NoRoad nt_NoRoad, List.forall_mem_cons.mpr ⟨kit_no self_Full ns_Full_BadMating nc_BadMating nt_BadMating, List.forall_mem_cons.mpr ⟨kit_no self_Full ns_Full_BadPlace nc_BadPlace nt_BadPlace, List.forall_mem_cons.mpr ⟨kit_no self_Full ns_Full_BadStretch nc_BadStretch nt_BadStretch, List.forall_mem_cons.mpr ⟨kit_no self_Full ns_Full_BadMove nc_BadMove nt_BadMove, List.forall_mem_cons.mpr ⟨kit_no self_Full ns_Full_BadMoves nc_BadMoves nt_BadMoves, List.forall_mem_cons.mpr ⟨kit_no self_Full ns_Full_BadText nc_BadText nt_BadText, List.forall_mem_cons.mpr ⟨kit_no self_Full ns_Full_BadBoard nc_BadBoard nt_BadBoard, List.forall_mem_cons.mpr ⟨kit_no self_Full ns_Full_BadCounts nc_BadCounts nt_BadCounts, List.forall_mem_cons.mpr ⟨kit_no self_Full ns_Full_BadSide nc_BadSide nt_BadSide, List.forall_mem_cons.mpr ⟨kit_no self_Full ns_Full_NoSide nc_NoSide nt_NoSide, fun _ h => (by cases h)⟩⟩⟩⟩⟩⟩⟩⟩⟩⟩⟩⟩⟩⟩⟩⟩⟩⟩
  have Om : OthNm K mg C_NoMating C_BadNumber C_NoFamily C_TooMuch := ⟨PySem.W.mg_of X G g_BadNumber, PySem.W.mg_of X G g_NoFamily, PySem.W.mg_of X G g_TooMuch, kit_no self_NoMating ns_NoMating_BadNumber nc_BadNumber nt_BadNumber⟩
  have On : OtherBadName K mg C_BadName C_BadNumber C_NoMating C_NoFamily C_TooMuch C_Taken C_NoRoad := ⟨PySem.W.mg_of X G g_BadNumber, PySem.W.mg_of X G g_NoMating, PySem.W.mg_of X G g_NoFamily, PySem.W.mg_of X G g_TooMuch, PySem.W.mg_of X G g_Taken, PySem.W.mg_of X G g_NoRoad, List.forall_mem_cons.mpr ⟨kit_no self_BadName ns_BadName_BadNumber nc_BadNumber nt_BadNumber, List.forall_mem_cons.mpr ⟨kit_no self_BadName ns_BadName_NoMating nc_NoMating nt_NoMating, List.forall_mem_cons.mpr ⟨kit_no self_BadName ns_BadName_NoFamily nc_NoFamily nt_NoFamily, List.forall_mem_cons.mpr ⟨kit_no self_BadName ns_BadName_TooMuch nc_TooMuch nt_TooMuch, fun _ h => (by cases h)⟩⟩⟩⟩⟩
  have Ot : OtherTaken K mg C_Taken C_BadNumber C_NoMating C_NoFamily C_TooMuch C_BadName C_NoRoad := ⟨PySem.W.mg_of X G g_BadNumber, PySem.W.mg_of X G g_NoMating, PySem.W.mg_of X G g_NoFamily, PySem.W.mg_of X G g_TooMuch, PySem.W.mg_of X G g_BadName, PySem.W.mg_of X G g_NoRoad, List.forall_mem_cons.mpr ⟨kit_no self_Taken ns_Taken_BadNumber nc_BadNumber nt_BadNumber, List.forall_mem_cons.mpr ⟨kit_no self_Taken ns_Taken_NoMating nc_NoMating nt_NoMating, List.forall_mem_cons.mpr ⟨kit_no self_Taken ns_Taken_NoFamily nc_NoFamily nt_NoFamily, List.forall_mem_cons.mpr ⟨kit_no self_Taken ns_Taken_TooMuch nc_TooMuch nt_TooMuch, List.forall_mem_cons.mpr ⟨kit_no self_Taken ns_Taken_BadName nc_BadName nt_BadName, fun _ h => (by cases h)⟩⟩⟩⟩⟩⟩
  have Or : OtherNoRoad K mg C_NoRoad C_BadNumber C_NoMating C_NoFamily C_TooMuch C_BadName C_Taken := ⟨PySem.W.mg_of X G g_BadNumber, PySem.W.mg_of X G g_NoMating, PySem.W.mg_of X G g_NoFamily, PySem.W.mg_of X G g_TooMuch, PySem.W.mg_of X G g_BadName, PySem.W.mg_of X G g_Taken, List.forall_mem_cons.mpr ⟨kit_no self_NoRoad ns_NoRoad_BadNumber nc_BadNumber nt_BadNumber, List.forall_mem_cons.mpr ⟨kit_no self_NoRoad ns_NoRoad_NoMating nc_NoMating nt_NoMating, List.forall_mem_cons.mpr ⟨kit_no self_NoRoad ns_NoRoad_NoFamily nc_NoFamily nt_NoFamily, List.forall_mem_cons.mpr ⟨kit_no self_NoRoad ns_NoRoad_TooMuch nc_TooMuch nt_TooMuch, List.forall_mem_cons.mpr ⟨kit_no self_NoRoad ns_NoRoad_BadName nc_BadName nt_BadName, List.forall_mem_cons.mpr ⟨kit_no self_NoRoad ns_NoRoad_Taken nc_Taken nt_Taken, fun _ h => (by cases h)⟩⟩⟩⟩⟩⟩⟩
  have TRo_ : RoT K mg C_Road := ⟨PySem.W.mg_of X G g_Road, cl_Road, na_Ro_extent, na_Ro_standing, na_Ro_kept, na_Ro_foldings⟩
  have TDf_ : DfT K mg C_Draft := ⟨PySem.W.mg_of X G g_Draft, cl_Draft, na_Df_seats, na_Df_fresh, na_Df_most⟩
  have THa_ : HaT K mg C_Hall := ⟨PySem.W.mg_of X G g_Hall, cl_Hall, na_Ha_most, na_Ha_fresh, na_Ha_states, na_Ha_now⟩
  have M_Ro_mate : Meth K C_Road "mate" fm_Ro_mate := ⟨ma_Ro_mate, mi_Ro_mate, FD_Ro_mate.kp⟩
  refine ⟨PySem.W.fnOf "law" "law" (defArgs s_law) (defBody s_law) (defScope s_law) .none kV35 dc35 pm35 an35 (.ref c) ct35, [(c, Pt)], spLawT K Pt, fun p hp => ?_, fun p hp => ?_, fun p hp => ?_, fun s u => ?b, fun H a ns hl _ hH hS => ⟨a, ns, rfl, hS, hl, hH _ List.mem_cons_self, fun _ => rfl⟩, fun base KB GB TB => ?ok⟩
  case ok =>
    have gFAR := PySem.W.mg_of X G g_FAR
    have gMOST := PySem.W.mg_of X G g_MOST
    have gROADS := PySem.W.mg_of X G g_ROADS
    have gLON := PySem.W.mg_of X G g_LONGEST_NAME
    have gLET := PySem.W.mg_of X G g_LETTERS
    have zE := PySem.W.mg_none_of X G zf_enumerate
    have GB : FnOk l.prog w K mg base CX0 _ _ _ _ _ := ok_bninit FI_BadNumber (PySem.W.mg_of X G gF) TF (far_binds FF) (GF base)
    have GG : FnOk l.prog w K mg base CX0 _ _ _ _ _ := ok_bginit FI_BadMating (PySem.W.mg_of X G gF) TF (far_binds FF) (GF base)
    have GU : FnOk l.prog w K mg base CX0 _ _ _ _ _ := ok_fuinit FI_Full (PySem.W.mg_of X G gF) TF (far_binds FF) (GF base)
    have GN : FnOk l.prog w K mg base CX0 _ _ _ _ _ := ok_erBadName FI_BadName (PySem.W.mg_of X G gF) TF (far_binds FF) (GF base)
    have GT : FnOk l.prog w K mg base CX0 _ _ _ _ _ := ok_erTaken FI_Taken (PySem.W.mg_of X G gF) TF (far_binds FF) (GF base)
    have GNm : FnOk l.prog w K mg base CX0 _ _ _ _ _ := ok_nminit FI_NoMating (PySem.W.mg_of X G gM) TMi (mis_binds FMi) (GM base)
    have GNr : FnOk l.prog w K mg base CX0 _ _ _ _ _ := ok_erNoRoad FI_NoRoad (PySem.W.mg_of X G gM) TMi (mis_binds FMi) (GM base)
    have hI := whyI49 (P := l.prog) (w := w) (base := base) (c := (H7.mk C_BadNumber C_BadMating C_Full C_NoMating C_BadName C_Taken C_NoRoad)) D_fields B Tb Ob n_BadNumber_number Tg Og n_BadMating_mating Tu Ou n_Full_most Tm Om n_NoMating_number Tn On n_BadName_name Tt Ot n_Taken_name Tr Or n_NoRoad_name
    have GX_nl : FnOk l.prog w K mg base (L2.CX l.prog w) _ _ _ _ _ := ok_lenX (CG := C_BadMating) (CU := C_Full) D_need_length D_need_from D_need_within B Tb n_BadNumber_number gFAR GB
    have G_ri : FnOk l.prog w K mg base CX0 _ _ _ _ _ := ok_RoInit FD_Ro___init__ TRo_ D_need_length D_need_from D_need_within gFAR B
    have GX_ri : FnOk l.prog w K mg base (L2.CX l.prog w) _ _ _ _ _ := ok_RoInitX (C5 := C_Road) (c := (H7.mk C_BadNumber C_BadMating C_Full C_NoMating C_BadName C_Taken C_NoRoad)) FD_Ro___init__ D_need_length GX_nl
    have GB_ri : FnOk l.prog w K mg base (L2.CX l.prog w) _ _ _ _ _ := FnOk.both (m := 8) G_ri GX_ri (by decide) (by decide)
    have b_ri := ro_init_binds FD_Ro___init__
    have kb := mate_kbinds FD_Ro_mate
    have G_bec : FnOk l.prog w K mg base CX0 _ _ _ _ _ := ok_Become F_Ro_become TRo_
    have G_nx : FnOk l.prog w K mg base CX0 _ _ _ _ _ := ok_Next F_Ro_next_number TRo_ B
    have G_len : FnOk l.prog w K mg base CX0 _ _ _ _ _ := ok_RoLen F_Ro_length TRo_
    have G_mats : FnOk l.prog w K mg base CX0 _ _ _ _ _ := ok_RoMatings F_Ro_matings TRo_ B
    have G_twn : FnOk l.prog w K mg base CX0 _ _ _ _ _ := ok_Twin F_Ro_twin TRo_ mkRo_ G_ri b_ri B
    have G_eq : FnOk l.prog w K mg base CX0 _ _ _ _ _ := ok_RoEq F_Ro_eq TRo_ TE_ B
    have G_ma : FnOk l.prog w K mg base CX0 _ _ _ _ _ := ok_MateAs F_Ro_mate_as TRo_ M_Ro_become G_bec b_Ro_become D_need_mating D_is_mating gMOST B
    have G_mate : FnOk l.prog w K mg base CX0 _ _ _ _ _ := ok_Mate FD_Ro_mate TRo_ M_Ro_next_number G_nx b_Ro_next_number M_Ro_mate_as G_ma b_Ro_mate_as
    have GX_ma : FnOk l.prog w K mg base (L2.CX l.prog w) _ _ _ _ _ := ok_MateAsR F_Ro_mate_as TRo_ M_Ro_become G_bec b_Ro_become D_need_mating D_is_mating gMOST B Tg n_BadMating_mating GG Tu n_Full_most GU
    have GX_mate : FnOk l.prog w K mg base (L2.CX l.prog w) _ _ _ _ _ := ok_MateR FD_Ro_mate TRo_ M_Ro_next_number G_nx b_Ro_next_number M_Ro_mate_as GX_ma b_Ro_mate_as
    have GB_mate : FnOk l.prog w K mg base (L2.CX l.prog w) _ _ _ _ _ := FnOk.both (m := 7) G_mate GX_mate (by decide) (by decide)
    have G_str : FnOk l.prog w K mg base CX0 _ _ _ _ _ := ok_Strike F_Ro_strike TRo_ M_Ro_become G_bec b_Ro_become B
    have GX_str : FnOk l.prog w K mg base (L2.CX l.prog w) _ _ _ _ _ := ok_StrikeR F_Ro_strike TRo_ M_Ro_become G_bec b_Ro_become B Tm n_NoMating_number GNm
    have GB_str : FnOk l.prog w K mg base (L2.CX l.prog w) _ _ _ _ _ := FnOk.both (m := 5) G_str GX_str (by decide) (by decide)
    have G_grow : FnOk l.prog w K mg base CX0 _ _ _ _ _ := ok_Grow F_Ro_grow TRo_ M_Ro_become G_bec b_Ro_become D_need_within D_need_from gFAR B
    have GX_grow : FnOk l.prog w K mg base (L2.CX l.prog w) _ _ _ _ _ := ok_GrowX F_Ro_grow TRo_ M_Ro_become G_bec b_Ro_become D_need_within D_need_from gFAR B Tb n_BadNumber_number GB
    have GB_grow : FnOk l.prog w K mg base (L2.CX l.prog w) _ _ _ _ _ := FnOk.both (m := 7) G_grow GX_grow (by decide) (by decide)
    have G_trim : FnOk l.prog w K mg base CX0 _ _ _ _ _ := ok_Trim F_Ro_trim TRo_ M_Ro_become G_bec b_Ro_become D_need_within D_need_from D_clipped D_part D_holds B
    have GX_trim : FnOk l.prog w K mg base (L2.CX l.prog w) _ _ _ _ _ := ok_TrimX F_Ro_trim TRo_ M_Ro_become G_bec b_Ro_become D_need_within D_need_from D_clipped D_part D_holds B Tb n_BadNumber_number GB
    have GB_trim : FnOk l.prog w K mg base (L2.CX l.prog w) _ _ _ _ _ := FnOk.both (m := 7) G_trim GX_trim (by decide) (by decide)
    have G_swell : FnOk l.prog w K mg base CX0 _ _ _ _ _ := ok_SwellG F_Ro_swell TRo_ M_Ro_become G_bec b_Ro_become D_need_from D_swelled gFAR B
    have GX_swell : FnOk l.prog w K mg base (L2.CX l.prog w) _ _ _ _ _ := ok_SwellX F_Ro_swell TRo_ M_Ro_become G_bec b_Ro_become D_need_from D_swelled gFAR B Tb n_BadNumber_number GB
    have GB_swell : FnOk l.prog w K mg base (L2.CX l.prog w) _ _ _ _ _ := FnOk.both (m := 7) G_swell GX_swell (by decide) (by decide)
    have G_bh : FnOk l.prog w K mg base (L2.CX l.prog w) _ _ _ _ _ := ok_Behind (CG := C_BadMating) F_Ro_behind TRo_ M_Ro_become G_bec b_Ro_become M_Ro_next_number G_nx b_Ro_next_number M_Ro_length G_len b_Ro_length M_Ro_matings G_mats b_Ro_matings D_moved gFAR gMOST zE B Tb n_BadNumber_number GB Tu n_Full_most GU
    have G_up : FnOk l.prog w K mg base (L2.CX l.prog w) _ _ _ _ _ := ok_upon D_do_upon TRo_ M_Ro_mate GB_mate kb M_Ro_strike GB_str b_Ro_strike M_Ro_grow GB_grow b_Ro_grow M_Ro_trim GB_trim b_Ro_trim M_Ro_swell GB_swell b_Ro_swell M_Ro_behind G_bh b_Ro_behind
    have G_vr : FnOk l.prog w K mg base CX0 _ _ _ _ _ := ok_very D_very_road
    have GX_vr : FnOk l.prog w K mg base (L2.CX l.prog w) _ _ _ _ _ := ok_veryX D_very_road Tr n_NoRoad_name GNr
    have GB_vr : FnOk l.prog w K mg base (L2.CX l.prog w) _ _ _ _ _ := FnOk.both (m := 4) G_vr GX_vr (by decide) (by decide)
    have G_di : FnOk l.prog w K mg base CX0 _ _ _ _ _ := ok_DfInit F_Df_init TDf_ B
    have G_ds : FnOk l.prog w K mg base CX0 _ _ _ _ _ := ok_DfSeat F_Df_seat TDf_ B
    have G_dr : FnOk l.prog w K mg base CX0 _ _ _ _ _ := ok_DfRoom F_Df_need_room TDf_ D_is_name gLET gLON B
    have GX_dr : FnOk l.prog w K mg base (L2.CX l.prog w) _ _ _ _ _ := ok_DfRoomX F_Df_need_room TDf_ D_is_name gLET gLON Tn n_BadName_name GN Tt n_Taken_name GT Tu n_Full_most GU B
    have GB_dr : FnOk l.prog w K mg base (L2.CX l.prog w) _ _ _ _ _ := FnOk.both (m := 4) G_dr GX_dr (by decide) (by decide)
    have G_dc : FnOk l.prog w K mg base (L2.CX l.prog w) _ _ _ _ _ := ok_DfChange (c := (H7.mk C_BadNumber C_BadMating C_Full C_NoMating C_BadName C_Taken C_NoRoad)) F_Df_change_road TDf_ TRo_ D_very_road GB_vr M_Ro_twin G_twn b_Ro_twin D_do_upon G_up M_Df_seat G_ds b_Df_seat TE_ G_eq b_Ro_eq
    have G_dd : FnOk l.prog w K mg base (L2.CX l.prog w) _ _ _ _ _ := ok_DfDo (c := (H7.mk C_BadNumber C_BadMating C_Full C_NoMating C_BadName C_Taken C_NoRoad)) F_Df_do TDf_ TRo_ D_very_road GB_vr M_Ro_twin G_twn b_Ro_twin M_Df_seat G_ds b_Df_seat M_Df_need_room GB_dr b_Df_need_room M_Df_change_road G_dc b_Df_change_road mkRo_ GB_ri b_ri B
    have G_hi : FnOk l.prog w K mg base CX0 _ _ _ _ _ := ok_HaInit (C5 := C_Road) FD_Ha___init__ THa_ B
    obtain ⟨dsH, dv_Ha, b_hi⟩ := ha_init_binds FD_Ha___init__
    have G_hd : FnOk l.prog w K mg base CX0 _ _ _ _ _ := ok_HaDraft (C5 := C_Road) F_Ha_draft THa_ TDf_ mkDf_ G_di b_Df_init B
    have G_hn : FnOk l.prog w K mg base CX0 _ _ _ _ _ := ok_HaNames (C5 := C_Road) F_Ha_names THa_ B
    have G_hl : FnOk l.prog w K mg base CX0 _ _ _ _ _ := ok_HaLen (C5 := C_Road) F_Ha_len THa_ B
    have G_hv : FnOk l.prog w K mg base CX0 _ _ _ _ _ := ok_HaVery (C5 := C_Road) F_Ha_very THa_ D_very_road G_vr B
    have G_hr : FnOk l.prog w K mg base CX0 _ _ _ _ _ := ok_HaRoad F_Ha_road THa_ TRo_ M_Ha_very G_hv b_Ha_very M_Ro_twin G_twn b_Ro_twin B
    have G_ht : FnOk l.prog w K mg base (L2.CX l.prog w) _ _ _ _ _ := ok_HaTogether (C5 := C_Road) (c := (H7.mk C_BadNumber C_BadMating C_Full C_NoMating C_BadName C_Taken C_NoRoad)) F_Ha_together THa_ TDf_ M_Ha_draft G_hd b_Ha_draft M_Df_do G_dd b_Df_do B
    have G_ho : FnOk l.prog w K mg base (L2.CX l.prog w) _ _ _ _ _ := ok_HaDo (C5 := C_Road) (c := (H7.mk C_BadNumber C_BadMating C_Full C_NoMating C_BadName C_Taken C_NoRoad)) F_Ha_do THa_ M_Ha_together G_ht b_Ha_together B
    have G_deed : FnOk l.prog w K mg base CX0 _ _ _ _ _ := ok_hdeed D_hall_deed D_any D_pull D_hall_name D_odd D_mating B
    have G_step : FnOk l.prog w K mg base CX0 _ _ _ _ _ := ok_stepH D_step D_room D_no_number D_taken_behind D_road_deed D_good_name D_clip D_ends D_scaled zE B
    have G_look : FnOk l.prog w K mg base CX0 _ _ _ _ _ := ok_looks D_hall_looks THa_ TRo_ D_like M_Ha_names G_hn b_Ha_names M_Ha_road G_hr b_Ha_road M_Ha_len G_hl b_Ha_len M_Ro_length G_len b_Ro_length M_Ro_matings G_mats b_Ro_matings B
    have G_hs : FnOk l.prog w K mg base CX0 _ _ _ _ _ := ok_HaSteps (C5 := C_Road) F_Ha_steps THa_ B
    have G_pg : FnOk l.prog w K mg base CX0 _ _ _ _ _ := ok_page D_page THa_ TRo_ M_Ha_names G_hn b_Ha_names M_Ha_road G_hr b_Ha_road M_Ro_length G_len b_Ro_length M_Ro_matings G_mats b_Ro_matings (PySem.W.mg_of X G g_TURNS) (TU) B
    have G_lp : FnOk l.prog w K mg base CX0 _ _ _ _ _ := ok_law_page D_law_page B
    exact ok_law l35 c35 (TB _ List.mem_cons_self) D_open D_pull D_like D_why D_fields (PySem.W.mg_of X G gF) (PySem.W.mg_of X G gM) hI D_hall_deed G_deed D_step G_step D_hall_looks G_look THa_ mkHa_ G_hi b_hi dv_Ha M_Ha_do G_ho b_Ha_do M_Ha_steps G_hs b_Ha_steps D_page G_pg D_law_page G_lp B
  case b => exact .of_eq rfl
  · rw [List.mem_singleton.mp hp]; exact hT
  · rw [List.mem_singleton.mp hp]; exact nP
  · rw [List.mem_singleton.mp hp]; exact PySem.W.codeHd_of_K X hP
abbrev hkL : PySem.W.Hook := hookY faL fnL exL
def obL (s : PySem.W.SharedT) : AlY := obsY faL fnL exL (HandSHeadRun.getT s)
theorem obL_eq (s : PySem.W.SharedT) : obL s = hkL.obs s.abs := obsY_eq s
theorem all_of {w : World} {K : PySem.W.Frag} {h : Heap} {mg : Str → Option Value} {fa : Addr} (X : K.In h) (G : h.Ns mainGlobals mg) (hfa : mg "law" = some (.ref fa)) (c : SaysY faL fnL exL h K) :
    LamX.LawAtS PySem.Challenge.rw_farmates_k54_pages_written w K CX0 20 63 "_law_script" mg fa h := by
  obtain ⟨oc0, od0, sl0, kV0, dc0, pm0, an0, cd0, ct0, l0, c0, k0⟩ := say_def c.d 0 (x := "_law_open") (st := s_open) rfl
  obtain ⟨oc1, od1, sl1, kV1, dc1, pm1, an1, cd1, ct1, l1, c1, k1⟩ := say_def c.d 1 (x := "_law_pull") (st := s_pull) rfl
  obtain ⟨oc2, od2, sl2, kV2, dc2, pm2, an2, cd2, ct2, l2, c2, k2⟩ := say_def c.d 2 (x := "_law_any") (st := s_any) rfl
  obtain ⟨oc3, od3, sl3, kV3, dc3, pm3, an3, cd3, ct3, l3, c3, k3⟩ := say_def c.d 3 (x := "_law_like") (st := s_like) rfl
  obtain ⟨oc4, od4, sl4, kV4, dc4, pm4, an4, cd4, ct4, l4, c4, k4⟩ := say_def c.d 4 (x := "_law_fields") (st := s_fields) rfl
  obtain ⟨oc5, od5, sl5, kV5, dc5, pm5, an5, cd5, ct5, l5, c5, k5⟩ := say_def c.d 5 (x := "_law_why") (st := s_why) rfl
  obtain ⟨oc6, od6, sl6, kV6, dc6, pm6, an6, cd6, ct6, l6, c6, k6⟩ := say_def c.d 6 (x := "_law_mating") (st := s_mating) rfl
  obtain ⟨oc7, od7, sl7, kV7, dc7, pm7, an7, cd7, ct7, l7, c7, k7⟩ := say_def c.d 7 (x := "_law_ends") (st := s_ends) rfl
  obtain ⟨oc8, od8, sl8, kV8, dc8, pm8, an8, cd8, ct8, l8, c8, k8⟩ := say_def c.d 8 (x := "_law_odd") (st := s_odd) rfl
  obtain ⟨oc9, od9, sl9, kV9, dc9, pm9, an9, cd9, ct9, l9, c9, k9⟩ := say_def c.d 9 (x := "_law_scaled") (st := s_scaled) rfl
  obtain ⟨oc10, od10, sl10, kV10, dc10, pm10, an10, cd10, ct10, l10, c10, k10⟩ := say_def c.d 10 (x := "_law_hall_name") (st := s_hall_name) rfl
  obtain ⟨oc11, od11, sl11, kV11, dc11, pm11, an11, cd11, ct11, l11, c11, k11⟩ := say_def c.d 11 (x := "_law_good_name") (st := s_good_name) rfl
  obtain ⟨oc12, od12, sl12, kV12, dc12, pm12, an12, cd12, ct12, l12, c12, k12⟩ := say_def c.d 12 (x := "_law_room") (st := s_room) rfl
  obtain ⟨oc13, od13, sl13, kV13, dc13, pm13, an13, cd13, ct13, l13, c13, k13⟩ := say_def c.d 13 (x := "_law_clip") (st := s_clip) rfl
  obtain ⟨oc14, od14, sl14, kV14, dc14, pm14, an14, cd14, ct14, l14, c14, k14⟩ := say_def c.d 14 (x := "_law_no_number") (st := s_no_number) rfl
  obtain ⟨oc15, od15, sl15, kV15, dc15, pm15, an15, cd15, ct15, l15, c15, k15⟩ := say_def c.d 15 (x := "_law_road_deed") (st := s_road_deed) rfl
  obtain ⟨oc16, od16, sl16, kV16, dc16, pm16, an16, cd16, ct16, l16, c16, k16⟩ := say_def c.d 16 (x := "_law_taken_behind") (st := s_taken_behind) rfl
  obtain ⟨oc17, od17, sl17, kV17, dc17, pm17, an17, cd17, ct17, l17, c17, k17⟩ := say_def c.d 17 (x := "_law_step") (st := s_step) rfl
  obtain ⟨oc18, od18, sl18, kV18, dc18, pm18, an18, cd18, ct18, l18, c18, k18⟩ := say_def c.d 18 (x := "_law_hall_deed") (st := s_hall_deed) rfl
  obtain ⟨oc19, od19, sl19, kV19, dc19, pm19, an19, cd19, ct19, l19, c19, k19⟩ := say_def c.d 19 (x := "_law_hall_looks") (st := s_hall_looks) rfl
  obtain ⟨oc20, od20, sl20, kV20, dc20, pm20, an20, cd20, ct20, l20, c20, k20⟩ := say_def c.d 20 (x := "need_from") (st := s_need_from) rfl
  obtain ⟨oc21, od21, sl21, kV21, dc21, pm21, an21, cd21, ct21, l21, c21, k21⟩ := say_def c.d 21 (x := "need_within") (st := s_need_within) rfl
  obtain ⟨oc22, od22, sl22, kV22, dc22, pm22, an22, cd22, ct22, l22, c22, k22⟩ := say_def c.d 22 (x := "need_length") (st := s_need_length) rfl
  obtain ⟨oc23, od23, sl23, kV23, dc23, pm23, an23, cd23, ct23, l23, c23, k23⟩ := say_def c.d 23 (x := "need_mating") (st := s_need_mating) rfl
  obtain ⟨oc24, od24, sl24, kV24, dc24, pm24, an24, cd24, ct24, l24, c24, k24⟩ := say_def c.d 24 (x := "is_mating") (st := s_is_mating) rfl
  obtain ⟨oc25, od25, sl25, kV25, dc25, pm25, an25, cd25, ct25, l25, c25, k25⟩ := say_def c.d 25 (x := "clipped") (st := s_clipped) rfl
  obtain ⟨oc26, od26, sl26, kV26, dc26, pm26, an26, cd26, ct26, l26, c26, k26⟩ := say_def c.d 26 (x := "part") (st := s_part) rfl
  obtain ⟨oc27, od27, sl27, kV27, dc27, pm27, an27, cd27, ct27, l27, c27, k27⟩ := say_def c.d 27 (x := "holds") (st := s_holds) rfl
  obtain ⟨oc28, od28, sl28, kV28, dc28, pm28, an28, cd28, ct28, l28, c28, k28⟩ := say_def c.d 28 (x := "swelled") (st := s_swelled) rfl
  obtain ⟨oc29, od29, sl29, kV29, dc29, pm29, an29, cd29, ct29, l29, c29, k29⟩ := say_def c.d 29 (x := "moved") (st := s_moved) rfl
  obtain ⟨oc30, od30, sl30, kV30, dc30, pm30, an30, cd30, ct30, l30, c30, k30⟩ := say_def c.d 30 (x := "is_name") (st := s_is_name) rfl
  obtain ⟨oc31, od31, sl31, kV31, dc31, pm31, an31, cd31, ct31, l31, c31, k31⟩ := say_def c.d 31 (x := "very_road") (st := s_very_road) rfl
  obtain ⟨oc32, od32, sl32, kV32, dc32, pm32, an32, cd32, ct32, l32, c32, k32⟩ := say_def c.d 32 (x := "do_upon") (st := s_do_upon) rfl
  obtain ⟨oc33, od33, sl33, kV33, dc33, pm33, an33, cd33, ct33, l33, c33, k33⟩ := say_def c.d 33 (x := "page") (st := s_page) rfl
  obtain ⟨oc34, od34, sl34, kV34, dc34, pm34, an34, cd34, ct34, l34, c34, k34⟩ := say_def c.d 34 (x := "_law_page") (st := s_law_page) rfl
  obtain ⟨oc35, od35, sl35, kV35, dc35, pm35, an35, ct35, l35, c35, k35⟩ := say_law c.d 35 (x := "law") (st := s_law) rfl
  obtain ⟨fdF, FF⟩ := say_far c.d 36 (C := "FarError") (m := "__init__") (q := "FarError.__init__") (st := s_farinit) rfl
  obtain ⟨oc_BadNumber, od_BadNumber, sl_BadNumber, kV_BadNumber, dc_BadNumber, pm_BadNumber, an_BadNumber, cd_BadNumber, ct_BadNumber, l_BadNumber, c_BadNumber, k_BadNumber⟩ := say_meth c.d 37 (C := "BadNumber") (m := "__init__") (q := "BadNumber.__init__") (st := s_bninit) rfl
  obtain ⟨oc_BadMating, od_BadMating, sl_BadMating, kV_BadMating, dc_BadMating, pm_BadMating, an_BadMating, cd_BadMating, ct_BadMating, l_BadMating, c_BadMating, k_BadMating⟩ := say_meth c.d 38 (C := "BadMating") (m := "__init__") (q := "BadMating.__init__") (st := s_bginit) rfl
  obtain ⟨oc_Full, od_Full, sl_Full, kV_Full, dc_Full, pm_Full, an_Full, cd_Full, ct_Full, l_Full, c_Full, k_Full⟩ := say_meth c.d 39 (C := "Full") (m := "__init__") (q := "Full.__init__") (st := s_fuinit) rfl
  obtain ⟨oc_BadName, od_BadName, sl_BadName, kV_BadName, dc_BadName, pm_BadName, an_BadName, cd_BadName, ct_BadName, l_BadName, c_BadName, k_BadName⟩ := say_meth c.d 40 (C := "BadName") (m := "__init__") (q := "BadName.__init__") (st := s_erBadName) rfl
  obtain ⟨oc_Taken, od_Taken, sl_Taken, kV_Taken, dc_Taken, pm_Taken, an_Taken, cd_Taken, ct_Taken, l_Taken, c_Taken, k_Taken⟩ := say_meth c.d 41 (C := "Taken") (m := "__init__") (q := "Taken.__init__") (st := s_erTaken) rfl
  obtain ⟨fdMi, FMi⟩ := say_far c.d 42 (C := "Missing") (m := "__init__") (q := "Missing.__init__") (st := s_misinit) rfl
  obtain ⟨oc_NoMating, od_NoMating, sl_NoMating, kV_NoMating, dc_NoMating, pm_NoMating, an_NoMating, cd_NoMating, ct_NoMating, l_NoMating, c_NoMating, k_NoMating⟩ := say_meth c.d 43 (C := "NoMating") (m := "__init__") (q := "NoMating.__init__") (st := s_nminit) rfl
  obtain ⟨oc_NoRoad, od_NoRoad, sl_NoRoad, kV_NoRoad, dc_NoRoad, pm_NoRoad, an_NoRoad, cd_NoRoad, ct_NoRoad, l_NoRoad, c_NoRoad, k_NoRoad⟩ := say_meth c.d 44 (C := "NoRoad") (m := "__init__") (q := "NoRoad.__init__") (st := s_erNoRoad) rfl
  obtain ⟨ocm_Ro_become, odm_Ro_become, slm_Ro_become, kVm_Ro_become, dcm_Ro_become, pmm_Ro_become, anm_Ro_become, cdm_Ro_become, ctm_Ro_become, ml_Ro_become, mc_Ro_become, mp_Ro_become⟩ := say_meth c.d 45 (C := "Road") (m := "become") (q := "Road.become") (st := s_Ro_become) rfl
  obtain ⟨ocm_Ro_next_number, odm_Ro_next_number, slm_Ro_next_number, kVm_Ro_next_number, dcm_Ro_next_number, pmm_Ro_next_number, anm_Ro_next_number, cdm_Ro_next_number, ctm_Ro_next_number, ml_Ro_next_number, mc_Ro_next_number, mp_Ro_next_number⟩ := say_meth c.d 46 (C := "Road") (m := "next_number") (q := "Road.next_number") (st := s_Ro_next_number) rfl
  obtain ⟨ocm_Ro_matings, odm_Ro_matings, slm_Ro_matings, kVm_Ro_matings, dcm_Ro_matings, pmm_Ro_matings, anm_Ro_matings, cdm_Ro_matings, ctm_Ro_matings, ml_Ro_matings, mc_Ro_matings, mp_Ro_matings⟩ := say_meth c.d 47 (C := "Road") (m := "matings") (q := "Road.matings") (st := s_Ro_matings) rfl
  obtain ⟨ocm_Ro_length, odm_Ro_length, slm_Ro_length, kVm_Ro_length, dcm_Ro_length, pmm_Ro_length, anm_Ro_length, cdm_Ro_length, ctm_Ro_length, ml_Ro_length, mc_Ro_length, mp_Ro_length⟩ := say_meth c.d 48 (C := "Road") (m := "length") (q := "Road.length") (st := s_Ro_length) rfl
  obtain ⟨ocm_Ro_mate_as, odm_Ro_mate_as, slm_Ro_mate_as, kVm_Ro_mate_as, dcm_Ro_mate_as, pmm_Ro_mate_as, anm_Ro_mate_as, cdm_Ro_mate_as, ctm_Ro_mate_as, ml_Ro_mate_as, mc_Ro_mate_as, mp_Ro_mate_as⟩ := say_meth c.d 49 (C := "Road") (m := "mate_as") (q := "Road.mate_as") (st := s_Ro_mate_as) rfl
  obtain ⟨ocm_Ro_strike, odm_Ro_strike, slm_Ro_strike, kVm_Ro_strike, dcm_Ro_strike, pmm_Ro_strike, anm_Ro_strike, cdm_Ro_strike, ctm_Ro_strike, ml_Ro_strike, mc_Ro_strike, mp_Ro_strike⟩ := say_meth c.d 50 (C := "Road") (m := "strike") (q := "Road.strike") (st := s_Ro_strike) rfl
  obtain ⟨ocm_Ro_grow, odm_Ro_grow, slm_Ro_grow, kVm_Ro_grow, dcm_Ro_grow, pmm_Ro_grow, anm_Ro_grow, cdm_Ro_grow, ctm_Ro_grow, ml_Ro_grow, mc_Ro_grow, mp_Ro_grow⟩ := say_meth c.d 51 (C := "Road") (m := "grow") (q := "Road.grow") (st := s_Ro_grow) rfl
  obtain ⟨ocm_Ro_trim, odm_Ro_trim, slm_Ro_trim, kVm_Ro_trim, dcm_Ro_trim, pmm_Ro_trim, anm_Ro_trim, cdm_Ro_trim, ctm_Ro_trim, ml_Ro_trim, mc_Ro_trim, mp_Ro_trim⟩ := say_meth c.d 52 (C := "Road") (m := "trim") (q := "Road.trim") (st := s_Ro_trim) rfl
  obtain ⟨ocm_Ro_swell, odm_Ro_swell, slm_Ro_swell, kVm_Ro_swell, dcm_Ro_swell, pmm_Ro_swell, anm_Ro_swell, cdm_Ro_swell, ctm_Ro_swell, ml_Ro_swell, mc_Ro_swell, mp_Ro_swell⟩ := say_meth c.d 53 (C := "Road") (m := "swell") (q := "Road.swell") (st := s_Ro_swell) rfl
  obtain ⟨ocm_Ro_behind, odm_Ro_behind, slm_Ro_behind, kVm_Ro_behind, dcm_Ro_behind, pmm_Ro_behind, anm_Ro_behind, cdm_Ro_behind, ctm_Ro_behind, ml_Ro_behind, mc_Ro_behind, mp_Ro_behind⟩ := say_meth c.d 54 (C := "Road") (m := "behind") (q := "Road.behind") (st := s_Ro_behind) rfl
  obtain ⟨ocm_Ro_twin, odm_Ro_twin, slm_Ro_twin, kVm_Ro_twin, dcm_Ro_twin, pmm_Ro_twin, anm_Ro_twin, cdm_Ro_twin, ctm_Ro_twin, ml_Ro_twin, mc_Ro_twin, mp_Ro_twin⟩ := say_meth c.d 55 (C := "Road") (m := "twin") (q := "Road.twin") (st := s_Ro_twin) rfl
  obtain ⟨ocm_Ro___eq__, odm_Ro___eq__, slm_Ro___eq__, kVm_Ro___eq__, dcm_Ro___eq__, pmm_Ro___eq__, anm_Ro___eq__, cdm_Ro___eq__, ctm_Ro___eq__, ml_Ro___eq__, mc_Ro___eq__, mp_Ro___eq__⟩ := say_meth c.d 56 (C := "Road") (m := "__eq__") (q := "Road.__eq__") (st := s_Ro_eq) rfl
  obtain ⟨fdm_Ro___init__, FD_Ro___init__⟩ := c.d.def_ 57 rfl
  obtain ⟨fdm_Ro_mate, FD_Ro_mate⟩ := c.d.def_ 58 rfl
  obtain ⟨ocm_Df___init__, odm_Df___init__, slm_Df___init__, kVm_Df___init__, dcm_Df___init__, pmm_Df___init__, anm_Df___init__, cdm_Df___init__, ctm_Df___init__, ml_Df___init__, mc_Df___init__, mp_Df___init__⟩ := say_meth c.d 59 (C := "Draft") (m := "__init__") (q := "Draft.__init__") (st := s_Df_init) rfl
  obtain ⟨ocm_Df_seat, odm_Df_seat, slm_Df_seat, kVm_Df_seat, dcm_Df_seat, pmm_Df_seat, anm_Df_seat, cdm_Df_seat, ctm_Df_seat, ml_Df_seat, mc_Df_seat, mp_Df_seat⟩ := say_meth c.d 60 (C := "Draft") (m := "seat") (q := "Draft.seat") (st := s_Df_seat) rfl
  obtain ⟨ocm_Df_need_room, odm_Df_need_room, slm_Df_need_room, kVm_Df_need_room, dcm_Df_need_room, pmm_Df_need_room, anm_Df_need_room, cdm_Df_need_room, ctm_Df_need_room, ml_Df_need_room, mc_Df_need_room, mp_Df_need_room⟩ := say_meth c.d 61 (C := "Draft") (m := "need_room") (q := "Draft.need_room") (st := s_Df_need_room) rfl
  obtain ⟨ocm_Df_do, odm_Df_do, slm_Df_do, kVm_Df_do, dcm_Df_do, pmm_Df_do, anm_Df_do, cdm_Df_do, ctm_Df_do, ml_Df_do, mc_Df_do, mp_Df_do⟩ := say_meth c.d 62 (C := "Draft") (m := "do") (q := "Draft.do") (st := s_Df_do) rfl
  obtain ⟨ocm_Df_change_road, odm_Df_change_road, slm_Df_change_road, kVm_Df_change_road, dcm_Df_change_road, pmm_Df_change_road, anm_Df_change_road, cdm_Df_change_road, ctm_Df_change_road, ml_Df_change_road, mc_Df_change_road, mp_Df_change_road⟩ := say_meth c.d 63 (C := "Draft") (m := "change_road") (q := "Draft.change_road") (st := s_Df_change_road) rfl
  obtain ⟨ocm_Ha_draft, odm_Ha_draft, slm_Ha_draft, kVm_Ha_draft, dcm_Ha_draft, pmm_Ha_draft, anm_Ha_draft, cdm_Ha_draft, ctm_Ha_draft, ml_Ha_draft, mc_Ha_draft, mp_Ha_draft⟩ := say_meth c.d 64 (C := "Hall") (m := "draft") (q := "Hall.draft") (st := s_Ha_draft) rfl
  obtain ⟨ocm_Ha_together, odm_Ha_together, slm_Ha_together, kVm_Ha_together, dcm_Ha_together, pmm_Ha_together, anm_Ha_together, cdm_Ha_together, ctm_Ha_together, ml_Ha_together, mc_Ha_together, mp_Ha_together⟩ := say_meth c.d 65 (C := "Hall") (m := "together") (q := "Hall.together") (st := s_Ha_together) rfl
  obtain ⟨ocm_Ha_names, odm_Ha_names, slm_Ha_names, kVm_Ha_names, dcm_Ha_names, pmm_Ha_names, anm_Ha_names, cdm_Ha_names, ctm_Ha_names, ml_Ha_names, mc_Ha_names, mp_Ha_names⟩ := say_meth c.d 66 (C := "Hall") (m := "names") (q := "Hall.names") (st := s_Ha_names) rfl
  obtain ⟨ocm_Ha_very, odm_Ha_very, slm_Ha_very, kVm_Ha_very, dcm_Ha_very, pmm_Ha_very, anm_Ha_very, cdm_Ha_very, ctm_Ha_very, ml_Ha_very, mc_Ha_very, mp_Ha_very⟩ := say_meth c.d 67 (C := "Hall") (m := "very") (q := "Hall.very") (st := s_Ha_very) rfl
  obtain ⟨ocm_Ha_road, odm_Ha_road, slm_Ha_road, kVm_Ha_road, dcm_Ha_road, pmm_Ha_road, anm_Ha_road, cdm_Ha_road, ctm_Ha_road, ml_Ha_road, mc_Ha_road, mp_Ha_road⟩ := say_meth c.d 68 (C := "Hall") (m := "road") (q := "Hall.road") (st := s_Ha_road) rfl
  obtain ⟨ocm_Ha___len__, odm_Ha___len__, slm_Ha___len__, kVm_Ha___len__, dcm_Ha___len__, pmm_Ha___len__, anm_Ha___len__, cdm_Ha___len__, ctm_Ha___len__, ml_Ha___len__, mc_Ha___len__, mp_Ha___len__⟩ := say_meth c.d 69 (C := "Hall") (m := "__len__") (q := "Hall.__len__") (st := s_Ha_len) rfl
  obtain ⟨ocm_Ha_do, odm_Ha_do, slm_Ha_do, kVm_Ha_do, dcm_Ha_do, pmm_Ha_do, anm_Ha_do, cdm_Ha_do, ctm_Ha_do, ml_Ha_do, mc_Ha_do, mp_Ha_do⟩ := say_meth c.d 70 (C := "Hall") (m := "do") (q := "Hall.do") (st := s_Ha_do) rfl
  obtain ⟨ocm_Ha_steps, odm_Ha_steps, slm_Ha_steps, kVm_Ha_steps, dcm_Ha_steps, pmm_Ha_steps, anm_Ha_steps, cdm_Ha_steps, ctm_Ha_steps, ml_Ha_steps, mc_Ha_steps, mp_Ha_steps⟩ := say_meth c.d 71 (C := "Hall") (m := "steps") (q := "Hall.steps") (st := s_Ha_steps) rfl
  obtain ⟨fdm_Ha___init__, FD_Ha___init__⟩ := c.d.def_ 72 rfl
  obtain ⟨tk_FAR, g_FAR⟩ := say_int c.d 98 (x := "FAR") (i := 1000000000000000000) rfl
  obtain ⟨tk_MOST, g_MOST⟩ := say_int c.d 99 (x := "MOST") (i := 24) rfl
  obtain ⟨tk_LONGEST_NAME, g_LONGEST_NAME⟩ := say_int c.d 100 (x := "LONGEST_NAME") (i := 6) rfl
  obtain ⟨tk_ROADS, g_ROADS⟩ := say_int c.d 101 (x := "ROADS") (i := 6) rfl
  obtain ⟨tk_LETTERS, g_LETTERS⟩ := say_str c.d 102 (x := "LETTERS") (z := "abcdefghijklmnopqrstuvwxyz") rfl
  exact all_mk X G hfa c.mt
    (He.eqO_ok (c.d.fact 0 rfl)) l0 c0 k0 (He.eqO_ok (c.d.fact 1 rfl)) l1 c1 k1
    (He.eqO_ok (c.d.fact 2 rfl)) l2 c2 k2 (He.eqO_ok (c.d.fact 3 rfl)) l3 c3 k3
    (He.eqO_ok (c.d.fact 4 rfl)) l4 c4 k4 (He.eqO_ok (c.d.fact 5 rfl)) l5 c5 k5
    (He.eqO_ok (c.d.fact 6 rfl)) l6 c6 k6 (He.eqO_ok (c.d.fact 7 rfl)) l7 c7 k7
    (He.eqO_ok (c.d.fact 8 rfl)) l8 c8 k8 (He.eqO_ok (c.d.fact 9 rfl)) l9 c9 k9
    (He.eqO_ok (c.d.fact 10 rfl)) l10 c10 k10 (He.eqO_ok (c.d.fact 11 rfl)) l11 c11 k11
    (He.eqO_ok (c.d.fact 12 rfl)) l12 c12 k12 (He.eqO_ok (c.d.fact 13 rfl)) l13 c13 k13
    (He.eqO_ok (c.d.fact 14 rfl)) l14 c14 k14 (He.eqO_ok (c.d.fact 15 rfl)) l15 c15 k15
    (He.eqO_ok (c.d.fact 16 rfl)) l16 c16 k16 (He.eqO_ok (c.d.fact 17 rfl)) l17 c17 k17
    (He.eqO_ok (c.d.fact 18 rfl)) l18 c18 k18 (He.eqO_ok (c.d.fact 19 rfl)) l19 c19 k19
    (He.eqO_ok (c.d.fact 20 rfl)) l20 c20 k20 (He.eqO_ok (c.d.fact 21 rfl)) l21 c21 k21
    (He.eqO_ok (c.d.fact 22 rfl)) l22 c22 k22 (He.eqO_ok (c.d.fact 23 rfl)) l23 c23 k23
    (He.eqO_ok (c.d.fact 24 rfl)) l24 c24 k24 (He.eqO_ok (c.d.fact 25 rfl)) l25 c25 k25
    (He.eqO_ok (c.d.fact 26 rfl)) l26 c26 k26 (He.eqO_ok (c.d.fact 27 rfl)) l27 c27 k27
    (He.eqO_ok (c.d.fact 28 rfl)) l28 c28 k28 (He.eqO_ok (c.d.fact 29 rfl)) l29 c29 k29
    (He.eqO_ok (c.d.fact 30 rfl)) l30 c30 k30 (He.eqO_ok (c.d.fact 31 rfl)) l31 c31 k31
    (He.eqO_ok (c.d.fact 32 rfl)) l32 c32 k32 (He.eqO_ok (c.d.fact 33 rfl)) l33 c33 k33
    (He.eqO_ok (c.d.fact 34 rfl)) l34 c34 k34 (He.eqO_ok (c.d.fact 35 rfl)) l35 c35 k35
    (He.eqO_ok (c.d.fact 36 rfl)) (He.eqO_ok (c.d.fact 37 rfl)) (He.eqO_ok (c.d.fact 38 rfl)) (He.eqO_ok (c.d.fact 39 rfl)) (He.eqO_ok (c.d.fact 40 rfl)) (He.eqO_ok (c.d.fact 41 rfl)) (He.eqO_ok (c.d.fact 42 rfl)) (He.eqO_ok (c.d.fact 43 rfl))
    (He.eqO_ok (c.d.fact 44 rfl)) (He.eqO_ok (c.d.fact 45 rfl)) (He.eqO_ok (c.d.fact 46 rfl)) (He.eqO_ok (c.d.fact 47 rfl)) (He.eqO_ok (c.d.fact 48 rfl)) (He.eqO_ok (c.d.fact 49 rfl)) (He.eqO_ok (c.d.fact 50 rfl)) c.hd
    c.out (He.eqO_ok (c.d.fact 51 rfl)) (cfnB_ok (all_at c.more 0 rfl)) FF (bltB_ok (all_at c.more 1 rfl)) (He.eqO_ok (c.d.fact 52 rfl)) (errB_ok (all_at c.more 2 rfl)) (xfB_ok (all_at c.more 3 rfl))
    (excB_ok (all_at c.more 4 rfl)) (of_decide_eq_true (all_at c.more 5 rfl)) (He.eqO_ok (c.d.fact 53 rfl)) (He.eqO_ok (all_at c.more 6 rfl)) (of_decide_eq_true (all_at c.more 7 rfl)) l_BadNumber c_BadNumber k_BadNumber
    (He.eqO_ok (c.d.fact 54 rfl)) (errB_ok (all_at c.more 8 rfl)) (xfB_ok (all_at c.more 9 rfl)) (excB_ok (all_at c.more 10 rfl)) (of_decide_eq_true (all_at c.more 11 rfl)) (He.eqO_ok (c.d.fact 55 rfl)) (He.eqO_ok (all_at c.more 12 rfl)) (of_decide_eq_true (all_at c.more 13 rfl))
    l_BadMating c_BadMating k_BadMating (He.eqO_ok (c.d.fact 56 rfl)) (errB_ok (all_at c.more 14 rfl)) (xfB_ok (all_at c.more 15 rfl)) (excB_ok (all_at c.more 16 rfl)) (of_decide_eq_true (all_at c.more 17 rfl))
    (He.eqO_ok (c.d.fact 57 rfl)) (He.eqO_ok (all_at c.more 18 rfl)) (of_decide_eq_true (all_at c.more 19 rfl)) l_Full c_Full k_Full (He.eqO_ok (c.d.fact 58 rfl)) (errB_ok (all_at c.more 20 rfl))
    (xfB_ok (all_at c.more 21 rfl)) (excB_ok (all_at c.more 22 rfl)) (of_decide_eq_true (all_at c.more 23 rfl)) (He.eqO_ok (c.d.fact 59 rfl)) (He.eqO_ok (all_at c.more 24 rfl)) (of_decide_eq_true (all_at c.more 25 rfl)) l_BadName c_BadName
    k_BadName (He.eqO_ok (c.d.fact 60 rfl)) (errB_ok (all_at c.more 26 rfl)) (xfB_ok (all_at c.more 27 rfl)) (excB_ok (all_at c.more 28 rfl)) (of_decide_eq_true (all_at c.more 29 rfl)) (He.eqO_ok (c.d.fact 61 rfl)) (He.eqO_ok (all_at c.more 30 rfl))
    (of_decide_eq_true (all_at c.more 31 rfl)) l_Taken c_Taken k_Taken (He.eqO_ok (c.d.fact 62 rfl)) (cfnB_ok (all_at c.more 32 rfl)) FMi (bltB_ok (all_at c.more 33 rfl))
    (He.eqO_ok (c.d.fact 63 rfl)) (He.eqO_ok (c.d.fact 64 rfl)) (lexB_ok (all_at c.more 34 rfl)) (xfB_ok (all_at c.more 35 rfl)) (excB_ok (all_at c.more 36 rfl)) (of_decide_eq_true (all_at c.more 37 rfl)) (of_decide_eq_true (all_at c.more 38 rfl)) (He.eqO_ok (c.d.fact 65 rfl))
    (He.eqO_ok (all_at c.more 39 rfl)) (of_decide_eq_true (all_at c.more 40 rfl)) l_NoMating c_NoMating k_NoMating (He.eqO_ok (c.d.fact 66 rfl)) (lexB_ok (all_at c.more 41 rfl)) (xfB_ok (all_at c.more 42 rfl))
    (excB_ok (all_at c.more 43 rfl)) (of_decide_eq_true (all_at c.more 44 rfl)) (of_decide_eq_true (all_at c.more 45 rfl)) (He.eqO_ok (c.d.fact 67 rfl)) (He.eqO_ok (all_at c.more 46 rfl)) (of_decide_eq_true (all_at c.more 47 rfl)) l_NoRoad c_NoRoad
    k_NoRoad (He.eqO_ok (c.d.fact 68 rfl)) (He.eqO_ok (c.d.fact 69 rfl)) (He.eqO_ok (c.d.fact 70 rfl)) (He.eqO_ok (c.d.fact 71 rfl)) (He.eqO_ok (c.d.fact 72 rfl)) (He.eqO_ok (c.d.fact 73 rfl)) (He.eqO_ok (c.d.fact 74 rfl))
    (He.eqO_ok (c.d.fact 75 rfl)) (He.eqO_ok (c.d.fact 76 rfl)) (He.eqO_ok (c.d.fact 77 rfl)) (He.eqO_ok (c.d.fact 78 rfl)) (He.eqO_ok (c.d.fact 79 rfl)) (He.eqO_ok (c.d.fact 80 rfl)) (He.eqO_ok (c.d.fact 81 rfl)) (He.cls_ok (c.d.fact 82 rfl))
    (all_at c.more 48 rfl) (all_at c.more 49 rfl) (He.eqO_ok (c.d.fact 83 rfl)) (He.eqO_ok (c.d.fact 84 rfl)) (He.eqO_ok (c.d.fact 85 rfl)) (He.eqO_ok (c.d.fact 86 rfl)) (He.eqO_ok (all_at c.more 50 rfl)) (all_at c.more 51 rfl)
    ml_Ro_become mc_Ro_become mp_Ro_become (He.eqO_ok (all_at c.more 52 rfl)) (all_at c.more 53 rfl) ml_Ro_next_number mc_Ro_next_number mp_Ro_next_number
    (He.eqO_ok (all_at c.more 54 rfl)) (all_at c.more 55 rfl) ml_Ro_matings mc_Ro_matings mp_Ro_matings (He.eqO_ok (all_at c.more 56 rfl)) (all_at c.more 57 rfl) ml_Ro_length
    mc_Ro_length mp_Ro_length (He.eqO_ok (all_at c.more 58 rfl)) (all_at c.more 59 rfl) ml_Ro_mate_as mc_Ro_mate_as mp_Ro_mate_as (He.eqO_ok (all_at c.more 60 rfl))
    (all_at c.more 61 rfl) ml_Ro_strike mc_Ro_strike mp_Ro_strike (He.eqO_ok (all_at c.more 62 rfl)) (all_at c.more 63 rfl) ml_Ro_grow mc_Ro_grow
    mp_Ro_grow (He.eqO_ok (all_at c.more 64 rfl)) (all_at c.more 65 rfl) ml_Ro_trim mc_Ro_trim mp_Ro_trim (He.eqO_ok (all_at c.more 66 rfl)) (all_at c.more 67 rfl)
    ml_Ro_swell mc_Ro_swell mp_Ro_swell (He.eqO_ok (all_at c.more 68 rfl)) (all_at c.more 69 rfl) ml_Ro_behind mc_Ro_behind mp_Ro_behind
    (He.eqO_ok (all_at c.more 70 rfl)) (all_at c.more 71 rfl) ml_Ro_twin mc_Ro_twin mp_Ro_twin (He.eqO_ok (all_at c.more 72 rfl)) (all_at c.more 73 rfl) ml_Ro___eq__
    mc_Ro___eq__ mp_Ro___eq__ (He.eqO_ok (all_at c.more 74 rfl)) (all_at c.more 75 rfl) FD_Ro___init__ (He.eqO_ok (all_at c.more 76 rfl)) (all_at c.more 77 rfl) FD_Ro_mate
    (He.eqO_ok (c.d.fact 87 rfl)) (He.cls_ok (c.d.fact 88 rfl)) (all_at c.more 78 rfl) (all_at c.more 79 rfl) (He.eqO_ok (c.d.fact 89 rfl)) (He.eqO_ok (c.d.fact 90 rfl)) (He.eqO_ok (c.d.fact 91 rfl)) (He.eqO_ok (all_at c.more 80 rfl))
    (all_at c.more 81 rfl) ml_Df___init__ mc_Df___init__ mp_Df___init__ (He.eqO_ok (all_at c.more 82 rfl)) (all_at c.more 83 rfl) ml_Df_seat mc_Df_seat
    mp_Df_seat (He.eqO_ok (all_at c.more 84 rfl)) (all_at c.more 85 rfl) ml_Df_need_room mc_Df_need_room mp_Df_need_room (He.eqO_ok (all_at c.more 86 rfl)) (all_at c.more 87 rfl)
    ml_Df_do mc_Df_do mp_Df_do (He.eqO_ok (all_at c.more 88 rfl)) (all_at c.more 89 rfl) ml_Df_change_road mc_Df_change_road mp_Df_change_road
    (He.eqO_ok (c.d.fact 92 rfl)) (He.cls_ok (c.d.fact 93 rfl)) (all_at c.more 90 rfl) (all_at c.more 91 rfl) (He.eqO_ok (c.d.fact 94 rfl)) (He.eqO_ok (c.d.fact 95 rfl)) (He.eqO_ok (c.d.fact 96 rfl)) (He.eqO_ok (c.d.fact 97 rfl))
    (He.eqO_ok (all_at c.more 92 rfl)) (all_at c.more 93 rfl) ml_Ha_draft mc_Ha_draft mp_Ha_draft (He.eqO_ok (all_at c.more 94 rfl)) (all_at c.more 95 rfl) ml_Ha_together
    mc_Ha_together mp_Ha_together (He.eqO_ok (all_at c.more 96 rfl)) (all_at c.more 97 rfl) ml_Ha_names mc_Ha_names mp_Ha_names (He.eqO_ok (all_at c.more 98 rfl))
    (all_at c.more 99 rfl) ml_Ha_very mc_Ha_very mp_Ha_very (He.eqO_ok (all_at c.more 100 rfl)) (all_at c.more 101 rfl) ml_Ha_road mc_Ha_road
    mp_Ha_road (He.eqO_ok (all_at c.more 102 rfl)) (all_at c.more 103 rfl) ml_Ha___len__ mc_Ha___len__ mp_Ha___len__ (He.eqO_ok (all_at c.more 104 rfl)) (all_at c.more 105 rfl)
    ml_Ha_do mc_Ha_do mp_Ha_do (He.eqO_ok (all_at c.more 106 rfl)) (all_at c.more 107 rfl) ml_Ha_steps mc_Ha_steps mp_Ha_steps
    (He.eqO_ok (all_at c.more 108 rfl)) (all_at c.more 109 rfl) FD_Ha___init__ (of_decide_eq_true (all_at c.more 110 rfl)) (of_decide_eq_true (all_at c.more 111 rfl)) (all_at c.more 112 rfl) (of_decide_eq_true (all_at c.more 113 rfl)) (of_decide_eq_true (all_at c.more 114 rfl))
    (all_at c.more 115 rfl) (of_decide_eq_true (all_at c.more 116 rfl)) (of_decide_eq_true (all_at c.more 117 rfl)) (all_at c.more 118 rfl) (of_decide_eq_true (all_at c.more 119 rfl)) (of_decide_eq_true (all_at c.more 120 rfl)) (all_at c.more 121 rfl) (of_decide_eq_true (all_at c.more 122 rfl))
    (of_decide_eq_true (all_at c.more 123 rfl)) (all_at c.more 124 rfl) (of_decide_eq_true (all_at c.more 125 rfl)) (of_decide_eq_true (all_at c.more 126 rfl)) (all_at c.more 127 rfl) (of_decide_eq_true (all_at c.more 128 rfl)) (of_decide_eq_true (all_at c.more 129 rfl)) (all_at c.more 130 rfl)
    (of_decide_eq_true (all_at c.more 131 rfl)) (of_decide_eq_true (all_at c.more 132 rfl)) (of_decide_eq_true (all_at c.more 133 rfl)) (of_decide_eq_true (all_at c.more 134 rfl)) (of_decide_eq_true (all_at c.more 135 rfl)) (of_decide_eq_true (all_at c.more 136 rfl)) (of_decide_eq_true (all_at c.more 137 rfl)) (of_decide_eq_true (all_at c.more 138 rfl))
    (of_decide_eq_true (all_at c.more 139 rfl)) (of_decide_eq_true (all_at c.more 140 rfl)) (all_at c.more 141 rfl) (of_decide_eq_true (all_at c.more 142 rfl)) (of_decide_eq_true (all_at c.more 143 rfl)) (all_at c.more 144 rfl) (of_decide_eq_true (all_at c.more 145 rfl)) (of_decide_eq_true (all_at c.more 146 rfl))
    (all_at c.more 147 rfl) (of_decide_eq_true (all_at c.more 148 rfl)) (of_decide_eq_true (all_at c.more 149 rfl)) (all_at c.more 150 rfl) (of_decide_eq_true (all_at c.more 151 rfl)) (of_decide_eq_true (all_at c.more 152 rfl)) (all_at c.more 153 rfl) (of_decide_eq_true (all_at c.more 154 rfl))
    (of_decide_eq_true (all_at c.more 155 rfl)) (all_at c.more 156 rfl) (of_decide_eq_true (all_at c.more 157 rfl)) (of_decide_eq_true (all_at c.more 158 rfl)) (all_at c.more 159 rfl) (of_decide_eq_true (all_at c.more 160 rfl)) (of_decide_eq_true (all_at c.more 161 rfl)) (all_at c.more 162 rfl)
    (of_decide_eq_true (all_at c.more 163 rfl)) (of_decide_eq_true (all_at c.more 164 rfl)) (all_at c.more 165 rfl) (of_decide_eq_true (all_at c.more 166 rfl)) (of_decide_eq_true (all_at c.more 167 rfl)) (all_at c.more 168 rfl) (of_decide_eq_true (all_at c.more 169 rfl)) (of_decide_eq_true (all_at c.more 170 rfl))
    (of_decide_eq_true (all_at c.more 171 rfl)) (of_decide_eq_true (all_at c.more 172 rfl)) (of_decide_eq_true (all_at c.more 173 rfl)) (of_decide_eq_true (all_at c.more 174 rfl)) (of_decide_eq_true (all_at c.more 175 rfl)) (of_decide_eq_true (all_at c.more 176 rfl)) (of_decide_eq_true (all_at c.more 177 rfl)) (of_decide_eq_true (all_at c.more 178 rfl))
    (of_decide_eq_true (all_at c.more 179 rfl)) (of_decide_eq_true (all_at c.more 180 rfl)) (of_decide_eq_true (all_at c.more 181 rfl)) (of_decide_eq_true (all_at c.more 182 rfl)) (of_decide_eq_true (all_at c.more 183 rfl)) (of_decide_eq_true (all_at c.more 184 rfl)) (of_decide_eq_true (all_at c.more 185 rfl)) (of_decide_eq_true (all_at c.more 186 rfl))
    (of_decide_eq_true (all_at c.more 187 rfl)) (of_decide_eq_true (all_at c.more 188 rfl)) (of_decide_eq_true (all_at c.more 189 rfl)) (turnsB_ok (all_at c.more 190 rfl)) (He.eqO_ok (all_at c.more 191 rfl)) (He.eqO_ok (all_at c.more 192 rfl)) (He.eqO_ok (all_at c.more 193 rfl)) (of_decide_eq_true (all_at c.more 194 rfl))
    (of_decide_eq_true (all_at c.more 195 rfl)) g_FAR g_MOST g_LONGEST_NAME g_ROADS g_LETTERS
-- SPLIT
theorem runL (w : World) : HandSHeadRun.RunEq RowL (PySem.W.view RowL.prog [103]) hkL obL 40000 looseL w := run_parts run1 run2 run4 w
end Fm
open PySem PySem.W PySem.Calls PyProof.Rows
set_option maxRecDepth 100000 in
set_option maxHeartbeats 0 in
theorem PySem.Challenge.cw_farmates_k54_pages_written_holds : PySem.Challenge.rw_farmates_k54_pages_written.Holds := by
  w_on; o_law
  refine HandSHeadRun.head_any (r := OpenLaw.row PySem.Challenge.rw_farmates_k54_pages_written) (q := view (OpenLaw.row PySem.Challenge.rw_farmates_k54_pages_written).prog [103]) (H := Fm.hkL) (ob := Fm.obL) (M := 40000) (loose := Fm.looseL) (d := HandSHeadRun.topDef (OpenLaw.row PySem.Challenge.rw_farmates_k54_pages_written).prog 103) (kwd := []) Fm.obL_eq
    (by kernel_rfl) (fun s => by kernel_rfl) Fm.runL (by kernel_rfl) (by kernel_rfl) (by kernel_rfl) (by rfl) (by first | assumption | decide +kernel) (by decide +kernel) ⟨rfl, rfl, rfl, rfl, rfl, by decide +kernel⟩ ?hw ?hc
  case hw => w_witness2
  case hc =>
    refine LamX.walk_ofTsE (l := PySem.Challenge.rw_farmates_k54_pages_written) (n := 63) (k := 20) (x := "_law_script") (CX := fun _ => L2.CX0) rfl (by decide) (by kernel_rfl) ⟨rfl, by decide, by decide⟩ ?F (fun _ _ _ _ _ z => z)
    intro w mg fa h Y G hm0
    obtain ⟨K, KX, c⟩ := Y
    have hm : mg ("law" : PySem.Str) = some (.ref fa) := by
      have en : (HandSHeadRun.topDef (OpenLaw.row PySem.Challenge.rw_farmates_k54_pages_written).prog 103).name = ("law" : PySem.Str) := by kernel_rfl
      rw [← en]
      exact hm0
    exact ⟨K, KX, Fm.all_of KX G hm c⟩
